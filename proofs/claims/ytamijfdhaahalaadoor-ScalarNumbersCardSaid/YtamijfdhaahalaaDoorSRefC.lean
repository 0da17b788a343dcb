/-
  What the document's calls of Add and Sub do.
-/
import Derived.Test.YtamijfdhaahalaaDoorSRefB
namespace Go.Proofs.YtamijfdhaahalaaDoor
open Go Go.RowKit

theorem wrap_i64 (n : Int) (h0 : -9223372036854775808 ≤ n) (h1 : n ≤ 9223372036854775807) : IntKind.i64.wrap n = n := by
  simp [IntKind.wrap, IntKind.bits, IntKind.signed]; omega
theorem comb_add_pos : ∀ a b : List UInt8, 0 ≤ (comb (· + ·) a b).2
  | [], _ => by unfold comb; simp
  | _ :: _, [] => by unfold comb; simp
  | x :: a, y :: b => by
    have h1 := comb_add_pos a b
    have h2 := (byte_le x).1
    have h3 := (byte_le y).1
    rw [comb_cons]
    simp only
    omega
theorem comb_sub_neg : ∀ a b : List UInt8, (comb (· - ·) a b).2 ≤ 0
  | [], _ => by unfold comb; simp
  | _ :: _, [] => by unfold comb; simp
  | x :: a, y :: b => by
    have h1 := comb_sub_neg a b
    have h2 := byte_le x
    have h3 := byte_le y
    rw [comb_cons]
    simp only
    omega
/-- The bytes of a sum, the carry first. -/
theorem sum33 (a b : List UInt8) (ha : rightN a = true) (hb : rightN b = true) (c : UInt8) (hc : (c.toNat : Int) = (comb (· + ·) (wideL a) (wideL b)).2) :
    trimL (c :: (comb (· + ·) (wideL a) (wideL b)).1) = numF 33 (val a + val b) := by
  have hs := comb_add (wideL a) (wideL b) (by rw [right_wide ha, right_wide hb])
  have hl := comb_len (· + ·) (wideL a) (wideL b) (by rw [right_wide ha, right_wide hb])
  rw [right_wide ha, wideL_val, wideL_val, ← hc] at hs
  have hv : val (c :: (comb (· + ·) (wideL a) (wideL b)).1) = val a + val b := by
    rw [val_cons, hl, right_wide ha]
    have : ((c.toNat * 256 ^ 32 : Nat) : Int) = (c.toNat : Int) * ((256 ^ 32 : Nat) : Int) := Int.natCast_mul _ _
    omega
  have hlt := val_lt (c :: (comb (· + ·) (wideL a) (wideL b)).1)
  rw [List.length_cons, hl, right_wide ha] at hlt
  rw [trimL_num _ 33 hlt, hv]
theorem long33 {n : Nat} (h : n < 256 ^ 33) : 32 < (numF 33 n).length ↔ ¬ n < 256 ^ 32 := by
  constructor
  · intro q e
    rw [numF_more h e] at q
    have := numF_len 32 n
    omega
  · intro q
    have h1 := val_lt (numF 33 n)
    rw [val_numF 33 n h] at h1
    refine Nat.lt_of_not_le fun z => q (Nat.lt_of_lt_of_le h1 (pow_le z))

set_option maxRecDepth 8000 in
set_option maxHeartbeats 4000000 in
theorem qadd_any (x y : ByteArray) (w : World) :
    Calls Tryd.prog 13 #[.string x, .string y] w fun e w' => e = .returned (.tuple #[.string ⟨(addS x.data.toList y.data.toList).toArray⟩, .int .i64 (addE x.data.toList y.data.toList)]) ∧ Below w.heap.size w w' := by
  obtain ⟨E, hE⟩ : ∃ E, addE x.data.toList y.data.toList = E := ⟨_, rfl⟩
  obtain ⟨S, hS⟩ : ∃ S, addS x.data.toList y.data.toList = S := ⟨_, rfl⟩
  rw [hE, hS]
  by_cases hx : rightN x.data.toList = true
  case neg =>
    have hx' : rightN x.data.toList = false := by simpa using hx
    have hE1 : E = 1 := by rw [← hE]; unfold addE; rw [if_neg (fun h => hx h.1)]
    have hS1 : S = [] := by rw [← hS]; unfold addS; rw [hE, hE1]; rfl
    subst hE1 hS1
    obtain ⟨r, hr⟩ : ∃ r, rightN y.data.toList = r := ⟨_, rfl⟩
    clear hE hS hx
    go_enter Tryd.func13, Tryd.ntmps13
    go_wp2_with fail
    refine (qright_any x _).mono ?_
    rintro e w1 ⟨rfl, rfl⟩
    rw [hx']
    go_wp2_with fail
    refine (qright_any y _).mono ?_
    rintro e w1 ⟨rfl, rfl⟩
    rw [hr]
    go_wp2_with fail
    go_ret2
    exact ⟨rfl, Below.refl _ _⟩
  by_cases hy : rightN y.data.toList = true
  case neg =>
    have hy' : rightN y.data.toList = false := by simpa using hy
    have hE1 : E = 1 := by rw [← hE]; unfold addE; rw [if_neg (fun h => hy h.2)]
    have hS1 : S = [] := by rw [← hS]; unfold addS; rw [hE, hE1]; rfl
    subst hE1 hS1
    clear hE hS hy
    go_enter Tryd.func13, Tryd.ntmps13
    go_wp2_with fail
    refine (qright_any x _).mono ?_
    rintro e w1 ⟨rfl, rfl⟩
    rw [hx]
    go_wp2_with fail
    refine (qright_any y _).mono ?_
    rintro e w1 ⟨rfl, rfl⟩
    rw [hy']
    go_wp2_with fail
    go_ret2
    exact ⟨rfl, Below.refl _ _⟩
  obtain ⟨A, hA⟩ : ∃ A : ByteArray, A = ⟨(wideL x.data.toList).toArray⟩ := ⟨_, rfl⟩
  obtain ⟨B, hB⟩ : ∃ B : ByteArray, B = ⟨(wideL y.data.toList).toArray⟩ := ⟨_, rfl⟩
  have hAl : A.data.toList = wideL x.data.toList := by rw [hA]
  have hBl : B.data.toList = wideL y.data.toList := by rw [hB]
  have hAs : A.size = 32 := by rw [← sizeB, hAl, right_wide hx]
  have hBs : B.size = 32 := by rw [← sizeB, hBl, right_wide hy]
  have HX : Hid (rightN x.data.toList = true ∧ wideS x.data.toList = wideL x.data.toList ∧ wideE x.data.toList = 0) := ⟨hx, (wide_right hx).1, (wide_right hx).2⟩
  have HY : Hid (rightN y.data.toList = true ∧ wideS y.data.toList = wideL y.data.toList ∧ wideE y.data.toList = 0) := ⟨hy, (wide_right hy).1, (wide_right hy).2⟩
  have HA : Hid (A = ⟨(wideL x.data.toList).toArray⟩ ∧ B = ⟨(wideL y.data.toList).toArray⟩) := ⟨hA, hB⟩
  have HES : Hid (addE x.data.toList y.data.toList = E ∧ addS x.data.toList y.data.toList = S) := ⟨hE, hS⟩
  clear hE hS hAl hBl hA hB hx hy
  go_enter Tryd.func13, Tryd.ntmps13
  go_wp2_with fail
  refine (qright_any x _).mono ?_
  rintro e w1 ⟨rfl, rfl⟩
  rw [HX.out.1]
  go_wp2_with fail
  refine (qright_any y _).mono ?_
  rintro e w1 ⟨rfl, rfl⟩
  rw [HY.out.1]
  go_wp2_with fail
  refine (qwide_any x _).mono ?_
  rintro e w2 ⟨rfl, hB2⟩
  rw [HX.out.2.1, HX.out.2.2, ← HA.out.1]
  go_wp2_with fail
  refine (qwide_any y _).mono ?_
  rintro e w3 ⟨rfl, hB3⟩
  rw [HY.out.2.1, HY.out.2.2, ← HA.out.2]
  replace hB3 := hB2.trans (hB3.mono hB2.size)
  clear hB2
  go_wp2_with fail
  obtain ⟨bo, hbo⟩ : ∃ bo, bo = w3.heap.size := ⟨_, rfl⟩
  have hr1 := zeros_row (w := w3) (t := 53) _ 33 (by rfl) (show (#[.int .u8 0, .int .u8 0, .int .u8 0, .int .u8 0, .int .u8 0, .int .u8 0, .int .u8 0, .int .u8 0, .int .u8 0, .int .u8 0, .int .u8 0, .int .u8 0, .int .u8 0, .int .u8 0, .int .u8 0, .int .u8 0, .int .u8 0, .int .u8 0, .int .u8 0, .int .u8 0, .int .u8 0, .int .u8 0, .int .u8 0, .int .u8 0, .int .u8 0, .int .u8 0, .int .u8 0, .int .u8 0, .int .u8 0, .int .u8 0, .int .u8 0, .int .u8 0, .int .u8 0] : Array Value) = Array.replicate 33 (.int .u8 0) from by rfl)
  have hB4 := hB3.alloc hB3.size (.cells #[.int .u8 0, .int .u8 0, .int .u8 0, .int .u8 0, .int .u8 0, .int .u8 0, .int .u8 0, .int .u8 0, .int .u8 0, .int .u8 0, .int .u8 0, .int .u8 0, .int .u8 0, .int .u8 0, .int .u8 0, .int .u8 0, .int .u8 0, .int .u8 0, .int .u8 0, .int .u8 0, .int .u8 0, .int .u8 0, .int .u8 0, .int .u8 0, .int .u8 0, .int .u8 0, .int .u8 0, .int .u8 0, .int .u8 0, .int .u8 0, .int .u8 0, .int .u8 0, .int .u8 0] 53)
  have hle : w1.heap.size ≤ bo := hbo ▸ hB3.size
  rw [← hbo] at hr1
  rw [← hbo]
  generalize w3.alloc (.cells #[.int .u8 0, .int .u8 0, .int .u8 0, .int .u8 0, .int .u8 0, .int .u8 0, .int .u8 0, .int .u8 0, .int .u8 0, .int .u8 0, .int .u8 0, .int .u8 0, .int .u8 0, .int .u8 0, .int .u8 0, .int .u8 0, .int .u8 0, .int .u8 0, .int .u8 0, .int .u8 0, .int .u8 0, .int .u8 0, .int .u8 0, .int .u8 0, .int .u8 0, .int .u8 0, .int .u8 0, .int .u8 0, .int .u8 0, .int .u8 0, .int .u8 0, .int .u8 0, .int .u8 0] 53) = w4 at hr1 hB4 ⊢
  clear hB3 hbo
  go_loopw [9, 10] (fun cv zv wr => ∃ k : Nat, k ≤ 32 ∧ zv = .int .i64 ((k : Int) - 1) ∧ cv = .int .i64 (overF (· + ·) A B k) ∧ Below w1.heap.size w1 wr ∧ wr.rowIs bo 53 33 (fun j => if j = 0 then .int .u8 0 else outF (· + ·) A B k (j - 1))) (fun _ z _ => (intOf z + 1).toNat)
  case atStart =>
    refine ⟨32, by omega, rfl, ?_, hB4, hr1.congr fun j hj => ?_⟩
    · unfold overF; rw [List.drop_of_length_le (by rw [sizeB]; omega)]; rfl
    · by_cases e : j = 0
      · rw [if_pos e]
      · rw [if_neg e]; unfold outF; rw [if_neg (by omega)]
  case round =>
    obtain ⟨k, hk, rfl, rfl, hB, hr⟩ := hrel
    clear hr1 hB4
    cases k with
    | succ m =>
      have hzm : ((m + 1 : Nat) : Int) - 1 = (m : Int) := by omega
      rw [hzm]
      have hm0 : (0 : Int) ≤ m := by omega
      have hmA : (m : Int) < A.size := by omega
      have hmB : (m : Int) < B.size := by omega
      have hmA' : m < A.size := by omega
      have hmB' : m < B.size := by omega
      have hm33 : (m : Int) + 1 < 33 := by omega
      have hm32 : (m : Int) < 32 := by omega
      have hp := comb_add_pos (A.data.toList.drop (m + 1)) (B.data.toList.drop (m + 1))
      have hsm := (overF_small calm_add A B (m + 1)).2
      have hst := outF_step (· + ·) A B m
      have hso := overF_step (· + ·) A B m hmA' hmB'
      change 0 ≤ overF (· + ·) A B (m + 1) at hp
      obtain ⟨oc, hoc⟩ : ∃ oc, overF (· + ·) A B (m + 1) = oc := ⟨_, rfl⟩
      rw [hoc] at hp hsm hst hso ⊢
      obtain ⟨hcx1, hcx2⟩ := byte_le A[m]
      obtain ⟨hcy1, hcy2⟩ := byte_le B[m]
      have hn0 : (0 : Int) ≤ (A[m]).toNat + (B[m]).toNat + oc := by omega
      have hn1 : ((A[m]).toNat : Int) + (B[m]).toNat + oc ≤ 1000 := by omega
      have hw1 : IntKind.i64.wrap (((A[m]).toNat : Int) + (B[m]).toNat) = (A[m]).toNat + (B[m]).toNat := wrap_i64 _ (by omega) (by omega)
      have hw2 : IntKind.i64.wrap (((A[m]).toNat : Int) + (B[m]).toNat + oc) = (A[m]).toNat + (B[m]).toNat + oc := wrap_i64 _ (by omega) (by omega)
      have HR : Hid (wr.rowIs bo 53 33 (fun j => if j = 0 then .int .u8 0 else outF (· + ·) A B (m + 1) (j - 1))) := hr
      have hq1 : wr.cell? ⟨bo, m + 1, none⟩ = some (.int .u8 0) := by have := HR.out.cell (i := m + 1) (by omega); unfold outF at this; rwa [if_neg (by omega), if_neg (by omega)] at this
      have hq2 := HR.out.frozen (m + 1)
      have HST : Hid (∀ j, (hA : m < A.size) → (hB : m < B.size) → (if j = m then Value.int .u8 (((A[m]).toNat + (B[m]).toNat + oc) % 256) else outF (· + ·) A B (m + 1) j) = outF (· + ·) A B m j) := hst
      have HSO : Hid (((A[m]).toNat + (B[m]).toNat + oc) / 256 = overF (· + ·) A B m) := hso
      clear hr hst hso hoc
      go_wp2_with fail
      go_quiet (fail)
      go_wp2_with fail
      refine ⟨⟨m, by omega, rfl, by rw [HSO.out], (drewB hB nq).setCell (by show _ ≤ bo; omega) _, ?_⟩, by simp [intOf]⟩
      have hrd : (wr.drewN nq).rowIs bo 53 33 (fun j => if j = 0 then .int .u8 0 else outF (· + ·) A B (m + 1) (j - 1)) := HR.out
      refine (hrd.set (m + 1) _).congr fun j hj => ?_
      have h1 := HST.out (j - 1) hmA' hmB'
      by_cases e1 : j = m + 1
      · rw [if_pos e1, if_neg (by omega)]; rw [if_pos (by omega)] at h1; exact h1
      · rw [if_neg e1]
        by_cases e0 : j = 0
        · rw [if_pos e0, if_pos e0]
        · rw [if_neg e0, if_neg e0]; rw [if_neg (by omega)] at h1; exact h1
    | zero =>
      have hz0 : ((0 : Nat) : Int) - 1 = -1 := by omega
      rw [hz0]
      clear hz0
      have hp := comb_add_pos (A.data.toList.drop 0) (B.data.toList.drop 0)
      have hsm := (overF_small calm_add A B 0).2
      change 0 ≤ overF (· + ·) A B 0 at hp
      obtain ⟨oc, hoc⟩ : ∃ oc, overF (· + ·) A B 0 = oc := ⟨_, rfl⟩
      rw [hoc] at hp hsm ⊢
      obtain ⟨c, hc⟩ : ∃ c : UInt8, (c.toNat : Int) = oc := ⟨UInt8.ofNat oc.toNat, by rw [ofNat_toNat _ (by omega)]; omega⟩
      obtain ⟨O, hO⟩ : ∃ O, O = (comb (· + ·) A.data.toList B.data.toList).1 := ⟨_, rfl⟩
      have hol : O.length = 32 := by rw [hO, comb_len _ _ _ (by rw [sizeB, sizeB, hAs, hBs]), sizeB, hAs]
      have hq1 : wr.cell? ⟨bo, 0, none⟩ = some (.int .u8 0) := by have := hr.cell (i := 0) (by omega); rwa [if_pos rfl] at this
      have hq2 := hr.frozen 0
      have hcv := convert_arr (l := c :: O) (cap := 33) (w := wr.setCell ⟨bo, 0, none⟩ (.int .u8 oc)) (b := bo) (t := 53) (by
        rw [List.length_cons, hol]
        refine (hr.set 0 (.int .u8 oc)).congr fun j hj => ?_
        by_cases e0 : j = 0
        · subst e0; rw [if_pos rfl, List.getD_cons_zero, hc]
        · rw [if_neg e0, if_neg e0]
          unfold outF
          rw [if_pos (by omega), List.drop_zero, List.drop_zero, ← hO, Nat.sub_zero, show j = (j - 1) + 1 by omega, List.getD_cons_succ]
          rfl)
      rw [List.length_cons, hol] at hcv
      have hov : (c.toNat : Int) = (comb (· + ·) (wideL x.data.toList) (wideL y.data.toList)).2 := by
        rw [hc, ← hoc]
        unfold overF
        rw [List.drop_zero, List.drop_zero, HA.out.1, HA.out.2]
      have hOO : O = (comb (· + ·) (wideL x.data.toList) (wideL y.data.toList)).1 := by rw [hO, HA.out.1, HA.out.2]
      have htr := sum33 x.data.toList y.data.toList HX.out.1 HY.out.1 c hov
      rw [← hOO] at htr
      have hlx := (right_lt HX.out.1).1
      have hly := (right_lt HY.out.1).1
      have hp33 : (256 : Nat) ^ 32 + 256 ^ 32 ≤ 256 ^ 33 := by decide
      have hlong := long33 (n := val x.data.toList + val y.data.toList) (by omega)
      rw [← htr] at hlong
      obtain ⟨T, hT⟩ : ∃ T : ByteArray, ⟨(trimL (c :: O)).toArray⟩ = T := ⟨_, rfl⟩
      have hTs : T.size = (trimL (c :: O)).length := by rw [← hT]; rfl
      rw [← hTs] at hlong
      have HT : Hid ((⟨(trimL (c :: O)).toArray⟩ : ByteArray) = T) := hT
      have hoc8 : oc < 256 := by omega
      by_cases hbig : val x.data.toList + val y.data.toList < 256 ^ 32
      · have hti : ¬ (32 : Int) < T.size := fun q => absurd hbig (hlong.1 (by omega))
        have hES := add_ok HX.out.1 HY.out.1 hbig
        have HQ : Hid (E = 0 ∧ (⟨S.toArray⟩ : ByteArray) = T) := by
          refine ⟨by rw [← HES.out.1]; exact hES.1, ?_⟩
          rw [← HES.out.2, hES.2, ← hT, htr, numF_more (j := 33) (k := 32) (by omega) hbig]
        clear hr hO hOO htr hlong hT hlx hly hp33 hbig hES hov hc hoc hTs
        go_wp2_with fail
        refine (qtrim_any _ _).mono ?_
        rintro e w7 ⟨rfl, rfl⟩
        rw [show (⟨(c :: O).toArray⟩ : ByteArray).data.toList = c :: O from rfl, HT.out]
        go_wp2_with fail
        go_ret2
        refine ⟨?_, hB.setCell (by show _ ≤ bo; omega) _⟩
        rw [HQ.out.1, HQ.out.2]
        rfl
      · have hti : (32 : Int) < T.size := by have := hlong.2 hbig; omega
        have HQ : Hid (E = 11 ∧ S = []) := by
          have e1 : addE x.data.toList y.data.toList = 11 := by unfold addE; rw [if_pos ⟨HX.out.1, HY.out.1⟩, if_neg hbig]
          refine ⟨by rw [← HES.out.1]; exact e1, ?_⟩
          rw [← HES.out.2]
          unfold addS
          rw [e1, if_neg (by decide)]
        clear hr hO hOO htr hlong hT hlx hly hp33 hbig hov hc hoc hTs
        go_wp2_with fail
        refine (qtrim_any _ _).mono ?_
        rintro e w7 ⟨rfl, rfl⟩
        rw [show (⟨(c :: O).toArray⟩ : ByteArray).data.toList = c :: O from rfl, HT.out]
        go_wp2_with fail
        go_ret2
        refine ⟨?_, hB.setCell (by show _ ≤ bo; omega) _⟩
        rw [HQ.out.1, HQ.out.2]
        rfl
end Go.Proofs.YtamijfdhaahalaaDoor
