/-
  What the document's calls of Sub do.
-/
import Derived.Test.YtamijfdhaahalaaDoorSRefC
namespace Go.Proofs.YtamijfdhaahalaaDoor
open Go Go.RowKit

theorem right_size' {b : ByteArray} (h : rightN b.data.toList = true) : b.size ≤ 32 := by
  have := ((rightN_iff _).1 h).1
  rwa [sizeB] at this
theorem sub_end {a b : List UInt8} (ha : rightN a = true) (hb : rightN b = true) (h : ¬ val a < val b) : subE a b = 0 ∧ subS a b = trimL (comb (· - ·) (wideL a) (wideL b)).1 ∧ (comb (· - ·) (wideL a) (wideL b)).2 = 0 := by
  obtain ⟨e1, e2⟩ := comb_is_sub a b
  have hE := (sub_ok ha hb (by omega)).1
  have hC : combE (· - ·) a b = 0 := e1.trans hE
  have hz : (comb (· - ·) (wideL a) (wideL b)).2 = 0 := by
    unfold combE at hC
    rw [if_pos ⟨ha, hb⟩] at hC
    by_cases z : (comb (· - ·) (wideL a) (wideL b)).2 = 0
    · exact z
    · rw [if_neg z] at hC; omega
  refine ⟨hE, ?_, hz⟩
  rw [← e2]
  unfold combS
  rw [if_pos hC]

set_option maxRecDepth 8000 in
set_option maxHeartbeats 4000000 in
theorem qsub_any (x y : ByteArray) (w : World) :
    Calls Tryd.prog 15 #[.string x, .string y] w fun e w' => e = .returned (.tuple #[.string ⟨(subS x.data.toList y.data.toList).toArray⟩, .int .i64 (subE x.data.toList y.data.toList)]) ∧ Below w.heap.size w w' := by
  obtain ⟨E, hE⟩ : ∃ E, subE x.data.toList y.data.toList = E := ⟨_, rfl⟩
  obtain ⟨S, hS⟩ : ∃ S, subS x.data.toList y.data.toList = S := ⟨_, rfl⟩
  rw [hE, hS]
  by_cases hx : rightN x.data.toList = true
  case neg =>
    have hx' : rightN x.data.toList = false := by simpa using hx
    have hE1 : E = 1 := by rw [← hE]; unfold subE; rw [if_neg (fun h => hx h.1)]
    have hS1 : S = [] := by rw [← hS]; unfold subS; rw [hE, hE1]; rfl
    subst hE1 hS1
    obtain ⟨r, hr⟩ : ∃ r, rightN y.data.toList = r := ⟨_, rfl⟩
    clear hE hS hx
    go_enter Tryd.func15, Tryd.ntmps15
    go_wp2_with fail
    refine (qright_any x _).mono ?_
    rintro e w1 ⟨rfl, rfl⟩
    rw [hx']
    go_wp2_with fail
    refine (qright_any y _).mono ?_
    rintro e w1 ⟨rfl, rfl⟩
    rw [hr]
    go_wp2_with fail
    go_ret2
    exact ⟨rfl, Below.refl _ _⟩
  by_cases hy : rightN y.data.toList = true
  case neg =>
    have hy' : rightN y.data.toList = false := by simpa using hy
    have hE1 : E = 1 := by rw [← hE]; unfold subE; rw [if_neg (fun h => hy h.2)]
    have hS1 : S = [] := by rw [← hS]; unfold subS; rw [hE, hE1]; rfl
    subst hE1 hS1
    clear hE hS hy
    go_enter Tryd.func15, Tryd.ntmps15
    go_wp2_with fail
    refine (qright_any x _).mono ?_
    rintro e w1 ⟨rfl, rfl⟩
    rw [hx]
    go_wp2_with fail
    refine (qright_any y _).mono ?_
    rintro e w1 ⟨rfl, rfl⟩
    rw [hy']
    go_wp2_with fail
    go_ret2
    exact ⟨rfl, Below.refl _ _⟩
  obtain ⟨A, hA⟩ : ∃ A : ByteArray, A = ⟨(wideL x.data.toList).toArray⟩ := ⟨_, rfl⟩
  obtain ⟨B, hB⟩ : ∃ B : ByteArray, B = ⟨(wideL y.data.toList).toArray⟩ := ⟨_, rfl⟩
  have hAl : A.data.toList = wideL x.data.toList := by rw [hA]
  have hBl : B.data.toList = wideL y.data.toList := by rw [hB]
  have hAs : A.size = 32 := by rw [← sizeB, hAl, right_wide hx]
  have hBs : B.size = 32 := by rw [← sizeB, hBl, right_wide hy]
  have HX : Hid (rightN x.data.toList = true ∧ wideS x.data.toList = wideL x.data.toList ∧ wideE x.data.toList = 0) := ⟨hx, (wide_right hx).1, (wide_right hx).2⟩
  have HY : Hid (rightN y.data.toList = true ∧ wideS y.data.toList = wideL y.data.toList ∧ wideE y.data.toList = 0) := ⟨hy, (wide_right hy).1, (wide_right hy).2⟩
  have HA : Hid (A = ⟨(wideL x.data.toList).toArray⟩ ∧ B = ⟨(wideL y.data.toList).toArray⟩) := ⟨hA, hB⟩
  have HES : Hid (subE x.data.toList y.data.toList = E ∧ subS x.data.toList y.data.toList = S) := ⟨hE, hS⟩
  clear hE hS hAl hBl hA hB hx hy
  have hxs := right_size' HX.out.1
  have hys := right_size' HY.out.1
  by_cases hlt : val x.data.toList < val y.data.toList
  · have HQ : Hid (E = 11 ∧ S = []) := by
      have e1 : subE x.data.toList y.data.toList = 11 := by unfold subE; rw [if_pos ⟨HX.out.1, HY.out.1⟩, if_pos hlt]
      refine ⟨by rw [← HES.out.1]; exact e1, ?_⟩
      rw [← HES.out.2]
      unfold subS
      rw [e1, if_neg (by decide)]
    have HC : Hid (cmpN (val y.data.toList) (val x.data.toList) = 1) := cmpN_gt hlt
    clear hlt
    go_enter Tryd.func15, Tryd.ntmps15
    go_wp2_with fail
    refine (qright_any x _).mono ?_
    rintro e w1 ⟨rfl, rfl⟩
    rw [HX.out.1]
    go_wp2_with fail
    refine (qright_any y _).mono ?_
    rintro e w1 ⟨rfl, rfl⟩
    rw [HY.out.1]
    go_wp2_with fail
    refine (qcmp_any y x _ (by omega) (by omega)).mono ?_
    rintro e w2 ⟨rfl, hB0⟩
    rw [HC.out]
    go_wp2_with fail
    go_ret2
    exact ⟨by rw [HQ.out.1, HQ.out.2]; rfl, hB0⟩
  obtain ⟨hse, hss, hsz⟩ := sub_end HX.out.1 HY.out.1 hlt
  have HC : Hid (cmpN (val y.data.toList) (val x.data.toList) ≤ 0) := by
    unfold Hid
    have := cmp_ge (val x.data.toList) (val y.data.toList)
    have h2 := cmp_turn (val y.data.toList) (val x.data.toList)
    have := this.2 (by omega)
    omega
  obtain ⟨cc, hcc⟩ : ∃ cc, cmpN (val y.data.toList) (val x.data.toList) = cc := ⟨_, rfl⟩
  have hc0 : ¬ (0 : Int) < cc := by have := HC.out; omega
  have HCC : Hid (cmpN (val y.data.toList) (val x.data.toList) = cc) := hcc
  have HE2 : Hid (E = 0 ∧ S = trimL (comb (· - ·) A.data.toList B.data.toList).1 ∧ overF (· - ·) A B 0 = 0) := by
    refine ⟨by rw [← HES.out.1]; exact hse, ?_, ?_⟩
    · rw [← HES.out.2, hss, HA.out.1, HA.out.2]
    · unfold overF; rw [List.drop_zero, List.drop_zero, HA.out.1, HA.out.2]; exact hsz
  clear hse hss hsz hlt hcc
  go_enter Tryd.func15, Tryd.ntmps15
  go_wp2_with fail
  refine (qright_any x _).mono ?_
  rintro e w1 ⟨rfl, rfl⟩
  rw [HX.out.1]
  go_wp2_with fail
  refine (qright_any y _).mono ?_
  rintro e w1 ⟨rfl, rfl⟩
  rw [HY.out.1]
  go_wp2_with fail
  refine (qcmp_any y x _ (by omega) (by omega)).mono ?_
  rintro e w2 ⟨rfl, hB0⟩
  rw [HCC.out]
  go_wp2_with fail
  refine (qwide_any x _).mono ?_
  rintro e w2 ⟨rfl, hB2⟩
  rw [HX.out.2.1, HX.out.2.2, ← HA.out.1]
  go_wp2_with fail
  refine (qwide_any y _).mono ?_
  rintro e w3 ⟨rfl, hB3⟩
  rw [HY.out.2.1, HY.out.2.2, ← HA.out.2]
  replace hB2 := hB0.trans (hB2.mono hB0.size)
  replace hB3 := hB2.trans (hB3.mono hB2.size)
  clear hB0
  clear hB2
  go_wp2_with fail
  obtain ⟨bo, hbo⟩ : ∃ bo, bo = w3.heap.size := ⟨_, rfl⟩
  have hr1 := zeros_row (w := w3) (t := 34) _ 32 (by rfl) (show (#[.int .u8 0, .int .u8 0, .int .u8 0, .int .u8 0, .int .u8 0, .int .u8 0, .int .u8 0, .int .u8 0, .int .u8 0, .int .u8 0, .int .u8 0, .int .u8 0, .int .u8 0, .int .u8 0, .int .u8 0, .int .u8 0, .int .u8 0, .int .u8 0, .int .u8 0, .int .u8 0, .int .u8 0, .int .u8 0, .int .u8 0, .int .u8 0, .int .u8 0, .int .u8 0, .int .u8 0, .int .u8 0, .int .u8 0, .int .u8 0, .int .u8 0, .int .u8 0] : Array Value) = Array.replicate 32 (.int .u8 0) from by rfl)
  have hB4 := hB3.alloc hB3.size (.cells #[.int .u8 0, .int .u8 0, .int .u8 0, .int .u8 0, .int .u8 0, .int .u8 0, .int .u8 0, .int .u8 0, .int .u8 0, .int .u8 0, .int .u8 0, .int .u8 0, .int .u8 0, .int .u8 0, .int .u8 0, .int .u8 0, .int .u8 0, .int .u8 0, .int .u8 0, .int .u8 0, .int .u8 0, .int .u8 0, .int .u8 0, .int .u8 0, .int .u8 0, .int .u8 0, .int .u8 0, .int .u8 0, .int .u8 0, .int .u8 0, .int .u8 0, .int .u8 0] 34)
  have hle : w1.heap.size ≤ bo := hbo ▸ hB3.size
  rw [← hbo] at hr1
  rw [← hbo]
  generalize w3.alloc (.cells #[.int .u8 0, .int .u8 0, .int .u8 0, .int .u8 0, .int .u8 0, .int .u8 0, .int .u8 0, .int .u8 0, .int .u8 0, .int .u8 0, .int .u8 0, .int .u8 0, .int .u8 0, .int .u8 0, .int .u8 0, .int .u8 0, .int .u8 0, .int .u8 0, .int .u8 0, .int .u8 0, .int .u8 0, .int .u8 0, .int .u8 0, .int .u8 0, .int .u8 0, .int .u8 0, .int .u8 0, .int .u8 0, .int .u8 0, .int .u8 0, .int .u8 0, .int .u8 0] 34) = w4 at hr1 hB4 ⊢
  clear hB3 hbo
  go_loopw [9, 10] (fun cv zv wr => ∃ k : Nat, k ≤ 32 ∧ zv = .int .i64 ((k : Int) - 1) ∧ cv = .int .i64 (- overF (· - ·) A B k) ∧ Below w1.heap.size w1 wr ∧ wr.rowIs bo 34 32 (outF (· - ·) A B k)) (fun _ z _ => (intOf z + 1).toNat)
  case atStart =>
    refine ⟨32, by omega, rfl, ?_, hB4, hr1.congr fun j hj => ?_⟩
    · unfold overF; rw [List.drop_of_length_le (by rw [sizeB]; omega)]; rfl
    · unfold outF; rw [if_neg (by omega)]
  case round =>
    obtain ⟨k, hk, rfl, rfl, hB, hr⟩ := hrel
    clear hr1 hB4
    cases k with
    | succ m =>
      have hzm : ((m + 1 : Nat) : Int) - 1 = (m : Int) := by omega
      rw [hzm]
      have hm0 : (0 : Int) ≤ m := by omega
      have hmA : (m : Int) < A.size := by omega
      have hmB : (m : Int) < B.size := by omega
      have hmA' : m < A.size := by omega
      have hmB' : m < B.size := by omega
      have hm32 : (m : Int) < 32 := by omega
      have hp := comb_sub_neg (A.data.toList.drop (m + 1)) (B.data.toList.drop (m + 1))
      have hsm := (overF_small calm_sub A B (m + 1)).1
      have hst := outF_step (· - ·) A B m
      have hso := overF_step (· - ·) A B m hmA' hmB'
      change overF (· - ·) A B (m + 1) ≤ 0 at hp
      obtain ⟨br, hbr⟩ : ∃ br, - overF (· - ·) A B (m + 1) = br := ⟨_, rfl⟩
      have hoc : overF (· - ·) A B (m + 1) = -br := by omega
      rw [hoc] at hp hsm hst hso
      rw [hbr]
      have hb0 : 0 ≤ br := by omega
      have hb1 : br ≤ 1 := by omega
      obtain ⟨hcx1, hcx2⟩ := byte_le A[m]
      obtain ⟨hcy1, hcy2⟩ := byte_le B[m]
      have hn0 : (-256 : Int) ≤ (A[m]).toNat - (B[m]).toNat - br := by omega
      have hn1 : ((A[m]).toNat : Int) - (B[m]).toNat - br ≤ 255 := by omega
      have hw1 : IntKind.i64.wrap (((A[m]).toNat : Int) - (B[m]).toNat) = (A[m]).toNat - (B[m]).toNat := wrap_i64 _ (by omega) (by omega)
      have hw2 : IntKind.i64.wrap (((A[m]).toNat : Int) - (B[m]).toNat - br) = (A[m]).toNat - (B[m]).toNat - br := wrap_i64 _ (by omega) (by omega)
      have HR : Hid (wr.rowIs bo 34 32 (outF (· - ·) A B (m + 1))) := hr
      have hq1 : wr.cell? ⟨bo, m, none⟩ = some (.int .u8 0) := by have := HR.out.cell (i := m) (by omega); unfold outF at this; rwa [if_neg (by omega)] at this
      have hq2 := HR.out.frozen m
      have HST : Hid (∀ j, (hA : m < A.size) → (hB : m < B.size) → (if j = m then Value.int .u8 (((A[m]).toNat - (B[m]).toNat + -br) % 256) else outF (· - ·) A B (m + 1) j) = outF (· - ·) A B m j) := hst
      have HSO : Hid (((A[m]).toNat - (B[m]).toNat + -br) / 256 = overF (· - ·) A B m) := hso
      clear hr hst hso hoc hp hsm hbr
      go_wp2_with fail
      go_quiet (fail)
      by_cases hneg : ((A[m]).toNat : Int) - (B[m]).toNat - br < 0
      · have hv0 : 0 ≤ ((A[m]).toNat : Int) - (B[m]).toNat - br + 256 := by omega
        have hv1 : ((A[m]).toNat : Int) - (B[m]).toNat - br + 256 < 256 := by omega
        go_wp2_with fail
        refine ⟨⟨m, by omega, rfl, ?_, (drewB hB nq).setCell (by show _ ≤ bo; omega) _, ?_⟩, by simp [intOf]⟩
        · rw [← HSO.out]
          congr 1
          omega
        · have hrd : (wr.drewN nq).rowIs bo 34 32 (outF (· - ·) A B (m + 1)) := HR.out
          refine (hrd.set m _).congr fun j hj => ?_
          rw [← HST.out j hmA' hmB']
          by_cases e : j = m
          · rw [if_pos e, if_pos e]
            congr 1
            omega
          · rw [if_neg e, if_neg e]
      · have hv1 : ((A[m]).toNat : Int) - (B[m]).toNat - br < 256 := by omega
        have hv0 : 0 ≤ ((A[m]).toNat : Int) - (B[m]).toNat - br := by omega
        go_wp2_with fail
        refine ⟨⟨m, by omega, rfl, ?_, (drewB hB nq).setCell (by show _ ≤ bo; omega) _, ?_⟩, by simp [intOf]⟩
        · rw [← HSO.out]
          congr 1
          omega
        · have hrd : (wr.drewN nq).rowIs bo 34 32 (outF (· - ·) A B (m + 1)) := HR.out
          refine (hrd.set m _).congr fun j hj => ?_
          rw [← HST.out j hmA' hmB']
          by_cases e : j = m
          · rw [if_pos e, if_pos e]
            congr 1
            omega
          · rw [if_neg e, if_neg e]
    | zero =>
      have hz0 : ((0 : Nat) : Int) - 1 = -1 := by omega
      rw [hz0, HE2.out.2.2]
      clear hz0
      obtain ⟨O, hO⟩ : ∃ O, O = (comb (· - ·) A.data.toList B.data.toList).1 := ⟨_, rfl⟩
      have hol : O.length = 32 := by rw [hO, comb_len _ _ _ (by rw [sizeB, sizeB, hAs, hBs]), sizeB, hAs]
      have hcv := convert_arr (l := O) (cap := 32) (w := wr) (b := bo) (t := 34) (by
        rw [hol]
        refine hr.congr fun j hj => ?_
        unfold outF
        rw [if_pos (by omega), List.drop_zero, List.drop_zero, ← hO, Nat.sub_zero])
      rw [hol] at hcv
      have HQ : Hid (E = 0 ∧ S = trimL O) := ⟨HE2.out.1, by rw [hO]; exact HE2.out.2.1⟩
      clear hr hO
      go_wp2_with fail
      refine (qtrim_any _ _).mono ?_
      rintro e w7 ⟨rfl, rfl⟩
      go_wp2_with fail
      go_ret2
      refine ⟨?_, hB⟩
      rw [HQ.out.1, HQ.out.2]
      rfl
end Go.Proofs.YtamijfdhaahalaaDoor
