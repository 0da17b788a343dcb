/-
  What the calls of Add and Sub do.
-/
import Derived.Test.YtamijfdhaahalaaDoorSNumW
import Derived.Test.YtamijfdhaahalaaDoorSComb
namespace Go.Proofs.YtamijfdhaahalaaDoor
open Go Go.RowKit

theorem addOf_any (x y : Int) (w : World) (hx : 0 ≤ x ∧ x ≤ 255) (hy : 0 ≤ y ∧ y ≤ 255) :
    Calls Tryd.prog 33 #[.int .i64 x, .int .i64 y] w fun e w' => e = .returned (.int .i64 (x + y)) ∧ w' = w := by
  obtain ⟨h1, h2⟩ := hx
  obtain ⟨h3, h4⟩ := hy
  have h5 : 0 ≤ x + y := by omega
  have h6 : x + y ≤ 1000 := by omega
  go_enter Tryd.func33, Tryd.ntmps33
  go_wp2_with fail
  go_ret
  exact ⟨rfl, rfl⟩
theorem subOf_any (x y : Int) (w : World) (hx : 0 ≤ x ∧ x ≤ 255) (hy : 0 ≤ y ∧ y ≤ 255) :
    Calls Tryd.prog 34 #[.int .i64 x, .int .i64 y] w fun e w' => e = .returned (.int .i64 (x - y)) ∧ w' = w := by
  obtain ⟨h1, h2⟩ := hx
  obtain ⟨h3, h4⟩ := hy
  have h5 : -1000 ≤ x - y := by omega
  have h6 : x - y ≤ 1000 := by omega
  go_enter Tryd.func34, Tryd.ntmps34
  go_wp2_with fail
  go_ret
  exact ⟨rfl, rfl⟩
theorem carry_any (v c : Int) (bo : Nat) (w : World) (hc : w.rowIs bo 3 1 (fun _ => .int .i64 c)) (h1 : -1000 ≤ v) (h2 : v ≤ 1000) (h3 : -1 ≤ c) (h4 : c ≤ 1) :
    Calls Tryd.prog 58 #[.int .i64 v, .pointer (some ⟨bo, 0, none⟩)] w fun e w' => e = .returned (.int .u8 ((v + c) % 256)) ∧ w' = w.setCell ⟨bo, 0, none⟩ (.int .i64 ((v + c) / 256)) := by
  have hcell := hc.cell (i := 0) (by omega)
  have hfz := hc.frozen 0
  have h5 : -2000 ≤ v + c := by omega
  have h6 : v + c ≤ 2000 := by omega
  go_enter Tryd.func58, Tryd.ntmps58
  go_wp2_with fail
  go_ret
  exact ⟨rfl, rfl⟩
theorem comb_drop (F : Int → Int → Int) (A B : ByteArray) (m : Nat) (hA : m < A.size) (hB : m < B.size) :
    comb F (A.data.toList.drop m) (B.data.toList.drop m) = (UInt8.ofNat ((F (A[m]).toNat (B[m]).toNat + (comb F (A.data.toList.drop (m + 1)) (B.data.toList.drop (m + 1))).2) % 256).toNat :: (comb F (A.data.toList.drop (m + 1)) (B.data.toList.drop (m + 1))).1, (F (A[m]).toNat (B[m]).toNat + (comb F (A.data.toList.drop (m + 1)) (B.data.toList.drop (m + 1))).2) / 256) := by
  rw [List.drop_eq_getElem_cons (by exact hA), List.drop_eq_getElem_cons (l := B.data.toList) (by exact hB), comb_cons, ← getB A m hA, ← getB B m hB]
/-- What stands in the sum's bytes from place k on. -/
def outF (F : Int → Int → Int) (A B : ByteArray) (k j : Nat) : Value := if k ≤ j then .int .u8 (((comb F (A.data.toList.drop k) (B.data.toList.drop k)).1.getD (j - k) 0).toNat : Int) else .int .u8 0
def overF (F : Int → Int → Int) (A B : ByteArray) (k : Nat) : Int := (comb F (A.data.toList.drop k) (B.data.toList.drop k)).2
theorem outF_step (F : Int → Int → Int) (A B : ByteArray) (m j : Nat) (hA : m < A.size) (hB : m < B.size) :
    (if j = m then Value.int .u8 ((F (A[m]).toNat (B[m]).toNat + overF F A B (m + 1)) % 256) else outF F A B (m + 1) j) = outF F A B m j := by
  unfold outF overF
  rw [comb_drop F A B m hA hB]
  by_cases e : j = m
  · subst e
    rw [if_pos rfl, if_pos (Nat.le_refl _), Nat.sub_self, List.getD_cons_zero, byte_of]
  · rw [if_neg e]
    by_cases q : m + 1 ≤ j
    · rw [if_pos q, if_pos (by omega), show j - m = (j - (m + 1)) + 1 by omega, List.getD_cons_succ]
    · rw [if_neg q, if_neg (by omega)]
theorem overF_step (F : Int → Int → Int) (A B : ByteArray) (m : Nat) (hA : m < A.size) (hB : m < B.size) : (F (A[m]).toNat (B[m]).toNat + overF F A B (m + 1)) / 256 = overF F A B m := by
  unfold overF
  rw [comb_drop F A B m hA hB]
theorem overF_small {F : Int → Int → Int} (hF : Calm F) (A B : ByteArray) (k : Nat) : -1 ≤ overF F A B k ∧ overF F A B k ≤ 1 := comb_small hF _ _
theorem convert_arr {w : World} {b cap : Nat} {t : TypeId} {l : List UInt8} (h : w.rowIs b t l.length (fun j => .int .u8 ((l.getD j 0).toNat : Int))) :
    (convert 50 9 (.slice (some ⟨b, 0, none⟩) l.length cap)).run Tryd.prog w = .ok (.string ⟨l.toArray⟩) w :=
  run_convert_bytes_back w 50 9 5 ⟨b, 0, none⟩ cap l underBytes (by kernel_rfl) (by kernel_rfl) (fun j hj => by
    have := h.cell hj
    rw [add_plain, Nat.zero_add, this, List.getD_eq_getElem?_getD, List.getElem?_eq_getElem hj]
    rfl)
theorem zeros_row {w : World} {t : TypeId} (c : Array Value) (n : Nat) (hn : c.size = n) (h : c = Array.replicate n (.int .u8 0)) : (w.alloc (.cells c t)).rowIs w.heap.size t n (fun _ => .int .u8 0) := by
  have := World.rowIs_alloc w c t (fun _ => .int .u8 0) (fun i hi => by rw [h, Array.getElem?_replicate, if_pos (by omega)])
  rw [hn] at this
  exact this
theorem one_row {w : World} {t : TypeId} (v : Value) : (w.alloc (.cells #[v] t)).rowIs w.heap.size t 1 (fun _ => v) :=
  World.rowIs_alloc w #[v] t (fun _ => v) (fun i hi => by simp at hi; subst hi; rfl)
theorem wide_right {a : List UInt8} (h : rightN a = true) : wideS a = wideL a ∧ wideE a = 0 := by
  obtain ⟨h1, h2⟩ := (rightN_iff a).1 h
  unfold wideS wideE
  rw [h2, if_pos h1, if_pos h1]
  exact ⟨rfl, rfl⟩

set_option maxRecDepth 8000 in
set_option maxHeartbeats 4000000 in
theorem combineAdd (x y : ByteArray) (w : World) :
    Calls Tryd.prog 32 #[.string x, .string y, .func (.func 33) #[] #[]] w fun e w' => e = .returned (.tuple #[.string ⟨(combS (· + ·) x.data.toList y.data.toList).toArray⟩, .int .i64 (combE (· + ·) x.data.toList y.data.toList)]) ∧ Below w.heap.size w w' := by
  by_cases hx : rightN x.data.toList = true
  case neg =>
    have hx' : rightN x.data.toList = false := by simpa using hx
    have hE : combE (· + ·) x.data.toList y.data.toList = 1 := by unfold combE; rw [if_neg (fun h => hx h.1)]
    have hS : combS (· + ·) x.data.toList y.data.toList = [] := by unfold combS; rw [hE]; rfl
    rw [hE, hS]
    clear hE hS hx
    go_enter Tryd.func32, Tryd.ntmps32
    go_wp2_with fail
    refine (sright_any x _).mono ?_
    rintro e w1 ⟨rfl, rfl⟩
    rw [hx']
    go_wp2_with fail
    go_ret2
    exact ⟨rfl, Below.refl _ _⟩
  by_cases hy : rightN y.data.toList = true
  case neg =>
    have hy' : rightN y.data.toList = false := by simpa using hy
    have hE : combE (· + ·) x.data.toList y.data.toList = 1 := by unfold combE; rw [if_neg (fun h => hy h.2)]
    have hS : combS (· + ·) x.data.toList y.data.toList = [] := by unfold combS; rw [hE]; rfl
    rw [hE, hS]
    clear hE hS hy
    go_enter Tryd.func32, Tryd.ntmps32
    go_wp2_with fail
    refine (sright_any x _).mono ?_
    rintro e w1 ⟨rfl, rfl⟩
    rw [hx]
    go_wp2_with fail
    refine (sright_any y _).mono ?_
    rintro e w1 ⟨rfl, rfl⟩
    rw [hy']
    go_wp2_with fail
    go_ret2
    exact ⟨rfl, Below.refl _ _⟩
  obtain ⟨A, hA⟩ : ∃ A : ByteArray, A = ⟨(wideL x.data.toList).toArray⟩ := ⟨_, rfl⟩
  obtain ⟨B, hB⟩ : ∃ B : ByteArray, B = ⟨(wideL y.data.toList).toArray⟩ := ⟨_, rfl⟩
  have hAl : A.data.toList = wideL x.data.toList := by rw [hA]
  have hBl : B.data.toList = wideL y.data.toList := by rw [hB]
  have hAs : A.size = 32 := by rw [← sizeB, hAl, right_wide hx]
  have hBs : B.size = 32 := by rw [← sizeB, hBl, right_wide hy]
  have hE : combE (· + ·) x.data.toList y.data.toList = if overF (· + ·) A B 0 = 0 then 0 else 11 := by unfold combE overF; rw [if_pos ⟨hx, hy⟩, hAl, hBl, List.drop_zero, List.drop_zero]
  have hS : combS (· + ·) x.data.toList y.data.toList = if overF (· + ·) A B 0 = 0 then trimL (comb (· + ·) A.data.toList B.data.toList).1 else [] := by
    unfold combS
    rw [hE, hAl, hBl]
    by_cases q : overF (· + ·) A B 0 = 0
    · rw [if_pos q, if_pos q, if_pos rfl]
    · rw [if_neg q, if_neg q, if_neg (by decide)]
  obtain ⟨E, hEE⟩ : ∃ E, combE (· + ·) x.data.toList y.data.toList = E := ⟨_, rfl⟩
  obtain ⟨S, hSS⟩ : ∃ S, combS (· + ·) x.data.toList y.data.toList = S := ⟨_, rfl⟩
  rw [hEE] at hE ⊢
  rw [hSS] at hS ⊢
  have HE : Hid ((E = if overF (· + ·) A B 0 = 0 then 0 else 11) ∧ S = if overF (· + ·) A B 0 = 0 then trimL (comb (· + ·) A.data.toList B.data.toList).1 else []) := ⟨hE, hS⟩
  have hol : (comb (· + ·) A.data.toList B.data.toList).1.length = 32 := by rw [comb_len _ _ _ (by rw [sizeB, sizeB, hAs, hBs]), sizeB, hAs]
  have HX : Hid (rightN x.data.toList = true ∧ wideS x.data.toList = wideL x.data.toList ∧ wideE x.data.toList = 0) := ⟨hx, (wide_right hx).1, (wide_right hx).2⟩
  have HY : Hid (rightN y.data.toList = true ∧ wideS y.data.toList = wideL y.data.toList ∧ wideE y.data.toList = 0) := ⟨hy, (wide_right hy).1, (wide_right hy).2⟩
  have HA : Hid (A = ⟨(wideL x.data.toList).toArray⟩ ∧ B = ⟨(wideL y.data.toList).toArray⟩) := ⟨hA, hB⟩
  clear hE hS hEE hSS hAl hBl hA hB hx hy
  go_enter Tryd.func32, Tryd.ntmps32
  go_wp2_with fail
  refine (sright_any x _).mono ?_
  rintro e w1 ⟨rfl, rfl⟩
  rw [HX.out.1]
  go_wp2_with fail
  refine (sright_any y _).mono ?_
  rintro e w1 ⟨rfl, rfl⟩
  rw [HY.out.1]
  go_wp2_with fail
  refine (wide_any x _).mono ?_
  rintro e w2 ⟨rfl, hB2⟩
  rw [HX.out.2.1, HX.out.2.2, ← HA.out.1]
  go_wp2_with fail
  refine (wide_any y _).mono ?_
  rintro e w3 ⟨rfl, hB3⟩
  rw [HY.out.2.1, HY.out.2.2, ← HA.out.2]
  replace hB3 := hB2.trans (hB3.mono hB2.size)
  clear hB2
  go_wp2_with fail
  obtain ⟨bo, hbo⟩ : ∃ bo, bo = w3.heap.size := ⟨_, rfl⟩
  have hr1 : (w3.alloc (.cells #[.int .i64 0] 3)).rowIs bo 3 1 (fun _ => .int .i64 0) := hbo ▸ one_row _
  have hz : (w3.alloc (.cells #[.int .i64 0] 3)).heap.size = bo + 1 := by rw [World.size_alloc, hbo]
  have hr2 := zeros_row (w := w3.alloc (.cells #[.int .i64 0] 3)) (t := 34) _ 32 (by rfl) (show (#[.int .u8 0, .int .u8 0, .int .u8 0, .int .u8 0, .int .u8 0, .int .u8 0, .int .u8 0, .int .u8 0, .int .u8 0, .int .u8 0, .int .u8 0, .int .u8 0, .int .u8 0, .int .u8 0, .int .u8 0, .int .u8 0, .int .u8 0, .int .u8 0, .int .u8 0, .int .u8 0, .int .u8 0, .int .u8 0, .int .u8 0, .int .u8 0, .int .u8 0, .int .u8 0, .int .u8 0, .int .u8 0, .int .u8 0, .int .u8 0, .int .u8 0, .int .u8 0] : Array Value) = Array.replicate 32 (.int .u8 0) from by rfl)
  rw [hz] at hr2
  have hr3 := hr1.alloc (.cells #[.int .u8 0, .int .u8 0, .int .u8 0, .int .u8 0, .int .u8 0, .int .u8 0, .int .u8 0, .int .u8 0, .int .u8 0, .int .u8 0, .int .u8 0, .int .u8 0, .int .u8 0, .int .u8 0, .int .u8 0, .int .u8 0, .int .u8 0, .int .u8 0, .int .u8 0, .int .u8 0, .int .u8 0, .int .u8 0, .int .u8 0, .int .u8 0, .int .u8 0, .int .u8 0, .int .u8 0, .int .u8 0, .int .u8 0, .int .u8 0, .int .u8 0, .int .u8 0] 34)
  have hB4 : Below w1.heap.size w1 ((w3.alloc (.cells #[.int .i64 0] 3)).alloc (.cells #[.int .u8 0, .int .u8 0, .int .u8 0, .int .u8 0, .int .u8 0, .int .u8 0, .int .u8 0, .int .u8 0, .int .u8 0, .int .u8 0, .int .u8 0, .int .u8 0, .int .u8 0, .int .u8 0, .int .u8 0, .int .u8 0, .int .u8 0, .int .u8 0, .int .u8 0, .int .u8 0, .int .u8 0, .int .u8 0, .int .u8 0, .int .u8 0, .int .u8 0, .int .u8 0, .int .u8 0, .int .u8 0, .int .u8 0, .int .u8 0, .int .u8 0, .int .u8 0] 34)) := (hB3.alloc hB3.size _).alloc (by rw [hz]; have := hB3.size; omega) _
  have hle : w1.heap.size ≤ bo := hbo ▸ hB3.size
  rw [← hbo]
  generalize (w3.alloc (.cells #[.int .i64 0] 3)).alloc (.cells #[.int .u8 0, .int .u8 0, .int .u8 0, .int .u8 0, .int .u8 0, .int .u8 0, .int .u8 0, .int .u8 0, .int .u8 0, .int .u8 0, .int .u8 0, .int .u8 0, .int .u8 0, .int .u8 0, .int .u8 0, .int .u8 0, .int .u8 0, .int .u8 0, .int .u8 0, .int .u8 0, .int .u8 0, .int .u8 0, .int .u8 0, .int .u8 0, .int .u8 0, .int .u8 0, .int .u8 0, .int .u8 0, .int .u8 0, .int .u8 0, .int .u8 0, .int .u8 0] 34) = w4 at hr2 hr3 hB4 ⊢
  clear hr1 hz hB3 hbo
  go_loopw [32] (fun z wr => ∃ i : Nat, i ≤ 32 ∧ z = .int .i64 i ∧ Below w1.heap.size w1 wr ∧ wr.rowIs bo 3 1 (fun _ => .int .i64 (overF (· + ·) A B (32 - i))) ∧ wr.rowIs (bo + 1) 34 32 (outF (· + ·) A B (32 - i))) (fun z _ => 32 - (intOf z).toNat)
  case atStart =>
    refine ⟨0, by omega, rfl, hB4, hr3.congr fun i _ => ?_, hr2.congr fun i hi => ?_⟩
    · unfold overF; rw [List.drop_of_length_le (by rw [sizeB]; omega)]; rfl
    · unfold outF; rw [if_neg (by omega)]
  case round =>
    obtain ⟨i, hi, rfl, hB, ho, hr⟩ := hrel
    clear hr2 hr3 hB4
    by_cases hlt : i < 32
    · have hii : (i : Int) < 32 := by omega
      have hi0 : (0 : Int) ≤ i := by omega
      obtain ⟨m, hm⟩ : ∃ m, m = 31 - i := ⟨_, rfl⟩
      have hmi : (31 : Int) - i = (m : Int) := by omega
      have hmA : (m : Int) < A.size := by omega
      have hmB : (m : Int) < B.size := by omega
      have hm0 : (0 : Int) ≤ m := by omega
      have hm32 : (m : Int) < 32 := by omega
      have hmA' : m < A.size := by omega
      have hmB' : m < B.size := by omega
      rw [show 32 - i = m + 1 by omega] at ho hr
      obtain ⟨oc, hoc⟩ : ∃ oc, overF (· + ·) A B (m + 1) = oc := ⟨_, rfl⟩
      have hsm := overF_small calm_add A B (m + 1)
      have hst := outF_step (· + ·) A B m
      have hso := overF_step (· + ·) A B m hmA' hmB'
      rw [hoc] at ho hsm hst hso
      have hcx := byte_le A[m]
      have hcy := byte_le B[m]
      have HM : Hid (m = 31 - i) := hm
      have HR : Hid (wr.rowIs (bo + 1) 34 32 (outF (· + ·) A B (m + 1))) := hr
      have HO : Hid (wr.rowIs bo 3 1 (fun _ => .int .i64 oc)) := ho
      have HST : Hid (∀ j, (hA : m < A.size) → (hB : m < B.size) → (if j = m then Value.int .u8 (((A[m]).toNat + (B[m]).toNat + oc) % 256) else outF (· + ·) A B (m + 1) j) = outF (· + ·) A B m j) := hst
      have HSO : Hid (((A[m]).toNat + (B[m]).toNat + oc) / 256 = overF (· + ·) A B m) := hso
      clear hm hr ho hst hso hoc
      go_wp2_with fail
      refine wp_region_ptail 11 mixedP (by kernel_rfl) (by decide) (by kernel_rfl) (by kernel_rfl) (fun _ _ _ d _ h => by cases d <;> exact h) ?_
      simp only [List.take_succ_cons, List.take_zero, List.drop_succ_cons, List.drop_zero]
      repeat (go_big_quiet_step (fail))
      refine wpQuiet_nil ?_
      go_wp2_with fail
      refine (addOf_any _ _ _ hcx hcy).mono ?_
      rintro e w5 ⟨rfl, rfl⟩
      have hv1 : -1000 ≤ ((A[m]).toNat : Int) + (B[m]).toNat := by omega
      have hv2 : ((A[m]).toNat : Int) + (B[m]).toNat ≤ 1000 := by omega
      go_wp2_with fail
      refine (carry_any _ oc bo _ HO.out.drew hv1 hv2 hsm.1 hsm.2).mono ?_
      rintro e w6 ⟨rfl, rfl⟩
      have hne : bo + 1 ≠ (⟨bo, 0, none⟩ : Addr).block := by show bo + 1 ≠ bo; omega
      have hq3 : wr.cell? ⟨bo + 1, m, none⟩ = some (.int .u8 0) := by have := HR.out.cell (i := m) (by omega); unfold outF at this; rwa [if_neg (by omega)] at this
      have hq4 := HR.out.frozen m
      go_wp2_with fail
      go_roundw
      case rel =>
        have hm := HM.out
        refine ⟨i + 1, by omega, rfl, (hB.drew.setCell (by show _ ≤ bo; omega) _).setCell (by show _ ≤ bo + 1; omega) _, ?_, ?_⟩
        · rw [show 32 - (i + 1) = m by omega]
          refine ((HO.out.drew.set 0 _).setOther (a := ⟨bo + 1, m, none⟩) (by show bo ≠ bo + 1; omega) _).congr fun j hj => ?_
          rw [if_pos (by omega), HSO.out]
        · rw [show 32 - (i + 1) = m by omega]
          refine ((HR.out.drew.setOther (a := ⟨bo, 0, none⟩) hne _).set m _).congr fun j hj => HST.out j hmA' hmB'
      case measure => simp [intOf]; omega
    · have hii : ¬ (i : Int) < 32 := by omega
      have hik : i = 32 := by omega
      subst hik
      rw [show 32 - 32 = 0 from rfl] at ho hr
      have ho0 := ho.cell (i := 0) (by omega)
      obtain ⟨O, hO⟩ : ∃ O, O = (comb (· + ·) A.data.toList B.data.toList).1 := ⟨_, rfl⟩
      rw [← hO] at hol
      have hcv := convert_arr (l := O) (cap := 32) (w := wr) (b := bo + 1) (t := 34) (by
        rw [hol]
        refine hr.congr fun j hj => ?_
        unfold outF
        rw [if_pos (by omega), List.drop_zero, List.drop_zero, ← hO, Nat.sub_zero])
      rw [hol] at hcv
      have HO : Hid (O = (comb (· + ·) A.data.toList B.data.toList).1) := hO
      clear hr hO ho
      by_cases hov : overF (· + ·) A B 0 = 0
      · rw [hov] at ho0
        have HV : Hid (overF (· + ·) A B 0 = 0) := hov
        clear hov
        go_wp2_with fail
        refine (trim_any _ _).mono ?_
        rintro e w7 ⟨rfl, rfl⟩
        go_wp2_with fail
        go_ret2
        refine ⟨?_, hB⟩
        obtain ⟨h1, h2⟩ := HE.out
        rw [if_pos HV.out] at h1 h2
        rw [h1, h2, ← HO.out]
        rfl
      · obtain ⟨h1, h2⟩ := HE.out
        rw [if_neg hov] at h1 h2
        generalize hoc : overF (· + ·) A B 0 = oc at *
        subst h1 h2
        clear HE
        go_wp2_with fail
        go_ret2
        refine ⟨?_, hB⟩
        rfl
theorem sadd_any (x y : ByteArray) (w : World) :
    Calls Tryd.prog 12 #[.string x, .string y] w fun e w' => e = .returned (.tuple #[.string ⟨(addS x.data.toList y.data.toList).toArray⟩, .int .i64 (addE x.data.toList y.data.toList)]) ∧ Below w.heap.size w w' := by
  have h := combineAdd x y w
  rw [(comb_is_add _ _).1, (comb_is_add _ _).2] at h
  go_enter Tryd.func12, Tryd.ntmps12
  go_wp2_with fail
  refine h.mono ?_
  rintro e w1 ⟨rfl, hB⟩
  go_wp2_with fail
  go_ret2
  exact ⟨rfl, hB⟩

set_option maxRecDepth 8000 in
set_option maxHeartbeats 4000000 in
theorem combineSub (x y : ByteArray) (w : World) :
    Calls Tryd.prog 32 #[.string x, .string y, .func (.func 34) #[] #[]] w fun e w' => e = .returned (.tuple #[.string ⟨(combS (· - ·) x.data.toList y.data.toList).toArray⟩, .int .i64 (combE (· - ·) x.data.toList y.data.toList)]) ∧ Below w.heap.size w w' := by
  by_cases hx : rightN x.data.toList = true
  case neg =>
    have hx' : rightN x.data.toList = false := by simpa using hx
    have hE : combE (· - ·) x.data.toList y.data.toList = 1 := by unfold combE; rw [if_neg (fun h => hx h.1)]
    have hS : combS (· - ·) x.data.toList y.data.toList = [] := by unfold combS; rw [hE]; rfl
    rw [hE, hS]
    clear hE hS hx
    go_enter Tryd.func32, Tryd.ntmps32
    go_wp2_with fail
    refine (sright_any x _).mono ?_
    rintro e w1 ⟨rfl, rfl⟩
    rw [hx']
    go_wp2_with fail
    go_ret2
    exact ⟨rfl, Below.refl _ _⟩
  by_cases hy : rightN y.data.toList = true
  case neg =>
    have hy' : rightN y.data.toList = false := by simpa using hy
    have hE : combE (· - ·) x.data.toList y.data.toList = 1 := by unfold combE; rw [if_neg (fun h => hy h.2)]
    have hS : combS (· - ·) x.data.toList y.data.toList = [] := by unfold combS; rw [hE]; rfl
    rw [hE, hS]
    clear hE hS hy
    go_enter Tryd.func32, Tryd.ntmps32
    go_wp2_with fail
    refine (sright_any x _).mono ?_
    rintro e w1 ⟨rfl, rfl⟩
    rw [hx]
    go_wp2_with fail
    refine (sright_any y _).mono ?_
    rintro e w1 ⟨rfl, rfl⟩
    rw [hy']
    go_wp2_with fail
    go_ret2
    exact ⟨rfl, Below.refl _ _⟩
  obtain ⟨A, hA⟩ : ∃ A : ByteArray, A = ⟨(wideL x.data.toList).toArray⟩ := ⟨_, rfl⟩
  obtain ⟨B, hB⟩ : ∃ B : ByteArray, B = ⟨(wideL y.data.toList).toArray⟩ := ⟨_, rfl⟩
  have hAl : A.data.toList = wideL x.data.toList := by rw [hA]
  have hBl : B.data.toList = wideL y.data.toList := by rw [hB]
  have hAs : A.size = 32 := by rw [← sizeB, hAl, right_wide hx]
  have hBs : B.size = 32 := by rw [← sizeB, hBl, right_wide hy]
  have hE : combE (· - ·) x.data.toList y.data.toList = if overF (· - ·) A B 0 = 0 then 0 else 11 := by unfold combE overF; rw [if_pos ⟨hx, hy⟩, hAl, hBl, List.drop_zero, List.drop_zero]
  have hS : combS (· - ·) x.data.toList y.data.toList = if overF (· - ·) A B 0 = 0 then trimL (comb (· - ·) A.data.toList B.data.toList).1 else [] := by
    unfold combS
    rw [hE, hAl, hBl]
    by_cases q : overF (· - ·) A B 0 = 0
    · rw [if_pos q, if_pos q, if_pos rfl]
    · rw [if_neg q, if_neg q, if_neg (by decide)]
  obtain ⟨E, hEE⟩ : ∃ E, combE (· - ·) x.data.toList y.data.toList = E := ⟨_, rfl⟩
  obtain ⟨S, hSS⟩ : ∃ S, combS (· - ·) x.data.toList y.data.toList = S := ⟨_, rfl⟩
  rw [hEE] at hE ⊢
  rw [hSS] at hS ⊢
  have HE : Hid ((E = if overF (· - ·) A B 0 = 0 then 0 else 11) ∧ S = if overF (· - ·) A B 0 = 0 then trimL (comb (· - ·) A.data.toList B.data.toList).1 else []) := ⟨hE, hS⟩
  have hol : (comb (· - ·) A.data.toList B.data.toList).1.length = 32 := by rw [comb_len _ _ _ (by rw [sizeB, sizeB, hAs, hBs]), sizeB, hAs]
  have HX : Hid (rightN x.data.toList = true ∧ wideS x.data.toList = wideL x.data.toList ∧ wideE x.data.toList = 0) := ⟨hx, (wide_right hx).1, (wide_right hx).2⟩
  have HY : Hid (rightN y.data.toList = true ∧ wideS y.data.toList = wideL y.data.toList ∧ wideE y.data.toList = 0) := ⟨hy, (wide_right hy).1, (wide_right hy).2⟩
  have HA : Hid (A = ⟨(wideL x.data.toList).toArray⟩ ∧ B = ⟨(wideL y.data.toList).toArray⟩) := ⟨hA, hB⟩
  clear hE hS hEE hSS hAl hBl hA hB hx hy
  go_enter Tryd.func32, Tryd.ntmps32
  go_wp2_with fail
  refine (sright_any x _).mono ?_
  rintro e w1 ⟨rfl, rfl⟩
  rw [HX.out.1]
  go_wp2_with fail
  refine (sright_any y _).mono ?_
  rintro e w1 ⟨rfl, rfl⟩
  rw [HY.out.1]
  go_wp2_with fail
  refine (wide_any x _).mono ?_
  rintro e w2 ⟨rfl, hB2⟩
  rw [HX.out.2.1, HX.out.2.2, ← HA.out.1]
  go_wp2_with fail
  refine (wide_any y _).mono ?_
  rintro e w3 ⟨rfl, hB3⟩
  rw [HY.out.2.1, HY.out.2.2, ← HA.out.2]
  replace hB3 := hB2.trans (hB3.mono hB2.size)
  clear hB2
  go_wp2_with fail
  obtain ⟨bo, hbo⟩ : ∃ bo, bo = w3.heap.size := ⟨_, rfl⟩
  have hr1 : (w3.alloc (.cells #[.int .i64 0] 3)).rowIs bo 3 1 (fun _ => .int .i64 0) := hbo ▸ one_row _
  have hz : (w3.alloc (.cells #[.int .i64 0] 3)).heap.size = bo + 1 := by rw [World.size_alloc, hbo]
  have hr2 := zeros_row (w := w3.alloc (.cells #[.int .i64 0] 3)) (t := 34) _ 32 (by rfl) (show (#[.int .u8 0, .int .u8 0, .int .u8 0, .int .u8 0, .int .u8 0, .int .u8 0, .int .u8 0, .int .u8 0, .int .u8 0, .int .u8 0, .int .u8 0, .int .u8 0, .int .u8 0, .int .u8 0, .int .u8 0, .int .u8 0, .int .u8 0, .int .u8 0, .int .u8 0, .int .u8 0, .int .u8 0, .int .u8 0, .int .u8 0, .int .u8 0, .int .u8 0, .int .u8 0, .int .u8 0, .int .u8 0, .int .u8 0, .int .u8 0, .int .u8 0, .int .u8 0] : Array Value) = Array.replicate 32 (.int .u8 0) from by rfl)
  rw [hz] at hr2
  have hr3 := hr1.alloc (.cells #[.int .u8 0, .int .u8 0, .int .u8 0, .int .u8 0, .int .u8 0, .int .u8 0, .int .u8 0, .int .u8 0, .int .u8 0, .int .u8 0, .int .u8 0, .int .u8 0, .int .u8 0, .int .u8 0, .int .u8 0, .int .u8 0, .int .u8 0, .int .u8 0, .int .u8 0, .int .u8 0, .int .u8 0, .int .u8 0, .int .u8 0, .int .u8 0, .int .u8 0, .int .u8 0, .int .u8 0, .int .u8 0, .int .u8 0, .int .u8 0, .int .u8 0, .int .u8 0] 34)
  have hB4 : Below w1.heap.size w1 ((w3.alloc (.cells #[.int .i64 0] 3)).alloc (.cells #[.int .u8 0, .int .u8 0, .int .u8 0, .int .u8 0, .int .u8 0, .int .u8 0, .int .u8 0, .int .u8 0, .int .u8 0, .int .u8 0, .int .u8 0, .int .u8 0, .int .u8 0, .int .u8 0, .int .u8 0, .int .u8 0, .int .u8 0, .int .u8 0, .int .u8 0, .int .u8 0, .int .u8 0, .int .u8 0, .int .u8 0, .int .u8 0, .int .u8 0, .int .u8 0, .int .u8 0, .int .u8 0, .int .u8 0, .int .u8 0, .int .u8 0, .int .u8 0] 34)) := (hB3.alloc hB3.size _).alloc (by rw [hz]; have := hB3.size; omega) _
  have hle : w1.heap.size ≤ bo := hbo ▸ hB3.size
  rw [← hbo]
  generalize (w3.alloc (.cells #[.int .i64 0] 3)).alloc (.cells #[.int .u8 0, .int .u8 0, .int .u8 0, .int .u8 0, .int .u8 0, .int .u8 0, .int .u8 0, .int .u8 0, .int .u8 0, .int .u8 0, .int .u8 0, .int .u8 0, .int .u8 0, .int .u8 0, .int .u8 0, .int .u8 0, .int .u8 0, .int .u8 0, .int .u8 0, .int .u8 0, .int .u8 0, .int .u8 0, .int .u8 0, .int .u8 0, .int .u8 0, .int .u8 0, .int .u8 0, .int .u8 0, .int .u8 0, .int .u8 0, .int .u8 0, .int .u8 0] 34) = w4 at hr2 hr3 hB4 ⊢
  clear hr1 hz hB3 hbo
  go_loopw [32] (fun z wr => ∃ i : Nat, i ≤ 32 ∧ z = .int .i64 i ∧ Below w1.heap.size w1 wr ∧ wr.rowIs bo 3 1 (fun _ => .int .i64 (overF (· - ·) A B (32 - i))) ∧ wr.rowIs (bo + 1) 34 32 (outF (· - ·) A B (32 - i))) (fun z _ => 32 - (intOf z).toNat)
  case atStart =>
    refine ⟨0, by omega, rfl, hB4, hr3.congr fun i _ => ?_, hr2.congr fun i hi => ?_⟩
    · unfold overF; rw [List.drop_of_length_le (by rw [sizeB]; omega)]; rfl
    · unfold outF; rw [if_neg (by omega)]
  case round =>
    obtain ⟨i, hi, rfl, hB, ho, hr⟩ := hrel
    clear hr2 hr3 hB4
    by_cases hlt : i < 32
    · have hii : (i : Int) < 32 := by omega
      have hi0 : (0 : Int) ≤ i := by omega
      obtain ⟨m, hm⟩ : ∃ m, m = 31 - i := ⟨_, rfl⟩
      have hmi : (31 : Int) - i = (m : Int) := by omega
      have hmA : (m : Int) < A.size := by omega
      have hmB : (m : Int) < B.size := by omega
      have hm0 : (0 : Int) ≤ m := by omega
      have hm32 : (m : Int) < 32 := by omega
      have hmA' : m < A.size := by omega
      have hmB' : m < B.size := by omega
      rw [show 32 - i = m + 1 by omega] at ho hr
      obtain ⟨oc, hoc⟩ : ∃ oc, overF (· - ·) A B (m + 1) = oc := ⟨_, rfl⟩
      have hsm := overF_small calm_sub A B (m + 1)
      have hst := outF_step (· - ·) A B m
      have hso := overF_step (· - ·) A B m hmA' hmB'
      rw [hoc] at ho hsm hst hso
      have hcx := byte_le A[m]
      have hcy := byte_le B[m]
      have HM : Hid (m = 31 - i) := hm
      have HR : Hid (wr.rowIs (bo + 1) 34 32 (outF (· - ·) A B (m + 1))) := hr
      have HO : Hid (wr.rowIs bo 3 1 (fun _ => .int .i64 oc)) := ho
      have HST : Hid (∀ j, (hA : m < A.size) → (hB : m < B.size) → (if j = m then Value.int .u8 (((A[m]).toNat - (B[m]).toNat + oc) % 256) else outF (· - ·) A B (m + 1) j) = outF (· - ·) A B m j) := hst
      have HSO : Hid (((A[m]).toNat - (B[m]).toNat + oc) / 256 = overF (· - ·) A B m) := hso
      clear hm hr ho hst hso hoc
      go_wp2_with fail
      refine wp_region_ptail 11 mixedP (by kernel_rfl) (by decide) (by kernel_rfl) (by kernel_rfl) (fun _ _ _ d _ h => by cases d <;> exact h) ?_
      simp only [List.take_succ_cons, List.take_zero, List.drop_succ_cons, List.drop_zero]
      repeat (go_big_quiet_step (fail))
      refine wpQuiet_nil ?_
      go_wp2_with fail
      refine (subOf_any _ _ _ hcx hcy).mono ?_
      rintro e w5 ⟨rfl, rfl⟩
      have hv1 : -1000 ≤ ((A[m]).toNat : Int) - (B[m]).toNat := by omega
      have hv2 : ((A[m]).toNat : Int) - (B[m]).toNat ≤ 1000 := by omega
      go_wp2_with fail
      refine (carry_any _ oc bo _ HO.out.drew hv1 hv2 hsm.1 hsm.2).mono ?_
      rintro e w6 ⟨rfl, rfl⟩
      have hne : bo + 1 ≠ (⟨bo, 0, none⟩ : Addr).block := by show bo + 1 ≠ bo; omega
      have hq3 : wr.cell? ⟨bo + 1, m, none⟩ = some (.int .u8 0) := by have := HR.out.cell (i := m) (by omega); unfold outF at this; rwa [if_neg (by omega)] at this
      have hq4 := HR.out.frozen m
      go_wp2_with fail
      go_roundw
      case rel =>
        have hm := HM.out
        refine ⟨i + 1, by omega, rfl, (hB.drew.setCell (by show _ ≤ bo; omega) _).setCell (by show _ ≤ bo + 1; omega) _, ?_, ?_⟩
        · rw [show 32 - (i + 1) = m by omega]
          refine ((HO.out.drew.set 0 _).setOther (a := ⟨bo + 1, m, none⟩) (by show bo ≠ bo + 1; omega) _).congr fun j hj => ?_
          rw [if_pos (by omega), HSO.out]
        · rw [show 32 - (i + 1) = m by omega]
          refine ((HR.out.drew.setOther (a := ⟨bo, 0, none⟩) hne _).set m _).congr fun j hj => HST.out j hmA' hmB'
      case measure => simp [intOf]; omega
    · have hii : ¬ (i : Int) < 32 := by omega
      have hik : i = 32 := by omega
      subst hik
      rw [show 32 - 32 = 0 from rfl] at ho hr
      have ho0 := ho.cell (i := 0) (by omega)
      obtain ⟨O, hO⟩ : ∃ O, O = (comb (· - ·) A.data.toList B.data.toList).1 := ⟨_, rfl⟩
      rw [← hO] at hol
      have hcv := convert_arr (l := O) (cap := 32) (w := wr) (b := bo + 1) (t := 34) (by
        rw [hol]
        refine hr.congr fun j hj => ?_
        unfold outF
        rw [if_pos (by omega), List.drop_zero, List.drop_zero, ← hO, Nat.sub_zero])
      rw [hol] at hcv
      have HO : Hid (O = (comb (· - ·) A.data.toList B.data.toList).1) := hO
      clear hr hO ho
      by_cases hov : overF (· - ·) A B 0 = 0
      · rw [hov] at ho0
        have HV : Hid (overF (· - ·) A B 0 = 0) := hov
        clear hov
        go_wp2_with fail
        refine (trim_any _ _).mono ?_
        rintro e w7 ⟨rfl, rfl⟩
        go_wp2_with fail
        go_ret2
        refine ⟨?_, hB⟩
        obtain ⟨h1, h2⟩ := HE.out
        rw [if_pos HV.out] at h1 h2
        rw [h1, h2, ← HO.out]
        rfl
      · obtain ⟨h1, h2⟩ := HE.out
        rw [if_neg hov] at h1 h2
        generalize hoc : overF (· - ·) A B 0 = oc at *
        subst h1 h2
        clear HE
        go_wp2_with fail
        go_ret2
        refine ⟨?_, hB⟩
        rfl
theorem ssub_any (x y : ByteArray) (w : World) :
    Calls Tryd.prog 14 #[.string x, .string y] w fun e w' => e = .returned (.tuple #[.string ⟨(subS x.data.toList y.data.toList).toArray⟩, .int .i64 (subE x.data.toList y.data.toList)]) ∧ Below w.heap.size w w' := by
  have h := combineSub x y w
  rw [(comb_is_sub _ _).1, (comb_is_sub _ _).2] at h
  go_enter Tryd.func14, Tryd.ntmps14
  go_wp2_with fail
  refine h.mono ?_
  rintro e w1 ⟨rfl, hB⟩
  go_wp2_with fail
  go_ret2
  exact ⟨rfl, hB⟩

end Go.Proofs.YtamijfdhaahalaaDoor
