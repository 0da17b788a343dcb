/-
  NibbleBack walked.
-/
import Derived.Test.YtkkjkanlaldhcaaUnpacksWalk
namespace Go.Proofs.Ytkkjkanlaldhcaa
open Go Go.RowKit

def BackGoal (s t : ByteArray) (x y : Bool) (w : World) : Prop :=
    Calls Try.prog 4 #[.string s, .string t, .agg #[.bool x, .bool y]] w fun e w' => e = .returned (.bool true) ∧ Below w.heap.size w w'

set_option maxRecDepth 8000 in
theorem back_long_s (s t : ByteArray) (x y : Bool) (w : World) (h1 : 3000 < s.size) : BackGoal s t x y w := by
  unfold BackGoal
  have h1i : (3000 : Int) < s.size := by omega
  go_enter Try.func4, Try.ntmps4
  go_wp2_with fail
  refine (awake_any _).mono ?_
  rintro e v1 ⟨rfl, hB1⟩
  go_wp2_with fail
  go_ret
  exact ⟨rfl, ((Below.refl _ _).alloc (Nat.le_refl _) _).trans (hB1.mono (by rw [World.size_alloc]; omega))⟩

set_option maxRecDepth 8000 in
theorem back_long_t (s t : ByteArray) (x y : Bool) (w : World) (h1 : ¬ 3000 < s.size) (h2 : 3000 < t.size) : BackGoal s t x y w := by
  unfold BackGoal
  have h1i : ¬ (3000 : Int) < s.size := by omega
  have h2i : (3000 : Int) < t.size := by omega
  go_enter Try.func4, Try.ntmps4
  go_wp2_with fail
  refine (awake_any _).mono ?_
  rintro e v1 ⟨rfl, hB1⟩
  go_wp2_with fail
  go_ret
  exact ⟨rfl, ((Below.refl _ _).alloc (Nat.le_refl _) _).trans (hB1.mono (by rw [World.size_alloc]; omega))⟩

/-- A row is packed and read again. -/
def Packs (C P : ByteArray) (y : Bool) : Prop :=
  pckS C.data.toList y = P ∧ pckE C.data.toList = 0 ∧ unpS P.data.toList = C ∧ unpB P.data.toList = y ∧ unpE P.data.toList = 0
theorem packs_ex (C : ByteArray) (y : Bool) (hr : rightL C.data.toList = true) (hs : C.size ≤ 6000) : ∃ P, Packs C P y ∧ P.size ≤ 6001 := by
  refine ⟨pckS C.data.toList y, ⟨rfl, ?_, ?_, ?_, ?_⟩, ?_⟩
  · unfold pckE; rw [hr]; rfl
  all_goals (have e : pckS C.data.toList y = ⟨(pck C.data.toList y).toArray⟩ := by unfold pckS; rw [hr]; rfl)
  all_goals rw [e]
  · unfold unpS; rw [show (⟨(pck C.data.toList y).toArray⟩ : ByteArray).data.toList = pck C.data.toList y from rfl, unp_pck _ _ hr]; exact eq_mk C _ rfl
  · unfold unpB; rw [show (⟨(pck C.data.toList y).toArray⟩ : ByteArray).data.toList = pck C.data.toList y from rfl, unp_pck _ _ hr]; rfl
  · unfold unpE; rw [show (⟨(pck C.data.toList y).toArray⟩ : ByteArray).data.toList = pck C.data.toList y from rfl, unp_pck _ _ hr]; rfl
  · show (pck C.data.toList y).toArray.size ≤ 6001
    rw [List.size_toArray]
    by_cases q : C.data.toList.length % 2 = 1
    · rw [pck_odd _ _ q, List.length_cons, whL_len, List.length_drop, sizeB]; omega
    · rw [pck_even _ _ (by omega), List.length_cons, whL_len, sizeB]; omega
theorem packs_inj {A C P : ByteArray} {x y : Bool} (h1 : Packs A P x) (h2 : Packs C P y) : A = C ∧ x = y := by
  obtain ⟨_, _, a1, a2, _⟩ := h1
  obtain ⟨_, _, b1, b2, _⟩ := h2
  exact ⟨a1.symm.trans b1, a2.symm.trans b2⟩

set_option maxRecDepth 8000 in
set_option maxHeartbeats 4000000 in
theorem back_z_eq (s t : ByteArray) (x y : Bool) (w : World) (h1 : ¬ 3000 < s.size) (h2 : ¬ 3000 < t.size) (A D C P Q : ByteArray) (hA : A = ⟨(hal s.data.toList).toArray⟩) (hD : D = ⟨(hal t.data.toList).toArray⟩) (hz : D.size = 0 ∧ C = D)
    (hP : Packs A P x) (hQ : Packs C Q y) (hPs : P.size ≤ 6001) (hQs : Q.size ≤ 6001) (hne : P = Q) : BackGoal s t x y w := by
  unfold BackGoal
  have h1i : ¬ (3000 : Int) < s.size := by omega
  have h2i : ¬ (3000 : Int) < t.size := by omega
  have hAl : A.data.toList = hal s.data.toList := by rw [hA]
  have hAr : rightL A.data.toList = true := by rw [hAl]; exact right_hal _
  have hAs : A.size = 2 * s.size := by rw [← sizeB, hAl, hal_len, sizeB]
  have hAi : (A.size : Int) = 2 * s.size := by omega
  have hb1 : bytS A.data.toList = s := by
    rw [bytS_ok _ hAr (by rw [sizeB]; omega), hAl, whL_hal]
  have hb2 : bytB A.data.toList = true := by unfold bytB; rw [hAr, sizeB, hAs] <;> simp
  have hDs : D.size ≤ 6000 := by rw [← sizeB, hD, hal_len, sizeB]; omega
  have EA : Hid (⟨(hal s.data.toList).toArray⟩ = A) := hA.symm
  have ED : Hid (⟨(hal t.data.toList).toArray⟩ = D) := hD.symm
  have EB : Hid (bytS A.data.toList = s ∧ bytB A.data.toList = true ∧ rightL A.data.toList = true) := ⟨hb1, hb2, hAr⟩
  subst hne
  obtain ⟨rfl, rfl⟩ := packs_inj hP hQ
  have EP : Hid (Packs A P x) := hP
  have EQ : Hid (Packs A P x) := hQ
  clear hA hD hAl hAr hb1 hb2 hP hQ
  have hAs2 : A.size ≤ 6000 := by omega
  obtain ⟨hz0, hCD⟩ := hz
  have hzi : (D.size : Int) = 0 := by omega
  subst hCD
  go_enter Try.func4, Try.ntmps4
  go_wp2_with fail
  have hcc := cells2 w (.bool x) (.bool x) 35
  have hB0 : Below w.heap.size w (w.alloc (.cells #[.bool x, .bool x] 35)) := (Below.refl _ _).alloc (Nat.le_refl _) _
  have hlt0 : w.heap.size < (w.alloc (.cells #[.bool x, .bool x] 35)).heap.size := by rw [World.size_alloc]; omega
  obtain ⟨b, hb⟩ : ∃ b, b = w.heap.size := ⟨_, rfl⟩
  rw [← hb] at hcc hlt0
  rw [← hb]
  refine (awake_any _).mono ?_
  generalize hw1 : w.alloc (.cells #[.bool x, .bool x] 35) = w1 at *
  have HC : Hid (w1.cell? ⟨b, 0, none⟩ = some (.bool x) ∧ w1.cell? ⟨b, 1, none⟩ = some (.bool x) ∧ b < w1.heap.size ∧ Below w.heap.size w w1) := ⟨hcc.1, hcc.2, hlt0, hB0⟩
  clear hw1 hcc hB0 hlt0 hb
  rintro e v1 ⟨rfl, HB⟩
  go_wp2_with fail
  refine (of_any s _ (by omega)).mono ?_
  rintro e vv ⟨rfl, h⟩
  replace HB := HB.trans (h.mono HB.size)
  clear h
  rw [EA.out]
  go_wp2_with fail
  refine (bytes_any A _ (by omega)).mono ?_
  rintro e vv ⟨rfl, h⟩
  replace HB := HB.trans (h.mono HB.size)
  clear h
  rw [EB.out.1, EB.out.2.1]
  go_wp2_with fail
  refine (right_any A _ (by omega)).mono ?_
  rintro e vv ⟨rfl, rfl⟩
  rw [EB.out.2.2]
  go_wp2_with fail
  refine (of_any t _ (by omega)).mono ?_
  rintro e vv ⟨rfl, h⟩
  replace HB := HB.trans (h.mono HB.size)
  clear h
  rw [ED.out]
  have c0 : vv.cell? ⟨b, 0, none⟩ = some (.bool x) := by rw [HB.cell (p := ⟨b, 0, none⟩) HC.out.2.2.1]; exact HC.out.1
  go_wp2_with fail
  clear c0
  refine (pack_any A x _ (by omega)).mono ?_
  rintro e vv ⟨rfl, h⟩
  replace HB := HB.trans (h.mono HB.size)
  clear h
  rw [EP.out.1, EP.out.2.1]
  have c1 : vv.cell? ⟨b, 1, none⟩ = some (.bool x) := by rw [HB.cell (p := ⟨b, 1, none⟩) HC.out.2.2.1]; exact HC.out.2.1
  go_wp2_with fail
  clear c1
  refine (pack_any A x _ (by omega)).mono ?_
  rintro e vv ⟨rfl, h⟩
  replace HB := HB.trans (h.mono HB.size)
  clear h
  rw [EQ.out.1, EQ.out.2.1]
  go_wp2_with fail
  refine (unpack_any P _ (by omega)).mono ?_
  rintro e vv ⟨rfl, h⟩
  replace HB := HB.trans (h.mono HB.size)
  clear h
  rw [EP.out.2.2.1, EP.out.2.2.2.1, EP.out.2.2.2.2]
  go_wp2_with fail
  refine (unpack_any P _ (by omega)).mono ?_
  rintro e vv ⟨rfl, h⟩
  replace HB := HB.trans (h.mono HB.size)
  clear h
  rw [EQ.out.2.2.1, EQ.out.2.2.2.1, EQ.out.2.2.2.2]
  have c0 : vv.cell? ⟨b, 0, none⟩ = some (.bool x) := by rw [HB.cell (p := ⟨b, 0, none⟩) HC.out.2.2.1]; exact HC.out.1
  have c1 : vv.cell? ⟨b, 1, none⟩ = some (.bool x) := by rw [HB.cell (p := ⟨b, 1, none⟩) HC.out.2.2.1]; exact HC.out.2.1
  go_wp2_with fail
  go_ret
  exact ⟨by simp, HC.out.2.2.2.trans (HB.mono HC.out.2.2.2.size)⟩

set_option maxRecDepth 8000 in
set_option maxHeartbeats 4000000 in
theorem back_z_ne (s t : ByteArray) (x y : Bool) (w : World) (h1 : ¬ 3000 < s.size) (h2 : ¬ 3000 < t.size) (A D C P Q : ByteArray) (hA : A = ⟨(hal s.data.toList).toArray⟩) (hD : D = ⟨(hal t.data.toList).toArray⟩) (hz : D.size = 0 ∧ C = D)
    (hP : Packs A P x) (hQ : Packs C Q y) (hPs : P.size ≤ 6001) (hQs : Q.size ≤ 6001) (hne : ¬ P = Q) : BackGoal s t x y w := by
  unfold BackGoal
  have h1i : ¬ (3000 : Int) < s.size := by omega
  have h2i : ¬ (3000 : Int) < t.size := by omega
  have hAl : A.data.toList = hal s.data.toList := by rw [hA]
  have hAr : rightL A.data.toList = true := by rw [hAl]; exact right_hal _
  have hAs : A.size = 2 * s.size := by rw [← sizeB, hAl, hal_len, sizeB]
  have hAi : (A.size : Int) = 2 * s.size := by omega
  have hb1 : bytS A.data.toList = s := by
    rw [bytS_ok _ hAr (by rw [sizeB]; omega), hAl, whL_hal]
  have hb2 : bytB A.data.toList = true := by unfold bytB; rw [hAr, sizeB, hAs] <;> simp
  have hDs : D.size ≤ 6000 := by rw [← sizeB, hD, hal_len, sizeB]; omega
  have EA : Hid (⟨(hal s.data.toList).toArray⟩ = A) := hA.symm
  have ED : Hid (⟨(hal t.data.toList).toArray⟩ = D) := hD.symm
  have EB : Hid (bytS A.data.toList = s ∧ bytB A.data.toList = true ∧ rightL A.data.toList = true) := ⟨hb1, hb2, hAr⟩
  have hnq : (P.toList == Q.toList) = false := by
    rw [lb, lb]
    by_cases q : P.data.toList = Q.data.toList
    · exact absurd (by obtain ⟨p, rfl⟩ := exists_list P; obtain ⟨q2, rfl⟩ := exists_list Q; exact congrArg _ (congrArg _ q)) hne
    · simpa using q
  have EP : Hid (Packs A P x) := hP
  have EQ : Hid (Packs C Q y) := hQ
  clear hA hD hAl hAr hb1 hb2 hP hQ
  have hAs2 : A.size ≤ 6000 := by omega
  clear hne
  obtain ⟨hz0, hCD⟩ := hz
  have hzi : (D.size : Int) = 0 := by omega
  subst hCD
  go_enter Try.func4, Try.ntmps4
  go_wp2_with fail
  have hcc := cells2 w (.bool x) (.bool y) 35
  have hB0 : Below w.heap.size w (w.alloc (.cells #[.bool x, .bool y] 35)) := (Below.refl _ _).alloc (Nat.le_refl _) _
  have hlt0 : w.heap.size < (w.alloc (.cells #[.bool x, .bool y] 35)).heap.size := by rw [World.size_alloc]; omega
  obtain ⟨b, hb⟩ : ∃ b, b = w.heap.size := ⟨_, rfl⟩
  rw [← hb] at hcc hlt0
  rw [← hb]
  refine (awake_any _).mono ?_
  generalize hw1 : w.alloc (.cells #[.bool x, .bool y] 35) = w1 at *
  have HC : Hid (w1.cell? ⟨b, 0, none⟩ = some (.bool x) ∧ w1.cell? ⟨b, 1, none⟩ = some (.bool y) ∧ b < w1.heap.size ∧ Below w.heap.size w w1) := ⟨hcc.1, hcc.2, hlt0, hB0⟩
  clear hw1 hcc hB0 hlt0 hb
  rintro e v1 ⟨rfl, HB⟩
  go_wp2_with fail
  refine (of_any s _ (by omega)).mono ?_
  rintro e vv ⟨rfl, h⟩
  replace HB := HB.trans (h.mono HB.size)
  clear h
  rw [EA.out]
  go_wp2_with fail
  refine (bytes_any A _ (by omega)).mono ?_
  rintro e vv ⟨rfl, h⟩
  replace HB := HB.trans (h.mono HB.size)
  clear h
  rw [EB.out.1, EB.out.2.1]
  go_wp2_with fail
  refine (right_any A _ (by omega)).mono ?_
  rintro e vv ⟨rfl, rfl⟩
  rw [EB.out.2.2]
  go_wp2_with fail
  refine (of_any t _ (by omega)).mono ?_
  rintro e vv ⟨rfl, h⟩
  replace HB := HB.trans (h.mono HB.size)
  clear h
  rw [ED.out]
  have c0 : vv.cell? ⟨b, 0, none⟩ = some (.bool x) := by rw [HB.cell (p := ⟨b, 0, none⟩) HC.out.2.2.1]; exact HC.out.1
  go_wp2_with fail
  clear c0
  refine (pack_any A x _ (by omega)).mono ?_
  rintro e vv ⟨rfl, h⟩
  replace HB := HB.trans (h.mono HB.size)
  clear h
  rw [EP.out.1, EP.out.2.1]
  have c1 : vv.cell? ⟨b, 1, none⟩ = some (.bool y) := by rw [HB.cell (p := ⟨b, 1, none⟩) HC.out.2.2.1]; exact HC.out.2.1
  go_wp2_with fail
  clear c1
  refine (pack_any C y _ (by omega)).mono ?_
  rintro e vv ⟨rfl, h⟩
  replace HB := HB.trans (h.mono HB.size)
  clear h
  rw [EQ.out.1, EQ.out.2.1]
  go_wp2_with fail
  refine (unpack_any P _ (by omega)).mono ?_
  rintro e vv ⟨rfl, h⟩
  replace HB := HB.trans (h.mono HB.size)
  clear h
  rw [EP.out.2.2.1, EP.out.2.2.2.1, EP.out.2.2.2.2]
  go_wp2_with fail
  refine (unpack_any Q _ (by omega)).mono ?_
  rintro e vv ⟨rfl, h⟩
  replace HB := HB.trans (h.mono HB.size)
  clear h
  rw [EQ.out.2.2.1, EQ.out.2.2.2.1, EQ.out.2.2.2.2]
  have c0 : vv.cell? ⟨b, 0, none⟩ = some (.bool x) := by rw [HB.cell (p := ⟨b, 0, none⟩) HC.out.2.2.1]; exact HC.out.1
  have c1 : vv.cell? ⟨b, 1, none⟩ = some (.bool y) := by rw [HB.cell (p := ⟨b, 1, none⟩) HC.out.2.2.1]; exact HC.out.2.1
  go_wp2_with fail
  go_ret
  exact ⟨by simp, HC.out.2.2.2.trans (HB.mono HC.out.2.2.2.size)⟩

set_option maxRecDepth 8000 in
set_option maxHeartbeats 4000000 in
theorem back_n_eq (s t : ByteArray) (x y : Bool) (w : World) (h1 : ¬ 3000 < s.size) (h2 : ¬ 3000 < t.size) (A D C P Q : ByteArray) (hA : A = ⟨(hal s.data.toList).toArray⟩) (hD : D = ⟨(hal t.data.toList).toArray⟩) (hz : 0 < D.size ∧ D.extract 1 D.size = C)
    (hP : Packs A P x) (hQ : Packs C Q y) (hPs : P.size ≤ 6001) (hQs : Q.size ≤ 6001) (hne : P = Q) : BackGoal s t x y w := by
  unfold BackGoal
  have h1i : ¬ (3000 : Int) < s.size := by omega
  have h2i : ¬ (3000 : Int) < t.size := by omega
  have hAl : A.data.toList = hal s.data.toList := by rw [hA]
  have hAr : rightL A.data.toList = true := by rw [hAl]; exact right_hal _
  have hAs : A.size = 2 * s.size := by rw [← sizeB, hAl, hal_len, sizeB]
  have hAi : (A.size : Int) = 2 * s.size := by omega
  have hb1 : bytS A.data.toList = s := by
    rw [bytS_ok _ hAr (by rw [sizeB]; omega), hAl, whL_hal]
  have hb2 : bytB A.data.toList = true := by unfold bytB; rw [hAr, sizeB, hAs] <;> simp
  have hDs : D.size ≤ 6000 := by rw [← sizeB, hD, hal_len, sizeB]; omega
  have EA : Hid (⟨(hal s.data.toList).toArray⟩ = A) := hA.symm
  have ED : Hid (⟨(hal t.data.toList).toArray⟩ = D) := hD.symm
  have EB : Hid (bytS A.data.toList = s ∧ bytB A.data.toList = true ∧ rightL A.data.toList = true) := ⟨hb1, hb2, hAr⟩
  subst hne
  obtain ⟨rfl, rfl⟩ := packs_inj hP hQ
  have EP : Hid (Packs A P x) := hP
  have EQ : Hid (Packs A P x) := hQ
  clear hA hD hAl hAr hb1 hb2 hP hQ
  have hAs2 : A.size ≤ 6000 := by omega
  obtain ⟨hz0, hCD⟩ := hz
  have hzi : (0 : Int) < D.size := by omega
  have hzi1 : (1 : Int) ≤ D.size := by omega
  go_enter Try.func4, Try.ntmps4
  go_wp2_with fail
  have hcc := cells2 w (.bool x) (.bool x) 35
  have hB0 : Below w.heap.size w (w.alloc (.cells #[.bool x, .bool x] 35)) := (Below.refl _ _).alloc (Nat.le_refl _) _
  have hlt0 : w.heap.size < (w.alloc (.cells #[.bool x, .bool x] 35)).heap.size := by rw [World.size_alloc]; omega
  obtain ⟨b, hb⟩ : ∃ b, b = w.heap.size := ⟨_, rfl⟩
  rw [← hb] at hcc hlt0
  rw [← hb]
  refine (awake_any _).mono ?_
  generalize hw1 : w.alloc (.cells #[.bool x, .bool x] 35) = w1 at *
  have HC : Hid (w1.cell? ⟨b, 0, none⟩ = some (.bool x) ∧ w1.cell? ⟨b, 1, none⟩ = some (.bool x) ∧ b < w1.heap.size ∧ Below w.heap.size w w1) := ⟨hcc.1, hcc.2, hlt0, hB0⟩
  clear hw1 hcc hB0 hlt0 hb
  rintro e v1 ⟨rfl, HB⟩
  go_wp2_with fail
  refine (of_any s _ (by omega)).mono ?_
  rintro e vv ⟨rfl, h⟩
  replace HB := HB.trans (h.mono HB.size)
  clear h
  rw [EA.out]
  go_wp2_with fail
  refine (bytes_any A _ (by omega)).mono ?_
  rintro e vv ⟨rfl, h⟩
  replace HB := HB.trans (h.mono HB.size)
  clear h
  rw [EB.out.1, EB.out.2.1]
  go_wp2_with fail
  refine (right_any A _ (by omega)).mono ?_
  rintro e vv ⟨rfl, rfl⟩
  rw [EB.out.2.2]
  go_wp2_with fail
  refine (of_any t _ (by omega)).mono ?_
  rintro e vv ⟨rfl, h⟩
  replace HB := HB.trans (h.mono HB.size)
  clear h
  rw [ED.out]
  have c0 : vv.cell? ⟨b, 0, none⟩ = some (.bool x) := by rw [HB.cell (p := ⟨b, 0, none⟩) HC.out.2.2.1]; exact HC.out.1
  go_wp2_with fail
  clear c0
  refine (pack_any A x _ (by omega)).mono ?_
  rintro e vv ⟨rfl, h⟩
  replace HB := HB.trans (h.mono HB.size)
  clear h
  rw [EP.out.1, EP.out.2.1]
  have c1 : vv.cell? ⟨b, 1, none⟩ = some (.bool x) := by rw [HB.cell (p := ⟨b, 1, none⟩) HC.out.2.2.1]; exact HC.out.2.1
  go_wp2_with fail
  clear c1
  refine (pack_any A x _ (by omega)).mono ?_
  rintro e vv ⟨rfl, h⟩
  replace HB := HB.trans (h.mono HB.size)
  clear h
  rw [EQ.out.1, EQ.out.2.1]
  go_wp2_with fail
  refine (unpack_any P _ (by omega)).mono ?_
  rintro e vv ⟨rfl, h⟩
  replace HB := HB.trans (h.mono HB.size)
  clear h
  rw [EP.out.2.2.1, EP.out.2.2.2.1, EP.out.2.2.2.2]
  go_wp2_with fail
  refine (unpack_any P _ (by omega)).mono ?_
  rintro e vv ⟨rfl, h⟩
  replace HB := HB.trans (h.mono HB.size)
  clear h
  rw [EQ.out.2.2.1, EQ.out.2.2.2.1, EQ.out.2.2.2.2]
  have c0 : vv.cell? ⟨b, 0, none⟩ = some (.bool x) := by rw [HB.cell (p := ⟨b, 0, none⟩) HC.out.2.2.1]; exact HC.out.1
  have c1 : vv.cell? ⟨b, 1, none⟩ = some (.bool x) := by rw [HB.cell (p := ⟨b, 1, none⟩) HC.out.2.2.1]; exact HC.out.2.1
  go_wp2_with fail
  go_ret
  exact ⟨by simp, HC.out.2.2.2.trans (HB.mono HC.out.2.2.2.size)⟩

set_option maxRecDepth 8000 in
set_option maxHeartbeats 4000000 in
theorem back_n_ne (s t : ByteArray) (x y : Bool) (w : World) (h1 : ¬ 3000 < s.size) (h2 : ¬ 3000 < t.size) (A D C P Q : ByteArray) (hA : A = ⟨(hal s.data.toList).toArray⟩) (hD : D = ⟨(hal t.data.toList).toArray⟩) (hz : 0 < D.size ∧ D.extract 1 D.size = C)
    (hP : Packs A P x) (hQ : Packs C Q y) (hPs : P.size ≤ 6001) (hQs : Q.size ≤ 6001) (hne : ¬ P = Q) : BackGoal s t x y w := by
  unfold BackGoal
  have h1i : ¬ (3000 : Int) < s.size := by omega
  have h2i : ¬ (3000 : Int) < t.size := by omega
  have hAl : A.data.toList = hal s.data.toList := by rw [hA]
  have hAr : rightL A.data.toList = true := by rw [hAl]; exact right_hal _
  have hAs : A.size = 2 * s.size := by rw [← sizeB, hAl, hal_len, sizeB]
  have hAi : (A.size : Int) = 2 * s.size := by omega
  have hb1 : bytS A.data.toList = s := by
    rw [bytS_ok _ hAr (by rw [sizeB]; omega), hAl, whL_hal]
  have hb2 : bytB A.data.toList = true := by unfold bytB; rw [hAr, sizeB, hAs] <;> simp
  have hDs : D.size ≤ 6000 := by rw [← sizeB, hD, hal_len, sizeB]; omega
  have EA : Hid (⟨(hal s.data.toList).toArray⟩ = A) := hA.symm
  have ED : Hid (⟨(hal t.data.toList).toArray⟩ = D) := hD.symm
  have EB : Hid (bytS A.data.toList = s ∧ bytB A.data.toList = true ∧ rightL A.data.toList = true) := ⟨hb1, hb2, hAr⟩
  have hnq : (P.toList == Q.toList) = false := by
    rw [lb, lb]
    by_cases q : P.data.toList = Q.data.toList
    · exact absurd (by obtain ⟨p, rfl⟩ := exists_list P; obtain ⟨q2, rfl⟩ := exists_list Q; exact congrArg _ (congrArg _ q)) hne
    · simpa using q
  have EP : Hid (Packs A P x) := hP
  have EQ : Hid (Packs C Q y) := hQ
  clear hA hD hAl hAr hb1 hb2 hP hQ
  have hAs2 : A.size ≤ 6000 := by omega
  clear hne
  obtain ⟨hz0, hCD⟩ := hz
  have hzi : (0 : Int) < D.size := by omega
  have hzi1 : (1 : Int) ≤ D.size := by omega
  have hCs : C.size ≤ 6000 := by rw [← hCD, ← sizeB, extract_drop, List.length_drop, sizeB]; omega
  go_enter Try.func4, Try.ntmps4
  go_wp2_with fail
  have hcc := cells2 w (.bool x) (.bool y) 35
  have hB0 : Below w.heap.size w (w.alloc (.cells #[.bool x, .bool y] 35)) := (Below.refl _ _).alloc (Nat.le_refl _) _
  have hlt0 : w.heap.size < (w.alloc (.cells #[.bool x, .bool y] 35)).heap.size := by rw [World.size_alloc]; omega
  obtain ⟨b, hb⟩ : ∃ b, b = w.heap.size := ⟨_, rfl⟩
  rw [← hb] at hcc hlt0
  rw [← hb]
  refine (awake_any _).mono ?_
  generalize hw1 : w.alloc (.cells #[.bool x, .bool y] 35) = w1 at *
  have HC : Hid (w1.cell? ⟨b, 0, none⟩ = some (.bool x) ∧ w1.cell? ⟨b, 1, none⟩ = some (.bool y) ∧ b < w1.heap.size ∧ Below w.heap.size w w1) := ⟨hcc.1, hcc.2, hlt0, hB0⟩
  clear hw1 hcc hB0 hlt0 hb
  rintro e v1 ⟨rfl, HB⟩
  go_wp2_with fail
  refine (of_any s _ (by omega)).mono ?_
  rintro e vv ⟨rfl, h⟩
  replace HB := HB.trans (h.mono HB.size)
  clear h
  rw [EA.out]
  go_wp2_with fail
  refine (bytes_any A _ (by omega)).mono ?_
  rintro e vv ⟨rfl, h⟩
  replace HB := HB.trans (h.mono HB.size)
  clear h
  rw [EB.out.1, EB.out.2.1]
  go_wp2_with fail
  refine (right_any A _ (by omega)).mono ?_
  rintro e vv ⟨rfl, rfl⟩
  rw [EB.out.2.2]
  go_wp2_with fail
  refine (of_any t _ (by omega)).mono ?_
  rintro e vv ⟨rfl, h⟩
  replace HB := HB.trans (h.mono HB.size)
  clear h
  rw [ED.out]
  have c0 : vv.cell? ⟨b, 0, none⟩ = some (.bool x) := by rw [HB.cell (p := ⟨b, 0, none⟩) HC.out.2.2.1]; exact HC.out.1
  go_wp2_with fail
  clear c0
  refine (pack_any A x _ (by omega)).mono ?_
  rintro e vv ⟨rfl, h⟩
  replace HB := HB.trans (h.mono HB.size)
  clear h
  rw [EP.out.1, EP.out.2.1]
  have c1 : vv.cell? ⟨b, 1, none⟩ = some (.bool y) := by rw [HB.cell (p := ⟨b, 1, none⟩) HC.out.2.2.1]; exact HC.out.2.1
  go_wp2_with fail
  clear c1
  refine (pack_any C y _ (by omega)).mono ?_
  rintro e vv ⟨rfl, h⟩
  replace HB := HB.trans (h.mono HB.size)
  clear h
  rw [EQ.out.1, EQ.out.2.1]
  go_wp2_with fail
  refine (unpack_any P _ (by omega)).mono ?_
  rintro e vv ⟨rfl, h⟩
  replace HB := HB.trans (h.mono HB.size)
  clear h
  rw [EP.out.2.2.1, EP.out.2.2.2.1, EP.out.2.2.2.2]
  go_wp2_with fail
  refine (unpack_any Q _ (by omega)).mono ?_
  rintro e vv ⟨rfl, h⟩
  replace HB := HB.trans (h.mono HB.size)
  clear h
  rw [EQ.out.2.2.1, EQ.out.2.2.2.1, EQ.out.2.2.2.2]
  have c0 : vv.cell? ⟨b, 0, none⟩ = some (.bool x) := by rw [HB.cell (p := ⟨b, 0, none⟩) HC.out.2.2.1]; exact HC.out.1
  have c1 : vv.cell? ⟨b, 1, none⟩ = some (.bool y) := by rw [HB.cell (p := ⟨b, 1, none⟩) HC.out.2.2.1]; exact HC.out.2.1
  go_wp2_with fail
  go_ret
  exact ⟨by simp, HC.out.2.2.2.trans (HB.mono HC.out.2.2.2.size)⟩

theorem back_walk (s t : ByteArray) (x y : Bool) (w : World) :
    Calls Try.prog 4 #[.string s, .string t, .agg #[.bool x, .bool y]] w fun e w' => e = .returned (.bool true) ∧ Below w.heap.size w w' := by
  show BackGoal s t x y w
  by_cases h1 : 3000 < s.size
  · exact back_long_s s t x y w h1
  by_cases h2 : 3000 < t.size
  · exact back_long_t s t x y w h1 h2
  obtain ⟨A, hA⟩ : ∃ A : ByteArray, A = ⟨(hal s.data.toList).toArray⟩ := ⟨_, rfl⟩
  obtain ⟨D, hD⟩ : ∃ D : ByteArray, D = ⟨(hal t.data.toList).toArray⟩ := ⟨_, rfl⟩
  have hAl : A.data.toList = hal s.data.toList := by rw [hA]
  have hDl : D.data.toList = hal t.data.toList := by rw [hD]
  obtain ⟨P, hP, hPs⟩ := packs_ex A x (by rw [hAl]; exact right_hal _) (by rw [← sizeB, hAl, hal_len, sizeB]; omega)
  by_cases hz : D.size = 0
  · obtain ⟨Q, hQ, hQs⟩ := packs_ex D y (by rw [hDl]; exact right_hal _) (by rw [← sizeB, hDl, hal_len, sizeB]; omega)
    by_cases q : P = Q
    · exact back_z_eq s t x y w h1 h2 A D D P Q hA hD ⟨hz, rfl⟩ hP hQ hPs hQs q
    · exact back_z_ne s t x y w h1 h2 A D D P Q hA hD ⟨hz, rfl⟩ hP hQ hPs hQs q
  · obtain ⟨C, hC⟩ : ∃ C, D.extract 1 D.size = C := ⟨_, rfl⟩
    have hCl : C.data.toList = (hal t.data.toList).drop 1 := by rw [← hC, extract_drop, hDl]
    obtain ⟨Q, hQ, hQs⟩ := packs_ex C y (by rw [hCl]; exact right_drop _ _ (right_hal _)) (by rw [← sizeB, hCl, List.length_drop, hal_len, sizeB]; omega)
    by_cases q : P = Q
    · exact back_n_eq s t x y w h1 h2 A D C P Q hA hD ⟨by omega, hC⟩ hP hQ hPs hQs q
    · exact back_n_ne s t x y w h1 h2 A D C P Q hA hD ⟨by omega, hC⟩ hP hQ hPs hQs q
end Go.Proofs.Ytkkjkanlaldhcaa
