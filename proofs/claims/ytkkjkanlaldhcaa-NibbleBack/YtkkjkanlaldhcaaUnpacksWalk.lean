/-
  NibbleUnpacks walked.
-/
import Derived.Test.YtkkjkanlaldhcaaAwake3
import Derived.Test.YtkkjkanlaldhcaaNOrd
namespace Go.Proofs.Ytkkjkanlaldhcaa
open Go Go.RowKit

def UnpacksGoal (s row : ByteArray) (leaf : Bool) (w : World) : Prop :=
    Calls Try.prog 6 #[.string s, .string row, .bool leaf] w fun e w' => e = .returned (.bool true) ∧ Below w.heap.size w w'

set_option maxRecDepth 8000 in
theorem unpacks_long_s (s row : ByteArray) (leaf : Bool) (w : World) (h1 : 200 < s.size) : UnpacksGoal s row leaf w := by
  unfold UnpacksGoal
  have h1i : (200 : Int) < s.size := by omega
  go_enter Try.func6, Try.ntmps6
  go_wp2_with fail
  refine (awake_any _).mono ?_
  rintro e v1 ⟨rfl, hB1⟩
  go_wp2_with fail
  go_ret
  exact ⟨rfl, hB1⟩
set_option maxRecDepth 8000 in
theorem unpacks_long_row (s row : ByteArray) (leaf : Bool) (w : World) (h1 : ¬ 200 < s.size) (h2 : 200 < row.size) : UnpacksGoal s row leaf w := by
  unfold UnpacksGoal
  have h1i : ¬ (200 : Int) < s.size := by omega
  have h2i : (200 : Int) < row.size := by omega
  go_enter Try.func6, Try.ntmps6
  go_wp2_with fail
  refine (awake_any _).mono ?_
  rintro e v1 ⟨rfl, hB1⟩
  go_wp2_with fail
  go_ret
  exact ⟨rfl, hB1⟩

theorem eq_mk (s : ByteArray) (l : List UInt8) (h : s.data.toList = l) : (⟨l.toArray⟩ : ByteArray) = s := by
  obtain ⟨k, rfl⟩ := exists_list s
  have : k = l := h
  rw [this]

set_option maxRecDepth 8000 in
theorem unpacks_some (s row : ByteArray) (leaf : Bool) (w : World) (h1 : ¬ 200 < s.size) (h2 : ¬ 200 < row.size) (n : List UInt8) (l : Bool) (hu : unp s.data.toList = some (n, l)) : UnpacksGoal s row leaf w := by
  unfold UnpacksGoal
  have h1i : ¬ (200 : Int) < s.size := by omega
  have h2i : ¬ (200 : Int) < row.size := by omega
  obtain ⟨hr, hp⟩ := pck_unp _ _ _ hu
  have e1 : unpS s.data.toList = ⟨n.toArray⟩ := by unfold unpS; rw [hu]; rfl
  have e2 : unpB s.data.toList = l := by unfold unpB; rw [hu]; rfl
  have e3 : unpE s.data.toList = 0 := by unfold unpE; rw [hu]; rfl
  obtain ⟨N, hN⟩ : ∃ N : ByteArray, N = ⟨n.toArray⟩ := ⟨_, rfl⟩
  have hNl : N.data.toList = n := by rw [hN]
  rw [← hN] at e1
  have e4 : pckS N.data.toList l = s := by rw [hNl]; unfold pckS; rw [hr, if_pos rfl]; exact eq_mk s _ hp.symm
  have e5 : pckE N.data.toList = 0 := by rw [hNl]; unfold pckE; rw [hr]; rfl
  have e6 : rightL N.data.toList = true := by rw [hNl]; exact hr
  have hsz : N.size ≤ 1000 := by
    have := congrArg List.length hp
    rw [← sizeB, hNl]
    by_cases q : n.length % 2 = 1
    · rw [pck_odd _ _ q, List.length_cons, whL_len, List.length_drop, sizeB] at this; omega
    · rw [pck_even _ _ (by omega), List.length_cons, whL_len, sizeB] at this; omega
  have E : Hid (unpS s.data.toList = N ∧ unpB s.data.toList = l ∧ unpE s.data.toList = 0 ∧ pckS N.data.toList l = s ∧ pckE N.data.toList = 0 ∧ rightL N.data.toList = true) := ⟨e1, e2, e3, e4, e5, e6⟩
  clear e1 e2 e3 e4 e5 e6 hN hNl hr hp hu
  go_enter Try.func6, Try.ntmps6
  go_wp2_with fail
  refine (awake_any _).mono ?_
  rintro e v1 ⟨rfl, HB⟩
  go_wp2_with fail
  refine (unpack_any s _ (by omega)).mono ?_
  rintro e v2 ⟨rfl, h⟩
  replace HB := HB.trans (h.mono HB.size)
  clear h
  rw [E.out.1, E.out.2.1, E.out.2.2.1]
  go_wp2_with fail
  refine (pack_any N l _ (by omega)).mono ?_
  rintro e v3 ⟨rfl, h⟩
  replace HB := HB.trans (h.mono HB.size)
  clear h
  rw [E.out.2.2.2.1, E.out.2.2.2.2.1]
  go_wp2_with fail
  refine (right_any N _ (by omega)).mono ?_
  rintro e v4 ⟨rfl, rfl⟩
  rw [E.out.2.2.2.2.2]
  go_wp2_with fail
  go_ret
  exact ⟨rfl, HB⟩

set_option maxRecDepth 8000 in
theorem unpacks_none (s row : ByteArray) (leaf : Bool) (w : World) (h1 : ¬ 200 < s.size) (h2 : ¬ 200 < row.size) (hu : unp s.data.toList = none) : UnpacksGoal s row leaf w := by
  unfold UnpacksGoal
  have h1i : ¬ (200 : Int) < s.size := by omega
  have h2i : ¬ (200 : Int) < row.size := by omega
  have e3 : unpE s.data.toList = 10 := by unfold unpE; rw [hu]; rfl
  obtain ⟨N, hN⟩ : ∃ N : ByteArray, N = ⟨(hal row.data.toList).toArray⟩ := ⟨_, rfl⟩
  have hNl : N.data.toList = hal row.data.toList := by rw [hN]
  have hr : rightL N.data.toList = true := by rw [hNl]; exact right_hal _
  obtain ⟨P, hP⟩ : ∃ P : ByteArray, P = pckS N.data.toList leaf := ⟨_, rfl⟩
  have hne : (P.toList == s.toList) = false := by
    rw [lb, lb, hP]
    unfold pckS
    rw [hr, if_pos rfl]
    by_cases q : pck N.data.toList leaf = s.data.toList
    · have := unp_pck N.data.toList leaf hr
      rw [q, hu] at this; cases this
    · simpa using q
  have e5 : pckE N.data.toList = 0 := by unfold pckE; rw [hr]; rfl
  have hsz : N.size ≤ 1000 := by rw [← sizeB, hNl, hal_len, sizeB]; omega
  have E : Hid (unpE s.data.toList = 10 ∧ ⟨(hal row.data.toList).toArray⟩ = N ∧ pckS N.data.toList leaf = P ∧ pckE N.data.toList = 0) := ⟨e3, hN.symm, hP.symm, e5⟩
  clear e3 e5 hN hNl hr hP hu
  go_enter Try.func6, Try.ntmps6
  go_wp2_with fail
  refine (awake_any _).mono ?_
  rintro e v1 ⟨rfl, HB⟩
  go_wp2_with fail
  refine (unpack_any s _ (by omega)).mono ?_
  rintro e v2 ⟨rfl, h⟩
  replace HB := HB.trans (h.mono HB.size)
  clear h
  rw [E.out.1]
  go_wp2_with fail
  refine (of_any row _ (by omega)).mono ?_
  rintro e v3 ⟨rfl, h⟩
  replace HB := HB.trans (h.mono HB.size)
  clear h
  rw [E.out.2.1]
  go_wp2_with fail
  refine (pack_any N leaf _ (by omega)).mono ?_
  rintro e v4 ⟨rfl, h⟩
  replace HB := HB.trans (h.mono HB.size)
  clear h
  rw [E.out.2.2.1, E.out.2.2.2]
  go_wp2_with fail
  go_ret
  exact ⟨rfl, HB⟩

theorem unpacks_walk (s row : ByteArray) (leaf : Bool) (w : World) :
    Calls Try.prog 6 #[.string s, .string row, .bool leaf] w fun e w' => e = .returned (.bool true) ∧ Below w.heap.size w w' := by
  show UnpacksGoal s row leaf w
  by_cases h1 : 200 < s.size
  · exact unpacks_long_s s row leaf w h1
  by_cases h2 : 200 < row.size
  · exact unpacks_long_row s row leaf w h1 h2
  cases hu : unp s.data.toList with
  | none => exact unpacks_none s row leaf w h1 h2 hu
  | some p => exact unpacks_some s row leaf w h1 h2 p.1 p.2 hu
end Go.Proofs.Ytkkjkanlaldhcaa
