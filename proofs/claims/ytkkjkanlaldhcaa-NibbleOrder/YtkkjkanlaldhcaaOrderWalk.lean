/-
  NibbleOrder walked.
-/
import Derived.Test.YtkkjkanlaldhcaaBehindWalk
namespace Go.Proofs.Ytkkjkanlaldhcaa
open Go Go.RowKit

def OrderGoal (s t more : ByteArray) (w : World) : Prop :=
    Calls Try.prog 5 #[.string s, .string t, .string more] w fun e w' => e = .returned (.bool true) ∧ Below w.heap.size w w'

set_option maxRecDepth 8000 in
theorem order_long_s (s t more : ByteArray) (w : World) (h1 : 2000 < s.size) : OrderGoal s t more w := by
  unfold OrderGoal
  have h1i : (2000 : Int) < s.size := by omega
  go_enter Try.func5, Try.ntmps5
  go_wp2_with fail
  refine (awake_any _).mono ?_
  rintro e v1 ⟨rfl, hB1⟩
  go_wp2_with fail
  go_ret
  exact ⟨rfl, hB1⟩

set_option maxRecDepth 8000 in
theorem order_long_t (s t more : ByteArray) (w : World) (h1 : ¬ 2000 < s.size) (h2 : 2000 < t.size) : OrderGoal s t more w := by
  unfold OrderGoal
  have h1i : ¬ (2000 : Int) < s.size := by omega
  have h2i : (2000 : Int) < t.size := by omega
  go_enter Try.func5, Try.ntmps5
  go_wp2_with fail
  refine (awake_any _).mono ?_
  rintro e v1 ⟨rfl, hB1⟩
  go_wp2_with fail
  go_ret
  exact ⟨rfl, hB1⟩

set_option maxRecDepth 8000 in
theorem order_long_m (s t more : ByteArray) (w : World) (h1 : ¬ 2000 < s.size) (h2 : ¬ 2000 < t.size) (h3 : 2000 < more.size) : OrderGoal s t more w := by
  unfold OrderGoal
  have h1i : ¬ (2000 : Int) < s.size := by omega
  have h2i : ¬ (2000 : Int) < t.size := by omega
  have h3i : (2000 : Int) < more.size := by omega
  go_enter Try.func5, Try.ntmps5
  go_wp2_with fail
  refine (awake_any _).mono ?_
  rintro e v1 ⟨rfl, hB1⟩
  go_wp2_with fail
  go_ret
  exact ⟨rfl, hB1⟩

theorem rel_more (A M C : ByteArray) (ha : rightL A.data.toList = true) (hm : rightL M.data.toList = true) (hc : C.data.toList = A.data.toList ++ M.data.toList) (h : nxtB A.data.toList = true) :
    Op.bytesLess C.data.toList (nxtS A.data.toList).data.toList = true := by
  have hn := nxt_nx A.data.toList ha
  cases hx : nx A.data.toList with
  | none =>
    rw [hx] at hn
    unfold nxtB at h
    rw [hn] at h
    cases h
  | some n =>
    rw [hx] at hn
    have h0 : (nxtS A.data.toList).data.toList = n := by unfold nxtS; rw [hn]; rfl
    rw [h0, hc]
    exact nx_behind _ _ n hx ha hm

set_option maxRecDepth 8000 in
set_option maxHeartbeats 4000000 in
theorem order_true (s t more : ByteArray) (w : World) (h1 : ¬ 2000 < s.size) (h2 : ¬ 2000 < t.size) (h3 : ¬ 2000 < more.size) (hx : Op.bytesLess s.data.toList t.data.toList = true) : OrderGoal s t more w := by
  unfold OrderGoal
  have h1i : ¬ (2000 : Int) < s.size := by omega
  have h2i : ¬ (2000 : Int) < t.size := by omega
  have h3i : ¬ (2000 : Int) < more.size := by omega
  obtain ⟨A, hA⟩ : ∃ A : ByteArray, A = ⟨(hal s.data.toList).toArray⟩ := ⟨_, rfl⟩
  obtain ⟨B, hB⟩ : ∃ B : ByteArray, B = ⟨(hal t.data.toList).toArray⟩ := ⟨_, rfl⟩
  obtain ⟨M, hM⟩ : ∃ M : ByteArray, M = ⟨(hal more.data.toList).toArray⟩ := ⟨_, rfl⟩
  have hAl : A.data.toList = hal s.data.toList := by rw [hA]
  have hBl : B.data.toList = hal t.data.toList := by rw [hB]
  have hMl : M.data.toList = hal more.data.toList := by rw [hM]
  have hAs : A.size ≤ 5000 := by rw [← sizeB, hAl, hal_len, sizeB]; omega
  have hBs : B.size ≤ 5000 := by rw [← sizeB, hBl, hal_len, sizeB]; omega
  have hMs : M.size ≤ 5000 := by rw [← sizeB, hMl, hal_len, sizeB]; omega
  have hAr : rightL A.data.toList = true := by rw [hAl]; exact right_hal _
  have hBr : rightL B.data.toList = true := by rw [hBl]; exact right_hal _
  have hMr : rightL M.data.toList = true := by rw [hMl]; exact right_hal _
  obtain ⟨C, hC⟩ : ∃ C, C = A ++ M := ⟨_, rfl⟩
  have hCl : C.data.toList = A.data.toList ++ M.data.toList := by rw [hC]; obtain ⟨a, rfl⟩ := exists_list A; obtain ⟨m, rfl⟩ := exists_list M; rw [ByteArray.mk_append_mk]
  have hab : Op.bytesLess A.data.toList B.data.toList = true := by rw [hAl, hBl]; rw [← hx]; exact less_hal _ _
  have hca : Op.bytesLess C.data.toList A.data.toList = false := by rw [hCl]; exact less_append _ _
  have hcn := rel_more A M C hAr hMr hCl
  have hst : Op.bytesLess s.toList t.toList = true := by rw [lb, lb]; exact hx
  have hrel := rel_cases A B hAr hBr
  have hsum : (A.size : Int) + M.size ≤ 9223372036854775807 := by omega
  have EA : Hid (⟨(hal s.data.toList).toArray⟩ = A) := hA.symm
  have EB : Hid (⟨(hal t.data.toList).toArray⟩ = B) := hB.symm
  have EM : Hid (⟨(hal more.data.toList).toArray⟩ = M) := hM.symm
  have EAB : Hid (Op.bytesLess A.data.toList B.data.toList = true) := hab
  have ECA : Hid (Op.bytesLess C.data.toList A.data.toList = false) := hca
  have hC' : A ++ M = C := hC.symm
  have hba : Op.bytesLess B.data.toList A.data.toList = false := less_asymm _ _ hab
  have EBA : Hid (Op.bytesLess B.data.toList A.data.toList = false) := hba
  clear hA hB hM hAl hBl hMl hAr hBr hMr hCl hab hca hx hC
  go_enter Try.func5, Try.ntmps5
  go_wp2_with fail
  refine (awake_any _).mono ?_
  rintro e v1 ⟨rfl, HB⟩
  go_wp2_with fail
  refine (of_any s _ (by omega)).mono ?_
  rintro e vv ⟨rfl, h⟩
  replace HB := HB.trans (h.mono HB.size)
  clear h
  rw [EA.out]
  go_wp2_with fail
  refine (of_any t _ (by omega)).mono ?_
  rintro e vv ⟨rfl, h⟩
  replace HB := HB.trans (h.mono HB.size)
  clear h
  rw [EB.out]
  go_wp2_with fail
  refine (of_any more _ (by omega)).mono ?_
  rintro e vv ⟨rfl, h⟩
  replace HB := HB.trans (h.mono HB.size)
  clear h
  rw [EM.out]
  go_wp2_with fail
  refine (less_any A B _).mono ?_
  rintro e vv ⟨rfl, rfl⟩
  rw [EAB.out]
  go_wp2_with fail
  refine (less_any A B _).mono ?_
  rintro e vv ⟨rfl, rfl⟩
  rw [EAB.out]
  go_wp2_with fail
  refine (less_any B A _).mono ?_
  rintro e vv ⟨rfl, rfl⟩
  rw [EBA.out]
  go_wp2_with fail
  refine (less_any C A _).mono ?_
  rintro e vv ⟨rfl, rfl⟩
  rw [ECA.out]
  go_wp2_with fail
  rcases hrel with ⟨N, p, ⟨E1, E2, E3, E4, E5, E6⟩, hpn⟩ | ⟨N, E1, E2, E3, E4, E5, E6⟩ | ⟨N, p, ln, ⟨E1, E2, E3, E4, E5, E6⟩, hpn⟩ | ⟨N, ln, E1, E2, E3, E4, E5⟩ | ⟨N, p, ln, E1, E2, E3, E4, E5, hpn⟩
  · have ECN : Hid (Op.bytesLess C.data.toList N.data.toList = true) := by have := hcn E2; rwa [E1] at this
    replace E1 : Hid (nxtS A.data.toList = N) := E1
    replace E2 : Hid (nxtB A.data.toList = true) := E2
    replace E3 : Hid (pre A.data.toList B.data.toList = p) := E3
    replace E4 : Hid (Op.bytesLess B.data.toList A.data.toList = false) := E4
    replace E5 : Hid (Op.bytesLess B.data.toList N.data.toList = false) := E5
    clear E6 hcn hba
    have hpi : ¬ (p : Int) = A.size := by omega
    have hq : ((p : Int) == (A.size : Int)) = false := beq_false_of_ne (by omega)
    refine (next_any A _ (by omega)).mono ?_
    rintro e vv ⟨rfl, h⟩
    replace HB := HB.trans (h.mono HB.size)
    clear h
    rw [E1.out, E2.out]
    go_wp2_with fail
    refine (prefix_any A B _ (by omega) (by omega)).mono ?_
    rintro e vv ⟨rfl, h⟩
    replace HB := HB.trans (h.mono HB.size)
    clear h
    rw [E3.out]
    go_wp2_with fail
    refine (less_any C N _).mono ?_
    rintro e vv ⟨rfl, rfl⟩
    rw [ECN.out]
    go_wp2_with fail
    refine (less_any B A _).mono ?_
    rintro e vv ⟨rfl, rfl⟩
    rw [E4.out]
    go_wp2_with fail
    refine (less_any B N _).mono ?_
    rintro e vv ⟨rfl, rfl⟩
    rw [E5.out]
    go_wp2_with fail
    go_ret
    exact ⟨rfl, HB⟩
  · have ECN : Hid (Op.bytesLess C.data.toList N.data.toList = true) := by have := hcn E2; rwa [E1] at this
    replace E1 : Hid (nxtS A.data.toList = N) := E1
    replace E2 : Hid (nxtB A.data.toList = true) := E2
    replace E3 : Hid (pre A.data.toList B.data.toList = A.size) := E3
    replace E4 : Hid (Op.bytesLess B.data.toList A.data.toList = false) := E4
    replace E5 : Hid (Op.bytesLess B.data.toList N.data.toList = true) := E5
    clear E6 hcn hba
    refine (next_any A _ (by omega)).mono ?_
    rintro e vv ⟨rfl, h⟩
    replace HB := HB.trans (h.mono HB.size)
    clear h
    rw [E1.out, E2.out]
    go_wp2_with fail
    refine (prefix_any A B _ (by omega) (by omega)).mono ?_
    rintro e vv ⟨rfl, h⟩
    replace HB := HB.trans (h.mono HB.size)
    clear h
    rw [E3.out]
    go_wp2_with fail
    refine (less_any C N _).mono ?_
    rintro e vv ⟨rfl, rfl⟩
    rw [ECN.out]
    go_wp2_with fail
    go_ret
    exact ⟨rfl, HB⟩
  · rw [EBA.out] at E4; cases E4
  · replace E1 : Hid (nxtS A.data.toList = N) := E1
    replace E2 : Hid (nxtB A.data.toList = false) := E2
    clear E3 E4 E5 hcn hba
    refine (next_any A _ (by omega)).mono ?_
    rintro e vv ⟨rfl, h⟩
    replace HB := HB.trans (h.mono HB.size)
    clear h
    rw [E1.out, E2.out]
    go_wp2_with fail
    go_ret
    exact ⟨rfl, HB⟩
  · rw [EBA.out] at E4; cases E4

set_option maxRecDepth 8000 in
set_option maxHeartbeats 4000000 in
theorem order_false (s t more : ByteArray) (w : World) (h1 : ¬ 2000 < s.size) (h2 : ¬ 2000 < t.size) (h3 : ¬ 2000 < more.size) (hx : Op.bytesLess s.data.toList t.data.toList = false) : OrderGoal s t more w := by
  unfold OrderGoal
  have h1i : ¬ (2000 : Int) < s.size := by omega
  have h2i : ¬ (2000 : Int) < t.size := by omega
  have h3i : ¬ (2000 : Int) < more.size := by omega
  obtain ⟨A, hA⟩ : ∃ A : ByteArray, A = ⟨(hal s.data.toList).toArray⟩ := ⟨_, rfl⟩
  obtain ⟨B, hB⟩ : ∃ B : ByteArray, B = ⟨(hal t.data.toList).toArray⟩ := ⟨_, rfl⟩
  obtain ⟨M, hM⟩ : ∃ M : ByteArray, M = ⟨(hal more.data.toList).toArray⟩ := ⟨_, rfl⟩
  have hAl : A.data.toList = hal s.data.toList := by rw [hA]
  have hBl : B.data.toList = hal t.data.toList := by rw [hB]
  have hMl : M.data.toList = hal more.data.toList := by rw [hM]
  have hAs : A.size ≤ 5000 := by rw [← sizeB, hAl, hal_len, sizeB]; omega
  have hBs : B.size ≤ 5000 := by rw [← sizeB, hBl, hal_len, sizeB]; omega
  have hMs : M.size ≤ 5000 := by rw [← sizeB, hMl, hal_len, sizeB]; omega
  have hAr : rightL A.data.toList = true := by rw [hAl]; exact right_hal _
  have hBr : rightL B.data.toList = true := by rw [hBl]; exact right_hal _
  have hMr : rightL M.data.toList = true := by rw [hMl]; exact right_hal _
  obtain ⟨C, hC⟩ : ∃ C, C = A ++ M := ⟨_, rfl⟩
  have hCl : C.data.toList = A.data.toList ++ M.data.toList := by rw [hC]; obtain ⟨a, rfl⟩ := exists_list A; obtain ⟨m, rfl⟩ := exists_list M; rw [ByteArray.mk_append_mk]
  have hab : Op.bytesLess A.data.toList B.data.toList = false := by rw [hAl, hBl]; rw [← hx]; exact less_hal _ _
  have hca : Op.bytesLess C.data.toList A.data.toList = false := by rw [hCl]; exact less_append _ _
  have hcn := rel_more A M C hAr hMr hCl
  have hst : Op.bytesLess s.toList t.toList = false := by rw [lb, lb]; exact hx
  have hrel := rel_cases A B hAr hBr
  have hsum : (A.size : Int) + M.size ≤ 9223372036854775807 := by omega
  have EA : Hid (⟨(hal s.data.toList).toArray⟩ = A) := hA.symm
  have EB : Hid (⟨(hal t.data.toList).toArray⟩ = B) := hB.symm
  have EM : Hid (⟨(hal more.data.toList).toArray⟩ = M) := hM.symm
  have EAB : Hid (Op.bytesLess A.data.toList B.data.toList = false) := hab
  have ECA : Hid (Op.bytesLess C.data.toList A.data.toList = false) := hca
  have hC' : A ++ M = C := hC.symm
  clear hA hB hM hAl hBl hMl hAr hBr hMr hCl hab hca hx hC
  go_enter Try.func5, Try.ntmps5
  go_wp2_with fail
  refine (awake_any _).mono ?_
  rintro e v1 ⟨rfl, HB⟩
  go_wp2_with fail
  refine (of_any s _ (by omega)).mono ?_
  rintro e vv ⟨rfl, h⟩
  replace HB := HB.trans (h.mono HB.size)
  clear h
  rw [EA.out]
  go_wp2_with fail
  refine (of_any t _ (by omega)).mono ?_
  rintro e vv ⟨rfl, h⟩
  replace HB := HB.trans (h.mono HB.size)
  clear h
  rw [EB.out]
  go_wp2_with fail
  refine (of_any more _ (by omega)).mono ?_
  rintro e vv ⟨rfl, h⟩
  replace HB := HB.trans (h.mono HB.size)
  clear h
  rw [EM.out]
  go_wp2_with fail
  refine (less_any A B _).mono ?_
  rintro e vv ⟨rfl, rfl⟩
  rw [EAB.out]
  go_wp2_with fail
  refine (less_any A B _).mono ?_
  rintro e vv ⟨rfl, rfl⟩
  rw [EAB.out]
  go_wp2_with fail
  refine (less_any C A _).mono ?_
  rintro e vv ⟨rfl, rfl⟩
  rw [ECA.out]
  go_wp2_with fail
  rcases hrel with ⟨N, p, ⟨E1, E2, E3, E4, E5, E6⟩, hpn⟩ | ⟨N, E1, E2, E3, E4, E5, E6⟩ | ⟨N, p, ln, ⟨E1, E2, E3, E4, E5, E6⟩, hpn⟩ | ⟨N, ln, E1, E2, E3, E4, E5⟩ | ⟨N, p, ln, E1, E2, E3, E4, E5, hpn⟩
  · have ECN : Hid (Op.bytesLess C.data.toList N.data.toList = true) := by have := hcn E2; rwa [E1] at this
    replace E1 : Hid (nxtS A.data.toList = N) := E1
    replace E2 : Hid (nxtB A.data.toList = true) := E2
    replace E3 : Hid (pre A.data.toList B.data.toList = p) := E3
    replace E4 : Hid (Op.bytesLess B.data.toList A.data.toList = false) := E4
    replace E5 : Hid (Op.bytesLess B.data.toList N.data.toList = false) := E5
    clear E6 hcn
    have hpi : ¬ (p : Int) = A.size := by omega
    have hq : ((p : Int) == (A.size : Int)) = false := beq_false_of_ne (by omega)
    refine (next_any A _ (by omega)).mono ?_
    rintro e vv ⟨rfl, h⟩
    replace HB := HB.trans (h.mono HB.size)
    clear h
    rw [E1.out, E2.out]
    go_wp2_with fail
    refine (prefix_any A B _ (by omega) (by omega)).mono ?_
    rintro e vv ⟨rfl, h⟩
    replace HB := HB.trans (h.mono HB.size)
    clear h
    rw [E3.out]
    go_wp2_with fail
    refine (less_any C N _).mono ?_
    rintro e vv ⟨rfl, rfl⟩
    rw [ECN.out]
    go_wp2_with fail
    refine (less_any B A _).mono ?_
    rintro e vv ⟨rfl, rfl⟩
    rw [E4.out]
    go_wp2_with fail
    refine (less_any B N _).mono ?_
    rintro e vv ⟨rfl, rfl⟩
    rw [E5.out]
    go_wp2_with fail
    go_ret
    exact ⟨rfl, HB⟩
  · have ECN : Hid (Op.bytesLess C.data.toList N.data.toList = true) := by have := hcn E2; rwa [E1] at this
    replace E1 : Hid (nxtS A.data.toList = N) := E1
    replace E2 : Hid (nxtB A.data.toList = true) := E2
    replace E3 : Hid (pre A.data.toList B.data.toList = A.size) := E3
    replace E4 : Hid (Op.bytesLess B.data.toList A.data.toList = false) := E4
    replace E5 : Hid (Op.bytesLess B.data.toList N.data.toList = true) := E5
    clear E6 hcn
    refine (next_any A _ (by omega)).mono ?_
    rintro e vv ⟨rfl, h⟩
    replace HB := HB.trans (h.mono HB.size)
    clear h
    rw [E1.out, E2.out]
    go_wp2_with fail
    refine (prefix_any A B _ (by omega) (by omega)).mono ?_
    rintro e vv ⟨rfl, h⟩
    replace HB := HB.trans (h.mono HB.size)
    clear h
    rw [E3.out]
    go_wp2_with fail
    refine (less_any C N _).mono ?_
    rintro e vv ⟨rfl, rfl⟩
    rw [ECN.out]
    go_wp2_with fail
    go_ret
    exact ⟨rfl, HB⟩
  · have ECN : Hid (Op.bytesLess C.data.toList N.data.toList = true) := by have := hcn E2; rwa [E1] at this
    replace E1 : Hid (nxtS A.data.toList = N) := E1
    replace E2 : Hid (nxtB A.data.toList = true) := E2
    replace E3 : Hid (pre A.data.toList B.data.toList = p) := E3
    replace E4 : Hid (Op.bytesLess B.data.toList A.data.toList = true) := E4
    replace E5 : Hid (Op.bytesLess B.data.toList N.data.toList = ln) := E5
    clear E6 hcn
    have hpi : ¬ (p : Int) = A.size := by omega
    have hq : ((p : Int) == (A.size : Int)) = false := beq_false_of_ne (by omega)
    refine (next_any A _ (by omega)).mono ?_
    rintro e vv ⟨rfl, h⟩
    replace HB := HB.trans (h.mono HB.size)
    clear h
    rw [E1.out, E2.out]
    go_wp2_with fail
    refine (prefix_any A B _ (by omega) (by omega)).mono ?_
    rintro e vv ⟨rfl, h⟩
    replace HB := HB.trans (h.mono HB.size)
    clear h
    rw [E3.out]
    go_wp2_with fail
    refine (less_any C N _).mono ?_
    rintro e vv ⟨rfl, rfl⟩
    rw [ECN.out]
    go_wp2_with fail
    refine (less_any B A _).mono ?_
    rintro e vv ⟨rfl, rfl⟩
    rw [E4.out]
    go_wp2_with fail
    go_ret
    exact ⟨rfl, HB⟩
  · replace E1 : Hid (nxtS A.data.toList = N) := E1
    replace E2 : Hid (nxtB A.data.toList = false) := E2
    clear E3 E4 E5 hcn
    refine (next_any A _ (by omega)).mono ?_
    rintro e vv ⟨rfl, h⟩
    replace HB := HB.trans (h.mono HB.size)
    clear h
    rw [E1.out, E2.out]
    go_wp2_with fail
    go_ret
    exact ⟨rfl, HB⟩
  · replace E1 : Hid (nxtS A.data.toList = N) := E1
    replace E2 : Hid (nxtB A.data.toList = false) := E2
    clear E3 E4 E5 hcn
    refine (next_any A _ (by omega)).mono ?_
    rintro e vv ⟨rfl, h⟩
    replace HB := HB.trans (h.mono HB.size)
    clear h
    rw [E1.out, E2.out]
    go_wp2_with fail
    go_ret
    exact ⟨rfl, HB⟩

theorem order_walk (s t more : ByteArray) (w : World) :
    Calls Try.prog 5 #[.string s, .string t, .string more] w fun e w' => e = .returned (.bool true) ∧ Below w.heap.size w w' := by
  show OrderGoal s t more w
  by_cases h1 : 2000 < s.size
  · exact order_long_s s t more w h1
  by_cases h2 : 2000 < t.size
  · exact order_long_t s t more w h1 h2
  by_cases h3 : 2000 < more.size
  · exact order_long_m s t more w h1 h2 h3
  cases hx : Op.bytesLess s.data.toList t.data.toList with
  | false => exact order_false s t more w h1 h2 h3 hx
  | true => exact order_true s t more w h1 h2 h3 hx
end Go.Proofs.Ytkkjkanlaldhcaa
