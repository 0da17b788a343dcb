/-
  NibbleBehind walked.
-/
import Derived.Test.YtkkjkanlaldhcaaAwake3
import Derived.Test.YtkkjkanlaldhcaaNOrd
import Derived.Test.YtkkjkanlaldhcaaSharesBase
namespace Go.Proofs.Ytkkjkanlaldhcaa
open Go Go.RowKit

def BehindGoal (s t : ByteArray) (more : Bool) (w : World) : Prop :=
    Calls Try.prog 8 #[.string s, .string t, .bool more] w fun e w' => e = .returned (.bool true) ∧ Below w.heap.size w w'

set_option maxRecDepth 8000 in
theorem behind_long_s (s t : ByteArray) (more : Bool) (w : World) (h1 : 200 < s.size) : BehindGoal s t more w := by
  unfold BehindGoal
  have h1i : (200 : Int) < s.size := by omega
  go_enter Try.func8, Try.ntmps8
  go_wp2_with fail
  refine (awake_any _).mono ?_
  rintro e v1 ⟨rfl, hB1⟩
  go_wp2_with fail
  go_ret
  exact ⟨rfl, hB1⟩
set_option maxRecDepth 8000 in
theorem behind_long_t (s t : ByteArray) (more : Bool) (w : World) (h1 : ¬ 200 < s.size) (h2 : 200 < t.size) : BehindGoal s t more w := by
  unfold BehindGoal
  have h1i : ¬ (200 : Int) < s.size := by omega
  have h2i : (200 : Int) < t.size := by omega
  go_enter Try.func8, Try.ntmps8
  go_wp2_with fail
  refine (awake_any _).mono ?_
  rintro e v1 ⟨rfl, hB1⟩
  go_wp2_with fail
  go_ret
  exact ⟨rfl, hB1⟩

/-- What a row A and a row B are to each other. -/
def Rel (A B N : ByteArray) (is : Bool) (p : Nat) (le ln : Bool) : Prop :=
  nxtS A.data.toList = N ∧ nxtB A.data.toList = is ∧ pre A.data.toList B.data.toList = p ∧ Op.bytesLess B.data.toList A.data.toList = le ∧ Op.bytesLess B.data.toList N.data.toList = ln ∧ Op.bytesLess A.data.toList N.data.toList = is

theorem rel_cases (A B : ByteArray) (ha : rightL A.data.toList = true) (hb : rightL B.data.toList = true) :
    (∃ N p, Rel A B N true p false false ∧ ¬ p = A.size) ∨ (∃ N, Rel A B N true A.size false true) ∨ (∃ N p ln, Rel A B N true p true ln ∧ ¬ p = A.size) ∨ (∃ N ln, nxtS A.data.toList = N ∧ nxtB A.data.toList = false ∧ pre A.data.toList B.data.toList = A.size ∧ Op.bytesLess B.data.toList A.data.toList = false ∧ Op.bytesLess B.data.toList N.data.toList = ln) ∨
    (∃ N p ln, nxtS A.data.toList = N ∧ nxtB A.data.toList = false ∧ pre A.data.toList B.data.toList = p ∧ Op.bytesLess B.data.toList A.data.toList = true ∧ Op.bytesLess B.data.toList N.data.toList = ln ∧ ¬ p = A.size) := by
  have hn := nxt_nx A.data.toList ha
  cases hx : nx A.data.toList with
  | none =>
    rw [hx] at hn
    have h1 : nxtB A.data.toList = false := by unfold nxtB; rw [hn]; rfl
    have h2 := nx_none A.data.toList B.data.toList hx ha hb
    rw [sizeB] at h2
    cases hl : less B.data.toList A.data.toList with
    | false =>
      rw [hl] at h2
      right; right; right; left
      exact ⟨_, _, rfl, h1, by simpa using h2, hl, rfl⟩
    | true =>
      rw [hl] at h2
      right; right; right; right
      exact ⟨_, _, _, rfl, h1, rfl, hl, rfl, by simpa using h2⟩
  | some n =>
    rw [hx] at hn
    have h1 : nxtB A.data.toList = true := by unfold nxtB; rw [hn]; rfl
    have h0 : (nxtS A.data.toList).data.toList = n := by unfold nxtS; rw [hn]; rfl
    have h2 := nx_some A.data.toList B.data.toList n hx ha hb
    have h3 := nx_less A.data.toList n hx ha
    rw [sizeB] at h2
    cases hl : less B.data.toList A.data.toList with
    | false =>
      cases hm : less B.data.toList n with
      | false =>
        rw [hl, hm] at h2
        left
        exact ⟨_, _, ⟨rfl, h1, rfl, hl, by rw [h0]; exact hm, by rw [h0]; exact h3⟩, by simpa using h2⟩
      | true =>
        rw [hl, hm] at h2
        right; left
        exact ⟨_, rfl, h1, by simpa using h2, hl, by rw [h0]; exact hm, by rw [h0]; exact h3⟩
    | true =>
      rw [hl] at h2
      right; right; left
      exact ⟨_, _, _, ⟨rfl, h1, rfl, hl, rfl, by rw [h0]; exact h3⟩, by simpa using h2⟩

set_option maxRecDepth 8000 in
set_option maxHeartbeats 4000000 in
theorem behind_zero (s t : ByteArray) (w : World) (h1 : ¬ 200 < s.size ∧ True) (h2 : ¬ 200 < t.size) (more : Bool) (hz : s.size = 0) : BehindGoal s t more w := by
  unfold BehindGoal
  have h1i : ¬ (200 : Int) < s.size := by have := h1.1; omega
  have h2i : ¬ (200 : Int) < t.size := by omega
  obtain ⟨S, hS⟩ : ∃ S : ByteArray, S = ⟨(hal s.data.toList).toArray⟩ := ⟨_, rfl⟩
  have hSl : S.data.toList = hal s.data.toList := by rw [hS]
  have hSs : S.size = 2 * s.size := by rw [← sizeB, hSl, hal_len, sizeB]
  have hSr : rightL S.data.toList = true := by rw [hSl]; exact right_hal _
  obtain ⟨B, hBd⟩ : ∃ B : ByteArray, B = ⟨(hal t.data.toList).toArray⟩ := ⟨_, rfl⟩
  have hBl : B.data.toList = hal t.data.toList := by rw [hBd]
  have hBs : B.size ≤ 1000 := by rw [← sizeB, hBl, hal_len, sizeB]; omega
  have hBr : rightL B.data.toList = true := by rw [hBl]; exact right_hal _
  have ES : Hid (⟨(hal s.data.toList).toArray⟩ = S) := hS.symm
  have ET : Hid (⟨(hal t.data.toList).toArray⟩ = B) := hBd.symm
  have hSi : S.size ≤ 1000 := by have := h1.1; omega
  have hS0 : (S.size : Int) = 0 := by omega
  obtain ⟨A, hA⟩ : ∃ A, A = S := ⟨_, rfl⟩
  have hAr : rightL A.data.toList = true := by rw [hA]; exact hSr
  have hAs : A.size ≤ 1000 := by rw [hA]; exact hSi
  have hA0 : (A.size : Int) = 0 := by rw [hA]; exact hS0
  subst hA
  have hrel := rel_cases A B hAr hBr
  clear hS hSl hSr hBd hBl hBr hAr
  go_enter Try.func8, Try.ntmps8
  go_wp2_with fail
  refine (awake_any _).mono ?_
  rintro e v1 ⟨rfl, HB⟩
  go_wp2_with fail
  refine (of_any s _ (by omega)).mono ?_
  rintro e v2 ⟨rfl, h⟩
  replace HB := HB.trans (h.mono HB.size)
  clear h
  rw [ES.out]
  clear hSs
  go_wp2_with fail
  rcases hrel with ⟨N, p, ⟨E1, E2, E3, E4, E5, E6⟩, hpn⟩ | ⟨N, E1, E2, E3, E4, E5, E6⟩ | ⟨N, p, ln, ⟨E1, E2, E3, E4, E5, E6⟩, hpn⟩ | ⟨N, ln, E1, E2, E3, E4, E5⟩ | ⟨N, p, ln, E1, E2, E3, E4, E5, hpn⟩
  · replace E1 : Hid (nxtS A.data.toList = N) := E1
    replace E2 : Hid (nxtB A.data.toList = true) := E2
    replace E3 : Hid (pre A.data.toList B.data.toList = p) := E3
    replace E4 : Hid (Op.bytesLess B.data.toList A.data.toList = false) := E4
    replace E5 : Hid (Op.bytesLess B.data.toList N.data.toList = false) := E5
    replace E6 : Hid (Op.bytesLess A.data.toList N.data.toList = true) := E6
    have hpi : ¬ (p : Int) = A.size := by omega
    have hq : ((p : Int) == 0) = false := beq_false_of_ne (by omega)
    refine (of_any t _ (by omega)).mono ?_
    rintro e v3 ⟨rfl, h⟩
    replace HB := HB.trans (h.mono HB.size)
    clear h
    rw [ET.out]
    go_wp2_with fail
    refine (next_any A _ (by omega)).mono ?_
    rintro e v4 ⟨rfl, h⟩
    replace HB := HB.trans (h.mono HB.size)
    clear h
    rw [E1.out, E2.out]
    go_wp2_with fail
    refine (prefix_any A B _ (by omega) (by omega)).mono ?_
    rintro e v5 ⟨rfl, h⟩
    replace HB := HB.trans (h.mono HB.size)
    clear h
    rw [E3.out]
    go_wp2_with fail
    refine (less_any B A _).mono ?_
    rintro e v6 ⟨rfl, rfl⟩
    rw [E4.out]
    go_wp2_with fail
    refine (less_any B N _).mono ?_
    rintro e v7 ⟨rfl, rfl⟩
    rw [E5.out]
    go_wp2_with fail
    refine (less_any A N _).mono ?_
    rintro e v8 ⟨rfl, rfl⟩
    rw [E6.out]
    go_wp2_with fail
    go_ret
    exact ⟨rfl, HB⟩
  · replace E1 : Hid (nxtS A.data.toList = N) := E1
    replace E2 : Hid (nxtB A.data.toList = true) := E2
    replace E3 : Hid (pre A.data.toList B.data.toList = A.size) := E3
    replace E4 : Hid (Op.bytesLess B.data.toList A.data.toList = false) := E4
    replace E5 : Hid (Op.bytesLess B.data.toList N.data.toList = true) := E5
    replace E6 : Hid (Op.bytesLess A.data.toList N.data.toList = true) := E6
    refine (of_any t _ (by omega)).mono ?_
    rintro e v3 ⟨rfl, h⟩
    replace HB := HB.trans (h.mono HB.size)
    clear h
    rw [ET.out]
    go_wp2_with fail
    refine (next_any A _ (by omega)).mono ?_
    rintro e v4 ⟨rfl, h⟩
    replace HB := HB.trans (h.mono HB.size)
    clear h
    rw [E1.out, E2.out]
    go_wp2_with fail
    refine (prefix_any A B _ (by omega) (by omega)).mono ?_
    rintro e v5 ⟨rfl, h⟩
    replace HB := HB.trans (h.mono HB.size)
    clear h
    rw [E3.out]
    go_wp2_with fail
    refine (less_any B A _).mono ?_
    rintro e v6 ⟨rfl, rfl⟩
    rw [E4.out]
    go_wp2_with fail
    refine (less_any B N _).mono ?_
    rintro e v7 ⟨rfl, rfl⟩
    rw [E5.out]
    go_wp2_with fail
    refine (less_any A N _).mono ?_
    rintro e v8 ⟨rfl, rfl⟩
    rw [E6.out]
    go_wp2_with fail
    go_ret
    exact ⟨rfl, HB⟩
  · replace E1 : Hid (nxtS A.data.toList = N) := E1
    replace E2 : Hid (nxtB A.data.toList = true) := E2
    replace E3 : Hid (pre A.data.toList B.data.toList = p) := E3
    replace E4 : Hid (Op.bytesLess B.data.toList A.data.toList = true) := E4
    replace E5 : Hid (Op.bytesLess B.data.toList N.data.toList = ln) := E5
    replace E6 : Hid (Op.bytesLess A.data.toList N.data.toList = true) := E6
    have hpi : ¬ (p : Int) = A.size := by omega
    have hq : ((p : Int) == 0) = false := beq_false_of_ne (by omega)
    refine (of_any t _ (by omega)).mono ?_
    rintro e v3 ⟨rfl, h⟩
    replace HB := HB.trans (h.mono HB.size)
    clear h
    rw [ET.out]
    go_wp2_with fail
    refine (next_any A _ (by omega)).mono ?_
    rintro e v4 ⟨rfl, h⟩
    replace HB := HB.trans (h.mono HB.size)
    clear h
    rw [E1.out, E2.out]
    go_wp2_with fail
    refine (prefix_any A B _ (by omega) (by omega)).mono ?_
    rintro e v5 ⟨rfl, h⟩
    replace HB := HB.trans (h.mono HB.size)
    clear h
    rw [E3.out]
    go_wp2_with fail
    refine (less_any B A _).mono ?_
    rintro e v6 ⟨rfl, rfl⟩
    rw [E4.out]
    go_wp2_with fail
    refine (less_any B N _).mono ?_
    rintro e v7 ⟨rfl, rfl⟩
    rw [E5.out]
    go_wp2_with fail
    refine (less_any A N _).mono ?_
    rintro e v8 ⟨rfl, rfl⟩
    rw [E6.out]
    go_wp2_with fail
    go_ret
    exact ⟨rfl, HB⟩
  · replace E1 : Hid (nxtS A.data.toList = N) := E1
    replace E2 : Hid (nxtB A.data.toList = false) := E2
    replace E3 : Hid (pre A.data.toList B.data.toList = A.size) := E3
    replace E4 : Hid (Op.bytesLess B.data.toList A.data.toList = false) := E4
    replace E5 : Hid (Op.bytesLess B.data.toList N.data.toList = ln) := E5
    refine (of_any t _ (by omega)).mono ?_
    rintro e v3 ⟨rfl, h⟩
    replace HB := HB.trans (h.mono HB.size)
    clear h
    rw [ET.out]
    go_wp2_with fail
    refine (next_any A _ (by omega)).mono ?_
    rintro e v4 ⟨rfl, h⟩
    replace HB := HB.trans (h.mono HB.size)
    clear h
    rw [E1.out, E2.out]
    go_wp2_with fail
    refine (prefix_any A B _ (by omega) (by omega)).mono ?_
    rintro e v5 ⟨rfl, h⟩
    replace HB := HB.trans (h.mono HB.size)
    clear h
    rw [E3.out]
    go_wp2_with fail
    refine (less_any B A _).mono ?_
    rintro e v6 ⟨rfl, rfl⟩
    rw [E4.out]
    go_wp2_with fail
    go_ret
    exact ⟨rfl, HB⟩
  · replace E1 : Hid (nxtS A.data.toList = N) := E1
    replace E2 : Hid (nxtB A.data.toList = false) := E2
    replace E3 : Hid (pre A.data.toList B.data.toList = p) := E3
    replace E4 : Hid (Op.bytesLess B.data.toList A.data.toList = true) := E4
    replace E5 : Hid (Op.bytesLess B.data.toList N.data.toList = ln) := E5
    have hpi : ¬ (p : Int) = A.size := by omega
    have hq : ((p : Int) == 0) = false := beq_false_of_ne (by omega)
    refine (of_any t _ (by omega)).mono ?_
    rintro e v3 ⟨rfl, h⟩
    replace HB := HB.trans (h.mono HB.size)
    clear h
    rw [ET.out]
    go_wp2_with fail
    refine (next_any A _ (by omega)).mono ?_
    rintro e v4 ⟨rfl, h⟩
    replace HB := HB.trans (h.mono HB.size)
    clear h
    rw [E1.out, E2.out]
    go_wp2_with fail
    refine (prefix_any A B _ (by omega) (by omega)).mono ?_
    rintro e v5 ⟨rfl, h⟩
    replace HB := HB.trans (h.mono HB.size)
    clear h
    rw [E3.out]
    go_wp2_with fail
    refine (less_any B A _).mono ?_
    rintro e v6 ⟨rfl, rfl⟩
    rw [E4.out]
    go_wp2_with fail
    go_ret
    exact ⟨rfl, HB⟩

set_option maxRecDepth 8000 in
set_option maxHeartbeats 4000000 in
theorem behind_no (s t : ByteArray) (w : World) (h1 : ¬ 200 < s.size ∧ True) (h2 : ¬ 200 < t.size) (hz : 0 < s.size) : BehindGoal s t false w := by
  unfold BehindGoal
  have h1i : ¬ (200 : Int) < s.size := by have := h1.1; omega
  have h2i : ¬ (200 : Int) < t.size := by omega
  obtain ⟨S, hS⟩ : ∃ S : ByteArray, S = ⟨(hal s.data.toList).toArray⟩ := ⟨_, rfl⟩
  have hSl : S.data.toList = hal s.data.toList := by rw [hS]
  have hSs : S.size = 2 * s.size := by rw [← sizeB, hSl, hal_len, sizeB]
  have hSr : rightL S.data.toList = true := by rw [hSl]; exact right_hal _
  obtain ⟨B, hBd⟩ : ∃ B : ByteArray, B = ⟨(hal t.data.toList).toArray⟩ := ⟨_, rfl⟩
  have hBl : B.data.toList = hal t.data.toList := by rw [hBd]
  have hBs : B.size ≤ 1000 := by rw [← sizeB, hBl, hal_len, sizeB]; omega
  have hBr : rightL B.data.toList = true := by rw [hBl]; exact right_hal _
  have ES : Hid (⟨(hal s.data.toList).toArray⟩ = S) := hS.symm
  have ET : Hid (⟨(hal t.data.toList).toArray⟩ = B) := hBd.symm
  have hSi : S.size ≤ 1000 := by have := h1.1; omega
  have hS0 : (0 : Int) < S.size := by omega
  obtain ⟨A, hA⟩ : ∃ A, A = S := ⟨_, rfl⟩
  have hAr : rightL A.data.toList = true := by rw [hA]; exact hSr
  have hAs : A.size ≤ 1000 := by rw [hA]; exact hSi
  subst hA
  have hrel := rel_cases A B hAr hBr
  clear hS hSl hSr hBd hBl hBr hAr
  go_enter Try.func8, Try.ntmps8
  go_wp2_with fail
  refine (awake_any _).mono ?_
  rintro e v1 ⟨rfl, HB⟩
  go_wp2_with fail
  refine (of_any s _ (by omega)).mono ?_
  rintro e v2 ⟨rfl, h⟩
  replace HB := HB.trans (h.mono HB.size)
  clear h
  rw [ES.out]
  clear hSs
  go_wp2_with fail
  rcases hrel with ⟨N, p, ⟨E1, E2, E3, E4, E5, E6⟩, hpn⟩ | ⟨N, E1, E2, E3, E4, E5, E6⟩ | ⟨N, p, ln, ⟨E1, E2, E3, E4, E5, E6⟩, hpn⟩ | ⟨N, ln, E1, E2, E3, E4, E5⟩ | ⟨N, p, ln, E1, E2, E3, E4, E5, hpn⟩
  · replace E1 : Hid (nxtS A.data.toList = N) := E1
    replace E2 : Hid (nxtB A.data.toList = true) := E2
    replace E3 : Hid (pre A.data.toList B.data.toList = p) := E3
    replace E4 : Hid (Op.bytesLess B.data.toList A.data.toList = false) := E4
    replace E5 : Hid (Op.bytesLess B.data.toList N.data.toList = false) := E5
    replace E6 : Hid (Op.bytesLess A.data.toList N.data.toList = true) := E6
    have hpi : ¬ (p : Int) = A.size := by omega
    have hq : ((p : Int) == (A.size : Int)) = false := beq_false_of_ne (by omega)
    refine (of_any t _ (by omega)).mono ?_
    rintro e v3 ⟨rfl, h⟩
    replace HB := HB.trans (h.mono HB.size)
    clear h
    rw [ET.out]
    go_wp2_with fail
    refine (next_any A _ (by omega)).mono ?_
    rintro e v4 ⟨rfl, h⟩
    replace HB := HB.trans (h.mono HB.size)
    clear h
    rw [E1.out, E2.out]
    go_wp2_with fail
    refine (prefix_any A B _ (by omega) (by omega)).mono ?_
    rintro e v5 ⟨rfl, h⟩
    replace HB := HB.trans (h.mono HB.size)
    clear h
    rw [E3.out]
    go_wp2_with fail
    refine (less_any B A _).mono ?_
    rintro e v6 ⟨rfl, rfl⟩
    rw [E4.out]
    go_wp2_with fail
    refine (less_any B N _).mono ?_
    rintro e v7 ⟨rfl, rfl⟩
    rw [E5.out]
    go_wp2_with fail
    refine (less_any A N _).mono ?_
    rintro e v8 ⟨rfl, rfl⟩
    rw [E6.out]
    go_wp2_with fail
    go_ret
    exact ⟨rfl, HB⟩
  · replace E1 : Hid (nxtS A.data.toList = N) := E1
    replace E2 : Hid (nxtB A.data.toList = true) := E2
    replace E3 : Hid (pre A.data.toList B.data.toList = A.size) := E3
    replace E4 : Hid (Op.bytesLess B.data.toList A.data.toList = false) := E4
    replace E5 : Hid (Op.bytesLess B.data.toList N.data.toList = true) := E5
    replace E6 : Hid (Op.bytesLess A.data.toList N.data.toList = true) := E6
    refine (of_any t _ (by omega)).mono ?_
    rintro e v3 ⟨rfl, h⟩
    replace HB := HB.trans (h.mono HB.size)
    clear h
    rw [ET.out]
    go_wp2_with fail
    refine (next_any A _ (by omega)).mono ?_
    rintro e v4 ⟨rfl, h⟩
    replace HB := HB.trans (h.mono HB.size)
    clear h
    rw [E1.out, E2.out]
    go_wp2_with fail
    refine (prefix_any A B _ (by omega) (by omega)).mono ?_
    rintro e v5 ⟨rfl, h⟩
    replace HB := HB.trans (h.mono HB.size)
    clear h
    rw [E3.out]
    go_wp2_with fail
    refine (less_any B A _).mono ?_
    rintro e v6 ⟨rfl, rfl⟩
    rw [E4.out]
    go_wp2_with fail
    refine (less_any B N _).mono ?_
    rintro e v7 ⟨rfl, rfl⟩
    rw [E5.out]
    go_wp2_with fail
    refine (less_any A N _).mono ?_
    rintro e v8 ⟨rfl, rfl⟩
    rw [E6.out]
    go_wp2_with fail
    go_ret
    exact ⟨rfl, HB⟩
  · replace E1 : Hid (nxtS A.data.toList = N) := E1
    replace E2 : Hid (nxtB A.data.toList = true) := E2
    replace E3 : Hid (pre A.data.toList B.data.toList = p) := E3
    replace E4 : Hid (Op.bytesLess B.data.toList A.data.toList = true) := E4
    replace E5 : Hid (Op.bytesLess B.data.toList N.data.toList = ln) := E5
    replace E6 : Hid (Op.bytesLess A.data.toList N.data.toList = true) := E6
    have hpi : ¬ (p : Int) = A.size := by omega
    have hq : ((p : Int) == (A.size : Int)) = false := beq_false_of_ne (by omega)
    refine (of_any t _ (by omega)).mono ?_
    rintro e v3 ⟨rfl, h⟩
    replace HB := HB.trans (h.mono HB.size)
    clear h
    rw [ET.out]
    go_wp2_with fail
    refine (next_any A _ (by omega)).mono ?_
    rintro e v4 ⟨rfl, h⟩
    replace HB := HB.trans (h.mono HB.size)
    clear h
    rw [E1.out, E2.out]
    go_wp2_with fail
    refine (prefix_any A B _ (by omega) (by omega)).mono ?_
    rintro e v5 ⟨rfl, h⟩
    replace HB := HB.trans (h.mono HB.size)
    clear h
    rw [E3.out]
    go_wp2_with fail
    refine (less_any B A _).mono ?_
    rintro e v6 ⟨rfl, rfl⟩
    rw [E4.out]
    go_wp2_with fail
    refine (less_any B N _).mono ?_
    rintro e v7 ⟨rfl, rfl⟩
    rw [E5.out]
    go_wp2_with fail
    refine (less_any A N _).mono ?_
    rintro e v8 ⟨rfl, rfl⟩
    rw [E6.out]
    go_wp2_with fail
    go_ret
    exact ⟨rfl, HB⟩
  · replace E1 : Hid (nxtS A.data.toList = N) := E1
    replace E2 : Hid (nxtB A.data.toList = false) := E2
    replace E3 : Hid (pre A.data.toList B.data.toList = A.size) := E3
    replace E4 : Hid (Op.bytesLess B.data.toList A.data.toList = false) := E4
    replace E5 : Hid (Op.bytesLess B.data.toList N.data.toList = ln) := E5
    refine (of_any t _ (by omega)).mono ?_
    rintro e v3 ⟨rfl, h⟩
    replace HB := HB.trans (h.mono HB.size)
    clear h
    rw [ET.out]
    go_wp2_with fail
    refine (next_any A _ (by omega)).mono ?_
    rintro e v4 ⟨rfl, h⟩
    replace HB := HB.trans (h.mono HB.size)
    clear h
    rw [E1.out, E2.out]
    go_wp2_with fail
    refine (prefix_any A B _ (by omega) (by omega)).mono ?_
    rintro e v5 ⟨rfl, h⟩
    replace HB := HB.trans (h.mono HB.size)
    clear h
    rw [E3.out]
    go_wp2_with fail
    refine (less_any B A _).mono ?_
    rintro e v6 ⟨rfl, rfl⟩
    rw [E4.out]
    go_wp2_with fail
    go_ret
    exact ⟨rfl, HB⟩
  · replace E1 : Hid (nxtS A.data.toList = N) := E1
    replace E2 : Hid (nxtB A.data.toList = false) := E2
    replace E3 : Hid (pre A.data.toList B.data.toList = p) := E3
    replace E4 : Hid (Op.bytesLess B.data.toList A.data.toList = true) := E4
    replace E5 : Hid (Op.bytesLess B.data.toList N.data.toList = ln) := E5
    have hpi : ¬ (p : Int) = A.size := by omega
    have hq : ((p : Int) == (A.size : Int)) = false := beq_false_of_ne (by omega)
    refine (of_any t _ (by omega)).mono ?_
    rintro e v3 ⟨rfl, h⟩
    replace HB := HB.trans (h.mono HB.size)
    clear h
    rw [ET.out]
    go_wp2_with fail
    refine (next_any A _ (by omega)).mono ?_
    rintro e v4 ⟨rfl, h⟩
    replace HB := HB.trans (h.mono HB.size)
    clear h
    rw [E1.out, E2.out]
    go_wp2_with fail
    refine (prefix_any A B _ (by omega) (by omega)).mono ?_
    rintro e v5 ⟨rfl, h⟩
    replace HB := HB.trans (h.mono HB.size)
    clear h
    rw [E3.out]
    go_wp2_with fail
    refine (less_any B A _).mono ?_
    rintro e v6 ⟨rfl, rfl⟩
    rw [E4.out]
    go_wp2_with fail
    go_ret
    exact ⟨rfl, HB⟩

set_option maxRecDepth 8000 in
set_option maxHeartbeats 4000000 in
theorem behind_cut (s t : ByteArray) (w : World) (h1 : ¬ 200 < s.size ∧ True) (h2 : ¬ 200 < t.size) (hz : 0 < s.size) : BehindGoal s t true w := by
  unfold BehindGoal
  have h1i : ¬ (200 : Int) < s.size := by have := h1.1; omega
  have h2i : ¬ (200 : Int) < t.size := by omega
  obtain ⟨S, hS⟩ : ∃ S : ByteArray, S = ⟨(hal s.data.toList).toArray⟩ := ⟨_, rfl⟩
  have hSl : S.data.toList = hal s.data.toList := by rw [hS]
  have hSs : S.size = 2 * s.size := by rw [← sizeB, hSl, hal_len, sizeB]
  have hSr : rightL S.data.toList = true := by rw [hSl]; exact right_hal _
  obtain ⟨B, hBd⟩ : ∃ B : ByteArray, B = ⟨(hal t.data.toList).toArray⟩ := ⟨_, rfl⟩
  have hBl : B.data.toList = hal t.data.toList := by rw [hBd]
  have hBs : B.size ≤ 1000 := by rw [← sizeB, hBl, hal_len, sizeB]; omega
  have hBr : rightL B.data.toList = true := by rw [hBl]; exact right_hal _
  have ES : Hid (⟨(hal s.data.toList).toArray⟩ = S) := hS.symm
  have ET : Hid (⟨(hal t.data.toList).toArray⟩ = B) := hBd.symm
  have hSi : S.size ≤ 1000 := by have := h1.1; omega
  have hS0 : (0 : Int) < S.size := by omega
  obtain ⟨k, hk⟩ : ∃ k, k = S.size - 1 := ⟨_, rfl⟩
  have hki : (S.size : Int) - 1 = k := by omega
  have hkS : k ≤ S.size := by omega
  obtain ⟨A, hA⟩ : ∃ A, A = S.extract 0 k := ⟨_, rfl⟩
  have hAl : A.data.toList = S.data.toList.take k := by rw [hA, extract_take]
  have hAr : rightL A.data.toList = true := by rw [hAl]; exact right_take _ _ hSr
  have hAs : A.size ≤ 1000 := by rw [← sizeB, hAl, List.length_take, sizeB]; omega
  have hsl := slice_to S k hkS
  rw [← hA] at hsl
  clear hA hAl hk hkS
  have hrel := rel_cases A B hAr hBr
  clear hS hSl hSr hBd hBl hBr hAr
  go_enter Try.func8, Try.ntmps8
  go_wp2_with fail
  refine (awake_any _).mono ?_
  rintro e v1 ⟨rfl, HB⟩
  go_wp2_with fail
  refine (of_any s _ (by omega)).mono ?_
  rintro e v2 ⟨rfl, h⟩
  replace HB := HB.trans (h.mono HB.size)
  clear h
  rw [ES.out]
  clear hSs
  go_wp2_with fail
  rcases hrel with ⟨N, p, ⟨E1, E2, E3, E4, E5, E6⟩, hpn⟩ | ⟨N, E1, E2, E3, E4, E5, E6⟩ | ⟨N, p, ln, ⟨E1, E2, E3, E4, E5, E6⟩, hpn⟩ | ⟨N, ln, E1, E2, E3, E4, E5⟩ | ⟨N, p, ln, E1, E2, E3, E4, E5, hpn⟩
  · replace E1 : Hid (nxtS A.data.toList = N) := E1
    replace E2 : Hid (nxtB A.data.toList = true) := E2
    replace E3 : Hid (pre A.data.toList B.data.toList = p) := E3
    replace E4 : Hid (Op.bytesLess B.data.toList A.data.toList = false) := E4
    replace E5 : Hid (Op.bytesLess B.data.toList N.data.toList = false) := E5
    replace E6 : Hid (Op.bytesLess A.data.toList N.data.toList = true) := E6
    have hpi : ¬ (p : Int) = A.size := by omega
    have hq : ((p : Int) == (A.size : Int)) = false := beq_false_of_ne (by omega)
    refine (of_any t _ (by omega)).mono ?_
    rintro e v3 ⟨rfl, h⟩
    replace HB := HB.trans (h.mono HB.size)
    clear h
    rw [ET.out]
    go_wp2_with fail
    refine (next_any A _ (by omega)).mono ?_
    rintro e v4 ⟨rfl, h⟩
    replace HB := HB.trans (h.mono HB.size)
    clear h
    rw [E1.out, E2.out]
    go_wp2_with fail
    refine (prefix_any A B _ (by omega) (by omega)).mono ?_
    rintro e v5 ⟨rfl, h⟩
    replace HB := HB.trans (h.mono HB.size)
    clear h
    rw [E3.out]
    go_wp2_with fail
    refine (less_any B A _).mono ?_
    rintro e v6 ⟨rfl, rfl⟩
    rw [E4.out]
    go_wp2_with fail
    refine (less_any B N _).mono ?_
    rintro e v7 ⟨rfl, rfl⟩
    rw [E5.out]
    go_wp2_with fail
    refine (less_any A N _).mono ?_
    rintro e v8 ⟨rfl, rfl⟩
    rw [E6.out]
    go_wp2_with fail
    go_ret
    exact ⟨rfl, HB⟩
  · replace E1 : Hid (nxtS A.data.toList = N) := E1
    replace E2 : Hid (nxtB A.data.toList = true) := E2
    replace E3 : Hid (pre A.data.toList B.data.toList = A.size) := E3
    replace E4 : Hid (Op.bytesLess B.data.toList A.data.toList = false) := E4
    replace E5 : Hid (Op.bytesLess B.data.toList N.data.toList = true) := E5
    replace E6 : Hid (Op.bytesLess A.data.toList N.data.toList = true) := E6
    refine (of_any t _ (by omega)).mono ?_
    rintro e v3 ⟨rfl, h⟩
    replace HB := HB.trans (h.mono HB.size)
    clear h
    rw [ET.out]
    go_wp2_with fail
    refine (next_any A _ (by omega)).mono ?_
    rintro e v4 ⟨rfl, h⟩
    replace HB := HB.trans (h.mono HB.size)
    clear h
    rw [E1.out, E2.out]
    go_wp2_with fail
    refine (prefix_any A B _ (by omega) (by omega)).mono ?_
    rintro e v5 ⟨rfl, h⟩
    replace HB := HB.trans (h.mono HB.size)
    clear h
    rw [E3.out]
    go_wp2_with fail
    refine (less_any B A _).mono ?_
    rintro e v6 ⟨rfl, rfl⟩
    rw [E4.out]
    go_wp2_with fail
    refine (less_any B N _).mono ?_
    rintro e v7 ⟨rfl, rfl⟩
    rw [E5.out]
    go_wp2_with fail
    refine (less_any A N _).mono ?_
    rintro e v8 ⟨rfl, rfl⟩
    rw [E6.out]
    go_wp2_with fail
    go_ret
    exact ⟨rfl, HB⟩
  · replace E1 : Hid (nxtS A.data.toList = N) := E1
    replace E2 : Hid (nxtB A.data.toList = true) := E2
    replace E3 : Hid (pre A.data.toList B.data.toList = p) := E3
    replace E4 : Hid (Op.bytesLess B.data.toList A.data.toList = true) := E4
    replace E5 : Hid (Op.bytesLess B.data.toList N.data.toList = ln) := E5
    replace E6 : Hid (Op.bytesLess A.data.toList N.data.toList = true) := E6
    have hpi : ¬ (p : Int) = A.size := by omega
    have hq : ((p : Int) == (A.size : Int)) = false := beq_false_of_ne (by omega)
    refine (of_any t _ (by omega)).mono ?_
    rintro e v3 ⟨rfl, h⟩
    replace HB := HB.trans (h.mono HB.size)
    clear h
    rw [ET.out]
    go_wp2_with fail
    refine (next_any A _ (by omega)).mono ?_
    rintro e v4 ⟨rfl, h⟩
    replace HB := HB.trans (h.mono HB.size)
    clear h
    rw [E1.out, E2.out]
    go_wp2_with fail
    refine (prefix_any A B _ (by omega) (by omega)).mono ?_
    rintro e v5 ⟨rfl, h⟩
    replace HB := HB.trans (h.mono HB.size)
    clear h
    rw [E3.out]
    go_wp2_with fail
    refine (less_any B A _).mono ?_
    rintro e v6 ⟨rfl, rfl⟩
    rw [E4.out]
    go_wp2_with fail
    refine (less_any B N _).mono ?_
    rintro e v7 ⟨rfl, rfl⟩
    rw [E5.out]
    go_wp2_with fail
    refine (less_any A N _).mono ?_
    rintro e v8 ⟨rfl, rfl⟩
    rw [E6.out]
    go_wp2_with fail
    go_ret
    exact ⟨rfl, HB⟩
  · replace E1 : Hid (nxtS A.data.toList = N) := E1
    replace E2 : Hid (nxtB A.data.toList = false) := E2
    replace E3 : Hid (pre A.data.toList B.data.toList = A.size) := E3
    replace E4 : Hid (Op.bytesLess B.data.toList A.data.toList = false) := E4
    replace E5 : Hid (Op.bytesLess B.data.toList N.data.toList = ln) := E5
    refine (of_any t _ (by omega)).mono ?_
    rintro e v3 ⟨rfl, h⟩
    replace HB := HB.trans (h.mono HB.size)
    clear h
    rw [ET.out]
    go_wp2_with fail
    refine (next_any A _ (by omega)).mono ?_
    rintro e v4 ⟨rfl, h⟩
    replace HB := HB.trans (h.mono HB.size)
    clear h
    rw [E1.out, E2.out]
    go_wp2_with fail
    refine (prefix_any A B _ (by omega) (by omega)).mono ?_
    rintro e v5 ⟨rfl, h⟩
    replace HB := HB.trans (h.mono HB.size)
    clear h
    rw [E3.out]
    go_wp2_with fail
    refine (less_any B A _).mono ?_
    rintro e v6 ⟨rfl, rfl⟩
    rw [E4.out]
    go_wp2_with fail
    go_ret
    exact ⟨rfl, HB⟩
  · replace E1 : Hid (nxtS A.data.toList = N) := E1
    replace E2 : Hid (nxtB A.data.toList = false) := E2
    replace E3 : Hid (pre A.data.toList B.data.toList = p) := E3
    replace E4 : Hid (Op.bytesLess B.data.toList A.data.toList = true) := E4
    replace E5 : Hid (Op.bytesLess B.data.toList N.data.toList = ln) := E5
    have hpi : ¬ (p : Int) = A.size := by omega
    have hq : ((p : Int) == (A.size : Int)) = false := beq_false_of_ne (by omega)
    refine (of_any t _ (by omega)).mono ?_
    rintro e v3 ⟨rfl, h⟩
    replace HB := HB.trans (h.mono HB.size)
    clear h
    rw [ET.out]
    go_wp2_with fail
    refine (next_any A _ (by omega)).mono ?_
    rintro e v4 ⟨rfl, h⟩
    replace HB := HB.trans (h.mono HB.size)
    clear h
    rw [E1.out, E2.out]
    go_wp2_with fail
    refine (prefix_any A B _ (by omega) (by omega)).mono ?_
    rintro e v5 ⟨rfl, h⟩
    replace HB := HB.trans (h.mono HB.size)
    clear h
    rw [E3.out]
    go_wp2_with fail
    refine (less_any B A _).mono ?_
    rintro e v6 ⟨rfl, rfl⟩
    rw [E4.out]
    go_wp2_with fail
    go_ret
    exact ⟨rfl, HB⟩

theorem behind_walk (s t : ByteArray) (more : Bool) (w : World) :
    Calls Try.prog 8 #[.string s, .string t, .bool more] w fun e w' => e = .returned (.bool true) ∧ Below w.heap.size w w' := by
  show BehindGoal s t more w
  by_cases h1 : 200 < s.size
  · exact behind_long_s s t more w h1
  by_cases h2 : 200 < t.size
  · exact behind_long_t s t more w h1 h2
  by_cases hz : s.size = 0
  · exact behind_zero s t w ⟨h1, trivial⟩ h2 more hz
  cases more with
  | false => exact behind_no s t w ⟨h1, trivial⟩ h2 (by omega)
  | true => exact behind_cut s t w ⟨h1, trivial⟩ h2 (by omega)
end Go.Proofs.Ytkkjkanlaldhcaa
