/-
  RlpCuts walked.
-/
import Derived.Test.YtikpmafmmjfioaaAwake2
import Derived.Test.YtikpmafmmjfioaaRBack
namespace Go.Proofs.Ytikpmafmmjfioaa
open Go Go.RowKit

theorem bytesL_len (l : List UInt8) : (bytesL l).length ≤ l.length + 9 := by
  unfold bytesL
  split
  · omega
  · have := hd_len 128 l.length; rw [List.length_append]; omega
theorem listL_len (l : List UInt8) : (listL l).length ≤ l.length + 9 ∧ 0 < (listL l).length := by
  unfold listL
  have h1 := hd_len 192 l.length
  have h2 := hd_pos 192 l.length
  rw [List.length_append]; omega

/-- The answer's error. -/
theorem itemAns_none {w w' : World} {e : Ending} (h : ItemAns w w' none e) : e = .returned (.tuple #[.agg #[.bool false, .string ⟨#[]⟩, .slice none 0 0], .int .i64 10]) := h
theorem decode_cut {p : List UInt8} (hp : p.length < 1000000) (k : Nat) (hk : k < (listL p).length) : decode ((listL p).take k) = none := by
  have h1 := split_list p [] (by omega)
  rw [List.append_nil] at h1
  have h2 := listL_len p
  unfold decode
  rw [split_cut h1 (by omega) k hk]
theorem things_one (S : List UInt8) (hS : S.length < 1000000) : things 16 (listL (bytesL S)) = some (.item true [] (.item false S .nil .nil) .nil) := by
  have hb := bytesL_len S
  have h1 := split_list (bytesL S) [] (by omega)
  rw [List.append_nil] at h1
  have h2 := split_bytes S [] (by omega)
  rw [List.append_nil] at h2
  have hne : listL (bytesL S) ≠ [] := by
    intro e
    have := (listL_len (bytesL S)).2
    rw [e] at this; simp at this
  have hne2 : bytesL S ≠ [] := by intro e; rw [e] at h2; cases h2
  rw [things_list hne h1, things_text hne2 h2, things_nil]
  rfl
theorem decode_one2 (S : List UInt8) (hS : S.length < 1000000) : decode (listL (bytesL S)) = some (.item true [] (.item false S .nil .nil) .nil) := by
  have hb := bytesL_len S
  have h1 := split_list (bytesL S) [] (by omega)
  rw [List.append_nil] at h1
  unfold decode
  rw [h1]
  exact things_one S hS
theorem decode_more (S M : List UInt8) (hS : S.length < 1000000) (hM : M ≠ []) : decode (listL (bytesL S) ++ M) = none := by
  have hb := bytesL_len S
  exact things_split (split_list (bytesL S) M (by omega)) hM
theorem one_text (w : World) (x : ByteArray) (j : Nat) (u : ByteArray) (h : [x][j]? = some u) : (w.alloc (.cells #[.string x] 9)).cell? ⟨w.heap.size, 0 + j, none⟩ = some (.string u) := by
  rw [Nat.zero_add, World.cell?_alloc_mark]
  match j, h with
  | 0, h => simpa using h
  | j + 1, h => simp at h
theorem cut_take (x : ByteArray) (k : Nat) : x.extract 0 k = ⟨(x.data.toList.take k).toArray⟩ := by rw [extract_str]; simp

def errI : Option Row → Int
  | some (.item _ _ _ .nil) => 0
  | _ => 10
theorem itemAns_err {w w' : World} {o : Option Row} {e : Ending} (h : ItemAns w w' o e) : ∃ b s a n c, e = .returned (.tuple #[.agg #[.bool b, .string s, .slice a n c], .int .i64 (errI o)]) := by
  unfold ItemAns at h
  split at h
  · obtain ⟨a, c, h, _⟩ := h
    exact ⟨_, _, _, _, _, h⟩
  · next hn =>
    have h10 : errI o = 10 := by
      unfold errI
      split
      · next b s i => exact absurd rfl (fun e => hn b s i e)
      · rfl
    exact ⟨false, ⟨#[]⟩, none, 0, 0, by rw [h, h10]⟩

set_option maxRecDepth 8000 in
set_option maxHeartbeats 8000000 in
theorem cuts_walk (s : ByteArray) (a : Int) (m : ByteArray) (w : World) (hsz : s.size ≤ 9223372036854775807) (ha : -9223372036854775808 ≤ a ∧ a ≤ 9223372036854775807) (hmz : m.size ≤ 9223372036854775807) :
    Calls Try.prog 8 #[.string s, .int .i64 a, .string m] w fun e w' => e = .returned (.bool true) ∧ Below w.heap.size w w' := by
  obtain ⟨X, hX⟩ : ∃ X : ByteArray, ((s.size : Int) ≤ 400 ∧ X = s) ∨ ((400 : Int) < s.size ∧ s.extract 0 400 = X) := by
    by_cases h : s.size ≤ 400
    · exact ⟨s, .inl ⟨by omega, rfl⟩⟩
    · exact ⟨_, .inr ⟨by omega, rfl⟩⟩
  obtain ⟨Y, hY⟩ : ∃ Y : ByteArray, ((m.size : Int) ≤ 400 ∧ Y = m) ∨ ((400 : Int) < m.size ∧ m.extract 0 400 = Y) := by
    by_cases h : m.size ≤ 400
    · exact ⟨m, .inl ⟨by omega, rfl⟩⟩
    · exact ⟨_, .inr ⟨by omega, rfl⟩⟩
  have hXs : X.size ≤ 400 := by
    rcases hX with ⟨h, rfl⟩ | ⟨_, h⟩
    · omega
    · rw [← h, cut_take]; show (List.toArray _).size ≤ 400; simp; omega
  have hYs : Y.size ≤ 400 := by
    rcases hY with ⟨h, rfl⟩ | ⟨_, h⟩
    · omega
    · rw [← h, cut_take]; show (List.toArray _).size ≤ 400; simp; omega
  obtain ⟨S, hS⟩ : ∃ S, S = X.data.toList := ⟨_, rfl⟩
  obtain ⟨M, hM⟩ : ∃ M, M = Y.data.toList := ⟨_, rfl⟩
  have hSl : S.length ≤ 400 := by rw [hS, sizeB]; exact hXs
  have hMl : M.length ≤ 400 := by rw [hM, sizeB]; exact hYs
  have hbl := bytesL_len S
  obtain ⟨B, hB⟩ : ∃ B, B = bytesL S := ⟨_, rfl⟩
  rw [← hB] at hbl
  have htl := listL_len B
  obtain ⟨T, hT⟩ : ∃ T, T = listL B := ⟨_, rfl⟩
  rw [← hT] at htl
  obtain ⟨K, hKl, hK⟩ : ∃ K : Nat, K < T.length ∧ ((a < 0 ∧ -(a + 1).tmod (T.length : Int) = (K : Int)) ∨ (¬ a < 0 ∧ a.tmod (T.length : Int) = (K : Int))) := by
    have hpos : (0 : Int) < T.length := by omega
    by_cases h : a < 0
    · have h1 := Int.emod_nonneg (-(a + 1)) (show (T.length : Int) ≠ 0 by omega)
      have h2 := Int.emod_lt_of_pos (-(a + 1)) hpos
      refine ⟨((-(a + 1)) % (T.length : Int)).toNat, by omega, .inl ⟨h, ?_⟩⟩
      rw [← Int.neg_tmod, Int.tmod_eq_emod_of_nonneg (by omega)]; omega
    · have h1 := Int.emod_nonneg a (show (T.length : Int) ≠ 0 by omega)
      have h2 := Int.emod_lt_of_pos a hpos
      refine ⟨(a % (T.length : Int)).toNat, by omega, .inr ⟨h, ?_⟩⟩
      rw [Int.tmod_eq_emod_of_nonneg (by omega)]; omega
  have hcat : cat [⟨B.toArray⟩] = B := by simp [cat]
  have hd1 : errI (decode (T.take K)) = 10 := by rw [hT, decode_cut (by omega) K (by rw [← hT]; exact hKl)]; rfl
  have hsp : split (T ++ M) = some (B, true, M) := by rw [hT]; exact split_list B M (by omega)
  have hex0 : (⟨T.toArray⟩ : ByteArray).extract 0 K = ⟨(T.take K).toArray⟩ := cut_take _ _
  have hap := strApp Y T
  rw [← hM] at hap
  have hd2 : M = [] → errI (decode T) = 0 := fun h => by rw [hT, hB, decode_one2 S (by omega)]; rfl
  have hd3 : M ≠ [] → errI (decode (T ++ M)) = 10 := fun h => by rw [hT, hB, decode_more S M (by omega) h]; rfl
  have hTs : (⟨T.toArray⟩ : ByteArray).size = T.length := rfl
  have hBs : (⟨B.toArray⟩ : ByteArray).size = B.length := rfl
  have hYi : (Y.size : Int) ≤ 400 := by omega
  have hTi : (T.length : Int) ≤ 1000 := by omega
  have hT0 : ¬ (T.length : Int) = 0 := by omega
  have hTp : (0 : Int) < T.length := by omega
  have hKi : (K : Int) < T.length := by omega
  have hKle : (K : Int) ≤ T.length := by omega
  have hlb : Y.toList = M := by rw [lb, hM]
  have HX : Hid (bytesL X.data.toList = B ∧ listL B = T ∧ cat [⟨B.toArray⟩] = B ∧ X.size < 4611686018427387904) := ⟨by rw [hB, hS], hT.symm, hcat, by omega⟩
  have HD : Hid (errI (decode (T.take K)) = 10 ∧ (M = [] → errI (decode T) = 0) ∧ (M ≠ [] → errI (decode (T ++ M)) = 10) ∧ split (T ++ M) = some (B, true, M)) := ⟨hd1, hd2, hd3, hsp⟩
  have HL : Hid ((T.take K).length ≤ 1000 ∧ (T ++ M).length ≤ 1500 ∧ B.length ≤ 500) := ⟨by rw [List.length_take]; omega, by rw [List.length_append]; omega, by omega⟩
  clear hd1 hd2 hd3 hsp hcat hS hM hB hT hSl hMl hbl htl hXs
  have HB : Below w.heap.size w w := Below.refl _ _
  have hKm : ¬ a < 0 → a % (T.length : Int) = (K : Int) := fun h => by
    rcases hK with ⟨h1, _⟩ | ⟨_, h2⟩
    · exact absurd h1 h
    · rw [← h2, Int.tmod_eq_emod_of_nonneg (by omega)]
  by_cases hMe : M = []
  · subst hMe
    have HS : Hid (split T = some (B, true, [])) := by have h := HD.out.2.2.2; rw [List.append_nil] at h; exact h
    rw [List.append_nil] at hap
    rcases hX with ⟨hs4, hX⟩ | ⟨hs4, hX2⟩ <;> rcases hY with ⟨hm4, hY⟩ | ⟨hm4, hY2⟩ <;> rcases hK with ⟨hneg, hK⟩ | ⟨hneg, hK⟩
    all_goals (try subst hX)
    all_goals (try subst hY)
    all_goals (try have hKn := hKm hneg)
    all_goals clear hKm
    all_goals (try have hs6 : (400 : Int) ≤ s.size := by omega)
    all_goals (try have hm6 : (400 : Int) ≤ m.size := by omega)
    all_goals (
      go_enter Try.func8, Try.ntmps8
      go_wp2_with fail
      refine (awake_any _).mono ?_
      rintro e v1 ⟨rfl, hB1⟩
      replace HB := HB.trans (hB1.mono HB.size)
      clear hB1
      go_wp2_with fail
      (try rw [hX2])
      refine (bytes_any X _ HX.out.2.2.2).mono ?_
      rintro e v2 ⟨rfl, hB2⟩
      rw [HX.out.1]
      replace HB := HB.trans (hB2.mono HB.size)
      clear hB2
      go_wp2_with fail
      refine (list_any v2.heap.size 0 1 [⟨B.toArray⟩] _ (one_text v2 _) (by simp) (by simp) (by simp) (by rw [HX.out.2.2.1]; have := HL.out.2.2; omega)).mono ?_
      rintro e v3 ⟨rfl, hB3⟩
      rw [HX.out.2.2.1, HX.out.2.1]
      replace HB := HB.trans ((one_alloc hB3).mono HB.size)
      clear hB3
      go_wp2_with fail
      refine (decode_any ⟨(T.take K).toArray⟩ _ (by show (List.toArray _).size ≤ _; simp; have := HL.out.1; rw [List.length_take] at this; omega)).mono ?_
      rintro e v4 ⟨he4, hB4⟩
      obtain ⟨b4, s4, a4, n4, c4, rfl⟩ := itemAns_err he4
      rw [show (⟨(T.take K).toArray⟩ : ByteArray).data.toList = T.take K from rfl, HD.out.1]
      replace HB := HB.trans (hB4.mono HB.size)
      clear hB4 he4
      go_wp2_with fail
      refine (decode_any ⟨T.toArray⟩ _ (by show (List.toArray _).size ≤ _; simp; omega)).mono ?_
      rintro e v5 ⟨he5, hB5⟩
      obtain ⟨b5, s5, a5, n5, c5, rfl⟩ := itemAns_err he5
      rw [show (⟨T.toArray⟩ : ByteArray).data.toList = T from rfl, HD.out.2.1 (by simp)]
      replace HB := HB.trans ((one_alloc hB5).mono HB.size)
      clear hB5 he5
      go_wp2_with fail
      refine (split_any ⟨T.toArray⟩ _ (by show (List.toArray _).size < _; simp; omega)).mono ?_
      rintro e v6 ⟨rfl, hB6⟩
      rw [show (⟨T.toArray⟩ : ByteArray).data.toList = T from rfl, HS.out]
      unfold splitV
      replace HB := HB.trans ((one_alloc hB6).mono HB.size)
      clear hB6
      go_wp2_with fail
      (try rw [hX2])
      refine (bytes_any X _ HX.out.2.2.2).mono ?_
      rintro e v7 ⟨rfl, hB7⟩
      rw [HX.out.1]
      replace HB := HB.trans (hB7.mono HB.size)
      clear hB7
      go_wp2_with fail
      go_ret
      exact ⟨rfl, HB⟩)
  · have hMi : M.isEmpty = false := by cases M with
      | nil => exact absurd rfl hMe
      | cons c r => rfl
    rcases hX with ⟨hs4, hX⟩ | ⟨hs4, hX2⟩ <;> rcases hY with ⟨hm4, hY⟩ | ⟨hm4, hY2⟩ <;> rcases hK with ⟨hneg, hK⟩ | ⟨hneg, hK⟩
    all_goals (try subst hX)
    all_goals (try subst hY)
    all_goals (try have hKn := hKm hneg)
    all_goals clear hKm
    all_goals (try have hs6 : (400 : Int) ≤ s.size := by omega)
    all_goals (try have hm6 : (400 : Int) ≤ m.size := by omega)
    all_goals (
      go_enter Try.func8, Try.ntmps8
      go_wp2_with fail
      refine (awake_any _).mono ?_
      rintro e v1 ⟨rfl, hB1⟩
      replace HB := HB.trans (hB1.mono HB.size)
      clear hB1
      go_wp2_with fail
      (try rw [hX2])
      refine (bytes_any X _ HX.out.2.2.2).mono ?_
      rintro e v2 ⟨rfl, hB2⟩
      rw [HX.out.1]
      replace HB := HB.trans (hB2.mono HB.size)
      clear hB2
      go_wp2_with fail
      refine (list_any v2.heap.size 0 1 [⟨B.toArray⟩] _ (one_text v2 _) (by simp) (by simp) (by simp) (by rw [HX.out.2.2.1]; have := HL.out.2.2; omega)).mono ?_
      rintro e v3 ⟨rfl, hB3⟩
      rw [HX.out.2.2.1, HX.out.2.1]
      replace HB := HB.trans ((one_alloc hB3).mono HB.size)
      clear hB3
      go_wp2_with fail
      refine (decode_any ⟨(T.take K).toArray⟩ _ (by show (List.toArray _).size ≤ _; simp; have := HL.out.1; rw [List.length_take] at this; omega)).mono ?_
      rintro e v4 ⟨he4, hB4⟩
      obtain ⟨b4, s4, a4, n4, c4, rfl⟩ := itemAns_err he4
      rw [show (⟨(T.take K).toArray⟩ : ByteArray).data.toList = T.take K from rfl, HD.out.1]
      replace HB := HB.trans (hB4.mono HB.size)
      clear hB4 he4
      go_wp2_with fail
      refine (decode_any ⟨(T ++ M).toArray⟩ _ (by show (List.toArray _).size ≤ _; simp; have := HL.out.2.1; rw [List.length_append] at this; omega)).mono ?_
      rintro e v5 ⟨he5, hB5⟩
      obtain ⟨b5, s5, a5, n5, c5, rfl⟩ := itemAns_err he5
      rw [show (⟨(T ++ M).toArray⟩ : ByteArray).data.toList = T ++ M from rfl, HD.out.2.2.1 hMe]
      replace HB := HB.trans ((one_alloc hB5).mono HB.size)
      clear hB5 he5
      go_wp2_with fail
      refine (split_any ⟨(T ++ M).toArray⟩ _ (by show (List.toArray _).size < _; simp; have := HL.out.2.1; rw [List.length_append] at this; omega)).mono ?_
      rintro e v6 ⟨rfl, hB6⟩
      rw [show (⟨(T ++ M).toArray⟩ : ByteArray).data.toList = T ++ M from rfl, HD.out.2.2.2]
      unfold splitV
      replace HB := HB.trans ((one_alloc hB6).mono HB.size)
      clear hB6
      go_wp2_with fail
      (try rw [hX2])
      refine (bytes_any X _ HX.out.2.2.2).mono ?_
      rintro e v7 ⟨rfl, hB7⟩
      rw [HX.out.1]
      replace HB := HB.trans (hB7.mono HB.size)
      clear hB7
      go_wp2_with fail
      go_ret
      first | exact ⟨rfl, HB⟩ | exact ⟨by rw [hMi]; rfl, HB⟩)
end Go.Proofs.Ytikpmafmmjfioaa
