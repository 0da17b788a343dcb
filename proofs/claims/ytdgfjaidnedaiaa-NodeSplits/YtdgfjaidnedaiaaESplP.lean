/-
  NodeSplits: both parts of a node that fits with one cell more fit.
-/
import Derived.Test.YtdgfjaidnedaiaaEChgP
namespace Go.Proofs.Ytdgfjaidnedaiaa
open Go Go.RowKit Go.Lib

theorem sizeC_may {leaf : Bool} {c : Cl} (h : mayB leaf c = true) : sizeC leaf c ≤ 331 := by
  unfold mayB at h
  unfold sizeC
  rw [Bool.and_eq_true] at h
  obtain ⟨h1, h2⟩ := h
  have h1 := of_decide_eq_true h1
  by_cases hl : leaf = true
  · by_cases hp : c.p = 0
    · rw [if_pos ⟨hl, hp⟩] at h2
      have h2 := of_decide_eq_true h2
      rw [if_pos hl, if_pos hp]
      omega
    · rw [if_pos hl, if_neg hp]
      omega
  · rw [if_neg hl]
    omega
theorem sizeL_cons (leaf : Bool) (c : Cl) (L : List Cl) : sizeL leaf (c :: L) = sizeC leaf c + sizeL leaf L := by
  unfold sizeL
  rw [List.map_cons, List.sum_cons]
  omega
theorem sizeL_two (leaf : Bool) (L : List Cl) : 2 ≤ sizeL leaf L := by unfold sizeL; omega
theorem sizeL_put (leaf : Bool) (L : List Cl) (c : Cl) : sizeL leaf (putL L c) ≤ sizeL leaf L + sizeC leaf c := by
  have h1 := sizeL_drop leaf L (fndN L c.k)
  have h2 := sizeL_drop leaf (L.drop (fndN L c.k)) (if isAt L c.k = true then 1 else 0)
  have h3 := sizeL_two leaf ((L.drop (fndN L c.k)).take (if isAt L c.k = true then 1 else 0))
  rw [List.drop_drop] at h2
  have h4 : sizeL leaf (putL L c) + 2 = sizeL leaf (L.take (fndN L c.k)) + (sizeC leaf c + sizeL leaf (L.drop (fndN L c.k + (if isAt L c.k = true then 1 else 0)))) := by
    unfold putL
    rw [sizeL_app, ← sizeL_cons, List.singleton_append]
    unfold sizeL
    omega
  omega
/-- The parts of a node that fits with one cell more. -/
theorem parts_fit {leaf : Bool} {L : List Cl} {c : Cl} (h : OkL leaf L) (hs : sizeL leaf L ≤ 1013) (hc : mayB leaf c = true) :
    ∀ X ∈ splL leaf (putL L c), sizeL leaf X ≤ 1013 ∧ OkL leaf X := by
  have hP := putL_ok h hc
  have hz := sizeL_put leaf L c
  have hc1 := sizeC_may hc
  obtain ⟨P, hPe⟩ : ∃ P, putL L c = P := ⟨_, rfl⟩
  rw [hPe] at hP hz ⊢
  intro X hX
  unfold splL at hX
  by_cases hq : sizeL leaf P ≤ 1013 ∨ P.length < 2
  · rw [if_pos hq, List.mem_singleton] at hX
    subst hX
    refine ⟨?_, hP⟩
    rcases hq with hq | hq
    · exact hq
    · match X, hq, hP with
      | [], _, _ => simp [sizeL]
      | [x], _, hP =>
        have := sizeC_may (hP.1 x (List.mem_singleton.2 rfl))
        rw [sizeL_cons]
        have : sizeL leaf [] = 2 := rfl
        omega
      | _ :: _ :: l, hq, _ => simp at hq; omega
  · rw [if_neg hq] at hX
    obtain ⟨⟨k1, k2⟩, k3, k4⟩ := halfN_spec (leaf := leaf) (L := P) (by omega)
    have hdr := sizeL_drop leaf P (halfN leaf P)
    obtain ⟨K, hK⟩ : ∃ K, halfN leaf P = K := ⟨_, rfl⟩
    rw [hK] at k1 k2 k3 k4 hdr hX
    obtain ⟨x, hx⟩ : ∃ x, P[K - 1]? = some x := ⟨_, List.getElem?_eq_getElem (by omega)⟩
    have hxm := sizeC_may (hP.1 x (List.mem_of_getElem? hx))
    have htk := sizeL_take (leaf := leaf) hx
    rw [show K - 1 + 1 = K by omega] at htk
    rcases List.mem_cons.1 hX with rfl | hX
    · refine ⟨?_, hP.take _⟩
      by_cases e : K = 1
      · subst e
        have : sizeL leaf (P.take (1 - 1)) = 2 := rfl
        omega
      · have := k3 (K - 1) (by omega) (by omega)
        unfold enough at this
        have := of_decide_eq_false this
        omega
    · rw [List.mem_singleton] at hX
      subst hX
      refine ⟨?_, hP.drop _⟩
      rcases k4 with k4 | k4
      · obtain ⟨y, hy⟩ : ∃ y, P[K]? = some y := ⟨_, List.getElem?_eq_getElem (by omega)⟩
        have hym := sizeC_may (hP.1 y (List.mem_of_getElem? hy))
        have e : P.drop K = [y] := by
          obtain ⟨h1, h2⟩ := List.getElem?_eq_some_iff.1 hy
          rw [List.drop_eq_getElem_cons h1, h2, List.drop_of_length_le (by omega)]
        rw [e, sizeL_cons]
        have : sizeL leaf [] = 2 := rfl
        omega
      · unfold enough at k4
        have := of_decide_eq_true k4
        omega
theorem splL_len (leaf : Bool) (P : List Cl) : ((splL leaf P).map List.length).sum = P.length := by
  unfold splL
  split
  · simp
  · simp
    omega
theorem splL_two {leaf : Bool} {P A B : List Cl} (h : splL leaf P = [A, B]) : A ++ B = P ∧ 0 < A.length ∧ 0 < B.length := by
  unfold splL at h
  split at h
  · simp at h
  · rename_i hq
    obtain ⟨⟨k1, k2⟩, _⟩ := halfN_spec (leaf := leaf) (L := P) (by omega)
    injection h with h1 h2
    injection h2 with h2 _
    subst h1 h2
    refine ⟨List.take_append_drop _ _, ?_, ?_⟩
    · rw [List.length_take]; omega
    · rw [List.length_drop]; omega
theorem splL_cases (leaf : Bool) (P : List Cl) : splL leaf P = [P] ∨ ∃ A B, splL leaf P = [A, B] := by
  unfold splL
  split
  · exact .inl rfl
  · exact .inr ⟨_, _, rfl⟩
end Go.Proofs.Ytdgfjaidnedaiaa
