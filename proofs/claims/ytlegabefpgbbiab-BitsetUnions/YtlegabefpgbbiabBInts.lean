/-
  Slices of integers.
-/
import Derived.Test.YtlegabefpgbbiabBAwake
namespace Go.Proofs.Ytlegabefpgbbiab
open Go Go.RowKit Go.Maps

/-- A slice of integers' number. -/
theorem IntsAt.at {w : World} {p : Option Addr} {n c : Nat} {l : List Int} (h : IntsAt w (.slice p n c) l) {i : Nat} (hi : i < l.length) : ∃ b o, p = some ⟨b, o, none⟩ ∧ ∀ j x, l[j]? = some x → w.cell? ⟨b, o + j, none⟩ = some (.int .i64 x) := by
  rcases h with ⟨h, _⟩ | ⟨b, o, c', h1, h2⟩
  · rw [h] at hi; simp at hi
  · injection h1 with e1 e2 e3
    refine ⟨b, o, e1, fun j x hj => ?_⟩
    have hl := (List.getElem?_eq_some_iff.1 hj).1
    rw [h2 j hl, List.getD_eq_getElem?_getD, hj]
    rfl
theorem IntsAt.cut {w : World} {b o n c : Nat} {l : List Int} (h : IntsAt w (.slice (some ⟨b, o, none⟩) n c) l) (k : Nat) (hk : k ≤ l.length) : IntsAt w (.slice (some ⟨b, o, none⟩) k c) (l.take k) := by
  have hlen : (l.take k).length = k := by rw [List.length_take]; omega
  rcases h with ⟨h, _⟩ | ⟨b', o', c', h1, h2⟩
  · subst h
    simp at hk
    subst hk
    exact .inl ⟨by simp, _, _, rfl⟩
  · injection h1 with e1 e2 e3
    injection e1 with e1
    injection e1 with e4 e5
    subst e3 e4 e5
    refine .inr ⟨b, o, c, by rw [hlen], fun i hi => ?_⟩
    rw [hlen] at hi
    rw [h2 i (by omega)]
    simp [List.getD_eq_getElem?_getD, hi]
theorem IntsAt.len {w : World} {p : Option Addr} {n c : Nat} {l : List Int} (h : IntsAt w (.slice p n c) l) : l.length = n := by
  rcases h with ⟨h, p', c', h2⟩ | ⟨b', o', c', h1, h2⟩
  · injection h2 with _ e _; rw [h, e]; rfl
  · injection h1 with _ e _; exact e.symm

end Go.Proofs.Ytlegabefpgbbiab
