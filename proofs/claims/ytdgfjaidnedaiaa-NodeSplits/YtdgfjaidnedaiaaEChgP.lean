/-
  NodeChanges: what is dropped is gone.
-/
import Derived.Test.YtdgfjaidnedaiaaEQDropW
namespace Go.Proofs.Ytdgfjaidnedaiaa
open Go Go.RowKit Go.Lib

theorem dropL_sub (L : List Cl) (d : Int) : (dropL L d).Sublist L := by
  unfold dropL
  split
  · have h := (List.Sublist.refl (L.take d.toNat)).append (List.drop_sublist_drop_left L (Nat.le_succ d.toNat))
    rwa [List.take_append_drop] at h
  · exact List.Sublist.refl _
theorem rises_dropL {L : List Cl} (h : Rises L) (d : Int) : Rises (dropL L d) := List.Pairwise.sublist (dropL_sub L d) h
theorem okL_dropL {leaf : Bool} {L : List Cl} (h : OkL leaf L) (d : Int) : OkL leaf (dropL L d) := ⟨fun c hc => h.1 c ((dropL_sub L d).subset hc), rises_dropL h.2 d⟩
theorem isAt_mem {L : List Cl} {key : ByteArray} (h : isAt L key = true) : ∃ y ∈ L, y.k = key := by
  unfold isAt at h
  split at h
  · rename_i c hc
    exact ⟨c, List.mem_of_getElem? hc, of_decide_eq_true h⟩
  · exact absurd h (by simp)
theorem drop_gone {L : List Cl} (hr : Rises L) {j : Nat} {x : Cl} (hx : L[j]? = some x) : isAt (dropL L (j : Nat)) x.k = false := by
  cases hA : isAt (dropL L (j : Nat)) x.k with
  | false => rfl
  | true =>
    exfalso
    obtain ⟨y, hy, hk⟩ := isAt_mem hA
    have hl := (List.getElem?_eq_some_iff.1 hx).1
    unfold dropL at hy
    rw [if_pos ⟨by omega, by omega⟩] at hy
    have hirr : kl x.k x.k = false := kl_irrefl _
    rcases List.mem_append.1 hy with h1 | h1
    · obtain ⟨i, hi⟩ := List.mem_iff_getElem?.1 h1
      rw [List.getElem?_take] at hi
      split at hi
      · have := hr.lt (i := i) (j := j) (by omega) hi hx
        rw [hk, hirr] at this
        exact absurd this (by simp)
      · exact absurd hi (by simp)
    · obtain ⟨i, hi⟩ := List.mem_iff_getElem?.1 h1
      rw [List.getElem?_drop] at hi
      have := hr.lt (i := j) (by omega) hx hi
      rw [hk, hirr] at this
      exact absurd this (by simp)

end Go.Proofs.Ytdgfjaidnedaiaa
