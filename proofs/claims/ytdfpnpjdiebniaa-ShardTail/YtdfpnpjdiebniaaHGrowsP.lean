/-
  What ShardGrows leans on besides.
-/
import Derived.Test.YtdfpnpjdiebniaaHSameW
namespace Go.Proofs.Ytdfpnpjdiebniaa
open Go Go.RowKit

theorem OwnChunks.set {w w' : World} {base b : Nat} {v : Value} {mo : Option Nat} {M : Nat → Bool} {L : List Ck} (h : OwnChunks w base v L) (hs : SetAt w b mo M) (o : OnlyS b mo w w') : OwnChunks w' base v L := by
  refine ⟨h.1, ?_⟩
  rcases h.2 with q | ⟨g, cap, cur, rfl, h1, h2, h3⟩
  · exact .inl q
  · refine .inr ⟨g, cap, cur, rfl, h1, (o.block g (Array.getElem?_eq_some_iff.1 h2).1 (fun e => ?_) (hs.neH h2)).trans h2, h3⟩
    have hp := hs.ptr
    unfold Holds at hp
    rw [← e, h2] at hp
    injection hp with hp
    injection hp with _ hp
    revert hp
    decide
theorem OwnChunks.cutM {w w' : World} {base b : Nat} {v : Value} {mo : Option Nat} {M : Nat → Bool} {L : List Ck} (h : OwnChunks w base v L) (hs : SetAt w b mo M) (o : OnlyM mo w w') : OwnChunks w' base v L := h.set hs (o.toS b)
theorem leastL_ex : ∀ (m : List Nat) (f : Int), ∃ x b, LeastL m f x b
  | [], f => ⟨0, false, .inr ⟨rfl, rfl, fun y hy => by (cases hy)⟩⟩
  | a :: m, f => by
    obtain ⟨x, b, h⟩ := leastL_ex m f
    by_cases ha : f ≤ (a : Int)
    · rcases h with ⟨_, h1, h2, h3⟩ | ⟨_, _, h3⟩
      · refine ⟨min a x, true, .inl ⟨rfl, ?_, by omega, fun y hy hf => ?_⟩⟩
        · rcases (by omega : min a x = a ∨ min a x = x) with e | e
          · rw [e]; exact List.mem_cons_self
          · rw [e]; exact List.mem_cons_of_mem _ h1
        · rcases List.mem_cons.1 hy with rfl | hy
          · omega
          · have := h3 y hy hf; omega
      · refine ⟨a, true, .inl ⟨rfl, List.mem_cons_self, ha, fun y hy hf => ?_⟩⟩
        rcases List.mem_cons.1 hy with rfl | hy
        · exact Nat.le_refl _
        · have := h3 y hy; omega
    · rcases h with ⟨_, h1, h2, h3⟩ | ⟨_, h0, h3⟩
      · refine ⟨x, true, .inl ⟨rfl, List.mem_cons_of_mem _ h1, h2, fun y hy hf => ?_⟩⟩
        rcases List.mem_cons.1 hy with rfl | hy
        · omega
        · exact h3 y hy hf
      · refine ⟨0, false, .inr ⟨rfl, rfl, fun y hy => ?_⟩⟩
        rcases List.mem_cons.1 hy with rfl | hy
        · omega
        · exact h3 y hy
theorem leastL_uniq {m : List Nat} {f : Int} {x x' : Nat} {b b' : Bool} (h : LeastL m f x b) (h' : LeastL m f x' b') : x = x' ∧ b = b' := by
  rcases h with ⟨rfl, h1, h2, h3⟩ | ⟨rfl, rfl, h3⟩
  · rcases h' with ⟨rfl, k1, k2, k3⟩ | ⟨rfl, rfl, k3⟩
    · have := h3 x' k1 k2
      have := k3 x h1 h2
      exact ⟨by omega, rfl⟩
    · have := k3 x h1; omega
  · rcases h' with ⟨rfl, k1, k2, k3⟩ | ⟨rfl, rfl, k3⟩
    · have := h3 x' k1; omega
    · exact ⟨rfl, rfl⟩
theorem part_len {ps : List (List Nat)} (hg : Good ps) {k : Nat} (hk : k < ps.length) : ∃ u p, (chk ps)[k]? = some (u, dataOf p) ∧ Nums p ∧ 1 ≤ p.length ∧ p.length ≤ 64 ∧ (k + 1 < ps.length → p.length = 64) := by
  obtain ⟨p, hp⟩ : ∃ p, ps[k]? = some p := ⟨_, List.getElem?_eq_getElem hk⟩
  exact ⟨_, p, chk_get ps k p hp, (hg.at hp).1, (hg.at hp).2.1, (hg.at hp).2.2, fun h => hg.parted.full hp h⟩
end Go.Proofs.Ytdfpnpjdiebniaa
