/-
  What ShardUppers leans on: the uppers rise.
-/
import Derived.Test.YtdfpnpjdiebniaaHLaw
import Derived.Test.YtdfpnpjdiebniaaHPlanD
namespace Go.Proofs.Ytdfpnpjdiebniaa
open Go Go.RowKit

theorem uppers_rise {ps : List (List Nat)} (hg : Good ps) {i j : Nat} {x y : Ck} (hij : i < j) (hx : (chk ps)[i]? = some x) (hy : (chk ps)[j]? = some y) : x.1 < y.1 := by
  have hi := (List.getElem?_eq_some_iff.1 hx).1
  have hj := (List.getElem?_eq_some_iff.1 hy).1
  rw [chk_len] at hi hj
  obtain ⟨p, hp⟩ : ∃ p, ps[i]? = some p := ⟨_, List.getElem?_eq_getElem hi⟩
  obtain ⟨q, hq⟩ : ∃ q, ps[j]? = some q := ⟨_, List.getElem?_eq_getElem hj⟩
  have e1 := Option.some.inj (hx.symm.trans (chk_get ps i p hp))
  have e2 := Option.some.inj (hy.symm.trans (chk_get ps j q hq))
  rw [e1, e2]
  have hpl := last_mem (hg.at hp).2.1
  have hql := last_mem (hg.at hq).2.1
  have h1 := hg.rise hij hp hq _ hpl _ hql
  have h2 := (hg.at hp).1.bound _ hpl
  dsimp only
  rw [if_neg (by omega)]
  split
  · have h3 := (hg.at hq).1.bound _ hql
    omega
  · omega
theorem upper_last {ps : List (List Nat)} {x : Ck} {i : Nat} (hi : i + 1 = ps.length) (hx : (chk ps)[i]? = some x) : x.1 = 2147483647 := by
  obtain ⟨p, hp⟩ : ∃ p, ps[i]? = some p := ⟨_, List.getElem?_eq_getElem (by omega)⟩
  rw [Option.some.inj (hx.symm.trans (chk_get ps i p hp))]
  dsimp only
  rw [if_pos hi]
/-- Each member stands in the chunk that Which tells of it. -/
theorem which_mem {ps : List (List Nat)} (hg : Good ps) {x : Nat} (hx : x ∈ ps.flatten) : ∃ (k : Nat) (u : Int) (p : List Nat), which ((chk ps).map (·.1)) (x : Int) = some k ∧ (chk ps)[k]? = some (u, dataOf p) ∧ Nums p ∧ x ∈ p := by
  rcases where_asked hg (x : Int) with ⟨_, h2⟩ | ⟨k, u, p, h1, h2, h3, h4, h5⟩
  · have := h2 x hx; omega
  · refine ⟨k, u, p, h1, h3, (hg.at h2).1, ?_⟩
    rcases h4 x hx (Int.le_refl _) with h | ⟨j, q, hj, hq, hxq⟩
    · exact h
    · obtain ⟨b1, b2⟩ := h5 (by have := (List.getElem?_eq_some_iff.1 hq).1; omega)
      have := hg.rise hj h2 hq _ b1 _ hxq
      omega
theorem own_mono {w : World} {b b' : Nat} {v : Value} {l : List Int} (h : OwnI w b v l) (hb : b' ≤ b) : OwnI w b' v l := by
  refine ⟨h.1, ?_⟩
  rcases h.2 with q | ⟨g, cap, cur, rfl, h1, h2, h3⟩
  · exact .inl q
  · exact .inr ⟨g, cap, cur, rfl, by omega, h2, h3⟩
theorem drew_below {w w' : World} {n : Nat} (h : Below n w w') : Below n w w'.drew := ⟨h.os, h.tape, h.output, h.size, h.block⟩
end Go.Proofs.Ytdfpnpjdiebniaa
