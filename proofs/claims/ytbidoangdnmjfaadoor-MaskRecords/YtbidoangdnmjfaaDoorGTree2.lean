/-
  A region that draws its order, as a tree in which what yields one value in a class of worlds may be taken ahead anywhere. Plain; nothing of the program.
-/
import Derived.Test.YtbidoangdnmjfaaDoorGTree
namespace Go.Proofs.YtbidoangdnmjfaaDoor
open Go Go.RowKit

inductive PlanU where
  | nil : PlanU
  | one : Nat → PlanU → PlanU
  | two : Nat → PlanU → Nat → PlanU → PlanU
  | take : Nat → PlanU → PlanU
def PlanU.depth : PlanU → Nat
  | .nil => 0
  | .one _ t => t.depth + 1
  | .two _ t _ _ => t.depth + 1
  | .take _ t => t.depth + 1
def uOk (md : Region.Mode) (ops : Array Oper) : PlanU → Array Bool → Bool
  | .nil, seen => (Region.ready md ops seen).isEmpty
  | .one k t, seen => decide (Region.ready md ops seen = [k]) && uOk md ops t (seen.setIfInBounds k true)
  | .two k t j s, seen => decide (Region.ready md ops seen = [k, j]) && decide (t.depth = s.depth) && uOk md ops t (seen.setIfInBounds k true) && uOk md ops s (seen.setIfInBounds j true)
  | .take k t, seen => (Region.ready md ops seen).contains k && Region.free md ops seen k && uOk md ops t (seen.setIfInBounds k true)
section
variable {P : Program} {ops : Array Oper} {md : Region.Mode} {Q : Exit → Act → World → Prop} {C : World → Prop}
def wpU (P : Program) (ops : Array Oper) (C : World → Prop) (Q : Exit → Act → World → Prop) : PlanU → Act → World → Prop
  | .nil, a, w => Q .normal a w
  | .one k t, a, w => wpOp P ops Q k (fun b w' => C w' ∧ wpU P ops C Q t b w') a w
  | .two k t j s, a, w => wpOp P ops Q k (fun b w' => C w' ∧ wpU P ops C Q t b w') a w ∧ wpOp P ops Q j (fun b w' => C w' ∧ wpU P ops C Q s b w') a w
  | .take k t, a, w => wpTakes P ops C (wpU P ops C Q t) [k] a w
theorem anyC_u (hs : Region.noSelect ops = true) (hQ : ∀ c a w d v, Q (.panic c) (Act.put a d v) w → Q (.panic c) a w) : ∀ (t : PlanU) (seen : Array Bool) (a : Act) (w : World), uOk md ops t seen = true → C w → wpU P ops C Q t a w → anyC P md ops C Q t.depth seen a w
  | .nil, seen, a, w, hB, hC, h => anyC_end (by simpa [uOk] using hB) hC h
  | .one k t, seen, a, w, hB, hC, h => by
    simp only [uOk, Bool.and_eq_true, decide_eq_true_eq] at hB
    exact anyC_one hB.1 hC (wpOp_mono (fun b w' h' => anyC_u hs hQ t _ b w' hB.2 h'.1 h'.2) h)
  | .two k t j s, seen, a, w, hB, hC, h => by
    simp only [uOk, Bool.and_eq_true, decide_eq_true_eq] at hB
    obtain ⟨⟨⟨h1, h2⟩, h3⟩, h4⟩ := hB
    refine ⟨hC, fun h0 => (by rw [h1] at h0; cases h0), fun i hi => ?_⟩
    rw [h1] at hi
    rcases List.mem_cons.1 hi with rfl | hi
    · exact wpOp_mono (fun b w' h' => anyC_u hs hQ t _ b w' h3 h'.1 h'.2) h.1
    · rw [List.mem_singleton.1 hi, h2]
      exact wpOp_mono (fun b w' h' => anyC_u hs hQ s _ b w' h4 h'.1 h'.2) h.2
  | .take k t, seen, a, w, hB, hC, h => by
    simp only [uOk, Bool.and_eq_true] at hB
    obtain ⟨hw, v, hy, h⟩ := h
    exact anyC_take (ready_get (md := md) (seen := seen) (by simpa using hB.1.1)) hs (fun c a w => hQ c a w _ _) t.depth seen a w hB.1.2 hB.1.1 hw hy (anyC_u hs hQ t _ _ _ hB.2 hC h)
theorem wp_region_u {id : Nat} {a : Act} {w : World} {l : List Oper} (C : World → Prop) (t : PlanU) (hm : P.follows .mixedOrders = true) (hs : Region.noSelect l.toArray = true) (hl : t.depth = l.length)
    (hB : uOk .any l.toArray t (Array.replicate l.length false) = true) (hQ : ∀ c a w d v, Q (.panic c) (Act.put a d v) w → Q (.panic c) a w) (hC : C w.drew)
    (h : wpU P l.toArray C Q t a w.drew) : (Code.region id l.toArray true).wp P Q a w := by
  refine wp_region_anyC C hm ?_
  rw [← hl]
  rw [← hl] at hB
  exact anyC_u hs hQ t _ a _ hB hC h
end
end Go.Proofs.YtbidoangdnmjfaaDoor
