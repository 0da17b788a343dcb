/-
  A region that draws its order: what yields one value in a class of worlds is taken first; then one alone comes up at a time, or two of which each may come first. Plain; nothing of the program.
-/
import Derived.Test.YtbidoangdnmjfaaDoorDTake
import Derived.BigQuiet
import Derived.Maps.RangeWalk
import Derived.Laws.ResultCell
import Derived.WalkSmall
namespace Go.Proofs.YtbidoangdnmjfaaDoor
open Go Go.RowKit

inductive PlanT where
  | nil : PlanT
  | one : Nat → PlanT → PlanT
  | two : Nat → PlanT → Nat → PlanT → PlanT
  | three : Nat → PlanT → Nat → PlanT → Nat → PlanT → PlanT
def PlanT.depth : PlanT → Nat
  | .nil => 0
  | .one _ t => t.depth + 1
  | .two _ t _ _ => t.depth + 1
  | .three _ t _ _ _ _ => t.depth + 1
def treeOk (md : Region.Mode) (ops : Array Oper) : PlanT → Array Bool → Bool
  | .nil, seen => (Region.ready md ops seen).isEmpty
  | .one k t, seen => decide (Region.ready md ops seen = [k]) && treeOk md ops t (seen.setIfInBounds k true)
  | .two k t j s, seen => decide (Region.ready md ops seen = [k, j]) && decide (t.depth = s.depth) && treeOk md ops t (seen.setIfInBounds k true) && treeOk md ops s (seen.setIfInBounds j true)
  | .three k t j s i r, seen => decide (Region.ready md ops seen = [k, j, i]) && decide (t.depth = s.depth) && decide (t.depth = r.depth) && treeOk md ops t (seen.setIfInBounds k true) && treeOk md ops s (seen.setIfInBounds j true) && treeOk md ops r (seen.setIfInBounds i true)
def takesOk (md : Region.Mode) (ops : Array Oper) (t : PlanT) : List Nat → Array Bool → Bool
  | [], seen => treeOk md ops t seen
  | k :: l, seen => (Region.ready md ops seen).contains k && Region.free md ops seen k && takesOk md ops t l (seen.setIfInBounds k true)
section
variable {P : Program} {ops : Array Oper} {md : Region.Mode} {Q : Exit → Act → World → Prop} {C : World → Prop}
def wpTree (P : Program) (ops : Array Oper) (C : World → Prop) (Q : Exit → Act → World → Prop) : PlanT → Act → World → Prop
  | .nil, a, w => Q .normal a w
  | .one k t, a, w => wpOp P ops Q k (fun b w' => C w' ∧ wpTree P ops C Q t b w') a w
  | .two k t j s, a, w => wpOp P ops Q k (fun b w' => C w' ∧ wpTree P ops C Q t b w') a w ∧ wpOp P ops Q j (fun b w' => C w' ∧ wpTree P ops C Q s b w') a w
  | .three k t j s i r, a, w => wpOp P ops Q k (fun b w' => C w' ∧ wpTree P ops C Q t b w') a w ∧ wpOp P ops Q j (fun b w' => C w' ∧ wpTree P ops C Q s b w') a w ∧ wpOp P ops Q i (fun b w' => C w' ∧ wpTree P ops C Q r b w') a w
def wpTakes (P : Program) (ops : Array Oper) (C : World → Prop) (K : Act → World → Prop) : List Nat → Act → World → Prop
  | [], a, w => K a w
  | k :: l, a, w => Region.wanted (ops[k]?.getD default) (yielded ops a.tmps) = true ∧ ∃ v, YieldsC P C (ops[k]?.getD default) v a ∧ wpTakes P ops C K l (a.put (ops[k]?.getD default).dst v) w
theorem anyC_tree : ∀ (t : PlanT) (seen : Array Bool) (a : Act) (w : World), treeOk md ops t seen = true → C w → wpTree P ops C Q t a w → anyC P md ops C Q t.depth seen a w
  | .nil, seen, a, w, hB, hC, h => anyC_end (by simpa [treeOk] using hB) hC h
  | .one k t, seen, a, w, hB, hC, h => by
    simp only [treeOk, Bool.and_eq_true, decide_eq_true_eq] at hB
    exact anyC_one hB.1 hC (wpOp_mono (fun b w' h' => anyC_tree t _ b w' hB.2 h'.1 h'.2) h)
  | .two k t j s, seen, a, w, hB, hC, h => by
    simp only [treeOk, Bool.and_eq_true, decide_eq_true_eq] at hB
    obtain ⟨⟨⟨h1, h2⟩, h3⟩, h4⟩ := hB
    refine ⟨hC, fun h0 => (by rw [h1] at h0; cases h0), fun i hi => ?_⟩
    rw [h1] at hi
    rcases List.mem_cons.1 hi with rfl | hi
    · exact wpOp_mono (fun b w' h' => anyC_tree t _ b w' h3 h'.1 h'.2) h.1
    · rw [List.mem_singleton.1 hi, h2]
      exact wpOp_mono (fun b w' h' => anyC_tree s _ b w' h4 h'.1 h'.2) h.2
  | .three k t j s i r, seen, a, w, hB, hC, h => by
    simp only [treeOk, Bool.and_eq_true, decide_eq_true_eq] at hB
    obtain ⟨⟨⟨⟨⟨h1, h2⟩, h2'⟩, h3⟩, h4⟩, h5⟩ := hB
    refine ⟨hC, fun h0 => (by rw [h1] at h0; cases h0), fun q hq => ?_⟩
    rw [h1] at hq
    rcases List.mem_cons.1 hq with rfl | hq
    · exact wpOp_mono (fun b w' h' => anyC_tree t _ b w' h3 h'.1 h'.2) h.1
    · rcases List.mem_cons.1 hq with rfl | hq
      · show wpOp _ _ _ _ _ _ _
        rw [h2]
        exact wpOp_mono (fun b w' h' => anyC_tree s _ b w' h4 h'.1 h'.2) h.2.1
      · rw [List.mem_singleton.1 hq]
        show wpOp _ _ _ _ _ _ _
        rw [h2']
        exact wpOp_mono (fun b w' h' => anyC_tree r _ b w' h5 h'.1 h'.2) h.2.2
theorem anyC_takes (hs : Region.noSelect ops = true) (hQ : ∀ c a w d v, Q (.panic c) (Act.put a d v) w → Q (.panic c) a w) (t : PlanT) : ∀ (l : List Nat) (seen : Array Bool) (a : Act) (w : World), takesOk md ops t l seen = true → C w → wpTakes P ops C (wpTree P ops C Q t) l a w → anyC P md ops C Q (t.depth + l.length) seen a w
  | [], seen, a, w, hB, hC, h => anyC_tree t seen a w hB hC h
  | k :: l, seen, a, w, hB, hC, h => by
    simp only [takesOk, Bool.and_eq_true] at hB
    obtain ⟨hw, v, hy, h⟩ := h
    exact anyC_take (ready_get (md := md) (seen := seen) (by simpa using hB.1.1)) hs (fun c a w => hQ c a w _ _) (t.depth + l.length) seen a w hB.1.2 hB.1.1 hw hy (anyC_takes hs hQ t l _ _ _ hB.2 hC h)
theorem wp_region_tree {id : Nat} {a : Act} {w : World} {l : List Oper} (C : World → Prop) (tk : List Nat) (t : PlanT) (hm : P.follows .mixedOrders = true) (hs : Region.noSelect l.toArray = true) (hl : t.depth + tk.length = l.length)
    (hB : takesOk .any l.toArray t tk (Array.replicate l.length false) = true) (hQ : ∀ c a w d v, Q (.panic c) (Act.put a d v) w → Q (.panic c) a w) (hC : C w.drew)
    (h : wpTakes P l.toArray C (wpTree P l.toArray C Q t) tk a w.drew) : (Code.region id l.toArray true).wp P Q a w := by
  refine wp_region_anyC C hm ?_
  rw [← hl]
  rw [← hl] at hB
  exact anyC_takes hs hQ t tk _ a _ hB hC h
end
section
variable {ops : Array Oper} {C : World → Prop} {Q : Exit → Act → World → Prop} {K : Act → World → Prop} {l : List Nat} {k : Nat} {op : Oper} {a : Act} {w : World}
theorem tk_val (d : Option Tmp) (hdd : op.dst = d) (hk : ops[k]?.getD default = op) (hw : Region.wanted op (yielded ops a.tmps) = true) (v : Value) (hv : ∀ w, (execOp a.eval op).run Tryd.prog w = .ok (.value v) w) (h : wpTakes Tryd.prog ops C K l (a.put d v) w) : wpTakes Tryd.prog ops C K (k :: l) a w :=
  ⟨by rw [hk]; exact hw, v, fun w' _ => by rw [hk]; exact hv w', by rw [hk, hdd]; exact h⟩
theorem tk_ld (d : Option Tmp) (hdd : op.dst = d) (hk : ops[k]?.getD default = op) (hw : Region.wanted op (yielded ops a.tmps) = true) (ty : TypeId) (x : Operand) (ho : op.op = .load ty x) {ad : Addr} (hx : a.eval x = .pointer (some ad)) {v : Value} (hh : ∀ w, C w → (loadVar ty ad).run Tryd.prog w = .ok v w)
    (h : wpTakes Tryd.prog ops C K l (a.put d v) w) : wpTakes Tryd.prog ops C K (k :: l) a w := by
  refine ⟨by rw [hk]; exact hw, v, fun w' hw' => ?_, by rw [hk, hdd]; exact h⟩
  rw [hk]
  unfold execOp
  simp only [ho, hx, Instr.loadAt, Instr.sureAddr, Sem.run_bind, Sem.run_pure, Result.andThen_ok, hh w' hw']
theorem tk_nil (h : K a w) : wpTakes Tryd.prog ops C K [] a w := h
theorem op_call (d : Option Tmp) (hdd : op.dst = d) (hk : ops[k]? = some op) (hw : Region.wanted op (yielded ops a.tmps) = true) {f : FuncId} {vs : Array Value} (hf : (execOp a.eval op).run Tryd.prog w = .ok (.enter f vs) w) (hc : Calls Tryd.prog f vs w fun e w' => ∃ v, e = .returned v ∧ K (a.put d v) w') : wpOp Tryd.prog ops Q k K a w := by
  unfold wpOp
  rw [hk]
  dsimp only
  rw [if_pos hw]
  left
  unfold Oper.wp
  rw [hf]
  refine Calls.mono hc ?_
  rintro e w' ⟨v, rfl, h1⟩
  rw [← hdd] at h1
  exact h1
theorem op_val (d : Option Tmp) (hdd : op.dst = d) (hk : ops[k]? = some op) (hw : Region.wanted op (yielded ops a.tmps) = true) {v : Value} {w' : World} (hv : (execOp a.eval op).run Tryd.prog w = .ok (.value v) w') (h : K (a.put d v) w') : wpOp Tryd.prog ops Q k K a w := by
  unfold wpOp
  rw [hk]
  dsimp only
  rw [if_pos hw]
  left
  unfold Oper.wp
  rw [hv]
  rw [← hdd] at h
  exact h
theorem op_skip (d : Option Tmp) (hdd : op.dst = d) (hk : ops[k]? = some op) (hw : Region.wanted op (yielded ops a.tmps) = true) {w' : World} (hv : (execOp a.eval op).run Tryd.prog w = .ok .skip w') (h : K (a.put d undef) w') : wpOp Tryd.prog ops Q k K a w := by
  unfold wpOp
  rw [hk]
  dsimp only
  rw [if_pos hw]
  left
  unfold Oper.wp
  rw [hv]
  rw [← hdd] at h
  exact h
theorem op_storeH (d : Option Tmp) (hdd : op.dst = d) (hk : ops[k]? = some op) (hw : Region.wanted op (yielded ops a.tmps) = true) (ty : TypeId) (x y : Operand) (ho : op.op = .store ty x y)
    (b : Nat) (cells : Array Value) (hx : a.eval x = .pointer (some ⟨b, 0, none⟩)) (hy : a.eval y = .agg cells)
    (t : TypeId) (old : Array Value) (hh : Holds w b t old) (hi : (Tryd.prog.info? ty).map (·.size) = some cells.size) (hz : old.size = cells.size) (h1 : cells.all (·.oneCell') = true)
    (h : ∀ w', Holds w' b t cells → Only b w w' → w'.heap.size = w.heap.size → K (a.put d undef) w') : wpOp Tryd.prog ops Q k K a w := by
  unfold wpOp
  rw [hk]
  dsimp only
  rw [if_pos hw]
  left
  unfold Oper.wp execOp
  simp only [ho, hx, hy, Instr.storeAt, Instr.sureAddr, Sem.run_bind, Sem.run_pure, Result.andThen_ok, run_storeVar_row w b t ty old cells hh hi hz h1]
  show K (a.put op.dst undef) _
  rw [hdd]
  exact h _ (setRow_heap w b old cells t (0, 0) hh) ⟨rfl, rfl, rfl, by simp [World.setRow], fun k _ hb => World.setRow_other w b k cells hb⟩ (by simp [World.setRow])
end
end Go.Proofs.YtbidoangdnmjfaaDoor
