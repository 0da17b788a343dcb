/-
  A region that draws its order, as a tree in which what yields one value may be taken ahead anywhere, and what is not wanted be dropped. Plain; nothing of the program.
-/
import Derived.Test.YtbidoangdnmjfaaDoorGTree2
namespace Go.Proofs.YtbidoangdnmjfaaDoor
open Go Go.RowKit

section
variable {P : Program} {ops : Array Oper} {md : Region.Mode} {Q : Exit → Act → World → Prop} {C : World → Prop}

/-- One that is not done may be passed first. -/
theorem anyC_drop {k : Nat} {o : Oper} (hk : ops[k]? = some o) (hs : Region.noSelect ops = true) (hQ : ∀ c a w, Q (.panic c) (Act.put a o.dst undef) w → Q (.panic c) a w) :
    ∀ (n : Nat) (seen : Array Bool) (a : Act) (w : World), Region.free md ops seen k = true → (Region.ready md ops seen).contains k = true → Region.wanted o (yielded ops a.tmps) = false →
      anyC P md ops C Q n (seen.setIfInBounds k true) (a.put o.dst undef) w → anyC P md ops C Q (n + 1) seen a w := by
  intro n
  have step : ∀ (n : Nat) (seen : Array Bool) (a : Act) (w : World), Region.wanted o (yielded ops a.tmps) = false → anyC P md ops C Q n (seen.setIfInBounds k true) (a.put o.dst undef) w → wpOp P ops Q k (anyC P md ops C Q n (seen.setIfInBounds k true)) a w := fun n seen a w hw h => by
    unfold wpOp
    rw [hk]
    dsimp only
    rw [if_neg (by rw [hw]; decide)]
    exact h
  have main : ∀ (n : Nat) (seen : Array Bool) (a : Act) (w : World),
      (∀ j oj, ops[j]? = some oj → j ≠ k → seen.getD j true = false → (∀ e ∈ oj.after, Region.binds md e = true → e.on ≠ k) → o.apart ops oj = true) →
      k ∈ Region.ready md ops seen → Region.wanted o (yielded ops a.tmps) = false →
      anyC P md ops C Q n (seen.setIfInBounds k true) (a.put o.dst undef) w → anyC P md ops C Q (n + 1) seen a w := by
    intro n
    induction n with
    | zero =>
      intro seen a w _ hr hw h
      refine ⟨h.1, fun h0 => absurd hr (by rw [h0]; exact List.not_mem_nil), fun j hj => ?_⟩
      by_cases e : j = k
      · rw [e]; exact step 0 seen a w hw h
      · have := ready_mono hj e
        rw [h.2.1] at this
        exact absurd this List.not_mem_nil
    | succ n ih =>
      intro seen a w hfr hr hw h
      refine ⟨h.1, fun h0 => absurd hr (by rw [h0]; exact List.not_mem_nil), fun j hj => ?_⟩
      by_cases e : j = k
      · rw [e]; exact step (n + 1) seen a w hw h
      · obtain ⟨hun, oj, hoj, hall⟩ := mem_ready.1 hj
        have hno : ∀ e ∈ oj.after, Region.binds md e = true → e.on ≠ k := by
          intro e' he hb heq
          have q1 := hall e' he hb
          have q0 := (mem_ready.1 hr).1
          rw [heq] at q1
          by_cases hlt : k < seen.size
          · simp [hlt] at q0 q1
            rw [q0] at q1
            cases q1
          · simp [Array.getElem?_eq_none (Nat.le_of_not_lt hlt)] at q1
        have st := carry (o := o) (v := undef) hoj (hfr j oj hoj e hun hno) (Region.noSelect_spec hs k o · · hk) (Region.noSelect_spec hs j oj · · hoj) hQ (h.2.2 j (ready_mono hj e))
        refine wpOp_mono (fun b w' ⟨hal, hb⟩ => ?_) st
        refine ih (seen.setIfInBounds j true) b w' ?_ (ready_mono hr (Ne.symm e)) (hal.wa.trans hw) ?_
        · intro i oi hi hik hu hn
          refine hfr i oi hi hik ?_ hn
          by_cases eij : j = i
          · rw [← eij]; exact hun
          · rw [getD_set_ne true eij] at hu; exact hu
        · rw [Array.setIfInBounds_comm _ _ e]; exact hb
  exact fun seen a w hf hr hw h => main n seen a w (Region.free_spec hk hf) (by simpa using hr) hw h
end
inductive PlanV where
  | nil : PlanV
  | one : Nat → PlanV → PlanV
  | two : Nat → PlanV → Nat → PlanV → PlanV
  | take : Nat → PlanV → PlanV
  | drop : Nat → PlanV → PlanV
def PlanV.depth : PlanV → Nat
  | .nil => 0
  | .one _ t => t.depth + 1
  | .two _ t _ _ => t.depth + 1
  | .take _ t => t.depth + 1
  | .drop _ t => t.depth + 1
def vOk (md : Region.Mode) (ops : Array Oper) : PlanV → Array Bool → Bool
  | .nil, seen => (Region.ready md ops seen).isEmpty
  | .one k t, seen => decide (Region.ready md ops seen = [k]) && vOk md ops t (seen.setIfInBounds k true)
  | .two k t j s, seen => decide (Region.ready md ops seen = [k, j]) && decide (t.depth = s.depth) && vOk md ops t (seen.setIfInBounds k true) && vOk md ops s (seen.setIfInBounds j true)
  | .take k t, seen => (Region.ready md ops seen).contains k && Region.free md ops seen k && vOk md ops t (seen.setIfInBounds k true)
  | .drop k t, seen => (Region.ready md ops seen).contains k && Region.free md ops seen k && vOk md ops t (seen.setIfInBounds k true)
section
variable {P : Program} {ops : Array Oper} {md : Region.Mode} {Q : Exit → Act → World → Prop} {C : World → Prop}
def wpV (P : Program) (ops : Array Oper) (C : World → Prop) (Q : Exit → Act → World → Prop) : PlanV → Act → World → Prop
  | .nil, a, w => Q .normal a w
  | .one k t, a, w => wpOp P ops Q k (fun b w' => C w' ∧ wpV P ops C Q t b w') a w
  | .two k t j s, a, w => wpOp P ops Q k (fun b w' => C w' ∧ wpV P ops C Q t b w') a w ∧ wpOp P ops Q j (fun b w' => C w' ∧ wpV P ops C Q s b w') a w
  | .take k t, a, w => wpTakes P ops C (wpV P ops C Q t) [k] a w
  | .drop k t, a, w => Region.wanted (ops[k]?.getD default) (yielded ops a.tmps) = false ∧ wpV P ops C Q t (a.put (ops[k]?.getD default).dst undef) w
theorem anyC_v (hs : Region.noSelect ops = true) (hQ : ∀ c a w d v, Q (.panic c) (Act.put a d v) w → Q (.panic c) a w) : ∀ (t : PlanV) (seen : Array Bool) (a : Act) (w : World), vOk md ops t seen = true → C w → wpV P ops C Q t a w → anyC P md ops C Q t.depth seen a w
  | .nil, seen, a, w, hB, hC, h => anyC_end (by simpa [vOk] using hB) hC h
  | .one k t, seen, a, w, hB, hC, h => by
    simp only [vOk, Bool.and_eq_true, decide_eq_true_eq] at hB
    exact anyC_one hB.1 hC (wpOp_mono (fun b w' h' => anyC_v hs hQ t _ b w' hB.2 h'.1 h'.2) h)
  | .two k t j s, seen, a, w, hB, hC, h => by
    simp only [vOk, Bool.and_eq_true, decide_eq_true_eq] at hB
    obtain ⟨⟨⟨h1, h2⟩, h3⟩, h4⟩ := hB
    refine ⟨hC, fun h0 => (by rw [h1] at h0; cases h0), fun i hi => ?_⟩
    rw [h1] at hi
    rcases List.mem_cons.1 hi with rfl | hi
    · exact wpOp_mono (fun b w' h' => anyC_v hs hQ t _ b w' h3 h'.1 h'.2) h.1
    · rw [List.mem_singleton.1 hi, h2]
      exact wpOp_mono (fun b w' h' => anyC_v hs hQ s _ b w' h4 h'.1 h'.2) h.2
  | .take k t, seen, a, w, hB, hC, h => by
    simp only [vOk, Bool.and_eq_true] at hB
    obtain ⟨hw, v, hy, h⟩ := h
    exact anyC_take (ready_get (md := md) (seen := seen) (by simpa using hB.1.1)) hs (fun c a w => hQ c a w _ _) t.depth seen a w hB.1.2 hB.1.1 hw hy (anyC_v hs hQ t _ _ _ hB.2 hC h)
  | .drop k t, seen, a, w, hB, hC, h => by
    simp only [vOk, Bool.and_eq_true] at hB
    exact anyC_drop (ready_get (md := md) (seen := seen) (by simpa using hB.1.1)) hs (fun c a w => hQ c a w _ _) t.depth seen a w hB.1.2 hB.1.1 h.1 (anyC_v hs hQ t _ _ _ hB.2 hC h.2)
theorem wp_region_v {id : Nat} {a : Act} {w : World} {l : List Oper} (C : World → Prop) (t : PlanV) (hm : P.follows .mixedOrders = true) (hs : Region.noSelect l.toArray = true) (hl : t.depth = l.length)
    (hB : vOk .any l.toArray t (Array.replicate l.length false) = true) (hQ : ∀ c a w d v, Q (.panic c) (Act.put a d v) w → Q (.panic c) a w) (hC : C w.drew)
    (h : wpV P l.toArray C Q t a w.drew) : (Code.region id l.toArray true).wp P Q a w := by
  refine wp_region_anyC C hm ?_
  rw [← hl]
  rw [← hl] at hB
  exact anyC_v hs hQ t _ a _ hB hC h
end
section
variable {ops : Array Oper} {C : World → Prop} {Q : Exit → Act → World → Prop} {t : PlanV} {k : Nat} {op : Oper} {a : Act} {w : World}
theorem v_val (d : Option Tmp) (hdd : op.dst = d) (hk : ops[k]?.getD default = op) (hw : Region.wanted op (yielded ops a.tmps) = true) (v : Value) (hv : ∀ w, (execOp a.eval op).run Tryd.prog w = .ok (.value v) w) (h : wpV Tryd.prog ops C Q t (a.put d v) w) : wpV Tryd.prog ops C Q (.take k t) a w :=
  tk_val d hdd hk hw v hv (tk_nil h)
theorem v_ld (d : Option Tmp) (hdd : op.dst = d) (hk : ops[k]?.getD default = op) (hw : Region.wanted op (yielded ops a.tmps) = true) (ty : TypeId) (x : Operand) (ho : op.op = .load ty x) {ad : Addr} (hx : a.eval x = .pointer (some ad)) {v : Value} (hh : ∀ w, C w → (loadVar ty ad).run Tryd.prog w = .ok v w)
    (h : wpV Tryd.prog ops C Q t (a.put d v) w) : wpV Tryd.prog ops C Q (.take k t) a w := tk_ld d hdd hk hw ty x ho hx hh (tk_nil h)
theorem v_drop (d : Option Tmp) (hdd : op.dst = d) (hk : ops[k]?.getD default = op) (hw : Region.wanted op (yielded ops a.tmps) = false) (h : wpV Tryd.prog ops C Q t (a.put d undef) w) : wpV Tryd.prog ops C Q (.drop k t) a w :=
  ⟨by rw [hk]; exact hw, by rw [hk, hdd]; exact h⟩
end
end Go.Proofs.YtbidoangdnmjfaaDoor
