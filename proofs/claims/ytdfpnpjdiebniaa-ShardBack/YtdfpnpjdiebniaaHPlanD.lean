/-
  A region that draws its order, with operations that are not done since their guard says so. Plain; nothing of the program.
-/
import Derived.Test.YtdfpnpjdiebniaaBTake
namespace Go.Proofs.Ytdfpnpjdiebniaa
open Go Go.RowKit
section
variable {P : Program} {ops : Array Oper} {md : Region.Mode} {Q : Exit → Act → World → Prop} {C : World → Prop}

/-- One that is not done may be passed first. -/
theorem anyC_drop {k : Nat} {o : Oper} (hk : ops[k]? = some o) (hs : Region.noSelect ops = true) (hQ : ∀ c a w, Q (.panic c) (Act.put a o.dst undef) w → Q (.panic c) a w) :
    ∀ (n : Nat) (seen : Array Bool) (a : Act) (w : World), Region.free md ops seen k = true → (Region.ready md ops seen).contains k = true → Region.wanted o (yielded ops a.tmps) = false →
      anyC P md ops C Q n (seen.setIfInBounds k true) (a.put o.dst undef) w → anyC P md ops C Q (n + 1) seen a w := by
  intro n
  have step : ∀ (n : Nat) (seen : Array Bool) (a : Act) (w : World), Region.wanted o (yielded ops a.tmps) = false → anyC P md ops C Q n (seen.setIfInBounds k true) (a.put o.dst undef) w → wpOp P ops Q k (anyC P md ops C Q n (seen.setIfInBounds k true)) a w := fun n seen a w hw h => by
    unfold wpOp
    rw [hk]
    dsimp only
    rw [if_neg (by rw [hw]; decide)]
    exact h
  have main : ∀ (n : Nat) (seen : Array Bool) (a : Act) (w : World),
      (∀ j oj, ops[j]? = some oj → j ≠ k → seen.getD j true = false → (∀ e ∈ oj.after, Region.binds md e = true → e.on ≠ k) → o.apart ops oj = true) →
      k ∈ Region.ready md ops seen → Region.wanted o (yielded ops a.tmps) = false →
      anyC P md ops C Q n (seen.setIfInBounds k true) (a.put o.dst undef) w → anyC P md ops C Q (n + 1) seen a w := by
    intro n
    induction n with
    | zero =>
      intro seen a w _ hr hw h
      refine ⟨h.1, fun h0 => absurd hr (by rw [h0]; exact List.not_mem_nil), fun j hj => ?_⟩
      by_cases e : j = k
      · rw [e]; exact step 0 seen a w hw h
      · have := ready_mono hj e
        rw [h.2.1] at this
        exact absurd this List.not_mem_nil
    | succ n ih =>
      intro seen a w hfr hr hw h
      refine ⟨h.1, fun h0 => absurd hr (by rw [h0]; exact List.not_mem_nil), fun j hj => ?_⟩
      by_cases e : j = k
      · rw [e]; exact step (n + 1) seen a w hw h
      · obtain ⟨hun, oj, hoj, hall⟩ := mem_ready.1 hj
        have hno : ∀ e ∈ oj.after, Region.binds md e = true → e.on ≠ k := by
          intro e' he hb heq
          have q1 := hall e' he hb
          have q0 := (mem_ready.1 hr).1
          rw [heq] at q1
          by_cases hlt : k < seen.size
          · simp [hlt] at q0 q1
            rw [q0] at q1
            cases q1
          · simp [Array.getElem?_eq_none (Nat.le_of_not_lt hlt)] at q1
        have st := carry (o := o) (v := undef) hoj (hfr j oj hoj e hun hno) (Region.noSelect_spec hs k o · · hk) (Region.noSelect_spec hs j oj · · hoj) hQ (h.2.2 j (ready_mono hj e))
        refine wpOp_mono (fun b w' ⟨hal, hb⟩ => ?_) st
        refine ih (seen.setIfInBounds j true) b w' ?_ (ready_mono hr (Ne.symm e)) (hal.wa.trans hw) ?_
        · intro i oi hi hik hu hn
          refine hfr i oi hi hik ?_ hn
          by_cases eij : j = i
          · rw [← eij]; exact hun
          · rw [getD_set_ne true eij] at hu; exact hu
        · rw [Array.setIfInBounds_comm _ _ e]; exact hb
  exact fun seen a w hf hr hw h => main n seen a w (Region.free_spec hk hf) (by simpa using hr) hw h
inductive PlanD where
  | take (k : Nat)
  | one (k : Nat)
  | drop (k : Nat)
def planOkD (md : Region.Mode) (ops : Array Oper) : List PlanD → Array Bool → Bool
  | [], seen => (Region.ready md ops seen).isEmpty
  | .take k :: t, seen => (Region.ready md ops seen).contains k && Region.free md ops seen k && planOkD md ops t (seen.setIfInBounds k true)
  | .drop k :: t, seen => (Region.ready md ops seen).contains k && Region.free md ops seen k && planOkD md ops t (seen.setIfInBounds k true)
  | .one k :: t, seen => decide (Region.ready md ops seen = [k]) && planOkD md ops t (seen.setIfInBounds k true)
def wpPlanD (P : Program) (ops : Array Oper) (C : World → Prop) (Q : Exit → Act → World → Prop) : List PlanD → Act → World → Prop
  | [], a, w => Q .normal a w
  | .take k :: t, a, w => Region.wanted (ops[k]?.getD default) (yielded ops a.tmps) = true ∧ ∃ v, YieldsC P C (ops[k]?.getD default) v a ∧ wpPlanD P ops C Q t (a.put (ops[k]?.getD default).dst v) w
  | .drop k :: t, a, w => Region.wanted (ops[k]?.getD default) (yielded ops a.tmps) = false ∧ wpPlanD P ops C Q t (a.put (ops[k]?.getD default).dst undef) w
  | .one k :: t, a, w => wpOp P ops Q k (fun b w' => C w' ∧ wpPlanD P ops C Q t b w') a w
theorem anyC_planD (hs : Region.noSelect ops = true) (hQ : ∀ c a w d v, Q (.panic c) (Act.put a d v) w → Q (.panic c) a w) : ∀ (t : List PlanD) (seen : Array Bool) (a : Act) (w : World), planOkD md ops t seen = true → C w → wpPlanD P ops C Q t a w → anyC P md ops C Q t.length seen a w
  | [], seen, a, w, hB, hC, h => anyC_end (by simpa [planOkD] using hB) hC h
  | .take k :: t, seen, a, w, hB, hC, h => by
    simp only [planOkD, Bool.and_eq_true] at hB
    obtain ⟨hw, v, hy, h⟩ := h
    exact anyC_take (ready_get (md := md) (seen := seen) (by simpa using hB.1.1)) hs (fun c a w => hQ c a w _ _) t.length seen a w hB.1.2 hB.1.1 hw hy (anyC_planD hs hQ t _ _ _ hB.2 hC h)
  | .drop k :: t, seen, a, w, hB, hC, h => by
    simp only [planOkD, Bool.and_eq_true] at hB
    obtain ⟨hw, h⟩ := h
    exact anyC_drop (ready_get (md := md) (seen := seen) (by simpa using hB.1.1)) hs (fun c a w => hQ c a w _ _) t.length seen a w hB.1.2 hB.1.1 hw (anyC_planD hs hQ t _ _ _ hB.2 hC h)
  | .one k :: t, seen, a, w, hB, hC, h => by
    simp only [planOkD, Bool.and_eq_true, decide_eq_true_eq] at hB
    exact anyC_one hB.1 hC (wpOp_mono (fun b w' h' => anyC_planD hs hQ t _ b w' hB.2 h'.1 h'.2) h)
theorem wp_region_planD {id : Nat} {a : Act} {w : World} {l : List Oper} (C : World → Prop) (t : List PlanD) (hm : P.follows .mixedOrders = true) (hs : Region.noSelect l.toArray = true) (hl : t.length = l.length)
    (hB : planOkD .any l.toArray t (Array.replicate l.length false) = true) (hQ : ∀ c a w d v, Q (.panic c) (Act.put a d v) w → Q (.panic c) a w) (hC : C w.drew)
    (h : wpPlanD P l.toArray C Q t a w.drew) : (Code.region id l.toArray true).wp P Q a w := by
  refine wp_region_anyC C hm ?_
  rw [← hl]
  rw [← hl] at hB
  exact anyC_planD hs hQ t _ a _ hB hC h
variable {t : List PlanD} {k : Nat} {op : Oper} {a : Act} {w : World}
theorem planD_val (d : Option Tmp) (hdd : op.dst = d) (hk : ops[k]?.getD default = op) (hw : Region.wanted op (yielded ops a.tmps) = true) (v : Value) (hv : ∀ w, (execOp a.eval op).run P w = .ok (.value v) w) (h : wpPlanD P ops C Q t (a.put d v) w) : wpPlanD P ops C Q (.take k :: t) a w :=
  ⟨by rw [hk]; exact hw, v, fun w' _ => by rw [hk]; exact hv w', by rw [hk, hdd]; exact h⟩
theorem planD_drop (d : Option Tmp) (hdd : op.dst = d) (hk : ops[k]?.getD default = op) (hw : Region.wanted op (yielded ops a.tmps) = false) (h : wpPlanD P ops C Q t (a.put d undef) w) : wpPlanD P ops C Q (.drop k :: t) a w :=
  ⟨by rw [hk]; exact hw, by rw [hk, hdd]; exact h⟩
end
end Go.Proofs.Ytdfpnpjdiebniaa
