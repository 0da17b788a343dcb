/-
  A region that draws its order, as in the text ahead, but that what comes last of all (it waits for all others) may leave the class. Plain; nothing of the program.
-/
import Derived.Test.YtbidoangdnmjfaaDoorDTake
namespace Go.Proofs.YtbidoangdnmjfaaDoor
open Go
section
variable {P : Program} {ops : Array Oper} {md : Region.Mode} {Q : Exit → Act → World → Prop} {C : World → Prop} {f : Nat}

/-- Whatever order is drawn from here on, all stays in the class, but for the last one. -/
def anyE (P : Program) (md : Region.Mode) (ops : Array Oper) (C : World → Prop) (Q : Exit → Act → World → Prop) (f : Nat) : Nat → Array Bool → Act → World → Prop
  | 0, seen, a, w => Region.ready md ops seen = [] ∧ Q .normal a w
  | n + 1, seen, a, w => (Region.ready md ops seen = [] → Q .normal a w) ∧ ∀ k ∈ Region.ready md ops seen, wpOp P ops Q k (fun b w' => (k ≠ f → C w') ∧ anyE P md ops C Q f n (seen.setIfInBounds k true) b w') a w
theorem anyE.any : ∀ {n : Nat} {seen : Array Bool} {a : Act} {w : World}, anyE P md ops C Q f n seen a w → wpAny P md ops Q n seen a w
  | 0, _, _, _, h => h
  | _ + 1, _, _, _, h => ⟨h.1, fun k hk => wpOp_mono (fun _ _ h' => anyE.any h'.2) (h.2 k hk)⟩
/-- What is done has been waited for. -/
def Inv (md : Region.Mode) (ops : Array Oper) (seen : Array Bool) : Prop := ∀ i o, ops[i]? = some o → seen.getD i false = true → ∀ e ∈ o.after, Region.binds md e = true → seen.getD e.on false = true
theorem Inv.set {seen : Array Bool} {j : Nat} (h : Inv md ops seen) (hj : j ∈ Region.ready md ops seen) : Inv md ops (seen.setIfInBounds j true) := fun i o ho hi e he hb => by
  by_cases q : j = i
  · subst q
    obtain ⟨_, oj, hoj, hall⟩ := mem_ready.1 hj
    rw [ho] at hoj
    injection hoj with hoj
    subst hoj
    exact getD_set_true (hall e he hb)
  · rw [getD_set_ne false q] at hi
    exact getD_set_true (h i o ho hi e he hb)
theorem Inv.start (n : Nat) : Inv md ops (Array.replicate n false) := fun i o _ hi => by rw [getD_replicate_false] at hi; cases hi
/-- One waits for another. -/
def waitsB (md : Region.Mode) (ops : Array Oper) (i j : Nat) : Bool := ((ops[i]?.map (·.after)).getD #[]).any fun e => Region.binds md e && e.on == j
theorem waits_spec {i j : Nat} (h : waitsB md ops i j = true) : ∃ o, ops[i]? = some o ∧ ∃ e ∈ o.after, Region.binds md e = true ∧ e.on = j := by
  unfold waitsB at h
  cases ho : ops[i]? with
  | none => rw [ho] at h; simp at h
  | some o =>
    rw [ho] at h
    simp only [Option.map_some, Option.getD_some, Array.any_eq_true, Bool.and_eq_true, beq_iff_eq] at h
    obtain ⟨x, hx, hb, he⟩ := h
    exact ⟨o, rfl, _, Array.getElem_mem hx, hb, he⟩
/-- It waits for all others, or for one that does. -/
def lastB (md : Region.Mode) (ops : Array Oper) (f : Nat) : Bool := (List.range ops.size).all fun j => j == f || waitsB md ops f j || (List.range ops.size).any fun i => waitsB md ops f i && waitsB md ops i j
theorem last_spec (h : lastB md ops f = true) {seen : Array Bool} (inv : Inv md ops seen) (hf : f ∈ Region.ready md ops seen) {k : Nat} {o : Oper} (hk : ops[k]? = some o) (hu : seen.getD k true = false) : k = f := by
  apply Classical.byContradiction
  intro hne
  obtain ⟨_, oj, hoj, hall⟩ := mem_ready.1 hf
  have hlt : k < ops.size := (Array.getElem?_eq_some_iff.1 hk).1
  have h1 := List.all_eq_true.1 h k (List.mem_range.2 hlt)
  have hu' := getD_both hu
  have direct : ∀ i, waitsB md ops f i = true → seen.getD i false = true := fun i hi => by
    obtain ⟨o', ho', e, he, hb, hon⟩ := waits_spec hi
    rw [hoj] at ho'
    injection ho' with ho'
    subst ho'
    rw [← hon]
    exact hall e he hb
  simp only [Bool.or_eq_true, beq_iff_eq, hne, false_or, List.any_eq_true, Bool.and_eq_true] at h1
  rcases h1 with h1 | ⟨i, _, hfi, hik⟩
  · rw [direct k h1] at hu'
    cases hu'
  · obtain ⟨o', ho', e, he, hb, hon⟩ := waits_spec hik
    have := inv i o' ho' (direct i hfi) e he hb
    rw [hon, hu'] at this
    cases this
theorem anyE_take {k : Nat} {o : Oper} {v : Value} (hl : lastB md ops f = true) (hk : ops[k]? = some o) (hs : Region.noSelect ops = true) (hQ : ∀ c a w, Q (.panic c) (Act.put a o.dst v) w → Q (.panic c) a w) :
    ∀ (n : Nat) (seen : Array Bool) (a : Act) (w : World), Inv md ops seen → C w → Region.free md ops seen k = true → (Region.ready md ops seen).contains k = true → Region.wanted o (yielded ops a.tmps) = true → YieldsC P C o v a →
      anyE P md ops C Q f n (seen.setIfInBounds k true) (a.put o.dst v) w → anyE P md ops C Q f (n + 1) seen a w := by
  intro n
  have main : ∀ (n : Nat) (seen : Array Bool) (a : Act) (w : World), Inv md ops seen → C w →
      (∀ j oj, ops[j]? = some oj → j ≠ k → seen.getD j true = false → (∀ e ∈ oj.after, Region.binds md e = true → e.on ≠ k) → o.apart ops oj = true) →
      k ∈ Region.ready md ops seen → Region.wanted o (yielded ops a.tmps) = true → YieldsC P C o v a →
      anyE P md ops C Q f n (seen.setIfInBounds k true) (a.put o.dst v) w → anyE P md ops C Q f (n + 1) seen a w := by
    intro n
    induction n with
    | zero =>
      intro seen a w _ hC _ hr hw hy h
      refine ⟨fun h0 => absurd hr (by rw [h0]; exact List.not_mem_nil), fun j hj => ?_⟩
      by_cases e : j = k
      · rw [e]; exact hy.op hk hw hC ⟨fun _ => hC, h⟩
      · have := ready_mono hj e
        rw [h.1] at this
        exact absurd this List.not_mem_nil
    | succ n ih =>
      intro seen a w inv hC hfr hr hw hy h
      refine ⟨fun h0 => absurd hr (by rw [h0]; exact List.not_mem_nil), fun j hj => ?_⟩
      by_cases e : j = k
      · rw [e]; exact hy.op hk hw hC ⟨fun _ => hC, h⟩
      · obtain ⟨hun, oj, hoj, hall⟩ := mem_ready.1 hj
        have hjf : j ≠ f := fun q => by
          subst q
          exact e (last_spec hl inv hj hk (mem_ready.1 hr).1).symm
        have hno : ∀ e ∈ oj.after, Region.binds md e = true → e.on ≠ k := by
          intro e' he hb heq
          have q1 := hall e' he hb
          have q0 := (mem_ready.1 hr).1
          rw [heq] at q1
          by_cases hlt : k < seen.size
          · simp [hlt] at q0 q1
            rw [q0] at q1
            cases q1
          · simp [Array.getElem?_eq_none (Nat.le_of_not_lt hlt)] at q1
        have st := carry (o := o) (v := v) hoj (hfr j oj hoj e hun hno) (Region.noSelect_spec hs k o · · hk) (Region.noSelect_spec hs j oj · · hoj) hQ (h.2 j (ready_mono hj e))
        refine wpOp_mono (fun b w' ⟨hal, hc, hb⟩ => ⟨hc, ?_⟩) st
        refine ih (seen.setIfInBounds j true) b w' (inv.set hj) (hc hjf) ?_ (ready_mono hr (Ne.symm e)) (hal.wa.trans hw) (fun w0 hC0 => by rw [hal.ex]; exact hy w0 hC0) ?_
        · intro i oi hi hik hu hn
          refine hfr i oi hi hik ?_ hn
          by_cases eij : j = i
          · rw [← eij]; exact hun
          · rw [getD_set_ne true eij] at hu; exact hu
        · rw [Array.setIfInBounds_comm _ _ e]; exact hb
  exact fun seen a w inv hC hf hr hw hy h => main n seen a w inv hC (Region.free_spec hk hf) (by simpa using hr) hw hy h

def wpPlanE (P : Program) (ops : Array Oper) (C : World → Prop) (Q : Exit → Act → World → Prop) (f : Nat) : List Plan → Act → World → Prop
  | [], a, w => Q .normal a w
  | .take k :: t, a, w => Region.wanted (ops[k]?.getD default) (yielded ops a.tmps) = true ∧ ∃ v, YieldsC P C (ops[k]?.getD default) v a ∧ wpPlanE P ops C Q f t (a.put (ops[k]?.getD default).dst v) w
  | .one k :: t, a, w => wpOp P ops Q k (fun b w' => (k ≠ f → C w') ∧ wpPlanE P ops C Q f t b w') a w
/-- Takes stand ahead of the last one. -/
def takesB (f : Nat) : List Plan → Bool
  | [] => true
  | .take _ :: t => takesB f t
  | .one k :: t => if k = f then t.isEmpty else takesB f t
theorem anyE_plan (hl : lastB md ops f = true) (hs : Region.noSelect ops = true) (hQ : ∀ c a w d v, Q (.panic c) (Act.put a d v) w → Q (.panic c) a w) : ∀ (t : List Plan) (seen : Array Bool) (a : Act) (w : World), Inv md ops seen → planOk md ops t seen = true → takesB f t = true → (t ≠ [] → C w) → wpPlanE P ops C Q f t a w → anyE P md ops C Q f t.length seen a w
  | [], seen, a, w, _, hB, _, _, h => ⟨by simpa [planOk] using hB, h⟩
  | .take k :: t, seen, a, w, inv, hB, hT, hC, h => by
    simp only [planOk, Bool.and_eq_true] at hB
    obtain ⟨hw, v, hy, h⟩ := h
    exact anyE_take hl (ready_get (md := md) (seen := seen) (by simpa using hB.1.1)) hs (fun c a w => hQ c a w _ _) t.length seen a w inv (hC (by simp)) hB.1.2 hB.1.1 hw hy (anyE_plan hl hs hQ t _ _ _ (inv.set (by simpa using hB.1.1)) hB.2 hT (fun _ => hC (by simp)) h)
  | .one k :: t, seen, a, w, inv, hB, hT, hC, h => by
    simp only [planOk, Bool.and_eq_true, decide_eq_true_eq] at hB
    refine ⟨fun h0 => (by rw [hB.1] at h0; cases h0), fun j hj => ?_⟩
    rw [hB.1] at hj
    have : j = k := by simpa using hj
    rw [this]
    refine wpOp_mono (fun b w' h' => ⟨h'.1, ?_⟩) h
    by_cases e : k = f
    · simp only [takesB, if_pos e] at hT
      have ht : t = [] := by simpa using hT
      subst ht
      exact anyE_plan hl hs hQ [] _ b w' (inv.set (by rw [hB.1]; simp)) hB.2 rfl (fun q => absurd rfl q) h'.2
    · simp only [takesB, if_neg e] at hT
      exact anyE_plan hl hs hQ t _ b w' (inv.set (by rw [hB.1]; simp)) hB.2 hT (fun _ => h'.1 e) h'.2
theorem wp_region_planE {id : Nat} {a : Act} {w : World} {l : List Oper} (C : World → Prop) (f : Nat) (t : List Plan) (hm : P.follows .mixedOrders = true) (hs : Region.noSelect l.toArray = true) (hl : t.length = l.length)
    (hB : planOk .any l.toArray t (Array.replicate l.length false) = true) (hL : lastB .any l.toArray f = true) (hT : takesB f t = true) (hQ : ∀ c a w d v, Q (.panic c) (Act.put a d v) w → Q (.panic c) a w) (hC : C w.drew)
    (h : wpPlanE P l.toArray C Q f t a w.drew) : (Code.region id l.toArray true).wp P Q a w := by
  refine wp_region_any hm ?_
  have := (anyE_plan hL hs hQ t (Array.replicate l.length false) a w.drew (Inv.start _) hB hT (fun _ => hC) h).any
  rw [hl] at this
  simpa using this
end
open Go.RowKit
section
variable {P : Program} {ops : Array Oper} {C : World → Prop} {Q : Exit → Act → World → Prop} {t : List Plan} {k f : Nat} {op : Oper} {a : Act} {w : World}
theorem planE_val (d : Option Tmp) (hdd : op.dst = d) (hk : ops[k]?.getD default = op) (hgd : op.guard = none) (v : Value) (hv : ∀ w, C w → (execOp a.eval op).run P w = .ok (.value v) w) (h : wpPlanE P ops C Q f t (a.put d v) w) : wpPlanE P ops C Q f (.take k :: t) a w :=
  ⟨by rw [hk]; simp [Region.wanted, hgd], v, fun w' hC => by rw [hk]; exact hv w' hC, by rw [hk, hdd]; exact h⟩
theorem planE_one (d : Option Tmp) (hdd : op.dst = d) (hk : ops[k]? = some op) (hgd : op.guard = none) {v : Value} {w' : World} (hv : (execOp a.eval op).run P w = .ok (.value v) w') (hC : C w') (h : wpPlanE P ops C Q f t (a.put d v) w') : wpPlanE P ops C Q f (.one k :: t) a w := by
  show wpOp P ops Q k _ a w
  unfold wpOp
  rw [hk]
  dsimp only
  rw [if_pos (by simp [Region.wanted, hgd])]
  left
  unfold Oper.wp
  rw [hv]
  rw [← hdd] at h
  exact ⟨fun _ => hC, h⟩
theorem planE_last (d : Option Tmp) (hdd : op.dst = d) (hk : ops[k]? = some op) (hgd : op.guard = none) {w' : World} (hv : (execOp a.eval op).run P w = .ok .skip w') (h : wpPlanE P ops C Q k t (a.put d undef) w') : wpPlanE P ops C Q k (.one k :: t) a w := by
  show wpOp P ops Q k _ a w
  unfold wpOp
  rw [hk]
  dsimp only
  rw [if_pos (by simp [Region.wanted, hgd])]
  left
  unfold Oper.wp
  rw [hv]
  rw [← hdd] at h
  exact ⟨fun q => absurd rfl q, h⟩
end
end Go.Proofs.YtbidoangdnmjfaaDoor
