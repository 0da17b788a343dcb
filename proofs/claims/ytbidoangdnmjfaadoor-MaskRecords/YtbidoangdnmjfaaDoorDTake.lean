/-
  A region that draws its order: an operation that yields one value in every world of a class may be taken first, if all that is done beside it stays in the class. Plain; nothing of the program.
-/
import Derived.Test.YtbidoangdnmjfaaDoorDPerm
namespace Go.Proofs.YtbidoangdnmjfaaDoor
open Go
section
variable {P : Program} {ops : Array Oper} {md : Region.Mode} {Q : Exit → Act → World → Prop} {C : World → Prop}

/-- Whatever order is drawn from here on, all stays in the class. -/
def anyC (P : Program) (md : Region.Mode) (ops : Array Oper) (C : World → Prop) (Q : Exit → Act → World → Prop) : Nat → Array Bool → Act → World → Prop
  | 0, seen, a, w => C w ∧ Region.ready md ops seen = [] ∧ Q .normal a w
  | n + 1, seen, a, w => C w ∧ (Region.ready md ops seen = [] → Q .normal a w) ∧ ∀ k ∈ Region.ready md ops seen, wpOp P ops Q k (anyC P md ops C Q n (seen.setIfInBounds k true)) a w

theorem anyC.inC : ∀ {n : Nat} {seen : Array Bool} {a : Act} {w : World}, anyC P md ops C Q n seen a w → C w
  | 0, _, _, _, h => h.1
  | _ + 1, _, _, _, h => h.1
theorem anyC.any : ∀ {n : Nat} {seen : Array Bool} {a : Act} {w : World}, anyC P md ops C Q n seen a w → wpAny P md ops Q n seen a w
  | 0, _, _, _, h => h.2
  | _ + 1, _, _, _, h => ⟨h.2.1, fun k hk => wpOp_mono (fun _ _ h' => anyC.any h') (h.2.2 k hk)⟩

/-- What an operation does, and whether it is done, is the same in both frames. -/
structure Alike (ops : Array Oper) (o : Oper) (a b : Act) : Prop where
  ex : execOp b.eval o = execOp a.eval o
  wa : Region.wanted o (yielded ops b.tmps) = Region.wanted o (yielded ops a.tmps)
theorem Alike.trans {o : Oper} {a b c : Act} (h : Alike ops o a b) (h' : Alike ops o b c) : Alike ops o a c := ⟨h'.ex.trans h.ex, h'.wa.trans h.wa⟩

/-- One that is apart from another makes no difference to it, whether the other's value is there already or not. -/
theorem carry {k : Nat} {o o' : Oper} {v : Value} {K : Act → World → Prop} {a : Act} {w : World} (hk : ops[k]? = some o') (hap : o.apart ops o' = true)
    (hs : ∀ cs b, o.op ≠ .select cs b) (hs' : ∀ cs b, o'.op ≠ .select cs b) (hQ : ∀ c a w, Q (.panic c) (a.put o.dst v) w → Q (.panic c) a w)
    (h : wpOp P ops Q k K (a.put o.dst v) w) : wpOp P ops Q k (fun b w' => Alike ops o a b ∧ K (b.put o.dst v) w') a w := by
  obtain ⟨h1, h2, h3⟩ := Oper.apart_spec hap
  have al : ∀ (c : Act) u, Alike ops o c (c.put o'.dst u) := fun c u => ⟨execOp_put o hs c o'.dst u h3, wanted_put o c o'.dst u h3⟩
  have tu : ∀ (c : Act) u {w'}, K ((c.put o.dst v).put o'.dst u) w' → K ((c.put o'.dst u).put o.dst v) w' := fun c u w' hK => by rw [← Act.put_comm c v u h2]; exact hK
  unfold wpOp at h ⊢
  rw [hk] at h ⊢
  dsimp only at h ⊢
  rw [wanted_put o' a o.dst v h1] at h
  by_cases hw : Region.wanted o' (yielded ops a.tmps) = true
  · rw [if_pos hw] at h ⊢
    have ex := execOp_put o' hs' a o.dst v h1
    rcases h with h | ⟨h, hl⟩
    · left
      unfold Oper.wp at h ⊢
      rw [ex] at h
      revert h
      generalize (execOp a.eval o').run P w = r
      intro h
      match r, h with
      | .ok (.value u) w', h => exact ⟨al a u, tu a u h⟩
      | .ok .skip w', h => exact ⟨al a undef, tu a undef h⟩
      | .ok (.defer d) w', h =>
        refine ⟨Alike.trans (b := { a with defers := d :: a.defers }) ⟨rfl, rfl⟩ (al _ undef), ?_⟩
        have h' : K (({ a with defers := d :: a.defers }.put o.dst v).put o'.dst undef) w' := by
          rw [← Act.put_defers]; exact h
        exact tu _ undef h'
      | .ok (.enter f args) w', h =>
        refine Calls.mono h fun e w'' he => ?_
        match e, he with
        | .returned u, he => exact ⟨al a u, tu a u he⟩
        | .panicked c, he => exact hQ _ _ _ he
        | .outgrown, he => exact he
      | .ok (.row row args) w', h => exact Rows.mono h fun u w'' he => ⟨al a u, tu a u he⟩
      | .halt (.panic u) w', h => exact hQ _ _ _ h
    · exact .inr ⟨by unfold Oper.asks at h ⊢; rw [ex] at h; exact h, hl⟩
  · rw [if_neg hw] at h ⊢
    exact ⟨al a undef, tu a undef h⟩

/-- It yields this value in every world of the class, and changes nothing. -/
def YieldsC (P : Program) (C : World → Prop) (o : Oper) (v : Value) (a : Act) : Prop := ∀ w, C w → (execOp a.eval o).run P w = .ok (.value v) w

theorem YieldsC.op {k : Nat} {o : Oper} {v : Value} {a : Act} {w : World} {K : Act → World → Prop} (hk : ops[k]? = some o) (hw : Region.wanted o (yielded ops a.tmps) = true) (hy : YieldsC P C o v a) (hC : C w)
    (h : K (a.put o.dst v) w) : wpOp P ops Q k K a w := by
  unfold wpOp
  rw [hk]
  dsimp only
  rw [if_pos hw]
  left
  unfold Oper.wp
  rw [hy w hC]
  exact h

theorem anyC_take {k : Nat} {o : Oper} {v : Value} (hk : ops[k]? = some o) (hs : Region.noSelect ops = true) (hQ : ∀ c a w, Q (.panic c) (Act.put a o.dst v) w → Q (.panic c) a w) :
    ∀ (n : Nat) (seen : Array Bool) (a : Act) (w : World), Region.free md ops seen k = true → (Region.ready md ops seen).contains k = true → Region.wanted o (yielded ops a.tmps) = true → YieldsC P C o v a →
      anyC P md ops C Q n (seen.setIfInBounds k true) (a.put o.dst v) w → anyC P md ops C Q (n + 1) seen a w := by
  intro n
  have main : ∀ (n : Nat) (seen : Array Bool) (a : Act) (w : World),
      (∀ j oj, ops[j]? = some oj → j ≠ k → seen.getD j true = false → (∀ e ∈ oj.after, Region.binds md e = true → e.on ≠ k) → o.apart ops oj = true) →
      k ∈ Region.ready md ops seen → Region.wanted o (yielded ops a.tmps) = true → YieldsC P C o v a →
      anyC P md ops C Q n (seen.setIfInBounds k true) (a.put o.dst v) w → anyC P md ops C Q (n + 1) seen a w := by
    intro n
    induction n with
    | zero =>
      intro seen a w _ hr hw hy h
      refine ⟨h.1, fun h0 => absurd hr (by rw [h0]; exact List.not_mem_nil), fun j hj => ?_⟩
      by_cases e : j = k
      · rw [e]; exact hy.op hk hw h.1 h
      · have := ready_mono hj e
        rw [h.2.1] at this
        exact absurd this List.not_mem_nil
    | succ n ih =>
      intro seen a w hfr hr hw hy h
      refine ⟨h.1, fun h0 => absurd hr (by rw [h0]; exact List.not_mem_nil), fun j hj => ?_⟩
      by_cases e : j = k
      · rw [e]; exact hy.op hk hw h.1 h
      · obtain ⟨hun, oj, hoj, hall⟩ := mem_ready.1 hj
        have hno : ∀ e ∈ oj.after, Region.binds md e = true → e.on ≠ k := by
          intro e' he hb heq
          have q1 := hall e' he hb
          have q0 := (mem_ready.1 hr).1
          rw [heq] at q1
          by_cases hlt : k < seen.size
          · simp [hlt] at q0 q1
            rw [q0] at q1
            cases q1
          · simp [Array.getElem?_eq_none (Nat.le_of_not_lt hlt)] at q1
        have st := carry (o := o) (v := v) hoj (hfr j oj hoj e hun hno) (Region.noSelect_spec hs k o · · hk) (Region.noSelect_spec hs j oj · · hoj) hQ (h.2.2 j (ready_mono hj e))
        refine wpOp_mono (fun b w' ⟨hal, hb⟩ => ?_) st
        refine ih (seen.setIfInBounds j true) b w' ?_ (ready_mono hr (Ne.symm e)) (hal.wa.trans hw) (fun w0 hC0 => by rw [hal.ex]; exact hy w0 hC0) ?_
        · intro i oi hi hik hu hn
          refine hfr i oi hi hik ?_ hn
          by_cases eij : j = i
          · rw [← eij]; exact hun
          · rw [getD_set_ne true eij] at hu; exact hu
        · rw [Array.setIfInBounds_comm _ _ e]; exact hb
  exact fun seen a w hf hr hw hy h => main n seen a w (Region.free_spec hk hf) (by simpa using hr) hw hy h

theorem anyC_one {k n : Nat} {seen : Array Bool} {a : Act} {w : World} (hr : Region.ready md ops seen = [k]) (hC : C w) (h : wpOp P ops Q k (anyC P md ops C Q n (seen.setIfInBounds k true)) a w) : anyC P md ops C Q (n + 1) seen a w :=
  ⟨hC, fun h0 => (by rw [hr] at h0; cases h0), fun j hj => by
    rw [hr] at hj
    have : j = k := by simpa using hj
    rw [this]; exact h⟩
theorem anyC_end {seen : Array Bool} {a : Act} {w : World} (hr : Region.ready md ops seen = []) (hC : C w) (h : Q .normal a w) : anyC P md ops C Q 0 seen a w := ⟨hC, hr, h⟩

theorem wp_region_anyC {id : Nat} {a : Act} {w : World} {l : List Oper} (C : World → Prop) (hm : P.follows .mixedOrders = true)
    (h : anyC P .any l.toArray C Q l.length (Array.replicate l.length false) a w.drew) : (Code.region id l.toArray true).wp P Q a w := by
  refine wp_region_any hm ?_
  simpa using h.any

/-- A plan: what is taken first because it yields one value in all worlds of the class; what comes up alone. -/
inductive Plan where
  | take (k : Nat)
  | one (k : Nat)
def planOk (md : Region.Mode) (ops : Array Oper) : List Plan → Array Bool → Bool
  | [], seen => (Region.ready md ops seen).isEmpty
  | .take k :: t, seen => (Region.ready md ops seen).contains k && Region.free md ops seen k && planOk md ops t (seen.setIfInBounds k true)
  | .one k :: t, seen => decide (Region.ready md ops seen = [k]) && planOk md ops t (seen.setIfInBounds k true)
def wpPlan (P : Program) (ops : Array Oper) (C : World → Prop) (Q : Exit → Act → World → Prop) : List Plan → Act → World → Prop
  | [], a, w => Q .normal a w
  | .take k :: t, a, w => Region.wanted (ops[k]?.getD default) (yielded ops a.tmps) = true ∧ ∃ v, YieldsC P C (ops[k]?.getD default) v a ∧ wpPlan P ops C Q t (a.put (ops[k]?.getD default).dst v) w
  | .one k :: t, a, w => wpOp P ops Q k (fun b w' => C w' ∧ wpPlan P ops C Q t b w') a w
theorem anyC_plan (hs : Region.noSelect ops = true) (hQ : ∀ c a w d v, Q (.panic c) (Act.put a d v) w → Q (.panic c) a w) : ∀ (t : List Plan) (seen : Array Bool) (a : Act) (w : World), planOk md ops t seen = true → C w → wpPlan P ops C Q t a w → anyC P md ops C Q t.length seen a w
  | [], seen, a, w, hB, hC, h => anyC_end (by simpa [planOk] using hB) hC h
  | .take k :: t, seen, a, w, hB, hC, h => by
    simp only [planOk, Bool.and_eq_true] at hB
    obtain ⟨hw, v, hy, h⟩ := h
    exact anyC_take (ready_get (md := md) (seen := seen) (by simpa using hB.1.1)) hs (fun c a w => hQ c a w _ _) t.length seen a w hB.1.2 hB.1.1 hw hy (anyC_plan hs hQ t _ _ _ hB.2 hC h)
  | .one k :: t, seen, a, w, hB, hC, h => by
    simp only [planOk, Bool.and_eq_true, decide_eq_true_eq] at hB
    exact anyC_one hB.1 hC (wpOp_mono (fun b w' h' => anyC_plan hs hQ t _ b w' hB.2 h'.1 h'.2) h)
theorem wp_region_plan {id : Nat} {a : Act} {w : World} {l : List Oper} (C : World → Prop) (t : List Plan) (hm : P.follows .mixedOrders = true) (hs : Region.noSelect l.toArray = true) (hl : t.length = l.length)
    (hB : planOk .any l.toArray t (Array.replicate l.length false) = true) (hQ : ∀ c a w d v, Q (.panic c) (Act.put a d v) w → Q (.panic c) a w) (hC : C w.drew)
    (h : wpPlan P l.toArray C Q t a w.drew) : (Code.region id l.toArray true).wp P Q a w := by
  refine wp_region_anyC C hm ?_
  rw [← hl]
  rw [← hl] at hB
  exact anyC_plan hs hQ t _ a _ hB hC h
end
open Go.RowKit
section
variable {P : Program} {ops : Array Oper} {C : World → Prop} {Q : Exit → Act → World → Prop} {t : List Plan} {k : Nat} {op : Oper} {a : Act} {w : World}

/-- A whole row is loaded. -/
theorem plan_ldR (d : Option Tmp) (hdd : op.dst = d) (hk : ops[k]?.getD default = op) (hgd : op.guard = none) (ty : TypeId) (x : Operand) (ho : op.op = .load ty x) {b : Nat} (hx : a.eval x = .pointer (some ⟨b, 0, none⟩)) {t' : TypeId} {cs : Array Value} {dd : TypeDesc} (hh : ∀ w, C w → Holds w b t' cs)
    (hu : P.underlying ty = some dd) (hd : dd.isRow = true) (hi : (P.info? ty).map (·.size) = some cs.size) (h : wpPlan P ops C Q t (a.put d (.agg cs)) w) : wpPlan P ops C Q (.take k :: t) a w := by
  refine ⟨by rw [hk]; simp [Region.wanted, hgd], .agg cs, fun w' hw => ?_, by rw [hk, hdd]; exact h⟩
  rw [hk]
  unfold execOp
  simp only [ho, hx, Instr.loadAt, Instr.sureAddr, Sem.run_bind, Sem.run_pure, Result.andThen_ok, run_loadVar_row w' b t' ty cs (0, 0) dd (hh w' hw) hu (by cases dd <;> simp_all) hi]
/-- What looks at no memory. -/
theorem plan_val (d : Option Tmp) (hdd : op.dst = d) (hk : ops[k]?.getD default = op) (hgd : op.guard = none) (v : Value) (hv : ∀ w, (execOp a.eval op).run P w = .ok (.value v) w) (h : wpPlan P ops C Q t (a.put d v) w) : wpPlan P ops C Q (.take k :: t) a w :=
  ⟨by rw [hk]; simp [Region.wanted, hgd], v, fun w' _ => by rw [hk]; exact hv w', by rw [hk, hdd]; exact h⟩
/-- A call. -/
theorem plan_call (d : Option Tmp) (hdd : op.dst = d) (hk : ops[k]? = some op) (hgd : op.guard = none) {f : FuncId} {vs : Array Value} (hf : (execOp a.eval op).run P w = .ok (.enter f vs) w) (hc : Calls P f vs w fun e w' => ∃ v, e = .returned v ∧ C w' ∧ wpPlan P ops C Q t (a.put d v) w') : wpPlan P ops C Q (.one k :: t) a w := by
  show wpOp P ops Q k _ a w
  unfold wpOp
  rw [hk]
  dsimp only
  rw [if_pos (by simp [Region.wanted, hgd])]
  left
  unfold Oper.wp
  rw [hf]
  refine Calls.mono hc ?_
  rintro e w' ⟨v, rfl, h1, h2⟩
  rw [← hdd] at h2
  exact ⟨h1, h2⟩
/-- A value, or a store. -/
theorem plan_one (d : Option Tmp) (hdd : op.dst = d) (hk : ops[k]? = some op) (hgd : op.guard = none) {v : Value} {w' : World} (hv : (execOp a.eval op).run P w = .ok (.value v) w') (hC : C w') (h : wpPlan P ops C Q t (a.put d v) w') : wpPlan P ops C Q (.one k :: t) a w := by
  show wpOp P ops Q k _ a w
  unfold wpOp
  rw [hk]
  dsimp only
  rw [if_pos (by simp [Region.wanted, hgd])]
  left
  unfold Oper.wp
  rw [hv]
  rw [← hdd] at h
  exact ⟨hC, h⟩
theorem plan_skip (d : Option Tmp) (hdd : op.dst = d) (hk : ops[k]? = some op) (hgd : op.guard = none) {w' : World} (hv : (execOp a.eval op).run P w = .ok .skip w') (hC : C w') (h : wpPlan P ops C Q t (a.put d undef) w') : wpPlan P ops C Q (.one k :: t) a w := by
  show wpOp P ops Q k _ a w
  unfold wpOp
  rw [hk]
  dsimp only
  rw [if_pos (by simp [Region.wanted, hgd])]
  left
  unfold Oper.wp
  rw [hv]
  rw [← hdd] at h
  exact ⟨hC, h⟩
theorem plan_ldI {ops : Array Oper} (d : Option Tmp) (hdd : op.dst = d) (hk : ops[k]?.getD default = op) (hgd : op.guard = none) (x : Operand) (ho : op.op = .load 3 x) {ad : Addr} (hx : a.eval x = .pointer (some ad)) {v : Value} (hh : ∀ w, C w → w.cell? ad = some v)
    (h : wpPlan Tryd.prog ops C Q t (a.put d v) w) : wpPlan Tryd.prog ops C Q (.take k :: t) a w := by
  refine ⟨by rw [hk]; simp [Region.wanted, hgd], v, fun w' hw => ?_, by rw [hk, hdd]; exact h⟩
  rw [hk]
  have hl : (loadVar 3 ad).run Tryd.prog w' = .ok v w' := by simp [go_sem, hh w' hw]
  unfold execOp
  simp only [ho, hx, Instr.loadAt, Instr.sureAddr, Sem.run_bind, Sem.run_pure, Result.andThen_ok, hl]
end
end Go.Proofs.YtbidoangdnmjfaaDoor
