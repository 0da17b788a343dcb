/-
  Texts of this claim, put together.
-/
import Derived.Test.YtadpopjhhanapaaChecked
import Derived.KernelRfl
import Derived.Below
import Derived.Laws.Rows
import Derived.Deep.Draws
import Derived.Deep.WholeRow
import Derived.Deep.MidRow
import Derived.Laws.Tables
import Derived.Deep.Quiet
import Derived.Deep.QuietTactic
import Derived.BigQuiet
import Derived.StillTail
/-
  Blocks of memory that are known whole; loads and stores of whole structs.
-/
namespace Go.Proofs.Ytadpopjhhanapaa.Dt
open Go Go.RowKit

/-- Block b is a row of the cells cs, none of which is frozen. -/
def Holds (w : World) (b : Nat) (t : TypeId) (cs : Array Value) : Prop := w.heap[b]? = some (.cells cs t (0, 0))

theorem Holds.lt {w : World} {b : Nat} {t : TypeId} {cs : Array Value} (h : Holds w b t cs) : b < w.heap.size := by
  unfold Holds at h
  exact (Array.getElem?_eq_some_iff.1 h).1
theorem Holds.cell {w : World} {b : Nat} {t : TypeId} {cs : Array Value} (h : Holds w b t cs) (i : Nat) : w.cell? ⟨b, i, none⟩ = cs[i]? :=
  cell_of_row w b i cs t (0, 0) h
theorem Holds.frozen {w : World} {b : Nat} {t : TypeId} {cs : Array Value} (h : Holds w b t cs) (i : Nat) : w.frozen? ⟨b, i, none⟩ = false := by
  unfold Holds at h
  simp [World.frozen?, h]
theorem Holds.set {w : World} {b : Nat} {t : TypeId} {cs : Array Value} (h : Holds w b t cs) (i : Nat) (v : Value) : Holds (w.setCell ⟨b, i, none⟩ v) b t (cs.setIfInBounds i v) := by
  unfold Holds at *
  simp [World.setCell, Array.getElem?_modify, h]
theorem Holds.drewN {w : World} {b : Nat} {t : TypeId} {cs : Array Value} (h : Holds w b t cs) (n : Nat) : Holds (w.drewN n) b t cs := h
theorem Holds.alloc {w : World} {b : Nat} {t : TypeId} {cs : Array Value} (h : Holds w b t cs) (o : Obj) : Holds (w.alloc o) b t cs := by
  have := h.lt
  unfold Holds at *
  rw [Below.heap_alloc _ _ _ this]; exact h
theorem Holds.new (w : World) (t : TypeId) (cs : Array Value) : Holds (w.alloc (.cells cs t)) w.heap.size t cs := by
  unfold Holds World.alloc; simp
theorem Holds.other {w : World} {b : Nat} {t : TypeId} {cs : Array Value} (h : Holds w b t cs) (a : Addr) (v : Value) (hb : b ≠ a.block) : Holds (w.setCell a v) b t cs := by
  unfold Holds at *
  rw [Below.heap_setCell _ _ _ _ hb]; exact h
theorem Holds.congr {w : World} {b : Nat} {t : TypeId} {cs cs' : Array Value} (h : Holds w b t cs) (e : cs = cs') : Holds w b t cs' := e ▸ h

/-- The world w' is as w was, but for block b, and for new blocks. -/
structure Only (b : Nat) (w w' : World) : Prop where
  os : w'.os = w.os
  tape : w'.tape = w.tape
  output : w'.output = w.output
  size : w.heap.size ≤ w'.heap.size
  block : ∀ k, k < w.heap.size → k ≠ b → w'.heap[k]? = w.heap[k]?

theorem Only.refl (b : Nat) (w : World) : Only b w w := ⟨rfl, rfl, rfl, Nat.le_refl _, fun _ _ _ => rfl⟩
theorem Only.trans {b : Nat} {w1 w2 w3 : World} (h : Only b w1 w2) (k : Only b w2 w3) : Only b w1 w3 :=
  ⟨k.os.trans h.os, k.tape.trans h.tape, k.output.trans h.output, Nat.le_trans h.size k.size,
   fun i hi hb => (k.block i (Nat.lt_of_lt_of_le hi h.size) hb).trans (h.block i hi hb)⟩
theorem Only.drewN {b : Nat} {w w' : World} (h : Only b w w') (n : Nat) : Only b w (w'.drewN n) := ⟨h.os, h.tape, h.output, h.size, h.block⟩
theorem Only.drew {b : Nat} {w w' : World} (h : Only b w w') : Only b w w'.drew := ⟨h.os, h.tape, h.output, h.size, h.block⟩
theorem Only.set {b : Nat} {w w' : World} (h : Only b w w') (i : Nat) (v : Value) : Only b w (w'.setCell ⟨b, i, none⟩ v) :=
  h.trans ⟨rfl, rfl, rfl, by simp, fun k _ hb => Below.heap_setCell _ _ _ _ hb⟩
theorem Only.alloc {b : Nat} {w w' : World} (h : Only b w w') (o : Obj) : Only b w (w'.alloc o) :=
  h.trans ⟨rfl, rfl, rfl, by simp, fun k hk _ => Below.heap_alloc _ _ _ hk⟩
theorem Only.holds {b c : Nat} {w w' : World} {t : TypeId} {cs : Array Value} (h : Only b w w') (hc : Holds w c t cs) (hb : c ≠ b) : Holds w' c t cs := by
  have := hc.lt
  unfold Holds at *
  rw [h.block c this hb]; exact hc
/-- Behind a call that makes blocks and turns none. -/
theorem Only.below {b : Nat} {w w' w'' : World} (h : Only b w w') (k : Below w'.heap.size w' w'') : Only b w w'' :=
  h.trans ⟨k.os, k.tape, k.output, k.size, fun i hi _ => k.block i hi⟩
/-- Where the block is a new one, nothing has turned. -/
theorem Only.fresh {b : Nat} {w w' w'' : World} (h : Below w.heap.size w w') (k : Only b w' w'') (hb : w.heap.size ≤ b) : Below w.heap.size w w'' :=
  ⟨k.os.trans h.os, k.tape.trans h.tape, k.output.trans h.output, Nat.le_trans h.size k.size,
   fun i hi => (k.block i (Nat.lt_of_lt_of_le hi h.size) (by omega)).trans (h.block i hi)⟩
theorem below_holds {c : Nat} {w w' : World} {t : TypeId} {cs : Array Value} (h : Below w.heap.size w w') (hc : Holds w c t cs) : Holds w' c t cs := by
  have := hc.lt
  unfold Holds at *
  rw [h.block c this]; exact hc

theorem below_drewL {B : Nat} {a w : World} (h : Below B a.drew w) : Below B a w := ⟨h.os, h.tape, h.output, h.size, h.block⟩


section
variable {P : Program}
/-- A whole row is loaded. -/
theorem wpList_loadH {ops : Array Oper} {rest : List Oper} {op : Oper} {a : Act} {w : World} {Q : Exit → Act → World → Prop} (hgd : op.guard = none) (ty : TypeId) (x : Operand) (ho : op.op = .load ty x)
    (b : Nat) (hx : a.eval x = .pointer (some ⟨b, 0, none⟩)) (t : TypeId) (cs : Array Value) (d : TypeDesc) (hh : Holds w b t cs)
    (hu : P.underlying ty = some d) (hd : d.isRow = true) (hi : (P.info? ty).map (·.size) = some cs.size)
    (h : wpList P ops Q rest (a.put op.dst (.agg cs)) w) : wpList P ops Q (op :: rest) a w :=
  wpList_plain hgd fun _ hK => by
    unfold Oper.wp execOp
    simp only [ho, hx, Instr.loadAt, Instr.sureAddr, Sem.run_bind, Sem.run_pure, Result.andThen_ok, run_loadVar_row w b t ty cs (0, 0) d hh hu (by cases d <;> simp_all) hi]
    exact hK _ _ h

/-- A whole row is loaded by an operation that has a guard. -/
theorem wpList_loadG {ops : Array Oper} {rest : List Oper} {op : Oper} {a : Act} {w : World} {Q : Exit → Act → World → Prop} (hw : Region.wanted op (yielded ops a.tmps) = true) (ty : TypeId) (x : Operand) (ho : op.op = .load ty x)
    (b : Nat) (hx : a.eval x = .pointer (some ⟨b, 0, none⟩)) (t : TypeId) (cs : Array Value) (d : TypeDesc) (hh : Holds w b t cs)
    (hu : P.underlying ty = some d) (hd : d.isRow = true) (hi : (P.info? ty).map (·.size) = some cs.size)
    (h : wpList P ops Q rest (a.put op.dst (.agg cs)) w) : wpList P ops Q (op :: rest) a w :=
  wpList_step fun _ hK => by
    rw [if_pos hw]
    unfold Oper.wp execOp
    simp only [ho, hx, Instr.loadAt, Instr.sureAddr, Sem.run_bind, Sem.run_pure, Result.andThen_ok, run_loadVar_row w b t ty cs (0, 0) d hh hu (by cases d <;> simp_all) hi]
    exact hK _ _ h

theorem World.setRow_other (w : World) (g k : Nat) (cs : Array Value) (h : k ≠ g) : (w.setRow g cs).heap[k]? = w.heap[k]? := by
  simp only [World.setRow, Array.getElem?_modify]
  rw [if_neg (fun e => h e.symm)]

/-- A whole row is stored: the world behind it is another one, which holds the row. -/
theorem wpList_storeH {ops : Array Oper} {rest : List Oper} {op : Oper} {a : Act} {w : World} {Q : Exit → Act → World → Prop} (hgd : op.guard = none) (ty : TypeId) (x y : Operand) (ho : op.op = .store ty x y)
    (b : Nat) (cells : Array Value) (hx : a.eval x = .pointer (some ⟨b, 0, none⟩)) (hy : a.eval y = .agg cells)
    (t : TypeId) (old : Array Value) (hh : Holds w b t old) (hi : (P.info? ty).map (·.size) = some cells.size) (hz : old.size = cells.size) (h1 : cells.all (·.oneCell') = true)
    (h : ∀ w', Holds w' b t cells → Only b w w' → w'.heap.size = w.heap.size → wpList P ops Q rest (a.put op.dst undef) w') : wpList P ops Q (op :: rest) a w :=
  wpList_plain hgd fun _ hK => by
    unfold Oper.wp execOp
    simp only [ho, hx, hy, Instr.storeAt, Instr.sureAddr, Sem.run_bind, Sem.run_pure, Result.andThen_ok, run_storeVar_row w b t ty old cells hh hi hz h1]
    exact hK _ _ (h _ (setRow_heap w b old cells t (0, 0) hh)
      ⟨rfl, rfl, rfl, by simp [World.setRow], fun k _ hb => World.setRow_other w b k cells hb⟩ (by simp [World.setRow]))
/-- A result that lies in memory, whole. -/
theorem results_cellH {fn : Func} {p : Tmp} {ty : TypeId} (h : fn.results = #[.cell p ty]) (tmps : Array Value) (w : World) (b : Nat) (t : TypeId) (cs : Array Value) (d : TypeDesc)
    (hp : tmps.getD p undef = .pointer (some ⟨b, 0, none⟩)) (hh : Holds w b t cs)
    (hu : P.underlying ty = some d) (hd : d.isRow = true) (hi : (P.info? ty).map (·.size) = some cs.size) : (results fn tmps).run P w = .ok (.agg cs) w := by
  have hr := run_loadVar_row w b t ty cs (0, 0) d hh hu (by cases d <;> simp_all) hi
  have e : (results fn tmps).run P w = ((asAddr (tmps.getD p undef)).run P w).andThen fun a w₁ => (loadVar ty a).run P w₁ := by
    simp only [results, h]
    simp [Sem.run_bind, Result.andThen]
  rw [e, hp]
  simp [asAddr, hr]

end

theorem Holds.drew {w : World} {b : Nat} {t : TypeId} {cs : Array Value} (h : Holds w b t cs) : Holds w.drew b t cs := h
theorem below_new {w w1 w2 : World} (h : Below w.heap.size w w1) (k : Below w1.heap.size w1 w2) : Below w.heap.size w w2 := h.trans (k.mono h.size)
theorem below_new1 (w : World) (o : Obj) : Below w.heap.size w (w.alloc o) := (Below.refl _ w).alloc (Nat.le_refl _) _
end Go.Proofs.Ytadpopjhhanapaa.Dt
/-
  Regions that draw their order: operations that turn nothing, walked as quiet ones, then the rest in its own order.
-/
namespace Go.Proofs.Ytadpopjhhanapaa.Dt
open Go Go.RowKit
section
variable {P : Program} {ops : Array Oper} {W : World} {Q : Act → Prop}
theorem wpStill_of_quiet : ∀ (l : List Oper) (a : Act), wpQuiet P ops (fun w' => w' = W) Q l a → wpStill P ops W Q l a
  | [], _, h => h
  | o :: rest, a, h => by
    unfold wpQuiet at h
    unfold wpStill
    split
    · rename_i hw
      rw [if_pos hw] at h
      obtain ⟨v, h1, h2⟩ := h
      have h3 := h1 W rfl
      unfold Oper.quietAt at h3
      unfold Oper.still
      generalize (execOp a.eval o).run P W = r at *
      cases r with
      | ok n w' =>
        cases n <;> simp only [Oper.quietUpon] at h3 <;> simp only [Oper.stillUpon]
        case value u => obtain ⟨e1, e2⟩ := h3; subst e2; exact ⟨e1, wpStill_of_quiet rest _ h2⟩
        case skip => obtain ⟨e1, e2⟩ := h3; subst e2; exact ⟨e1, wpStill_of_quiet rest _ h2⟩
        case enter f args => obtain ⟨e1, hc⟩ := h3; exact ⟨e1, v, hc, wpStill_of_quiet rest _ h2⟩
      | halt x w' => simp only [Oper.quietUpon] at h3
    · rename_i hw
      rw [if_neg hw] at h
      exact wpStill_of_quiet rest _ h
theorem wp_region_qtail {id : Nat} {Q : Exit → Act → World → Prop} {a : Act} {w : World} {l : List Oper} (n : Nat) (hm : P.follows .mixedOrders = true) (hB : Region.lexTailB .any l.toArray n = true)
    (h : wpQuiet P l.toArray (fun w' => w' = w.drew) (fun a' => wpList P l.toArray Q (l.drop n) a' w.drew) (l.take n) a) : (Code.region id l.toArray true).wp P Q a w :=
  wp_region_still_tail n hm hB (wpStill_of_quiet _ _ h)
end
section
variable {P : Program} {ops : Array Oper} {rest : List Oper} {op : Oper} {a : Act} {C : World → Prop} {Q : Act → Prop}

theorem wpQ_load (hw : Region.wanted op (yielded ops a.tmps) = true) (ty : TypeId) (x : Operand) (ho : op.op = .load ty x)
    (b : Nat) (hx : a.eval x = .pointer (some ⟨b, 0, none⟩)) (t : TypeId) (cs : Array Value) (d : TypeDesc) (hh : ∀ w, C w → Holds w b t cs)
    (hu : P.underlying ty = some d) (hd : d.isRow = true) (hi : (P.info? ty).map (·.size) = some cs.size)
    (h : wpQuiet P ops C Q rest (a.put op.dst (.agg cs))) : wpQuiet P ops C Q (op :: rest) a :=
  wpQuiet_step fun _ hK => by
    rw [if_pos hw]
    refine ⟨.agg cs, fun w hw => ?_, hK _ h⟩
    unfold Oper.quietAt execOp
    simp only [ho, hx, Instr.loadAt, Instr.sureAddr, Sem.run_bind, Sem.run_pure, Result.andThen_ok, run_loadVar_row w b t ty cs (0, 0) d (hh w hw) hu (by cases d <;> simp_all) hi]
    exact ⟨rfl, rfl⟩
theorem wpQ_call (hw : Region.wanted op (yielded ops a.tmps) = true) (f : FuncId)
    (vs : Array Value) (hf : ∀ w, (execOp a.eval op).run P w = .ok (.enter f vs) w) (v : Value) (hc : ∀ w, C w → Calls P f vs w fun e w' => e = .returned v ∧ C w')
    (h : wpQuiet P ops C Q rest (a.put op.dst v)) : wpQuiet P ops C Q (op :: rest) a :=
  wpQuiet_step fun _ hK => by
    rw [if_pos hw]
    refine ⟨v, fun w hw => ?_, hK _ h⟩
    unfold Oper.quietAt
    rw [hf w]
    exact ⟨rfl, hc w hw⟩
theorem wpQ_val (hw : Region.wanted op (yielded ops a.tmps) = true) (v : Value) (hv : ∀ w, (execOp a.eval op).run P w = .ok (.value v) w)
    (h : wpQuiet P ops C Q rest (a.put op.dst v)) : wpQuiet P ops C Q (op :: rest) a :=
  wpQuiet_step fun _ hK => by
    rw [if_pos hw]
    refine ⟨v, fun w _ => ?_, hK _ h⟩
    unfold Oper.quietAt
    rw [hv w]
    exact ⟨rfl, rfl⟩
theorem wp_region_class {id : Nat} {Q : Exit → Act → World → Prop} {a : Act} {w : World} {l : List Oper} (C : World → Prop) (hm : P.follows .mixedOrders = true) (hB : Region.lexB .any l.toArray = true) (h0 : C w.drew)
    (h : wpQuiet P l.toArray C (fun a' => ∀ w', C w' → Q .normal a' w') l a) : (Code.region id l.toArray true).wp P Q a w :=
  wp_region_quiet (C := C) hm hB h0 (by simpa using h)
end

theorem mixedP : Try.prog.follows .mixedOrders = true := by kernel_rfl
end Go.Proofs.Ytadpopjhhanapaa.Dt
/-
  A region that draws its order: operations that look at no memory may be taken first, wherever they stand; then the rest, of which one alone may come up at a time. Plain; nothing of the program.
-/
namespace Go.Proofs.Ytadpopjhhanapaa.Dt
open Go
section
variable {P : Program} {ops : Array Oper} {md : Region.Mode}

/-- An operation that hands back a value or halts, and calls nothing. -/
def plainOp (o : Oper) : Bool := match o.op with
  | .move _ | .assign _ | .binOp .. | .unOp .. | .index .. | .slice .. | .extract .. | .convert .. | .fieldAddr .. => true
  | _ => false

theorem run_value {s : Sem Value} {w w' : World} {n : Next} (h : (do pure (Next.value (← s)) : Sem Next).run P w = .ok n w') : ∃ v, n = .value v := by
  rw [Sem.run_bind] at h
  cases hs : s.run P w with
  | ok v w1 => rw [hs] at h; simp only [Result.andThen_ok, Sem.run_pure] at h; injection h with h1 _; exact ⟨v, h1.symm⟩
  | halt x w1 => rw [hs] at h; simp [Result.andThen] at h

theorem plain_value {o : Oper} {ρ : Operand → Value} {w w' : World} {n : Next} (hp : plainOp o = true) (h : (execOp ρ o).run P w = .ok n w') : ∃ v, n = .value v := by
  unfold plainOp at hp
  unfold execOp at h
  split at hp
  all_goals first | (cases hp; done) | skip
  all_goals (rename_i ho; simp only [ho] at h)
  all_goals first
    | exact run_value h
    | (rw [Sem.run_pure] at h; injection h with h1 _; exact ⟨_, h1.symm⟩)

theorem yields_of_quiet {o : Oper} {a : Act} {v : Value} (hp : plainOp o = true) (hw : Region.wanted o (yielded ops a.tmps) = true) (h : ∀ w, (fun _ => True) w → o.quietAt P a (fun _ => True) w v) : Yields P ops o v a := by
  refine .inl ⟨hw, fun w => ?_⟩
  have h1 := h w trivial
  unfold Oper.quietAt at h1
  cases hr : (execOp a.eval o).run P w with
  | ok n w' =>
    obtain ⟨u, rfl⟩ := plain_value hp hr
    rw [hr] at h1
    simp only [Oper.quietUpon] at h1
    rw [h1.1, h1.2]
  | halt x w' => rw [hr] at h1; simp [Oper.quietUpon] at h1

/-- One at a time, in this order. -/
def permSeq (md : Region.Mode) (ops : Array Oper) : List Nat → Array Bool → Bool
  | [], seen => (Region.ready md ops seen).isEmpty
  | k :: t, seen => decide (Region.ready md ops seen = [k]) && permSeq md ops t (seen.setIfInBounds k true)
/-- These first, in this order; then one at a time. -/
def permHead (md : Region.Mode) (ops : Array Oper) (tl : List Nat) : List Nat → Array Bool → Bool
  | [], seen => permSeq md ops tl seen
  | k :: t, seen => (Region.ready md ops seen).contains k && Region.free md ops seen k && plainOp (ops[k]?.getD default) && permHead md ops tl t (seen.setIfInBounds k true)
/-- The operations of these numbers. -/
def pickOps (ops : Array Oper) (ks : List Nat) : List Oper := ks.map fun k => ops[k]?.getD default

theorem ready_get {seen : Array Bool} {k : Nat} (h : k ∈ Region.ready md ops seen) : ops[k]? = some (ops[k]?.getD default) := by
  obtain ⟨_, o, ho, _⟩ := mem_ready.1 h
  rw [ho]; rfl

theorem wpAny_permSeq {Q : Exit → Act → World → Prop} : ∀ (tl : List Nat) (seen : Array Bool) (a : Act) (w : World), permSeq md ops tl seen = true → wpList P ops Q (pickOps ops tl) a w → wpAny P md ops Q tl.length seen a w
  | [], _, _, _, hB, h => ⟨by simpa [permSeq] using hB, h⟩
  | k :: t, seen, a, w, hB, h => by
    simp only [permSeq, Bool.and_eq_true, decide_eq_true_eq] at hB
    refine ⟨fun h1 => (by rw [hB.1] at h1; cases h1), fun i hi => ?_⟩
    rw [hB.1] at hi
    have hik : i = k := by simpa using hi
    subst hik
    have h0 := ready_get (md := md) (ops := ops) (seen := seen) (k := i) (by rw [hB.1]; simp)
    have hw : wpOp P ops Q i (wpList P ops Q (pickOps ops t)) a w := by unfold wpOp; rw [h0]; exact h
    exact wpOp_mono (fun a' w' h' => wpAny_permSeq t _ a' w' hB.2 h') hw

theorem wpAny_perm {Q : Exit → Act → World → Prop} {w : World} {tl : List Nat} (hs : Region.noSelect ops = true) (hQ : ∀ c a w d v, Q (.panic c) (Act.put a d v) w → Q (.panic c) a w) :
    ∀ (hd : List Nat) (seen : Array Bool) (a : Act), permHead md ops tl hd seen = true → wpQuiet P ops (fun _ => True) (fun a' => wpList P ops Q (pickOps ops tl) a' w) (pickOps ops hd) a →
      wpAny P md ops Q (hd.length + tl.length) seen a w
  | [], seen, a, hB, h => by
    rw [List.length_nil, Nat.zero_add]
    exact wpAny_permSeq tl seen a w hB h
  | k :: t, seen, a, hB, h => by
    simp only [permHead, Bool.and_eq_true] at hB
    obtain ⟨⟨⟨hr, hf⟩, hp⟩, hB⟩ := hB
    have h0 := ready_get (md := md) (ops := ops) (seen := seen) (k := k) (by simpa using hr)
    rw [List.length_cons, show t.length + 1 + tl.length = t.length + tl.length + 1 by omega]
    unfold pickOps at h
    rw [List.map_cons] at h
    unfold wpQuiet at h
    by_cases hw : Region.wanted (ops[k]?.getD default) (yielded ops a.tmps) = true
    · rw [if_pos hw] at h
      obtain ⟨v, h1, h2⟩ := h
      exact wpAny_take h0 hs hf hr (fun c a w => hQ c a w _ _) (yields_of_quiet hp hw h1) (wpAny_perm hs hQ t _ _ hB h2)
    · rw [if_neg hw] at h
      exact wpAny_take h0 hs hf hr (fun c a w => hQ c a w _ _) (.inr ⟨by simpa using hw, rfl⟩) (wpAny_perm hs hQ t _ _ hB h)

theorem wp_region_perm {id : Nat} {Q : Exit → Act → World → Prop} {a : Act} {w : World} {l : List Oper} (hd tl : List Nat) (hm : P.follows .mixedOrders = true) (hs : Region.noSelect l.toArray = true)
    (hl : hd.length + tl.length = l.length) (hB : permHead .any l.toArray tl hd (Array.replicate l.length false) = true)
    (hQ : ∀ c a w d v, Q (.panic c) (Act.put a d v) w → Q (.panic c) a w)
    (h : wpQuiet P l.toArray (fun _ => True) (fun a' => wpList P l.toArray Q (pickOps l.toArray tl) a' w.drew) (pickOps l.toArray hd) a) : (Code.region id l.toArray true).wp P Q a w := by
  refine wp_region_any hm ?_
  have := wpAny_perm (P := P) (ops := l.toArray) (md := .any) (Q := Q) (w := w.drew) (tl := tl) hs hQ hd (Array.replicate l.length false) a hB h
  rw [hl] at this
  simpa using this
end
end Go.Proofs.Ytadpopjhhanapaa.Dt
/-
  A region that draws its order: an operation that yields one value in every world of a class may be taken first, if all that is done beside it stays in the class. Plain; nothing of the program.
-/
namespace Go.Proofs.Ytadpopjhhanapaa.Dt
open Go
section
variable {P : Program} {ops : Array Oper} {md : Region.Mode} {Q : Exit → Act → World → Prop} {C : World → Prop}

/-- Whatever order is drawn from here on, all stays in the class. -/
def anyC (P : Program) (md : Region.Mode) (ops : Array Oper) (C : World → Prop) (Q : Exit → Act → World → Prop) : Nat → Array Bool → Act → World → Prop
  | 0, seen, a, w => C w ∧ Region.ready md ops seen = [] ∧ Q .normal a w
  | n + 1, seen, a, w => C w ∧ (Region.ready md ops seen = [] → Q .normal a w) ∧ ∀ k ∈ Region.ready md ops seen, wpOp P ops Q k (anyC P md ops C Q n (seen.setIfInBounds k true)) a w

theorem anyC.inC : ∀ {n : Nat} {seen : Array Bool} {a : Act} {w : World}, anyC P md ops C Q n seen a w → C w
  | 0, _, _, _, h => h.1
  | _ + 1, _, _, _, h => h.1
theorem anyC.any : ∀ {n : Nat} {seen : Array Bool} {a : Act} {w : World}, anyC P md ops C Q n seen a w → wpAny P md ops Q n seen a w
  | 0, _, _, _, h => h.2
  | _ + 1, _, _, _, h => ⟨h.2.1, fun k hk => wpOp_mono (fun _ _ h' => anyC.any h') (h.2.2 k hk)⟩

/-- What an operation does, and whether it is done, is the same in both frames. -/
structure Alike (ops : Array Oper) (o : Oper) (a b : Act) : Prop where
  ex : execOp b.eval o = execOp a.eval o
  wa : Region.wanted o (yielded ops b.tmps) = Region.wanted o (yielded ops a.tmps)
theorem Alike.trans {o : Oper} {a b c : Act} (h : Alike ops o a b) (h' : Alike ops o b c) : Alike ops o a c := ⟨h'.ex.trans h.ex, h'.wa.trans h.wa⟩

/-- One that is apart from another makes no difference to it, whether the other's value is there already or not. -/
theorem carry {k : Nat} {o o' : Oper} {v : Value} {K : Act → World → Prop} {a : Act} {w : World} (hk : ops[k]? = some o') (hap : o.apart ops o' = true)
    (hs : ∀ cs b, o.op ≠ .select cs b) (hs' : ∀ cs b, o'.op ≠ .select cs b) (hQ : ∀ c a w, Q (.panic c) (a.put o.dst v) w → Q (.panic c) a w)
    (h : wpOp P ops Q k K (a.put o.dst v) w) : wpOp P ops Q k (fun b w' => Alike ops o a b ∧ K (b.put o.dst v) w') a w := by
  obtain ⟨h1, h2, h3⟩ := Oper.apart_spec hap
  have al : ∀ (c : Act) u, Alike ops o c (c.put o'.dst u) := fun c u => ⟨execOp_put o hs c o'.dst u h3, wanted_put o c o'.dst u h3⟩
  have tu : ∀ (c : Act) u {w'}, K ((c.put o.dst v).put o'.dst u) w' → K ((c.put o'.dst u).put o.dst v) w' := fun c u w' hK => by rw [← Act.put_comm c v u h2]; exact hK
  unfold wpOp at h ⊢
  rw [hk] at h ⊢
  dsimp only at h ⊢
  rw [wanted_put o' a o.dst v h1] at h
  by_cases hw : Region.wanted o' (yielded ops a.tmps) = true
  · rw [if_pos hw] at h ⊢
    have ex := execOp_put o' hs' a o.dst v h1
    rcases h with h | ⟨h, hl⟩
    · left
      unfold Oper.wp at h ⊢
      rw [ex] at h
      revert h
      generalize (execOp a.eval o').run P w = r
      intro h
      match r, h with
      | .ok (.value u) w', h => exact ⟨al a u, tu a u h⟩
      | .ok .skip w', h => exact ⟨al a undef, tu a undef h⟩
      | .ok (.defer d) w', h =>
        refine ⟨Alike.trans (b := { a with defers := d :: a.defers }) ⟨rfl, rfl⟩ (al _ undef), ?_⟩
        have h' : K (({ a with defers := d :: a.defers }.put o.dst v).put o'.dst undef) w' := by
          rw [← Act.put_defers]; exact h
        exact tu _ undef h'
      | .ok (.enter f args) w', h =>
        refine Calls.mono h fun e w'' he => ?_
        match e, he with
        | .returned u, he => exact ⟨al a u, tu a u he⟩
        | .panicked c, he => exact hQ _ _ _ he
        | .outgrown, he => exact he
      | .ok (.row row args) w', h => exact Rows.mono h fun u w'' he => ⟨al a u, tu a u he⟩
      | .halt (.panic u) w', h => exact hQ _ _ _ h
    · exact .inr ⟨by unfold Oper.asks at h ⊢; rw [ex] at h; exact h, hl⟩
  · rw [if_neg hw] at h ⊢
    exact ⟨al a undef, tu a undef h⟩

/-- It yields this value in every world of the class, and changes nothing. -/
def YieldsC (P : Program) (C : World → Prop) (o : Oper) (v : Value) (a : Act) : Prop := ∀ w, C w → (execOp a.eval o).run P w = .ok (.value v) w

theorem YieldsC.op {k : Nat} {o : Oper} {v : Value} {a : Act} {w : World} {K : Act → World → Prop} (hk : ops[k]? = some o) (hw : Region.wanted o (yielded ops a.tmps) = true) (hy : YieldsC P C o v a) (hC : C w)
    (h : K (a.put o.dst v) w) : wpOp P ops Q k K a w := by
  unfold wpOp
  rw [hk]
  dsimp only
  rw [if_pos hw]
  left
  unfold Oper.wp
  rw [hy w hC]
  exact h

theorem anyC_take {k : Nat} {o : Oper} {v : Value} (hk : ops[k]? = some o) (hs : Region.noSelect ops = true) (hQ : ∀ c a w, Q (.panic c) (Act.put a o.dst v) w → Q (.panic c) a w) :
    ∀ (n : Nat) (seen : Array Bool) (a : Act) (w : World), Region.free md ops seen k = true → (Region.ready md ops seen).contains k = true → Region.wanted o (yielded ops a.tmps) = true → YieldsC P C o v a →
      anyC P md ops C Q n (seen.setIfInBounds k true) (a.put o.dst v) w → anyC P md ops C Q (n + 1) seen a w := by
  intro n
  have main : ∀ (n : Nat) (seen : Array Bool) (a : Act) (w : World),
      (∀ j oj, ops[j]? = some oj → j ≠ k → seen.getD j true = false → (∀ e ∈ oj.after, Region.binds md e = true → e.on ≠ k) → o.apart ops oj = true) →
      k ∈ Region.ready md ops seen → Region.wanted o (yielded ops a.tmps) = true → YieldsC P C o v a →
      anyC P md ops C Q n (seen.setIfInBounds k true) (a.put o.dst v) w → anyC P md ops C Q (n + 1) seen a w := by
    intro n
    induction n with
    | zero =>
      intro seen a w _ hr hw hy h
      refine ⟨h.1, fun h0 => absurd hr (by rw [h0]; exact List.not_mem_nil), fun j hj => ?_⟩
      by_cases e : j = k
      · rw [e]; exact hy.op hk hw h.1 h
      · have := ready_mono hj e
        rw [h.2.1] at this
        exact absurd this List.not_mem_nil
    | succ n ih =>
      intro seen a w hfr hr hw hy h
      refine ⟨h.1, fun h0 => absurd hr (by rw [h0]; exact List.not_mem_nil), fun j hj => ?_⟩
      by_cases e : j = k
      · rw [e]; exact hy.op hk hw h.1 h
      · obtain ⟨hun, oj, hoj, hall⟩ := mem_ready.1 hj
        have hno : ∀ e ∈ oj.after, Region.binds md e = true → e.on ≠ k := by
          intro e' he hb heq
          have q1 := hall e' he hb
          have q0 := (mem_ready.1 hr).1
          rw [heq] at q1
          by_cases hlt : k < seen.size
          · simp [hlt] at q0 q1
            rw [q0] at q1
            cases q1
          · simp [Array.getElem?_eq_none (Nat.le_of_not_lt hlt)] at q1
        have st := carry (o := o) (v := v) hoj (hfr j oj hoj e hun hno) (Region.noSelect_spec hs k o · · hk) (Region.noSelect_spec hs j oj · · hoj) hQ (h.2.2 j (ready_mono hj e))
        refine wpOp_mono (fun b w' ⟨hal, hb⟩ => ?_) st
        refine ih (seen.setIfInBounds j true) b w' ?_ (ready_mono hr (Ne.symm e)) (hal.wa.trans hw) (fun w0 hC0 => by rw [hal.ex]; exact hy w0 hC0) ?_
        · intro i oi hi hik hu hn
          refine hfr i oi hi hik ?_ hn
          by_cases eij : j = i
          · rw [← eij]; exact hun
          · rw [getD_set_ne true eij] at hu; exact hu
        · rw [Array.setIfInBounds_comm _ _ e]; exact hb
  exact fun seen a w hf hr hw hy h => main n seen a w (Region.free_spec hk hf) (by simpa using hr) hw hy h

theorem anyC_one {k n : Nat} {seen : Array Bool} {a : Act} {w : World} (hr : Region.ready md ops seen = [k]) (hC : C w) (h : wpOp P ops Q k (anyC P md ops C Q n (seen.setIfInBounds k true)) a w) : anyC P md ops C Q (n + 1) seen a w :=
  ⟨hC, fun h0 => (by rw [hr] at h0; cases h0), fun j hj => by
    rw [hr] at hj
    have : j = k := by simpa using hj
    rw [this]; exact h⟩
theorem anyC_end {seen : Array Bool} {a : Act} {w : World} (hr : Region.ready md ops seen = []) (hC : C w) (h : Q .normal a w) : anyC P md ops C Q 0 seen a w := ⟨hC, hr, h⟩

theorem wp_region_anyC {id : Nat} {a : Act} {w : World} {l : List Oper} (C : World → Prop) (hm : P.follows .mixedOrders = true)
    (h : anyC P .any l.toArray C Q l.length (Array.replicate l.length false) a w.drew) : (Code.region id l.toArray true).wp P Q a w := by
  refine wp_region_any hm ?_
  simpa using h.any

/-- A plan: what is taken first because it yields one value in all worlds of the class; what comes up alone. -/
inductive Plan where
  | take (k : Nat)
  | one (k : Nat)
def planOk (md : Region.Mode) (ops : Array Oper) : List Plan → Array Bool → Bool
  | [], seen => (Region.ready md ops seen).isEmpty
  | .take k :: t, seen => (Region.ready md ops seen).contains k && Region.free md ops seen k && planOk md ops t (seen.setIfInBounds k true)
  | .one k :: t, seen => decide (Region.ready md ops seen = [k]) && planOk md ops t (seen.setIfInBounds k true)
def wpPlan (P : Program) (ops : Array Oper) (C : World → Prop) (Q : Exit → Act → World → Prop) : List Plan → Act → World → Prop
  | [], a, w => Q .normal a w
  | .take k :: t, a, w => Region.wanted (ops[k]?.getD default) (yielded ops a.tmps) = true ∧ ∃ v, YieldsC P C (ops[k]?.getD default) v a ∧ wpPlan P ops C Q t (a.put (ops[k]?.getD default).dst v) w
  | .one k :: t, a, w => wpOp P ops Q k (fun b w' => C w' ∧ wpPlan P ops C Q t b w') a w
theorem anyC_plan (hs : Region.noSelect ops = true) (hQ : ∀ c a w d v, Q (.panic c) (Act.put a d v) w → Q (.panic c) a w) : ∀ (t : List Plan) (seen : Array Bool) (a : Act) (w : World), planOk md ops t seen = true → C w → wpPlan P ops C Q t a w → anyC P md ops C Q t.length seen a w
  | [], seen, a, w, hB, hC, h => anyC_end (by simpa [planOk] using hB) hC h
  | .take k :: t, seen, a, w, hB, hC, h => by
    simp only [planOk, Bool.and_eq_true] at hB
    obtain ⟨hw, v, hy, h⟩ := h
    exact anyC_take (ready_get (md := md) (seen := seen) (by simpa using hB.1.1)) hs (fun c a w => hQ c a w _ _) t.length seen a w hB.1.2 hB.1.1 hw hy (anyC_plan hs hQ t _ _ _ hB.2 hC h)
  | .one k :: t, seen, a, w, hB, hC, h => by
    simp only [planOk, Bool.and_eq_true, decide_eq_true_eq] at hB
    exact anyC_one hB.1 hC (wpOp_mono (fun b w' h' => anyC_plan hs hQ t _ b w' hB.2 h'.1 h'.2) h)
theorem wp_region_plan {id : Nat} {a : Act} {w : World} {l : List Oper} (C : World → Prop) (t : List Plan) (hm : P.follows .mixedOrders = true) (hs : Region.noSelect l.toArray = true) (hl : t.length = l.length)
    (hB : planOk .any l.toArray t (Array.replicate l.length false) = true) (hQ : ∀ c a w d v, Q (.panic c) (Act.put a d v) w → Q (.panic c) a w) (hC : C w.drew)
    (h : wpPlan P l.toArray C Q t a w.drew) : (Code.region id l.toArray true).wp P Q a w := by
  refine wp_region_anyC C hm ?_
  rw [← hl]
  rw [← hl] at hB
  exact anyC_plan hs hQ t _ a _ hB hC h
end
open Go.RowKit
section
variable {P : Program} {ops : Array Oper} {C : World → Prop} {Q : Exit → Act → World → Prop} {t : List Plan} {k : Nat} {op : Oper} {a : Act} {w : World}

/-- A whole row is loaded. -/
theorem plan_ldR (d : Option Tmp) (hdd : op.dst = d) (hk : ops[k]?.getD default = op) (hgd : op.guard = none) (ty : TypeId) (x : Operand) (ho : op.op = .load ty x) {b : Nat} (hx : a.eval x = .pointer (some ⟨b, 0, none⟩)) {t' : TypeId} {cs : Array Value} {dd : TypeDesc} (hh : ∀ w, C w → Holds w b t' cs)
    (hu : P.underlying ty = some dd) (hd : dd.isRow = true) (hi : (P.info? ty).map (·.size) = some cs.size) (h : wpPlan P ops C Q t (a.put d (.agg cs)) w) : wpPlan P ops C Q (.take k :: t) a w := by
  refine ⟨by rw [hk]; simp [Region.wanted, hgd], .agg cs, fun w' hw => ?_, by rw [hk, hdd]; exact h⟩
  rw [hk]
  unfold execOp
  simp only [ho, hx, Instr.loadAt, Instr.sureAddr, Sem.run_bind, Sem.run_pure, Result.andThen_ok, run_loadVar_row w' b t' ty cs (0, 0) dd (hh w' hw) hu (by cases dd <;> simp_all) hi]
/-- What looks at no memory. -/
theorem plan_val (d : Option Tmp) (hdd : op.dst = d) (hk : ops[k]?.getD default = op) (hgd : op.guard = none) (v : Value) (hv : ∀ w, (execOp a.eval op).run P w = .ok (.value v) w) (h : wpPlan P ops C Q t (a.put d v) w) : wpPlan P ops C Q (.take k :: t) a w :=
  ⟨by rw [hk]; simp [Region.wanted, hgd], v, fun w' _ => by rw [hk]; exact hv w', by rw [hk, hdd]; exact h⟩
/-- A call. -/
theorem plan_call (d : Option Tmp) (hdd : op.dst = d) (hk : ops[k]? = some op) (hgd : op.guard = none) {f : FuncId} {vs : Array Value} (hf : (execOp a.eval op).run P w = .ok (.enter f vs) w) (hc : Calls P f vs w fun e w' => ∃ v, e = .returned v ∧ C w' ∧ wpPlan P ops C Q t (a.put d v) w') : wpPlan P ops C Q (.one k :: t) a w := by
  show wpOp P ops Q k _ a w
  unfold wpOp
  rw [hk]
  dsimp only
  rw [if_pos (by simp [Region.wanted, hgd])]
  left
  unfold Oper.wp
  rw [hf]
  refine Calls.mono hc ?_
  rintro e w' ⟨v, rfl, h1, h2⟩
  rw [← hdd] at h2
  exact ⟨h1, h2⟩
/-- A value, or a store. -/
theorem plan_one (d : Option Tmp) (hdd : op.dst = d) (hk : ops[k]? = some op) (hgd : op.guard = none) {v : Value} {w' : World} (hv : (execOp a.eval op).run P w = .ok (.value v) w') (hC : C w') (h : wpPlan P ops C Q t (a.put d v) w') : wpPlan P ops C Q (.one k :: t) a w := by
  show wpOp P ops Q k _ a w
  unfold wpOp
  rw [hk]
  dsimp only
  rw [if_pos (by simp [Region.wanted, hgd])]
  left
  unfold Oper.wp
  rw [hv]
  rw [← hdd] at h
  exact ⟨hC, h⟩
theorem plan_skip (d : Option Tmp) (hdd : op.dst = d) (hk : ops[k]? = some op) (hgd : op.guard = none) {w' : World} (hv : (execOp a.eval op).run P w = .ok .skip w') (hC : C w') (h : wpPlan P ops C Q t (a.put d undef) w') : wpPlan P ops C Q (.one k :: t) a w := by
  show wpOp P ops Q k _ a w
  unfold wpOp
  rw [hk]
  dsimp only
  rw [if_pos (by simp [Region.wanted, hgd])]
  left
  unfold Oper.wp
  rw [hv]
  rw [← hdd] at h
  exact ⟨hC, h⟩
theorem plan_ldI {ops : Array Oper} (d : Option Tmp) (hdd : op.dst = d) (hk : ops[k]?.getD default = op) (hgd : op.guard = none) (x : Operand) (ho : op.op = .load 3 x) {ad : Addr} (hx : a.eval x = .pointer (some ad)) {v : Value} (hh : ∀ w, C w → w.cell? ad = some v)
    (h : wpPlan Try.prog ops C Q t (a.put d v) w) : wpPlan Try.prog ops C Q (.take k :: t) a w := by
  refine ⟨by rw [hk]; simp [Region.wanted, hgd], v, fun w' hw => ?_, by rw [hk, hdd]; exact h⟩
  rw [hk]
  have hl : (loadVar 3 ad).run Try.prog w' = .ok v w' := by simp [go_sem, hh w' hw]
  unfold execOp
  simp only [ho, hx, Instr.loadAt, Instr.sureAddr, Sem.run_bind, Sem.run_pure, Result.andThen_ok, hl]
end
end Go.Proofs.Ytadpopjhhanapaa.Dt
