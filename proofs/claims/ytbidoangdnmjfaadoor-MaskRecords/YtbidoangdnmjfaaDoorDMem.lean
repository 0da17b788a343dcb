/-
  Blocks of memory that are known whole; loads and stores of whole structs.
-/
import Derived.Test.YtbidoangdnmjfaaDoorChecked
import Derived.KernelRfl
import Derived.Below
import Derived.Laws.Rows
import Derived.Deep.Draws
import Derived.Deep.WholeRow
import Derived.Deep.MidRow
import Derived.Laws.Tables
namespace Go.Proofs.YtbidoangdnmjfaaDoor
open Go Go.RowKit

/-- Block b is a row of the cells cs, none of which is frozen. -/
def Holds (w : World) (b : Nat) (t : TypeId) (cs : Array Value) : Prop := w.heap[b]? = some (.cells cs t (0, 0))

theorem Holds.lt {w : World} {b : Nat} {t : TypeId} {cs : Array Value} (h : Holds w b t cs) : b < w.heap.size := by
  unfold Holds at h
  exact (Array.getElem?_eq_some_iff.1 h).1
theorem Holds.cell {w : World} {b : Nat} {t : TypeId} {cs : Array Value} (h : Holds w b t cs) (i : Nat) : w.cell? ⟨b, i, none⟩ = cs[i]? :=
  cell_of_row w b i cs t (0, 0) h
theorem Holds.frozen {w : World} {b : Nat} {t : TypeId} {cs : Array Value} (h : Holds w b t cs) (i : Nat) : w.frozen? ⟨b, i, none⟩ = false := by
  unfold Holds at h
  simp [World.frozen?, h]
theorem Holds.set {w : World} {b : Nat} {t : TypeId} {cs : Array Value} (h : Holds w b t cs) (i : Nat) (v : Value) : Holds (w.setCell ⟨b, i, none⟩ v) b t (cs.setIfInBounds i v) := by
  unfold Holds at *
  simp [World.setCell, Array.getElem?_modify, h]
theorem Holds.drewN {w : World} {b : Nat} {t : TypeId} {cs : Array Value} (h : Holds w b t cs) (n : Nat) : Holds (w.drewN n) b t cs := h
theorem Holds.alloc {w : World} {b : Nat} {t : TypeId} {cs : Array Value} (h : Holds w b t cs) (o : Obj) : Holds (w.alloc o) b t cs := by
  have := h.lt
  unfold Holds at *
  rw [Below.heap_alloc _ _ _ this]; exact h
theorem Holds.new (w : World) (t : TypeId) (cs : Array Value) : Holds (w.alloc (.cells cs t)) w.heap.size t cs := by
  unfold Holds World.alloc; simp
theorem Holds.other {w : World} {b : Nat} {t : TypeId} {cs : Array Value} (h : Holds w b t cs) (a : Addr) (v : Value) (hb : b ≠ a.block) : Holds (w.setCell a v) b t cs := by
  unfold Holds at *
  rw [Below.heap_setCell _ _ _ _ hb]; exact h
theorem Holds.congr {w : World} {b : Nat} {t : TypeId} {cs cs' : Array Value} (h : Holds w b t cs) (e : cs = cs') : Holds w b t cs' := e ▸ h

/-- The world w' is as w was, but for block b, and for new blocks. -/
structure Only (b : Nat) (w w' : World) : Prop where
  os : w'.os = w.os
  tape : w'.tape = w.tape
  output : w'.output = w.output
  size : w.heap.size ≤ w'.heap.size
  block : ∀ k, k < w.heap.size → k ≠ b → w'.heap[k]? = w.heap[k]?

theorem Only.refl (b : Nat) (w : World) : Only b w w := ⟨rfl, rfl, rfl, Nat.le_refl _, fun _ _ _ => rfl⟩
theorem Only.trans {b : Nat} {w1 w2 w3 : World} (h : Only b w1 w2) (k : Only b w2 w3) : Only b w1 w3 :=
  ⟨k.os.trans h.os, k.tape.trans h.tape, k.output.trans h.output, Nat.le_trans h.size k.size,
   fun i hi hb => (k.block i (Nat.lt_of_lt_of_le hi h.size) hb).trans (h.block i hi hb)⟩
theorem Only.drewN {b : Nat} {w w' : World} (h : Only b w w') (n : Nat) : Only b w (w'.drewN n) := ⟨h.os, h.tape, h.output, h.size, h.block⟩
theorem Only.drew {b : Nat} {w w' : World} (h : Only b w w') : Only b w w'.drew := ⟨h.os, h.tape, h.output, h.size, h.block⟩
theorem Only.set {b : Nat} {w w' : World} (h : Only b w w') (i : Nat) (v : Value) : Only b w (w'.setCell ⟨b, i, none⟩ v) :=
  h.trans ⟨rfl, rfl, rfl, by simp, fun k _ hb => Below.heap_setCell _ _ _ _ hb⟩
theorem Only.alloc {b : Nat} {w w' : World} (h : Only b w w') (o : Obj) : Only b w (w'.alloc o) :=
  h.trans ⟨rfl, rfl, rfl, by simp, fun k hk _ => Below.heap_alloc _ _ _ hk⟩
theorem Only.holds {b c : Nat} {w w' : World} {t : TypeId} {cs : Array Value} (h : Only b w w') (hc : Holds w c t cs) (hb : c ≠ b) : Holds w' c t cs := by
  have := hc.lt
  unfold Holds at *
  rw [h.block c this hb]; exact hc
/-- Behind a call that makes blocks and turns none. -/
theorem Only.below {b : Nat} {w w' w'' : World} (h : Only b w w') (k : Below w'.heap.size w' w'') : Only b w w'' :=
  h.trans ⟨k.os, k.tape, k.output, k.size, fun i hi _ => k.block i hi⟩
/-- Where the block is a new one, nothing has turned. -/
theorem Only.fresh {b : Nat} {w w' w'' : World} (h : Below w.heap.size w w') (k : Only b w' w'') (hb : w.heap.size ≤ b) : Below w.heap.size w w'' :=
  ⟨k.os.trans h.os, k.tape.trans h.tape, k.output.trans h.output, Nat.le_trans h.size k.size,
   fun i hi => (k.block i (Nat.lt_of_lt_of_le hi h.size) (by omega)).trans (h.block i hi)⟩
theorem below_holds {c : Nat} {w w' : World} {t : TypeId} {cs : Array Value} (h : Below w.heap.size w w') (hc : Holds w c t cs) : Holds w' c t cs := by
  have := hc.lt
  unfold Holds at *
  rw [h.block c this]; exact hc

theorem below_drewL {B : Nat} {a w : World} (h : Below B a.drew w) : Below B a w := ⟨h.os, h.tape, h.output, h.size, h.block⟩


section
variable {P : Program}
/-- A whole row is loaded. -/
theorem wpList_loadH {ops : Array Oper} {rest : List Oper} {op : Oper} {a : Act} {w : World} {Q : Exit → Act → World → Prop} (hgd : op.guard = none) (ty : TypeId) (x : Operand) (ho : op.op = .load ty x)
    (b : Nat) (hx : a.eval x = .pointer (some ⟨b, 0, none⟩)) (t : TypeId) (cs : Array Value) (d : TypeDesc) (hh : Holds w b t cs)
    (hu : P.underlying ty = some d) (hd : d.isRow = true) (hi : (P.info? ty).map (·.size) = some cs.size)
    (h : wpList P ops Q rest (a.put op.dst (.agg cs)) w) : wpList P ops Q (op :: rest) a w :=
  wpList_plain hgd fun _ hK => by
    unfold Oper.wp execOp
    simp only [ho, hx, Instr.loadAt, Instr.sureAddr, Sem.run_bind, Sem.run_pure, Result.andThen_ok, run_loadVar_row w b t ty cs (0, 0) d hh hu (by cases d <;> simp_all) hi]
    exact hK _ _ h

/-- A whole row is loaded by an operation that has a guard. -/
theorem wpList_loadG {ops : Array Oper} {rest : List Oper} {op : Oper} {a : Act} {w : World} {Q : Exit → Act → World → Prop} (hw : Region.wanted op (yielded ops a.tmps) = true) (ty : TypeId) (x : Operand) (ho : op.op = .load ty x)
    (b : Nat) (hx : a.eval x = .pointer (some ⟨b, 0, none⟩)) (t : TypeId) (cs : Array Value) (d : TypeDesc) (hh : Holds w b t cs)
    (hu : P.underlying ty = some d) (hd : d.isRow = true) (hi : (P.info? ty).map (·.size) = some cs.size)
    (h : wpList P ops Q rest (a.put op.dst (.agg cs)) w) : wpList P ops Q (op :: rest) a w :=
  wpList_step fun _ hK => by
    rw [if_pos hw]
    unfold Oper.wp execOp
    simp only [ho, hx, Instr.loadAt, Instr.sureAddr, Sem.run_bind, Sem.run_pure, Result.andThen_ok, run_loadVar_row w b t ty cs (0, 0) d hh hu (by cases d <;> simp_all) hi]
    exact hK _ _ h

theorem World.setRow_other (w : World) (g k : Nat) (cs : Array Value) (h : k ≠ g) : (w.setRow g cs).heap[k]? = w.heap[k]? := by
  simp only [World.setRow, Array.getElem?_modify]
  rw [if_neg (fun e => h e.symm)]

/-- A whole row is stored: the world behind it is another one, which holds the row. -/
theorem wpList_storeH {ops : Array Oper} {rest : List Oper} {op : Oper} {a : Act} {w : World} {Q : Exit → Act → World → Prop} (hgd : op.guard = none) (ty : TypeId) (x y : Operand) (ho : op.op = .store ty x y)
    (b : Nat) (cells : Array Value) (hx : a.eval x = .pointer (some ⟨b, 0, none⟩)) (hy : a.eval y = .agg cells)
    (t : TypeId) (old : Array Value) (hh : Holds w b t old) (hi : (P.info? ty).map (·.size) = some cells.size) (hz : old.size = cells.size) (h1 : cells.all (·.oneCell') = true)
    (h : ∀ w', Holds w' b t cells → Only b w w' → w'.heap.size = w.heap.size → wpList P ops Q rest (a.put op.dst undef) w') : wpList P ops Q (op :: rest) a w :=
  wpList_plain hgd fun _ hK => by
    unfold Oper.wp execOp
    simp only [ho, hx, hy, Instr.storeAt, Instr.sureAddr, Sem.run_bind, Sem.run_pure, Result.andThen_ok, run_storeVar_row w b t ty old cells hh hi hz h1]
    exact hK _ _ (h _ (setRow_heap w b old cells t (0, 0) hh)
      ⟨rfl, rfl, rfl, by simp [World.setRow], fun k _ hb => World.setRow_other w b k cells hb⟩ (by simp [World.setRow]))
/-- A result that lies in memory, whole. -/
theorem results_cellH {fn : Func} {p : Tmp} {ty : TypeId} (h : fn.results = #[.cell p ty]) (tmps : Array Value) (w : World) (b : Nat) (t : TypeId) (cs : Array Value) (d : TypeDesc)
    (hp : tmps.getD p undef = .pointer (some ⟨b, 0, none⟩)) (hh : Holds w b t cs)
    (hu : P.underlying ty = some d) (hd : d.isRow = true) (hi : (P.info? ty).map (·.size) = some cs.size) : (results fn tmps).run P w = .ok (.agg cs) w := by
  have hr := run_loadVar_row w b t ty cs (0, 0) d hh hu (by cases d <;> simp_all) hi
  have e : (results fn tmps).run P w = ((asAddr (tmps.getD p undef)).run P w).andThen fun a w₁ => (loadVar ty a).run P w₁ := by
    simp only [results, h]
    simp [Sem.run_bind, Result.andThen]
  rw [e, hp]
  simp [asAddr, hr]

end

theorem Holds.drew {w : World} {b : Nat} {t : TypeId} {cs : Array Value} (h : Holds w b t cs) : Holds w.drew b t cs := h
theorem below_new {w w1 w2 : World} (h : Below w.heap.size w w1) (k : Below w1.heap.size w1 w2) : Below w.heap.size w w2 := h.trans (k.mono h.size)
theorem below_new1 (w : World) (o : Obj) : Below w.heap.size w (w.alloc o) := (Below.refl _ w).alloc (Nat.le_refl _) _
end Go.Proofs.YtbidoangdnmjfaaDoor
