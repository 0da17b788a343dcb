/-
  Whole rows loaded and stored; the tables of the program in memory.
-/
import Derived.Test.YtjbenoaefjlbaaaDoorRows
import Derived.Test.YtjbenoaefjlbaaaDoorSpec
import Derived.Laws.Rows
import Derived.Laws.Tables
import Derived.Deep.MidRow
import Derived.Deep.WholeRow
namespace Go.Proofs.YtjbenoaefjlbaaaDoor
open Go.RowKit
section
variable {P : Program}

/-- A whole row is loaded. -/
theorem wpList_loadH {ops : Array Oper} {rest : List Oper} {op : Oper} {a : Act} {w : World} {Q : Exit → Act → World → Prop} (hgd : op.guard = none) (ty : TypeId) (x : Operand) (ho : op.op = .load ty x)
    (b : Nat) (hx : a.eval x = .pointer (some ⟨b, 0, none⟩)) (t : TypeId) (cs : Array Value) (d : TypeDesc) (hh : Holds w b t cs)
    (hu : P.underlying ty = some d) (hd : d.isRow = true) (hi : (P.info? ty).map (·.size) = some cs.size)
    (h : wpList P ops Q rest (a.put op.dst (.agg cs)) w) : wpList P ops Q (op :: rest) a w :=
  wpList_plain hgd fun _ hK => by
    unfold Oper.wp execOp
    simp only [ho, hx, Instr.loadAt, Instr.sureAddr, Sem.run_bind, Sem.run_pure, Result.andThen_ok, run_loadVar_row w b t ty cs (0, 0) d hh hu (by cases d <;> simp_all) hi]
    exact hK _ _ h

/-- A whole row is loaded by an operation that has a guard. -/
theorem wpList_loadG {ops : Array Oper} {rest : List Oper} {op : Oper} {a : Act} {w : World} {Q : Exit → Act → World → Prop} (hw : Region.wanted op (yielded ops a.tmps) = true) (ty : TypeId) (x : Operand) (ho : op.op = .load ty x)
    (b : Nat) (hx : a.eval x = .pointer (some ⟨b, 0, none⟩)) (t : TypeId) (cs : Array Value) (d : TypeDesc) (hh : Holds w b t cs)
    (hu : P.underlying ty = some d) (hd : d.isRow = true) (hi : (P.info? ty).map (·.size) = some cs.size)
    (h : wpList P ops Q rest (a.put op.dst (.agg cs)) w) : wpList P ops Q (op :: rest) a w :=
  wpList_step fun _ hK => by
    rw [if_pos hw]
    unfold Oper.wp execOp
    simp only [ho, hx, Instr.loadAt, Instr.sureAddr, Sem.run_bind, Sem.run_pure, Result.andThen_ok, run_loadVar_row w b t ty cs (0, 0) d hh hu (by cases d <;> simp_all) hi]
    exact hK _ _ h

theorem World.setRow_other (w : World) (g k : Nat) (cs : Array Value) (h : k ≠ g) : (w.setRow g cs).heap[k]? = w.heap[k]? := by
  simp only [World.setRow, Array.getElem?_modify]
  rw [if_neg (fun e => h e.symm)]

/-- A whole row is stored: the world behind it is another one, which holds the row. -/
theorem wpList_storeH {ops : Array Oper} {rest : List Oper} {op : Oper} {a : Act} {w : World} {Q : Exit → Act → World → Prop} (hgd : op.guard = none) (ty : TypeId) (x y : Operand) (ho : op.op = .store ty x y)
    (b : Nat) (cells : Array Value) (hx : a.eval x = .pointer (some ⟨b, 0, none⟩)) (hy : a.eval y = .agg cells)
    (t : TypeId) (old : Array Value) (hh : Holds w b t old) (hi : (P.info? ty).map (·.size) = some cells.size) (hz : old.size = cells.size) (h1 : cells.all (·.oneCell') = true)
    (h : ∀ w', Holds w' b t cells → Only b w w' → w'.heap.size = w.heap.size → wpList P ops Q rest (a.put op.dst undef) w') : wpList P ops Q (op :: rest) a w :=
  wpList_plain hgd fun _ hK => by
    unfold Oper.wp execOp
    simp only [ho, hx, hy, Instr.storeAt, Instr.sureAddr, Sem.run_bind, Sem.run_pure, Result.andThen_ok, run_storeVar_row w b t ty old cells hh hi hz h1]
    exact hK _ _ (h _ (setRow_heap w b old cells t (0, 0) hh)
      ⟨rfl, rfl, rfl, by simp [World.setRow], fun k _ hb => World.setRow_other w b k cells hb⟩ (by simp [World.setRow]))
/-- A result that lies in memory, whole. -/
theorem results_cellH {fn : Func} {p : Tmp} {ty : TypeId} (h : fn.results = #[.cell p ty]) (tmps : Array Value) (w : World) (b : Nat) (t : TypeId) (cs : Array Value) (d : TypeDesc)
    (hp : tmps.getD p undef = .pointer (some ⟨b, 0, none⟩)) (hh : Holds w b t cs)
    (hu : P.underlying ty = some d) (hd : d.isRow = true) (hi : (P.info? ty).map (·.size) = some cs.size) : (results fn tmps).run P w = .ok (.agg cs) w := by
  have hr := run_loadVar_row w b t ty cs (0, 0) d hh hu (by cases d <;> simp_all) hi
  have e : (results fn tmps).run P w = ((asAddr (tmps.getD p undef)).run P w).andThen fun a w₁ => (loadVar ty a).run P w₁ := by
    simp only [results, h]
    simp [Sem.run_bind, Result.andThen]
  rw [e, hp]
  simp [asAddr, hr]
end

theorem lanesA_one (s : Nat → BitVec 64) : (lanesA s).all (·.oneCell') = true := by
  refine Array.all_eq_true_iff_forall_mem.2 fun v hv => ?_
  obtain ⟨i, rfl⟩ := Array.mem_ofFn.1 hv
  rfl

/-- The program's three tables, as they stand in memory. -/
structure Tabs (w : World) : Prop where
  size : 4 ≤ w.heap.size
  rc : ∀ i, i < 24 → w.cell? ⟨0, i, none⟩ = some (.int .u64 (lane (rcs i)))
  off : ∀ i, i < 25 → w.cell? ⟨2, i, none⟩ = some (.int .i64 (offs i))
  tgt : ∀ i, i < 25 → w.cell? ⟨3, i, none⟩ = some (.int .i64 (tgts i))

theorem Tabs.only {w w' : World} (h : Tabs w) {b : Nat} (hb : 4 ≤ b) (k : Only b w w') : Tabs w' := by
  have hs := h.size
  exact ⟨Nat.le_trans hs k.size,
    fun i hi => (World.cell?_of_block (w := w) (k.block 0 (by omega) (by omega))).trans (h.rc i hi),
    fun i hi => (World.cell?_of_block (w := w) (k.block 2 (by omega) (by omega))).trans (h.off i hi),
    fun i hi => (World.cell?_of_block (w := w) (k.block 3 (by omega) (by omega))).trans (h.tgt i hi)⟩
theorem Tabs.below {w w' : World} (h : Tabs w) (k : Below w.heap.size w w') : Tabs w' := by
  have hs := h.size
  exact ⟨Nat.le_trans hs k.size,
    fun i hi => (World.cell?_of_block (w := w) (k.block 0 (by omega))).trans (h.rc i hi),
    fun i hi => (World.cell?_of_block (w := w) (k.block 2 (by omega))).trans (h.off i hi),
    fun i hi => (World.cell?_of_block (w := w) (k.block 3 (by omega))).trans (h.tgt i hi)⟩

end Go.Proofs.YtjbenoaefjlbaaaDoor
