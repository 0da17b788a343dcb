/-
  Texts of this claim, put together.
-/
import Derived.Test.YtiokbhbggpibpaaProg
import Derived.WalkKit
import Derived.Laws.Rows
import Derived.Deep.Draws
import Derived.Deep.WholeRow
import Derived.Deep.MidRow
import Derived.Laws.Tables
import Derived.Laws.BitsLemmas
import Derived.Deep.QuietTactic
import Derived.BigQuiet
import Derived.StillTail
import Derived.RangeFuncNested
import Derived.RangeFuncLeaves
import Derived.OwnWalkIn
import Derived.TacticsInMore
import Derived.LoopNIn
import Derived.LoopIn
import Derived.Shelf.RegionOpen
import Derived.Maps.AppendAt
import Derived.Laws.IdiomStrings
import Derived.Maps.RangeWalk
import Derived.Maps.OwnSet
import Derived.Maps.OwnOps
import Derived.Maps.Ext
import Derived.WalkArith
import Derived.Deep.Quiet
/-
  Containers and sets of numbers, as predicates; their bytes. Plain; nothing of the program.
-/
namespace Go.Proofs.Ytiokbhbggpibpaa
open Go Go.RowKit

/-- Byte i of a container. -/
def bt (p : Nat → Bool) (i : Nat) : Nat :=
  (p (8 * i)).toNat + 2 * (p (8 * i + 1)).toNat + 4 * (p (8 * i + 2)).toNat + 8 * (p (8 * i + 3)).toNat + 16 * (p (8 * i + 4)).toNat + 32 * (p (8 * i + 5)).toNat + 64 * (p (8 * i + 6)).toNat + 128 * (p (8 * i + 7)).toNat

theorem bt_lt (p : Nat → Bool) (i : Nat) : bt p i < 256 := by
  unfold bt
  have h := fun k => Bool.toNat_le (p k)
  have := h (8 * i); have := h (8 * i + 1); have := h (8 * i + 2); have := h (8 * i + 3); have := h (8 * i + 4); have := h (8 * i + 5); have := h (8 * i + 6); have := h (8 * i + 7)
  omega

theorem bits8 : ∀ b0 b1 b2 b3 b4 b5 b6 b7 : Bool, ∀ j : Fin 8,
    (b0.toNat + 2 * b1.toNat + 4 * b2.toNat + 8 * b3.toNat + 16 * b4.toNat + 32 * b5.toNat + 64 * b6.toNat + 128 * b7.toNat).testBit j.val = (#[b0, b1, b2, b3, b4, b5, b6, b7][j.val]?).getD false := by decide

theorem bt_testBit (p : Nat → Bool) (i j : Nat) (hj : j < 8) : (bt p i).testBit j = p (8 * i + j) := by
  have h := bits8 (p (8 * i)) (p (8 * i + 1)) (p (8 * i + 2)) (p (8 * i + 3)) (p (8 * i + 4)) (p (8 * i + 5)) (p (8 * i + 6)) (p (8 * i + 7)) ⟨j, hj⟩
  unfold bt
  rw [h]
  have : j = 0 ∨ j = 1 ∨ j = 2 ∨ j = 3 ∨ j = 4 ∨ j = 5 ∨ j = 6 ∨ j = 7 := by omega
  rcases this with rfl | rfl | rfl | rfl | rfl | rfl | rfl | rfl <;> rfl

theorem bt_testBit_hi (p : Nat → Bool) (i j : Nat) (hj : 8 ≤ j) : (bt p i).testBit j = false := by
  refine Nat.testBit_lt_two_pow (Nat.lt_of_lt_of_le (bt_lt p i) ?_)
  calc 256 = 2 ^ 8 := rfl
    _ ≤ 2 ^ j := Nat.pow_le_pow_right (by omega) hj

theorem bt_eq {p : Nat → Bool} {i v : Nat} (hv : v < 256) (h : ∀ j, j < 8 → v.testBit j = p (8 * i + j)) : bt p i = v := by
  refine Nat.eq_of_testBit_eq fun j => ?_
  by_cases hj : j < 8
  · rw [bt_testBit p i j hj, h j hj]
  · rw [bt_testBit_hi p i j (by omega), Nat.testBit_lt_two_pow (Nat.lt_of_lt_of_le hv ?_)]
    calc 256 = 2 ^ 8 := rfl
      _ ≤ 2 ^ j := Nat.pow_le_pow_right (by omega) (by omega)

theorem bt_congr {p q : Nat → Bool} {i : Nat} (h : ∀ j, j < 8 → p (8 * i + j) = q (8 * i + j)) : bt p i = bt q i :=
  bt_eq (bt_lt q i) fun j hj => by rw [bt_testBit q i j hj, h j hj]

theorem bt_or (p q : Nat → Bool) (i : Nat) : bt (fun l => p l || q l) i = bt p i ||| bt q i :=
  bt_eq (Nat.or_lt_two_pow (n := 8) (bt_lt p i) (bt_lt q i)) fun j hj => by rw [Nat.testBit_or, bt_testBit p i j hj, bt_testBit q i j hj]

theorem bt_none (i : Nat) : bt (fun _ => false) i = 0 := rfl

theorem bt_with (p : Nat → Bool) (low : Nat) : bt (fun l => decide (l = low) || p l) (low / 8) = bt p (low / 8) ||| 2 ^ (low % 8) :=
  bt_eq (Nat.or_lt_two_pow (n := 8) (bt_lt p _) (Nat.pow_lt_pow_right (by omega) (Nat.mod_lt _ (by omega)))) fun j hj => by
    rw [Nat.testBit_or, bt_testBit p _ j hj, Nat.testBit_two_pow, Bool.or_comm]
    congr 1
    exact decide_eq_decide.2 (by omega)

theorem bt_with_other (p : Nat → Bool) (low i : Nat) (h : i ≠ low / 8) : bt (fun l => decide (l = low) || p l) i = bt p i :=
  bt_congr fun j hj => by rw [decide_eq_false (by omega), Bool.false_or]

/-- A container that is given by its bytes. -/
def ofBytes (f : Nat → Nat) (l : Nat) : Bool := (f (l / 8)).testBit (l % 8)
theorem bt_ofBytes (f : Nat → Nat) (i : Nat) (h : f i < 256) : bt (ofBytes f) i = f i :=
  bt_eq h fun j hj => by
    unfold ofBytes
    rw [show (8 * i + j) / 8 = i by omega, show (8 * i + j) % 8 = j by omega]

/-- A container's cells. -/
def contA (p : Nat → Bool) : Array Value := Array.ofFn (n := 32) fun i => .int .u8 (bt p i.val : Nat)
theorem contA_size (p : Nat → Bool) : (contA p).size = 32 := by simp [contA]
theorem contA_get (p : Nat → Bool) (i : Nat) (h : i < 32) : (contA p)[i]? = some (.int .u8 (bt p i : Nat)) := by
  simp [contA, h]
theorem contA_congr {p q : Nat → Bool} (h : ∀ l, l < 256 → p l = q l) : contA p = contA q := by
  unfold contA
  congr 1
  funext i
  rw [bt_congr fun j hj => h _ (by have := i.isLt; omega)]
theorem contA_inj {p q : Nat → Bool} (h : contA p = contA q) : ∀ l, l < 256 → p l = q l := fun l hl => by
  have h1 := contA_get p (l / 8) (by omega)
  rw [h, contA_get q (l / 8) (by omega)] at h1
  injection h1 with h1
  injection h1 with _ h1
  have h2 : bt q (l / 8) = bt p (l / 8) := by omega
  have e : l = 8 * (l / 8) + l % 8 := by omega
  rw [e, ← bt_testBit p (l / 8) (l % 8) (by omega), ← bt_testBit q (l / 8) (l % 8) (by omega), h2]
theorem contA_one (p : Nat → Bool) : (contA p).all (·.oneCell') = true := by
  refine Array.all_eq_true_iff_forall_mem.2 fun v hv => ?_
  obtain ⟨i, rfl⟩ := Array.mem_ofFn.1 hv
  rfl
theorem contA_with (p : Nat → Bool) (low : Nat) : (contA p).setIfInBounds (low / 8) (.int .u8 ((bt p (low / 8) ||| 2 ^ (low % 8) : Nat) : Int)) = contA (fun l => decide (l = low) || p l) := by
  apply Array.ext
  · simp [contA]
  · intro j h1 h2
    by_cases e : j = low / 8
    · subst e; simp [contA, bt_with]
    · rw [Array.getElem_setIfInBounds_ne (by simpa using h1) (fun q => e q.symm)]
      simp [contA, bt_with_other p low j e]
theorem contA_none : contA (fun _ => false) = Array.replicate 32 (.int .u8 0) := by
  apply Array.ext
  · simp [contA]
  · intro j h1 h2
    simp [contA, bt_none]

/-- How many lower parts a container has. -/
def cnt (p : Nat → Bool) : Nat := (List.range 256).countP p
theorem cnt_le (p : Nat → Bool) : cnt p ≤ 256 := by
  unfold cnt
  refine Nat.le_trans List.countP_le_length ?_
  simp
/-- Its lower parts that are not below a number. -/
def lowsL (p : Nat → Bool) (from_ : Nat) : List Nat := (List.range 256).filter fun l => decide (from_ ≤ l) && p l

/-- How many of the first k. -/
def cntTo (p : Nat → Bool) (k : Nat) : Nat := (List.range k).countP p
theorem cntTo_succ (p : Nat → Bool) (k : Nat) : cntTo p (k + 1) = cntTo p k + (p k).toNat := by
  unfold cntTo
  rw [List.range_succ, List.countP_append]
  cases h : p k <;> simp [h]
theorem cntTo_le (p : Nat → Bool) (k : Nat) : cntTo p k ≤ k := by
  unfold cntTo
  refine Nat.le_trans List.countP_le_length ?_
  simp
def pop (v : Nat) : Nat := (v.testBit 0).toNat + (v.testBit 1).toNat + (v.testBit 2).toNat + (v.testBit 3).toNat + (v.testBit 4).toNat + (v.testBit 5).toNat + (v.testBit 6).toNat + (v.testBit 7).toNat
theorem pop_le (v : Nat) : pop v ≤ 8 := by
  unfold pop
  have h := fun k => Bool.toNat_le (v.testBit k)
  have := h 0; have := h 1; have := h 2; have := h 3; have := h 4; have := h 5; have := h 6; have := h 7
  omega
theorem cntTo_byte (p : Nat → Bool) (i : Nat) : cntTo p (8 * (i + 1)) = cntTo p (8 * i) + pop (bt p i) := by
  unfold pop
  rw [bt_testBit p i 0 (by omega), bt_testBit p i 1 (by omega), bt_testBit p i 2 (by omega), bt_testBit p i 3 (by omega), bt_testBit p i 4 (by omega), bt_testBit p i 5 (by omega), bt_testBit p i 6 (by omega), bt_testBit p i 7 (by omega)]
  rw [show 8 * (i + 1) = 8 * i + 7 + 1 by omega, cntTo_succ, cntTo_succ, cntTo_succ, cntTo_succ, cntTo_succ, cntTo_succ, cntTo_succ, cntTo_succ]
  have e0 : (p (8 * i + 0)) = p (8 * i) := rfl
  rw [e0]
  omega

end Go.Proofs.Ytiokbhbggpibpaa
/-
  Blocks of memory that are known whole; loads and stores of whole structs; containers.
-/
namespace Go.Proofs.Ytiokbhbggpibpaa
open Go Go.RowKit

/-- Block b is a row of the cells cs, none of which is frozen. -/
def Holds (w : World) (b : Nat) (t : TypeId) (cs : Array Value) : Prop := w.heap[b]? = some (.cells cs t (0, 0))

theorem Holds.lt {w : World} {b : Nat} {t : TypeId} {cs : Array Value} (h : Holds w b t cs) : b < w.heap.size := by
  unfold Holds at h
  exact (Array.getElem?_eq_some_iff.1 h).1
theorem Holds.cell {w : World} {b : Nat} {t : TypeId} {cs : Array Value} (h : Holds w b t cs) (i : Nat) : w.cell? ⟨b, i, none⟩ = cs[i]? :=
  cell_of_row w b i cs t (0, 0) h
theorem Holds.frozen {w : World} {b : Nat} {t : TypeId} {cs : Array Value} (h : Holds w b t cs) (i : Nat) : w.frozen? ⟨b, i, none⟩ = false := by
  unfold Holds at h
  simp [World.frozen?, h]
theorem Holds.set {w : World} {b : Nat} {t : TypeId} {cs : Array Value} (h : Holds w b t cs) (i : Nat) (v : Value) : Holds (w.setCell ⟨b, i, none⟩ v) b t (cs.setIfInBounds i v) := by
  unfold Holds at *
  simp [World.setCell, Array.getElem?_modify, h]
theorem Holds.drewN {w : World} {b : Nat} {t : TypeId} {cs : Array Value} (h : Holds w b t cs) (n : Nat) : Holds (w.drewN n) b t cs := h
theorem Holds.alloc {w : World} {b : Nat} {t : TypeId} {cs : Array Value} (h : Holds w b t cs) (o : Obj) : Holds (w.alloc o) b t cs := by
  have := h.lt
  unfold Holds at *
  rw [Below.heap_alloc _ _ _ this]; exact h
theorem Holds.new (w : World) (t : TypeId) (cs : Array Value) : Holds (w.alloc (.cells cs t)) w.heap.size t cs := by
  unfold Holds World.alloc; simp
theorem Holds.other {w : World} {b : Nat} {t : TypeId} {cs : Array Value} (h : Holds w b t cs) (a : Addr) (v : Value) (hb : b ≠ a.block) : Holds (w.setCell a v) b t cs := by
  unfold Holds at *
  rw [Below.heap_setCell _ _ _ _ hb]; exact h
theorem Holds.congr {w : World} {b : Nat} {t : TypeId} {cs cs' : Array Value} (h : Holds w b t cs) (e : cs = cs') : Holds w b t cs' := e ▸ h

/-- The world w' is as w was, but for block b, and for new blocks. -/
structure Only (b : Nat) (w w' : World) : Prop where
  os : w'.os = w.os
  tape : w'.tape = w.tape
  output : w'.output = w.output
  size : w.heap.size ≤ w'.heap.size
  block : ∀ k, k < w.heap.size → k ≠ b → w'.heap[k]? = w.heap[k]?

theorem Only.refl (b : Nat) (w : World) : Only b w w := ⟨rfl, rfl, rfl, Nat.le_refl _, fun _ _ _ => rfl⟩
theorem Only.trans {b : Nat} {w1 w2 w3 : World} (h : Only b w1 w2) (k : Only b w2 w3) : Only b w1 w3 :=
  ⟨k.os.trans h.os, k.tape.trans h.tape, k.output.trans h.output, Nat.le_trans h.size k.size,
   fun i hi hb => (k.block i (Nat.lt_of_lt_of_le hi h.size) hb).trans (h.block i hi hb)⟩
theorem Only.drewN {b : Nat} {w w' : World} (h : Only b w w') (n : Nat) : Only b w (w'.drewN n) := ⟨h.os, h.tape, h.output, h.size, h.block⟩
theorem Only.drew {b : Nat} {w w' : World} (h : Only b w w') : Only b w w'.drew := ⟨h.os, h.tape, h.output, h.size, h.block⟩
theorem Only.set {b : Nat} {w w' : World} (h : Only b w w') (i : Nat) (v : Value) : Only b w (w'.setCell ⟨b, i, none⟩ v) :=
  h.trans ⟨rfl, rfl, rfl, by simp, fun k _ hb => Below.heap_setCell _ _ _ _ hb⟩
theorem Only.alloc {b : Nat} {w w' : World} (h : Only b w w') (o : Obj) : Only b w (w'.alloc o) :=
  h.trans ⟨rfl, rfl, rfl, by simp, fun k hk _ => Below.heap_alloc _ _ _ hk⟩
theorem Only.holds {b c : Nat} {w w' : World} {t : TypeId} {cs : Array Value} (h : Only b w w') (hc : Holds w c t cs) (hb : c ≠ b) : Holds w' c t cs := by
  have := hc.lt
  unfold Holds at *
  rw [h.block c this hb]; exact hc
/-- Behind a call that makes blocks and turns none. -/
theorem Only.below {b : Nat} {w w' w'' : World} (h : Only b w w') (k : Below w'.heap.size w' w'') : Only b w w'' :=
  h.trans ⟨k.os, k.tape, k.output, k.size, fun i hi _ => k.block i hi⟩
/-- Where the block is a new one, nothing has turned. -/
theorem Only.fresh {b : Nat} {w w' w'' : World} (h : Below w.heap.size w w') (k : Only b w' w'') (hb : w.heap.size ≤ b) : Below w.heap.size w w'' :=
  ⟨k.os.trans h.os, k.tape.trans h.tape, k.output.trans h.output, Nat.le_trans h.size k.size,
   fun i hi => (k.block i (Nat.lt_of_lt_of_le hi h.size) (by omega)).trans (h.block i hi)⟩
theorem below_holds {c : Nat} {w w' : World} {t : TypeId} {cs : Array Value} (h : Below w.heap.size w w') (hc : Holds w c t cs) : Holds w' c t cs := by
  have := hc.lt
  unfold Holds at *
  rw [h.block c this]; exact hc

theorem below_drewL {B : Nat} {a w : World} (h : Below B a.drew w) : Below B a w := ⟨h.os, h.tape, h.output, h.size, h.block⟩


section
variable {P : Program}
/-- A whole row is loaded. -/
theorem wpList_loadH {ops : Array Oper} {rest : List Oper} {op : Oper} {a : Act} {w : World} {Q : Exit → Act → World → Prop} (hgd : op.guard = none) (ty : TypeId) (x : Operand) (ho : op.op = .load ty x)
    (b : Nat) (hx : a.eval x = .pointer (some ⟨b, 0, none⟩)) (t : TypeId) (cs : Array Value) (d : TypeDesc) (hh : Holds w b t cs)
    (hu : P.underlying ty = some d) (hd : d.isRow = true) (hi : (P.info? ty).map (·.size) = some cs.size)
    (h : wpList P ops Q rest (a.put op.dst (.agg cs)) w) : wpList P ops Q (op :: rest) a w :=
  wpList_plain hgd fun _ hK => by
    unfold Oper.wp execOp
    simp only [ho, hx, Instr.loadAt, Instr.sureAddr, Sem.run_bind, Sem.run_pure, Result.andThen_ok, run_loadVar_row w b t ty cs (0, 0) d hh hu (by cases d <;> simp_all) hi]
    exact hK _ _ h

/-- A whole row is loaded by an operation that has a guard. -/
theorem wpList_loadG {ops : Array Oper} {rest : List Oper} {op : Oper} {a : Act} {w : World} {Q : Exit → Act → World → Prop} (hw : Region.wanted op (yielded ops a.tmps) = true) (ty : TypeId) (x : Operand) (ho : op.op = .load ty x)
    (b : Nat) (hx : a.eval x = .pointer (some ⟨b, 0, none⟩)) (t : TypeId) (cs : Array Value) (d : TypeDesc) (hh : Holds w b t cs)
    (hu : P.underlying ty = some d) (hd : d.isRow = true) (hi : (P.info? ty).map (·.size) = some cs.size)
    (h : wpList P ops Q rest (a.put op.dst (.agg cs)) w) : wpList P ops Q (op :: rest) a w :=
  wpList_step fun _ hK => by
    rw [if_pos hw]
    unfold Oper.wp execOp
    simp only [ho, hx, Instr.loadAt, Instr.sureAddr, Sem.run_bind, Sem.run_pure, Result.andThen_ok, run_loadVar_row w b t ty cs (0, 0) d hh hu (by cases d <;> simp_all) hi]
    exact hK _ _ h

theorem World.setRow_other (w : World) (g k : Nat) (cs : Array Value) (h : k ≠ g) : (w.setRow g cs).heap[k]? = w.heap[k]? := by
  simp only [World.setRow, Array.getElem?_modify]
  rw [if_neg (fun e => h e.symm)]

/-- A whole row is stored: the world behind it is another one, which holds the row. -/
theorem wpList_storeH {ops : Array Oper} {rest : List Oper} {op : Oper} {a : Act} {w : World} {Q : Exit → Act → World → Prop} (hgd : op.guard = none) (ty : TypeId) (x y : Operand) (ho : op.op = .store ty x y)
    (b : Nat) (cells : Array Value) (hx : a.eval x = .pointer (some ⟨b, 0, none⟩)) (hy : a.eval y = .agg cells)
    (t : TypeId) (old : Array Value) (hh : Holds w b t old) (hi : (P.info? ty).map (·.size) = some cells.size) (hz : old.size = cells.size) (h1 : cells.all (·.oneCell') = true)
    (h : ∀ w', Holds w' b t cells → Only b w w' → w'.heap.size = w.heap.size → wpList P ops Q rest (a.put op.dst undef) w') : wpList P ops Q (op :: rest) a w :=
  wpList_plain hgd fun _ hK => by
    unfold Oper.wp execOp
    simp only [ho, hx, hy, Instr.storeAt, Instr.sureAddr, Sem.run_bind, Sem.run_pure, Result.andThen_ok, run_storeVar_row w b t ty old cells hh hi hz h1]
    exact hK _ _ (h _ (setRow_heap w b old cells t (0, 0) hh)
      ⟨rfl, rfl, rfl, by simp [World.setRow], fun k _ hb => World.setRow_other w b k cells hb⟩ (by simp [World.setRow]))
/-- A result that lies in memory, whole. -/
theorem results_cellH {fn : Func} {p : Tmp} {ty : TypeId} (h : fn.results = #[.cell p ty]) (tmps : Array Value) (w : World) (b : Nat) (t : TypeId) (cs : Array Value) (d : TypeDesc)
    (hp : tmps.getD p undef = .pointer (some ⟨b, 0, none⟩)) (hh : Holds w b t cs)
    (hu : P.underlying ty = some d) (hd : d.isRow = true) (hi : (P.info? ty).map (·.size) = some cs.size) : (results fn tmps).run P w = .ok (.agg cs) w := by
  have hr := run_loadVar_row w b t ty cs (0, 0) d hh hu (by cases d <;> simp_all) hi
  have e : (results fn tmps).run P w = ((asAddr (tmps.getD p undef)).run P w).andThen fun a w₁ => (loadVar ty a).run P w₁ := by
    simp only [results, h]
    simp [Sem.run_bind, Result.andThen]
  rw [e, hp]
  simp [asAddr, hr]

end

theorem infoC (p : Nat → Bool) : (Try.prog.info? 76).map (·.size) = some (contA p).size := by
  rw [contA_size]; kernel_rfl

/-- A container is loaded. -/
theorem wpList_ldC {ops : Array Oper} {rest : List Oper} {op : Oper} {a : Act} {w : World} {Q : Exit → Act → World → Prop} (hgd : op.guard = none) (x : Operand) (ho : op.op = .load 76 x)
    {b : Nat} (hx : a.eval x = .pointer (some ⟨b, 0, none⟩)) {t : TypeId} {p : Nat → Bool} (hh : Holds w b t (contA p))
    (h : wpList Try.prog ops Q rest (a.put op.dst (.agg (contA p))) w) : wpList Try.prog ops Q (op :: rest) a w :=
  wpList_loadH hgd 76 x ho b hx t _ _ hh Try.underlying76 rfl (infoC p) h

/-- A container is stored. -/
theorem wpList_stC {ops : Array Oper} {rest : List Oper} {op : Oper} {a : Act} {w : World} {Q : Exit → Act → World → Prop} (hgd : op.guard = none) (x y : Operand) (ho : op.op = .store 76 x y)
    {b : Nat} {q : Nat → Bool} (hx : a.eval x = .pointer (some ⟨b, 0, none⟩)) (hy : a.eval y = .agg (contA q))
    {t : TypeId} {p : Nat → Bool} (hh : Holds w b t (contA p))
    (h : ∀ w', Holds w' b t (contA q) → Only b w w' → w'.heap.size = w.heap.size → wpList Try.prog ops Q rest (a.put op.dst undef) w') : wpList Try.prog ops Q (op :: rest) a w :=
  wpList_storeH hgd 76 x y ho b _ hx hy t _ hh (infoC q) (by rw [contA_size, contA_size]) (contA_one q) h

theorem zeroC : contA (fun _ => false) = #[Value.int IntKind.u8 0, Value.int IntKind.u8 0, Value.int IntKind.u8 0, Value.int IntKind.u8 0, Value.int IntKind.u8 0, Value.int IntKind.u8 0, Value.int IntKind.u8 0, Value.int IntKind.u8 0, Value.int IntKind.u8 0, Value.int IntKind.u8 0, Value.int IntKind.u8 0, Value.int IntKind.u8 0, Value.int IntKind.u8 0, Value.int IntKind.u8 0, Value.int IntKind.u8 0, Value.int IntKind.u8 0, Value.int IntKind.u8 0, Value.int IntKind.u8 0, Value.int IntKind.u8 0, Value.int IntKind.u8 0, Value.int IntKind.u8 0, Value.int IntKind.u8 0, Value.int IntKind.u8 0, Value.int IntKind.u8 0, Value.int IntKind.u8 0, Value.int IntKind.u8 0, Value.int IntKind.u8 0, Value.int IntKind.u8 0, Value.int IntKind.u8 0, Value.int IntKind.u8 0, Value.int IntKind.u8 0, Value.int IntKind.u8 0] := by
  rw [contA_none]; rfl

theorem Holds.drew {w : World} {b : Nat} {t : TypeId} {cs : Array Value} (h : Holds w b t cs) : Holds w.drew b t cs := h
theorem below_new {w w1 w2 : World} (h : Below w.heap.size w w1) (k : Below w1.heap.size w1 w2) : Below w.heap.size w w2 := h.trans (k.mono h.size)

/-- A container as a result. -/
theorem results_contC {fn : Func} {p : Tmp} (h : fn.results = #[.cell p 76]) (tmps : Array Value) (w : World) (b : Nat) (t : TypeId) (q : Nat → Bool)
    (hp : tmps.getD p undef = .pointer (some ⟨b, 0, none⟩)) (hh : Holds w b t (contA q)) : (results fn tmps).run Try.prog w = .ok (.agg (contA q)) w :=
  results_cellH h tmps w b t _ _ hp hh Try.underlying76 rfl (infoC q)
end Go.Proofs.Ytiokbhbggpibpaa
/-
  What the calls on one container do: has, with, count, joined, lows.
-/
namespace Go.Proofs.Ytiokbhbggpibpaa
open Go Go.RowKit

theorem and_one_u8 (v : Nat) (h : v < 256) : bits BinOp.and IntKind.u8 ((v : Nat) : Int) 1 = ((v % 2 : Nat) : Int) := by
  have := bits_mask .u8 8 (by decide) wraps_u8 1 (by decide) (v : Int) (by omega) (by omega)
  simpa using this
theorem or_u8 (a b : Nat) (ha : a < 256) (hb : b < 256) : bits BinOp.or IntKind.u8 (a : Int) (b : Int) = ((a ||| b : Nat) : Int) := (bits_nat .u8 8 (by decide) wraps_u8 a b ha hb).2

theorem has_bit (p : Nat → Bool) (low : Nat) : (bits BinOp.and IntKind.u8 (((bt p (low / 8) : Nat) : Int) / 2 ^ (low % 8)) 1 == 1) = p low := by
  have e : (((bt p (low / 8) : Nat) : Int) / 2 ^ (low % 8)) = ((bt p (low / 8) / 2 ^ (low % 8) : Nat) : Int) := by simp
  rw [e, and_one_u8 _ (Nat.lt_of_le_of_lt (Nat.div_le_self _ _) (bt_lt p _))]
  have h := bt_testBit p (low / 8) (low % 8) (by omega)
  rw [show 8 * (low / 8) + low % 8 = low by omega, Nat.testBit_eq_decide_div_mod_eq] at h
  rw [← h]
  rw [Bool.eq_iff_iff]
  simp
  omega

theorem has_any (p : Nat → Bool) (low : Nat) (w : World) (hl : low < 256) :
    Calls Try.prog 58 #[.agg (contA p), .int .i64 (low : Nat)] w fun e w' => e = .returned (.bool (p low)) ∧ Below w.heap.size w w' := by
  have hget := contA_get p (low / 8) (by omega)
  have hb := has_bit p low
  generalize contA p = cs at hget ⊢
  go_enter Try.func58, Try.ntmps58
  go_wp2_with fail
  go_ret
  exact ⟨rfl, (Below.refl _ w).alloc (Nat.le_refl _) _⟩

theorem or_two (p : Nat → Bool) (low : Nat) : bits BinOp.or IntKind.u8 ((bt p (low / 8) : Nat) : Int) (2 ^ (low % 8) % 256) = ((bt p (low / 8) ||| 2 ^ (low % 8) : Nat) : Int) := by
  have h2 : 2 ^ (low % 8) < 2 ^ 8 := Nat.pow_lt_pow_right (by omega) (Nat.mod_lt _ (by omega))
  have e : ((2 : Int) ^ (low % 8) % 256) = ((2 ^ (low % 8) : Nat) : Int) := by
    have e2 : ((2 : Int) ^ (low % 8)) = ((2 ^ (low % 8) : Nat) : Int) := by simp
    rw [e2]
    exact Int.emod_eq_of_lt (Int.natCast_nonneg _) (by omega)
  rw [e, or_u8 _ _ (bt_lt p _) (by omega)]

theorem with_any (p : Nat → Bool) (low : Nat) (w : World) (hl : low < 256) :
    Calls Try.prog 47 #[.agg (contA p), .int .i64 (low : Nat)] w fun e w' => e = .returned (.agg (contA fun l => decide (l = low) || p l)) ∧ Below w.heap.size w w' := by
  have hget := contA_get p (low / 8) (by omega)
  have hset := contA_with p low
  rw [← or_two p low] at hset
  generalize contA p = cs at hget hset ⊢
  go_enter Try.func47, Try.ntmps47
  go_wp2_with fail
  go_region
  rw [← zeroC]
  generalize hW : World.drew _ = W1
  have h1 : Holds W1 w.heap.size 76 (contA fun l => decide (l = low) || p l) := by rw [← hW]; exact ((Holds.new w _ _).alloc _).drew
  have h2 : Holds W1 (w.heap.size + 1) 76 (contA fun _ => false) := by
    rw [← hW]
    have := Holds.new (w.alloc (.cells (contA fun l => decide (l = low) || p l) 76)) 76 (contA fun _ => false)
    rw [World.size_alloc] at this
    exact this.drew
  have hB : Below w.heap.size w W1 := by rw [← hW]; exact (((Below.refl _ w).alloc (Nat.le_refl _) _).alloc (by simp) _).drew
  clear hW hset hget
  go_wp2_with (first
    | (refine wpList_ldC rfl _ rfl rfl h1 ?_)
    | (refine wpList_stC rfl _ _ rfl rfl rfl h2 ?_; intro W2 h3 hO hS))
  refine bodyPost_ret (results_contC rfl _ _ _ _ _ rfl h3) rfl ?_
  exact ⟨rfl, Only.fresh hB hO (by omega)⟩

theorem info57 (p : Nat → Bool) : (Try.prog.info? 74).map (·.size) = some (contA p).size := by
  rw [contA_size]; kernel_rfl

theorem run_idx {cs : Array Value} {k : Nat} {v : Value} (hk : k < 32) (hg : cs[k]? = some v) (w : World) : (Instr.index 74 (.agg cs) (.int .i64 (k : Nat))).run Try.prog w = .ok v w := by
  have hz : (sizeOf 5).run Try.prog w = .ok 1 w := by simp [go_sem]
  have ha : (isAgg 5).run Try.prog w = .ok false w := by simp [go_sem]
  simp [Instr.index, asIntOf, Sem.run_bind, run_underlying Try.underlying74, Result.andThen, hk, hz, part, ha, hg]

set_option maxRecDepth 8000 in
theorem count_any (ones : ∀ (v : Nat) (w : World), v < 256 → Calls Try.prog 64 #[.int .u8 (v : Nat)] w fun e w' => e = .returned (.int .i64 (pop v : Nat)) ∧ w' = w) (p : Nat → Bool) (w : World) :
    Calls Try.prog 45 #[.agg (contA p)] w fun e w' => e = .returned (.int .i64 (cnt p : Nat)) ∧ Below w.heap.size w w' := by
  have hget := contA_get p
  have HI : Hid _ := info57 p
  generalize contA p = cs at hget HI ⊢
  have h1 : Holds (w.alloc (.cells cs 76)) w.heap.size 76 cs := Holds.new _ _ _
  go_enter Try.func45, Try.ntmps45
  go_wp2_with (first
    | (refine wpList_loadH rfl 74 _ rfl _ rfl _ _ _ h1 Try.underlying74 rfl HI.out ?_))
  go_loopw [3, 5, 8] (fun n _ y wr => ∃ k : Nat, k ≤ 32 ∧ n = .int .i64 (cntTo p (8 * k) : Nat) ∧ y = .int .i64 (k : Nat) ∧ wr = w.alloc (.cells cs 76)) (fun _ _ y _ => 32 - (intOf y).toNat)
  case atStart => exact ⟨0, by omega, rfl, rfl, rfl⟩
  case round =>
    obtain ⟨k, hk, rfl, rfl, rfl⟩ := hrel
    have hc := cntTo_le p (8 * k)
    by_cases hlt : k < 32
    · have hki : (k : Int) < 32 := by omega
      have hk0 : (0 : Int) ≤ k := by omega
      have hg := run_idx hlt (hget k hlt)
      have ho := ones (bt p k) (w.alloc (.cells cs 76)) (bt_lt p k)
      have hpl := pop_le (bt p k)
      have hs := cntTo_byte p k
      have HS : Hid _ := hs
      clear hs hget
      go_wp2_with (first
        | (go_at_call 64; refine ho.mono ?_; rintro e w1 ⟨rfl, rfl⟩))
      go_roundw
      case rel => exact ⟨k + 1, by omega, by rw [HS.out]; simp, rfl, trivial⟩
      case measure => simp [intOf]; omega
    · have hki : ¬ (k : Int) < 32 := by omega
      have HK : Hid (k = 32) := by have : k = 32 := by omega
                                   exact this
      clear hget hk hlt hc
      go_wp2_with fail
      go_ret
      exact ⟨by rw [HK.out]; rfl, (Below.refl _ w).alloc (Nat.le_refl _) _⟩

/-- Two containers, the second one's bytes from k on as yet left out. -/
def joinTo (p q : Nat → Bool) (k : Nat) (l : Nat) : Bool := p l || (decide (l < 8 * k) && q l)
theorem joinTo_zero (p q : Nat → Bool) : contA (joinTo p q 0) = contA p := contA_congr fun l _ => by simp [joinTo]
theorem joinTo_end (p q : Nat → Bool) : contA (joinTo p q 32) = contA (fun l => p l || q l) := contA_congr fun l hl => by
  unfold joinTo
  rw [decide_eq_true (by omega)]
  rfl
theorem joinTo_at (p q : Nat → Bool) (k : Nat) : bt (joinTo p q k) k = bt p k := bt_congr fun j _ => by
  unfold joinTo
  rw [decide_eq_false (by omega)]
  simp
theorem joinTo_step (p q : Nat → Bool) (k : Nat) (hk : k < 32) : (contA (joinTo p q k)).setIfInBounds k (.int .u8 (bits BinOp.or IntKind.u8 ((bt p k : Nat) : Int) ((bt q k : Nat) : Int))) = contA (joinTo p q (k + 1)) := by
  rw [or_u8 _ _ (bt_lt p k) (bt_lt q k), ← bt_or]
  apply Array.ext
  · simp [contA]
  · intro j h1 h2
    by_cases e : j = k
    · subst e
      simp [contA]
      exact congrArg Nat.cast (bt_congr fun i hi => by
        unfold joinTo
        rw [decide_eq_true (by omega)]
        rfl)
    · rw [Array.getElem_setIfInBounds_ne (by simpa using h1) (fun q => e q.symm)]
      simp [contA]
      exact congrArg Nat.cast (bt_congr fun i hi => by
        unfold joinTo
        congr 2
        exact decide_eq_decide.2 (by omega))

theorem lows_any (p : Nat → Bool) (f : Int) (w : World) :
    Calls Try.prog 49 #[.agg (contA p), .int .i64 f] w fun e w' => ∃ b, e = .returned (.func (.func 65) #[] #[.pointer (some ⟨b + 1, 0, none⟩), .pointer (some ⟨b, 0, none⟩)]) ∧ w.heap.size ≤ b ∧ Holds w' b 76 (contA p) ∧ Holds w' (b + 1) 3 #[.int .i64 f] ∧ Below w.heap.size w w' := by
  generalize contA p = cs
  go_enter Try.func49, Try.ntmps49
  go_wp2_with fail
  go_ret
  refine ⟨_, rfl, Nat.le_refl _, (Holds.new w _ _).alloc _, ?_, ((Below.refl _ w).alloc (Nat.le_refl _) _).alloc (by simp) _⟩
  have := Holds.new (w.alloc (.cells cs 76)) 3 #[.int .i64 f]
  rw [World.size_alloc] at this
  exact this
end Go.Proofs.Ytiokbhbggpibpaa
/-
  A range over a function: the contract of a function value that hands out a list, and the law for who ranges over it. Plain; nothing of the program.
-/
namespace Go.Proofs.Ytiokbhbggpibpaa
open Go Go.RowKit

/-- The blocks of S are as they were. -/
structure KeepB (S : Nat → Prop) (W W' : World) : Prop where
  size : W.heap.size ≤ W'.heap.size
  same : ∀ k, S k → W'.heap[k]? = W.heap[k]?
theorem KeepB.refl (S : Nat → Prop) (W : World) : KeepB S W W := ⟨Nat.le_refl _, fun _ _ => rfl⟩
theorem KeepB.trans {S : Nat → Prop} {A B C : World} (h : KeepB S A B) (k : KeepB S B C) : KeepB S A C := ⟨Nat.le_trans h.size k.size, fun i hi => (k.same i hi).trans (h.same i hi)⟩
theorem KeepB.putObj {S : Nat → Prop} (W : World) (l : Nat) (o : Obj) (h : ∀ k, S k → k ≠ l) : KeepB S W (W.putObj l o) := ⟨by simp, fun k hk => World.putObj_heap_other (h k hk)⟩
theorem KeepB.only {S : Nat → Prop} {b : Nat} {W W' : World} (h : Only b W W') (hb : ¬ S b) (hS : ∀ k, S k → k < W.heap.size) : KeepB S W W' :=
  ⟨h.size, fun k hk => h.block k (hS k hk) (fun e => hb (e ▸ hk))⟩
theorem KeepB.below {S : Nat → Prop} {W W' : World} (h : Below W.heap.size W W') (hS : ∀ k, S k → k < W.heap.size) : KeepB S W W' :=
  ⟨h.size, fun k hk => h.block k (hS k hk)⟩
theorem KeepB.holds {S : Nat → Prop} {W W' : World} (h : KeepB S W W') {b : Nat} (hb : S b) {t : TypeId} {cs : Array Value} (hh : Holds W b t cs) : Holds W' b t cs := by
  unfold Holds at *
  rw [h.same b hb]; exact hh
theorem keepsFrom_only {B b : Nat} {W W' : World} (h : Only b W W') (hb : b < B) : KeepsFrom B W W' :=
  ⟨h.size, fun k o hk ho _ => (h.block k (Array.getElem?_eq_some_iff.1 ho).1 (by omega)).trans ho⟩
theorem keepsFrom_below {B : Nat} {W W' : World} (h : Below W.heap.size W W') : KeepsFrom B W W' :=
  ⟨h.size, fun k _ _ ho _ => (h.block k (Array.getElem?_eq_some_iff.1 ho).1).trans ho⟩

/-- The contract of a function value that hands out the members of L, in their order, as long as it is told to go on. -/
def SeqW {α : Type} (P : Program) (g : Nat) (lb : Array Value) (enc : α → Value) (S : Nat → Prop) (L : List α) (w : World) : Prop :=
  ∀ (l : Nat) (J Jx : List α → World → Prop) (W : World), Below w.heap.size w W → OwnFrom W.heap.size J → OwnFrom W.heap.size Jx →
    (∀ pre x rest W1, L = pre ++ x :: rest → J pre W1 → YieldAt Fence.wide 0 P l #[enc x] W1 fun e W' =>
      (e = .returned (.bool true) ∧ J (pre ++ [x]) W' ∧ KeepB S W1 W') ∨ (e = .returned (.bool false) ∧ Jx (pre ++ [x]) W')) →
    J [] W →
    Calls P g (#[.func (.yield l) #[] #[]] ++ lb) W fun e W' => (∃ v, e = .returned v) ∧ (J L W' ∨ ∃ pre x rest, L = pre ++ x :: rest ∧ Jx (pre ++ [x]) W')

section
variable {P : Program}

/-- Who ranges over such a value. -/
theorem wp_rangeSeq {α : Type} {g : Operand} {t : Tmp} {assign body : Code} {Q : Exit → Act → World → Prop} {a : Act} {w : World}
    {gf : Nat} {lb : Array Value} (hg : a.eval g = .func (.func gf) #[] lb) (eg : ∀ args w, (callFunc gf args).run P w = .ok (.enter gf args) w)
    {enc : α → Value} {S : Nat → Prop} {L : List α} {w0 : World} (hseq : SeqW P gf lb enc S L w0) (hb0 : Below w0.heap.size w0 w) (hS : ∀ k, S k → k < w.heap.size)
    (I : List α → World → Prop) (Ix : Code → List α → World → Prop) (hI : OwnFrom w.heap.size I) (hIx : ∀ c, OwnFrom w.heap.size (Ix c)) (h0 : I [] w) (a₁ : α → Act)
    (hassign : ∀ (l : Nat) (x : α) (W : World) (K : Act → World → Prop), K (a₁ x) W →
      assign.wpIn (Fence.wide.inRound l) 0 P (Exit.then K (fun _ _ _ => False)) { tmps := ((#[t] : Array Tmp).zip #[enc x]).foldl (fun tm (p, v) => tm.setIfInBounds p v) a.tmps, defers := [] } W)
    (hbody : ∀ (l : Nat) (pre : List α) (x : α) (rest : List α) (W : World), L = pre ++ x :: rest → w.heap.size ≤ W.heap.size → I pre W → body.wpIn (Fence.wide.inRound l) 0 P (ownPostG w.heap.size (KeepB S) I Ix (pre ++ [x]) W) (a₁ x) W)
    (hdone : ∀ (D : Nat) (W : World), w.heap.size ≤ D → I L W → W.heap[D]? = some (.deferred (some [])) → Q .normal { a with defers := { target := .collected D, args := #[] } :: a.defers } W)
    (hstop : ∀ (D : Nat) (c : Code) (pre : List α) (x : α) (rest : List α) (W : World), w.heap.size ≤ D → L = pre ++ x :: rest → Ix c (pre ++ [x]) W → W.heap[D]? = some (.deferred (some [])) → c.wp P Q { a with defers := { target := .collected D, args := #[] } :: a.defers } W) :
    (Code.rangeFunc g #[t] assign body).wp P Q a w := by
  refine (wpIn_wide (n := 2)).1 ?_
  refine wpIn_rangeFunc ?_
  intro fn hfn
  rw [show Fence.wide.round = none from rfl]
  obtain ⟨rec, hrec⟩ : ∃ rec : LoopState → Option Code → Loop, rec = fun st pe => { state := st, pending := pe, fn, tmps := a.tmps, params := #[t], assign, body, defers := w.heap.size } := ⟨_, rfl⟩
  obtain ⟨W1, hW1⟩ : ∃ W1, (w.alloc (.deferred (some []))).alloc (.loop (rec .ready none)) = W1 := ⟨_, rfl⟩
  have hL1 : W1.heap[w.heap.size + 1]? = some (.loop (rec .ready none)) := by
    rw [← hW1]; have := World.alloc_heap_new (w.alloc (.deferred (some []))) (.loop (rec .ready none)); rwa [World.size_alloc] at this
  have hK1 : W1.heap[w.heap.size]? = some (.deferred (some [])) := by
    rw [← hW1]; exact (Below.heap_alloc _ _ _ (by simp)).trans (World.alloc_heap_new w _)
  have hI1 : I [] W1 := by rw [← hW1]; exact hI.alloc _ (hI.alloc _ h0)
  have hs1 : W1.heap.size = w.heap.size + 2 := by rw [← hW1]; simp
  have hb1 : Below w0.heap.size w0 W1 := by
    rw [← hW1]; exact hb0.trans ((((Below.refl _ w).alloc (Nat.le_refl _) _).alloc (by simp) _).mono hb0.size)
  refine ⟨w.heap.size + 1, [{ target := .collected w.heap.size, args := #[] }], W1, { target := .fn (.func gf) lb, args := #[.func (.yield (w.heap.size + 1)) #[] #[]] }, W1, gf,
    #[.func (.yield (w.heap.size + 1)) #[] #[]] ++ lb, W1, ?_, ?_, ?_, ?_, fun _ => by omega, ?_⟩
  · rw [← hW1, hrec]; exact run_enterLoop_outer _ _ _ _ _
  · simp only [resolve, hg]
    simp [go_sem]
  · intro f' _; trivial
  · simp [invoke, go_sem, eg]
  · have hkeep : ∀ {A B : World} {row : Option Nat} {k : Nat} {o : Obj}, k < W1.heap.size → A.grownBy B row → (∀ r, row = some r → W1.heap.size ≤ r ∧ ∃ o : Obj, A.heap[r]? = some o ∧ o.isCells = false) → A.heap[k]? = some o → B.heap[k]? = some o :=
      fun hk hg hr ho => (hg.block _ (Array.getElem?_eq_some_iff.1 ho).1 (fun e => by have := (hr _ e.symm).1; omega)).trans ho
    have hup : ∀ {A : World} {row : Option Nat}, (∀ r, row = some r → W1.heap.size ≤ r ∧ ∃ o : Obj, A.heap[r]? = some o ∧ o.isCells = false) → (∀ r, row = some r → w.heap.size ≤ r ∧ ∃ o : Obj, A.heap[r]? = some o ∧ o.isCells = false) :=
      fun hr r e => ⟨by have := (hr r e).1; omega, (hr r e).2⟩
    refine CallsIn.mono (callsIn_wide.2 (hseq (w.heap.size + 1)
      (fun pre W => I pre W ∧ W.heap[w.heap.size + 1]? = some (.loop (rec .ready none)) ∧ W.heap[w.heap.size]? = some (.deferred (some [])))
      (fun pre W => ∃ c, Ix c pre W ∧ W.heap[w.heap.size + 1]? = some (.loop (rec .done (some c))) ∧ W.heap[w.heap.size]? = some (.deferred (some [])))
      W1 hb1
      (fun s A B row hs hg' hr => ⟨hI s A B row hs.1 hg' (hup hr), hkeep (by omega) hg' hr hs.2.1, hkeep (by omega) hg' hr hs.2.2⟩)
      (fun s A B row hs hg' hr => by
        obtain ⟨c, hc, hl, hk⟩ := hs
        exact ⟨c, hIx c s A B row hc hg' (hup hr), hkeep (by omega) hg' hr hl, hkeep (by omega) hg' hr hk⟩)
      ?_ ⟨hI1, hL1, hK1⟩)) ?_
    · rintro pre x rest W hpre ⟨hi, hl, hk⟩
      have hlt : w.heap.size + 1 < W.heap.size := (Array.getElem?_eq_some_iff.1 hl).1
      have hy := run_yield (P := P) (args := #[enc x]) hl (by rw [hrec]; rfl)
      rw [hrec] at hy
      refine ⟨fn, _, assign, body, hy, roundIn_of_wpIn hfn (hassign _ x W _ ⟨_, run_beginRound hl (by rw [hrec]), ?_⟩)⟩
      have hl2 : (W.putObj (w.heap.size + 1) (.loop { rec .ready none with state := .busy })).heap[w.heap.size + 1]? = some (.loop { rec .ready none with state := .busy }) := World.putObj_heap_same hlt
      have hk2 : (W.putObj (w.heap.size + 1) (.loop { rec .ready none with state := .busy })).heap[w.heap.size]? = some (.deferred (some [])) := (World.putObj_heap_other (by omega)).trans hk
      have hSne : ∀ k, S k → k ≠ w.heap.size + 1 := fun k hk' => by have := hS k hk'; omega
      have hw2 : KeepB S W (W.putObj (w.heap.size + 1) (.loop { rec .ready none with state := .busy })) := KeepB.putObj _ _ _ hSne
      refine wpIn_mono (hbody _ pre x rest _ hpre (by simp; omega) (hI.putObj _ hi (by omega) hl rfl)) ?_
      have fin : ∀ (jump : Option Code) (W3 : World), KeepsFrom w.heap.size (W.putObj (w.heap.size + 1) (.loop { rec .ready none with state := .busy })) W3 →
          (Instr.endRound (w.heap.size + 1) jump).run P W3 = .ok (.bool jump.isNone) (W3.putObj (w.heap.size + 1) (.loop (rec (if jump.isNone then .ready else .done) jump))) ∧
          W3.heap[w.heap.size + 1]? = some (.loop { rec .ready none with state := .busy }) ∧
          (W3.putObj (w.heap.size + 1) (.loop (rec (if jump.isNone then .ready else .done) jump))).heap[w.heap.size + 1]? = some (.loop (rec (if jump.isNone then .ready else .done) jump)) ∧
          (W3.putObj (w.heap.size + 1) (.loop (rec (if jump.isNone then .ready else .done) jump))).heap[w.heap.size]? = some (.deferred (some [])) := fun jump W3 hk3 => by
        have hl3 := hk3.same _ _ (by omega) hl2 rfl
        have := run_endRound (P := P) jump hl3
        rw [hrec] at this ⊢
        exact ⟨this, by rw [hrec] at hl3; exact hl3, World.putObj_heap_same (Array.getElem?_eq_some_iff.1 hl3).1, (World.putObj_heap_other (by omega)).trans (hk3.same _ _ (Nat.le_refl _) hk2 rfl)⟩
      rintro e a3 W3 hp
      cases e with
      | normal =>
        obtain ⟨hk3, hkp3, hi3⟩ := hp
        obtain ⟨hr, hl3, hl4, hk4⟩ := fin none W3 hk3
        exact ⟨_, _, hr, .inl ⟨rfl, ⟨hI.putObj _ hi3 (by omega) hl3 rfl, hl4, hk4⟩, (hw2.trans hkp3).trans (KeepB.putObj _ _ _ hSne)⟩⟩
      | ret =>
        obtain ⟨hk3, hi3⟩ := hp
        obtain ⟨hr, hl3, hl4, hk4⟩ := fin (some .ret) W3 hk3
        exact ⟨_, _, hr, .inr ⟨rfl, .ret, (hIx _).putObj _ hi3 (by omega) hl3 rfl, hl4, hk4⟩⟩
      | exit id =>
        obtain ⟨hk3, hi3⟩ := hp
        obtain ⟨hr, hl3, hl4, hk4⟩ := fin (some (.exit id)) W3 hk3
        exact ⟨_, _, hr, .inr ⟨rfl, .exit id, (hIx _).putObj _ hi3 (by omega) hl3 rfl, hl4, hk4⟩⟩
      | goto t =>
        obtain ⟨hk3, hi3⟩ := hp
        obtain ⟨hr, hl3, hl4, hk4⟩ := fin (some (.goto t)) W3 hk3
        exact ⟨_, _, hr, .inr ⟨rfl, .goto t, (hIx _).putObj _ hi3 (by omega) hl3 rfl, hl4, hk4⟩⟩
      | panic ch => exact hp.elim
      | outgrown => exact hp.elim
    · rintro e W2 ⟨⟨v, rfl⟩, (⟨hi, hl, hk⟩ | ⟨pre, x, rest, hpre, c, hi, hl, hk⟩)⟩
      · exact ⟨none, _, by have := run_endLoop (P := P) hl (by rw [hrec]; simp); rw [hrec] at this; exact this, hdone _ _ (Nat.le_refl _) (hI.putObj _ hi (by omega) hl rfl) ((World.putObj_heap_other (by omega)).trans hk)⟩
      · exact ⟨some c, _, by have := run_endLoop (P := P) hl (by rw [hrec]; simp); rw [hrec] at this; exact this, wpIn_wide.2 (hstop _ c pre x rest _ (Nat.le_refl _) hpre ((hIx c).putObj _ hi (by omega) hl rfl) ((World.putObj_heap_other (by omega)).trans hk))⟩

/-- A function that ranges over such values. -/
theorem calls_of_wp_marks {f : FuncId} {fn : Func} {c : Code} {args : Array Value} {w : World} {R : Ending → World → Prop}
    (hf : P.funcs[f]? = some fn) (hb : fn.body = some c)
    (h : c.wp P (bodyPostM Fence.wide 0 P fn R) { tmps := args ++ Array.replicate (fn.ntmps - args.size) undef, defers := [] } w) : Calls P f args w R :=
  callsIn_wide.1 (callsIn_of_wp_marks (n := 0) hf hb trivial (wpIn_wide.2 h) rfl)

/-- The marks of ended loops among the calls that an activation has deferred. -/
def Marks (B : Nat) : List Deferred → World → Prop
  | [], _ => True
  | d :: ds, w => (∃ D, d = { target := .collected D, args := #[] } ∧ B ≤ D ∧ w.heap[D]? = some (.deferred (some [])) ∧ ∀ d' ∈ ds, d'.target ≠ .collected D) ∧ Marks B ds w

/-- The world but for blocks of deferred calls from B on. -/
structure Shut (B : Nat) (w w' : World) : Prop where
  os : w'.os = w.os
  tape : w'.tape = w.tape
  output : w'.output = w.output
  size : w.heap.size = w'.heap.size
  block : ∀ k, k < B → w'.heap[k]? = w.heap[k]?
  cells : ∀ (k : Nat) (o : Obj), w.heap[k]? = some o → (∀ ds, o ≠ Obj.deferred ds) → w'.heap[k]? = some o
theorem Shut.refl (B : Nat) (w : World) : Shut B w w := ⟨rfl, rfl, rfl, rfl, fun _ _ => rfl, fun _ _ h _ => h⟩
theorem Shut.below {B : Nat} {w w' : World} (h : Shut B w w') : Below B w w' := ⟨h.os, h.tape, h.output, Nat.le_of_eq h.size, h.block⟩
theorem Shut.put {B D : Nat} {w w' : World} (h : Shut B (w.putObj D (.deferred none)) w') (hD : B ≤ D) (hd : w.heap[D]? = some (.deferred (some []))) : Shut B w w' :=
  ⟨h.os, h.tape, h.output, by rw [← h.size]; simp, fun k hk => (h.block k hk).trans (World.putObj_heap_other (by omega)), fun k o hk ho => h.cells k o ((World.putObj_heap_other (fun e => by subst e; rw [hd] at hk; cases hk; exact ho _ rfl)).trans hk) ho⟩
theorem Shut.holds {B : Nat} {w w' : World} (h : Shut B w w') {b : Nat} {t : TypeId} {cs : Array Value} (hh : Holds w b t cs) : Holds w' b t cs :=
  h.cells b _ hh (fun _ e => by cases e)

theorem Marks.put {B D : Nat} {w : World} : ∀ {ds : List Deferred}, Marks B ds w → (∀ d ∈ ds, d.target ≠ .collected D) → Marks B ds (w.putObj D (.deferred none))
  | [], _, _ => trivial
  | d :: ds, ⟨⟨E, he, hB, hh, hne⟩, hr⟩, h => ⟨⟨E, he, hB, (World.putObj_heap_other (fun e => h d (by simp) (by rw [he, e]))).trans hh, hne⟩, Marks.put hr (fun d' hd => h d' (by simp [hd]))⟩

theorem leaves_marks {fn : Func} {tmps : Array Value} {R : Ending → World → Prop} {B : Nat} : ∀ {ds : List Deferred} {w : World}, Marks B ds w →
    (∀ w', Shut B w w' → ∃ v, (results fn tmps).run P w' = .ok v w' ∧ R (.returned v) w') → LeavesInM Fence.wide 0 P fn tmps R ds .returning w
  | [], w, _, h => h w (Shut.refl _ _)
  | d :: ds, w, ⟨⟨D, hd, hB, hh, hne⟩, hr⟩, h => by
    refine ⟨by simp, .inl ⟨D, _, by rw [hd], run_takeDeferred hh, leaves_marks (hr.put hne) fun w' hw' => h w' (hw'.put hB hh)⟩⟩

theorem Marks.one {B D : Nat} {w : World} (hB : B ≤ D) (h : w.heap[D]? = some (.deferred (some []))) : Marks B [{ target := .collected D, args := #[] }] w :=
  ⟨⟨D, rfl, hB, h, by simp⟩, trivial⟩
end
end Go.Proofs.Ytiokbhbggpibpaa
/-
  What lows hands out: a container's lower parts from a number on, rising.
-/
namespace Go.Proofs.Ytiokbhbggpibpaa
open Go Go.RowKit
attribute [local go_sem] Oper.semAt_some

theorem grown_below {w w' : World} (h : Below w.heap.size w w') : w.grownBy w' none := ⟨h.os, h.tape, h.output, h.size, fun i hi _ => h.block i hi⟩
theorem OwnFrom.grow {β : Type} {B : Nat} {I : β → World → Prop} (h : OwnFrom B I) {s : β} {w w' : World} (hs : I s w) (hb : Below w.heap.size w w') : I s w' :=
  h s w w' none hs (grown_below hb) (fun r e => by cases e)
theorem OwnFrom.up {β : Type} {B B' : Nat} {I : β → World → Prop} (h : OwnFrom B I) (hB : B ≤ B') : OwnFrom B' I :=
  fun s w w' row hs hg hr => h s w w' row hs hg (fun r e => ⟨Nat.le_trans hB (hr r e).1, (hr r e).2⟩)

section
variable {F : Fence} {n : Nat} {P : Program}
theorem wpListIn_loadH {ops : Array Oper} {rest : List Oper} {op : Oper} {a : Act} {w : World} {Q : Exit → Act → World → Prop} (hgd : op.guard = none) (ty : TypeId) (x : Operand) (ho : op.op = .load ty x)
    (b : Nat) (hx : a.eval x = .pointer (some ⟨b, 0, none⟩)) (t : TypeId) (cs : Array Value) (d : TypeDesc) (hh : Holds w b t cs)
    (hu : P.underlying ty = some d) (hd : d.isRow = true) (hi : (P.info? ty).map (·.size) = some cs.size)
    (h : wpListIn F n P ops Q rest (a.put op.dst (.agg cs)) w) : wpListIn F n P ops Q (op :: rest) a w :=
  wpListIn_plain hgd fun _ hK => by
    unfold Oper.wpIn
    refine ⟨by simp [Oper.about, ho], ?_⟩
    rw [Oper.semAt_plain F _ _ (by rw [ho]; intro c hc'; cases hc')]
    unfold execOp
    simp only [ho, hx, Instr.loadAt, Instr.sureAddr, Sem.run_bind, Sem.run_pure, Result.andThen_ok, run_loadVar_row w b t ty cs (0, 0) d hh hu (by cases d <;> simp_all) hi]
    exact hK _ _ h
theorem wpListIn_storeH {ops : Array Oper} {rest : List Oper} {op : Oper} {a : Act} {w : World} {Q : Exit → Act → World → Prop} (hgd : op.guard = none) (ty : TypeId) (x y : Operand) (ho : op.op = .store ty x y)
    (b : Nat) (cells : Array Value) (hx : a.eval x = .pointer (some ⟨b, 0, none⟩)) (hy : a.eval y = .agg cells)
    (t : TypeId) (old : Array Value) (hh : Holds w b t old) (hi : (P.info? ty).map (·.size) = some cells.size) (hz : old.size = cells.size) (h1 : cells.all (·.oneCell') = true)
    (h : ∀ w', Holds w' b t cells → Only b w w' → w'.heap.size = w.heap.size → wpListIn F n P ops Q rest (a.put op.dst undef) w') : wpListIn F n P ops Q (op :: rest) a w :=
  wpListIn_plain hgd fun _ hK => by
    unfold Oper.wpIn
    refine ⟨by simp [Oper.about, ho], ?_⟩
    rw [Oper.semAt_plain F _ _ (by rw [ho]; intro c hc'; cases hc')]
    unfold execOp
    simp only [ho, hx, hy, Instr.storeAt, Instr.sureAddr, Sem.run_bind, Sem.run_pure, Result.andThen_ok, run_storeVar_row w b t ty old cells hh hi hz h1]
    exact hK _ _ (h _ (setRow_heap w b old cells t (0, 0) hh)
      ⟨rfl, rfl, rfl, by simp [World.setRow], fun k _ hb => World.setRow_other w b k cells hb⟩ (by simp [World.setRow]))
end
theorem wpListIn_ldC {F : Fence} {n : Nat} {ops : Array Oper} {rest : List Oper} {op : Oper} {a : Act} {w : World} {Q : Exit → Act → World → Prop} (hgd : op.guard = none) (x : Operand) (ho : op.op = .load 76 x)
    {b : Nat} (hx : a.eval x = .pointer (some ⟨b, 0, none⟩)) {t : TypeId} {p : Nat → Bool} (hh : Holds w b t (contA p))
    (h : wpListIn F n Try.prog ops Q rest (a.put op.dst (.agg (contA p))) w) : wpListIn F n Try.prog ops Q (op :: rest) a w :=
  wpListIn_loadH hgd 76 x ho b hx t _ _ hh Try.underlying76 rfl (infoC p) h
theorem wpListIn_stC {F : Fence} {n : Nat} {ops : Array Oper} {rest : List Oper} {op : Oper} {a : Act} {w : World} {Q : Exit → Act → World → Prop} (hgd : op.guard = none) (x y : Operand) (ho : op.op = .store 76 x y)
    {b : Nat} {q : Nat → Bool} (hx : a.eval x = .pointer (some ⟨b, 0, none⟩)) (hy : a.eval y = .agg (contA q))
    {t : TypeId} {p : Nat → Bool} (hh : Holds w b t (contA p))
    (h : ∀ w', Holds w' b t (contA q) → Only b w w' → w'.heap.size = w.heap.size → wpListIn F n Try.prog ops Q rest (a.put op.dst undef) w') : wpListIn F n Try.prog ops Q (op :: rest) a w :=
  wpListIn_storeH hgd 76 x y ho b _ hx hy t _ hh (infoC q) (by rw [contA_size, contA_size]) (contA_one q) h

theorem lowsL_end (p : Nat → Bool) (k : Nat) (h : 256 ≤ k) : lowsL p k = [] := by
  unfold lowsL
  rw [List.filter_eq_nil_iff]
  intro l hl
  have := List.mem_range.1 hl
  simp
  omega
theorem range_split (k : Nat) (h : k < 256) : List.range 256 = List.range k ++ k :: List.range' (k + 1) (255 - k) := by
  rw [List.range_eq_range', List.range_eq_range']
  have e : (256 : Nat) = k + (1 + (255 - k)) := by omega
  conv => lhs; rw [e]
  rw [← List.range'_append_1, ← List.range'_append_1, Nat.zero_add]
  rfl
theorem lowsL_step (p : Nat → Bool) (k : Nat) (h : k < 256) : lowsL p k = (if p k then [k] else []) ++ lowsL p (k + 1) := by
  unfold lowsL
  rw [range_split k h]
  simp only [List.filter_append, List.filter_cons]
  have h1 : (List.range k).filter (fun l => decide (k ≤ l) && p l) = [] := by
    rw [List.filter_eq_nil_iff]; intro l hl; have := List.mem_range.1 hl; simp; omega
  have h2 : (List.range k).filter (fun l => decide (k + 1 ≤ l) && p l) = [] := by
    rw [List.filter_eq_nil_iff]; intro l hl; have := List.mem_range.1 hl; simp; omega
  have h3 : (List.range' (k + 1) (255 - k)).filter (fun l => decide (k ≤ l) && p l) = (List.range' (k + 1) (255 - k)).filter (fun l => decide (k + 1 ≤ l) && p l) := by
    refine List.filter_congr fun l hl => ?_
    have := List.mem_range'_1.1 hl
    rw [decide_eq_true (by omega), decide_eq_true (by omega)]
  rw [h1, h2, h3]
  have h4 : (decide (k + 1 ≤ k) && p k) = false := by rw [decide_eq_false (by omega)]; rfl
  have h5 : (decide (k ≤ k) && p k) = p k := by simp
  rw [h4, h5]
  cases p k <;> simp
theorem lowsL_skip (p : Nat → Bool) : ∀ (n k : Nat), k + n ≤ 256 → (∀ l, k ≤ l → l < k + n → p l = false) → lowsL p k = lowsL p (k + n)
  | 0, _, _, _ => rfl
  | n + 1, k, h, hp => by
    rw [lowsL_step p k (by omega), hp k (by omega) (by omega), lowsL_skip p n (k + 1) (by omega) (fun l h1 h2 => hp l (by omega) (by omega)), show k + 1 + n = k + (n + 1) by omega]
    rfl
theorem lowsL_lt {p : Nat → Bool} {k l : Nat} (h : l ∈ lowsL p k) : k ≤ l ∧ l < 256 ∧ p l = true := by
  unfold lowsL at h
  rw [List.mem_filter, List.mem_range] at h
  obtain ⟨h1, h2⟩ := h
  simp at h2
  exact ⟨h2.1, h1, h2.2⟩
theorem bt_zero {p : Nat → Bool} {k : Nat} (h : bt p (k / 8) = 0) : ∀ l, k ≤ l → l < 8 * (k / 8) + 8 → p l = false := fun l h1 h2 => by
  have := bt_testBit p (k / 8) (l % 8) (by omega)
  rw [h, show 8 * (k / 8) + l % 8 = l by omega] at this
  rw [← this]; simp
set_option maxRecDepth 100000 in
theorem or7 (k : Nat) (h : k < 256) : bits BinOp.or IntKind.i64 (k : Int) 7 = ((8 * (k / 8) + 7 : Nat) : Int) := by
  have := (bits_nat .i64 8 (by decide) (fun n h0 h1 => by rw [IntKind.wrap_i64]; omega) k 7 (by omega) (by decide)).2
  rw [show ((7 : Nat) : Int) = 7 from rfl] at this
  rw [this]
  have e : ∀ k : Fin 256, (k.val ||| 7) = 8 * (k.val / 8) + 7 := by decide
  rw [e ⟨k, h⟩]

set_option maxRecDepth 8000 in
theorem lows_in (p : Nat → Bool) (f : Int) (bC bF l : Nat) (J Jx : List Nat → World → Prop) (W : World) (hC : Holds W bC 76 (contA p)) (hF : Holds W bF 3 #[.int .i64 f]) (hJ : OwnFrom W.heap.size J)
    (hY : ∀ pre x rest W1, lowsL p f.toNat = pre ++ x :: rest → J pre W1 → YieldAt Fence.wide 0 Try.prog l #[.int .i64 (x : Nat)] W1 fun e W' =>
      (e = .returned (.bool true) ∧ J (pre ++ [x]) W' ∧ KeepB (fun k => k = bC) W1 W') ∨ (e = .returned (.bool false) ∧ Jx (pre ++ [x]) W'))
    (h0 : J [] W) :
    CallsIn Fence.wide 1 Try.prog 65 #[.func (.yield l) #[] #[], .pointer (some ⟨bF, 0, none⟩), .pointer (some ⟨bC, 0, none⟩)] W fun e W' => (∃ v, e = .returned v) ∧ (J (lowsL p f.toNat) W' ∨ ∃ pre x rest, lowsL p f.toNat = pre ++ x :: rest ∧ Jx (pre ++ [x]) W') := by
  have hFc : W.cell? ⟨bF, 0, none⟩ = some (.int .i64 f) := hF.cell 0
  clear hF
  obtain ⟨m, hm⟩ : ∃ m, f.toNat = m := ⟨_, rfl⟩
  rw [hm] at hY ⊢
  have HY : Hid (∀ pre x rest W1, lowsL p m = pre ++ x :: rest → J pre W1 → YieldAt Fence.wide 0 Try.prog l #[.int .i64 (x : Nat)] W1 fun e W' =>
      (e = .returned (.bool true) ∧ J (pre ++ [x]) W' ∧ KeepB (fun k => k = bC) W1 W') ∨ (e = .returned (.bool false) ∧ Jx (pre ++ [x]) W')) := hY
  clear hY
  by_cases hf : f < 0
  · obtain rfl : m = 0 := by omega
    clear hm
    have hf0 : ¬ 0 ≤ f := by omega
    refine callsIn_of_wp Try.func65 rfl trivial ?_ rfl
    simp only [Try.ntmps65, List.size_toArray, List.length_cons, List.length_nil, Nat.reduceAdd, Nat.reduceSub, Array.replicate_succ, Array.replicate_zero, List.push_toArray, List.append_toArray, List.nil_append, List.cons_append]
    gi_wp2
    gi_loopw [4] (fun y wr => ∃ (k : Nat) (pre : List Nat), y = .int .i64 (k : Nat) ∧ lowsL p 0 = pre ++ lowsL p k ∧ J pre wr ∧ Holds wr bC 76 (contA p) ∧ W.heap.size ≤ wr.heap.size) (fun y _ => 256 - (intOf y).toNat)
    case atStart => exact ⟨0, [], by rfl, rfl, h0, hC, Nat.le_refl _⟩
    case round =>
      obtain ⟨k, pre, rfl, hL, hj, hc, hsz⟩ := hrel
      by_cases hk : k < 256
      · have hki : (k : Int) < 256 := by omega
        have hk0 : (0 : Int) ≤ k := by omega
        have hcell := hc.cell (k / 8)
        rw [contA_get p (k / 8) (by omega)] at hcell
        by_cases hz : bt p (k / 8) = 0
        · rw [hz] at hcell
          have ho := or7 k hk
          have HL : Hid (lowsL p 0 = pre ++ lowsL p (8 * (k / 8) + 7 + 1)) := by
            have e := lowsL_skip p (8 * (k / 8) + 8 - k) k (by omega) (fun l h1 h2 => bt_zero hz l h1 (by omega))
            rw [show k + (8 * (k / 8) + 8 - k) = 8 * (k / 8) + 7 + 1 by omega] at e
            rw [← e]; exact hL
          clear hz hL
          have hq : ((8 * (k / 8) + 7 : Nat) : Int) < 9223372036854775807 := by omega
          have hq0 : (0 : Int) ≤ ((8 * (k / 8) + 7 : Nat) : Int) := by omega
          have hkk : k ≤ 8 * (k / 8) + 7 := by omega
          generalize 8 * (k / 8) + 7 = kk at ho HL hq hq0 hkk
          gi_wp2
          go_roundw
          case rel => exact ⟨kk + 1, pre, by simp, HL.out, hj, hc, hsz⟩
          case measure => simp [intOf]; omega
        · have hzi : ¬ ((bt p (k / 8) : Nat) : Int) = 0 := by omega
          cases hp : p k with
          | true =>
            have HL : Hid (lowsL p 0 = pre ++ k :: lowsL p (k + 1)) := by
              rw [lowsL_step p k hk, hp] at hL; exact hL
            have hh := has_any p k
            rw [hp] at hh
            have HH : Hid _ := hh
            clear hz hL hh hp
            gi_wp2_with (first
              | (refine wpListIn_ldC rfl _ rfl rfl hc ?_)
              | (refine ⟨trivial, ?_⟩; gi_at_call 58; refine (callsIn_wide.2 (HH.out wr hk)).mono ?_; rintro e w1 ⟨rfl, hB1⟩; obtain ⟨fn, tmps, assign, body, hy, hR⟩ := HY.out pre k _ w1 HL.out (OwnFrom.grow hJ hj hB1)))
            refine hR.mono ?_
            rintro e W3 (⟨rfl, hJ3, hk3⟩ | ⟨rfl, hJx3⟩)
            · have hc3 := hk3.holds rfl (below_holds hB1 hc)
              have hs3 := hk3.size
              have hs1 := hB1.size
              clear hy hR
              gi_wp2
              go_roundw
              case rel => exact ⟨k + 1, pre ++ [k], by simp, by rw [HL.out]; simp, hJ3, hc3, by omega⟩
              case measure => simp [intOf]; omega
            · clear hy hR
              gi_wp2
              refine bodyPost_ret (results_none rfl _ _ _) rfl ?_
              exact ⟨⟨_, rfl⟩, .inr ⟨pre, k, _, HL.out, hJx3⟩⟩
          | false =>
            have HL : Hid (lowsL p 0 = pre ++ lowsL p (k + 1)) := by
              rw [lowsL_step p k hk, hp] at hL; exact hL
            have hh := has_any p k
            rw [hp] at hh
            have HH : Hid _ := hh
            clear hz hL hh hp
            gi_wp2_with (first
              | (refine wpListIn_ldC rfl _ rfl rfl hc ?_)
              | (refine ⟨trivial, ?_⟩; gi_at_call 58; refine (callsIn_wide.2 (HH.out wr hk)).mono ?_; rintro e w1 ⟨rfl, hB1⟩))
            have hs1 := hB1.size
            refine ⟨fun _ h => (by cases h), ?_⟩
            gi_wp2
            go_roundw
            case rel => exact ⟨k + 1, pre, by simp, HL.out, OwnFrom.grow hJ hj hB1, below_holds hB1 hc, by omega⟩
            case measure => simp [intOf]; omega
      · have hki : ¬ (k : Int) < 256 := by omega
        rw [lowsL_end p k (by omega), List.append_nil] at hL
        have HL : Hid _ := hL
        clear hL
        gi_wp2
        go_end0
        exact ⟨⟨_, rfl⟩, .inl (by rw [HL.out]; exact hj)⟩
  · obtain rfl : f = (m : Int) := by omega
    clear hm hf
    have hm0 : ¬ (m : Int) < 0 := by omega
    have hm1 : (0 : Int) ≤ m := by omega
    refine callsIn_of_wp Try.func65 rfl trivial ?_ rfl
    simp only [Try.ntmps65, List.size_toArray, List.length_cons, List.length_nil, Nat.reduceAdd, Nat.reduceSub, Array.replicate_succ, Array.replicate_zero, List.push_toArray, List.append_toArray, List.nil_append, List.cons_append]
    gi_wp2
    gi_loopw [4] (fun y wr => ∃ (k : Nat) (pre : List Nat), y = .int .i64 (k : Nat) ∧ lowsL p m = pre ++ lowsL p k ∧ J pre wr ∧ Holds wr bC 76 (contA p) ∧ W.heap.size ≤ wr.heap.size) (fun y _ => 256 - (intOf y).toNat)
    case atStart => exact ⟨m, [], by rfl, rfl, h0, hC, Nat.le_refl _⟩
    case round =>
      obtain ⟨k, pre, rfl, hL, hj, hc, hsz⟩ := hrel
      by_cases hk : k < 256
      · have hki : (k : Int) < 256 := by omega
        have hk0 : (0 : Int) ≤ k := by omega
        have hcell := hc.cell (k / 8)
        rw [contA_get p (k / 8) (by omega)] at hcell
        by_cases hz : bt p (k / 8) = 0
        · rw [hz] at hcell
          have ho := or7 k hk
          have HL : Hid (lowsL p m = pre ++ lowsL p (8 * (k / 8) + 7 + 1)) := by
            have e := lowsL_skip p (8 * (k / 8) + 8 - k) k (by omega) (fun l h1 h2 => bt_zero hz l h1 (by omega))
            rw [show k + (8 * (k / 8) + 8 - k) = 8 * (k / 8) + 7 + 1 by omega] at e
            rw [← e]; exact hL
          clear hz hL
          have hq : ((8 * (k / 8) + 7 : Nat) : Int) < 9223372036854775807 := by omega
          have hq0 : (0 : Int) ≤ ((8 * (k / 8) + 7 : Nat) : Int) := by omega
          have hkk : k ≤ 8 * (k / 8) + 7 := by omega
          generalize 8 * (k / 8) + 7 = kk at ho HL hq hq0 hkk
          gi_wp2
          go_roundw
          case rel => exact ⟨kk + 1, pre, by simp, HL.out, hj, hc, hsz⟩
          case measure => simp [intOf]; omega
        · have hzi : ¬ ((bt p (k / 8) : Nat) : Int) = 0 := by omega
          cases hp : p k with
          | true =>
            have HL : Hid (lowsL p m = pre ++ k :: lowsL p (k + 1)) := by
              rw [lowsL_step p k hk, hp] at hL; exact hL
            have hh := has_any p k
            rw [hp] at hh
            have HH : Hid _ := hh
            clear hz hL hh hp
            gi_wp2_with (first
              | (refine wpListIn_ldC rfl _ rfl rfl hc ?_)
              | (refine ⟨trivial, ?_⟩; gi_at_call 58; refine (callsIn_wide.2 (HH.out wr hk)).mono ?_; rintro e w1 ⟨rfl, hB1⟩; obtain ⟨fn, tmps, assign, body, hy, hR⟩ := HY.out pre k _ w1 HL.out (OwnFrom.grow hJ hj hB1)))
            refine hR.mono ?_
            rintro e W3 (⟨rfl, hJ3, hk3⟩ | ⟨rfl, hJx3⟩)
            · have hc3 := hk3.holds rfl (below_holds hB1 hc)
              have hs3 := hk3.size
              have hs1 := hB1.size
              clear hy hR
              gi_wp2
              go_roundw
              case rel => exact ⟨k + 1, pre ++ [k], by simp, by rw [HL.out]; simp, hJ3, hc3, by omega⟩
              case measure => simp [intOf]; omega
            · clear hy hR
              gi_wp2
              refine bodyPost_ret (results_none rfl _ _ _) rfl ?_
              exact ⟨⟨_, rfl⟩, .inr ⟨pre, k, _, HL.out, hJx3⟩⟩
          | false =>
            have HL : Hid (lowsL p m = pre ++ lowsL p (k + 1)) := by
              rw [lowsL_step p k hk, hp] at hL; exact hL
            have hh := has_any p k
            rw [hp] at hh
            have HH : Hid _ := hh
            clear hz hL hh hp
            gi_wp2_with (first
              | (refine wpListIn_ldC rfl _ rfl rfl hc ?_)
              | (refine ⟨trivial, ?_⟩; gi_at_call 58; refine (callsIn_wide.2 (HH.out wr hk)).mono ?_; rintro e w1 ⟨rfl, hB1⟩))
            have hs1 := hB1.size
            refine ⟨fun _ h => (by cases h), ?_⟩
            gi_wp2
            go_roundw
            case rel => exact ⟨k + 1, pre, by simp, HL.out, OwnFrom.grow hJ hj hB1, below_holds hB1 hc, by omega⟩
            case measure => simp [intOf]; omega
      · have hki : ¬ (k : Int) < 256 := by omega
        rw [lowsL_end p k (by omega), List.append_nil] at hL
        have HL : Hid _ := hL
        clear hL
        gi_wp2
        go_end0
        exact ⟨⟨_, rfl⟩, .inl (by rw [HL.out]; exact hj)⟩

/-- What lows hands back. -/
theorem lows_seq (p : Nat → Bool) (f : Int) (bC bF : Nat) (w : World) (hC : Holds w bC 76 (contA p)) (hF : Holds w bF 3 #[.int .i64 f]) :
    SeqW Try.prog 65 #[.pointer (some ⟨bF, 0, none⟩), .pointer (some ⟨bC, 0, none⟩)] (fun x : Nat => .int .i64 (x : Nat)) (fun k => k = bC) (lowsL p f.toNat) w :=
  fun l J Jx W hW hJ _ hY h0 => callsIn_wide.1 (lows_in p f bC bF l J Jx W (below_holds hW hC) (below_holds hW hF) hJ hY h0)
end Go.Proofs.Ytiokbhbggpibpaa
/-
  What below and writeList do: who ranges over a container's lower parts.
-/
namespace Go.Proofs.Ytiokbhbggpibpaa
open Go Go.RowKit
attribute [local go_sem] Oper.semAt_some

theorem holds_kept {A B : World} {row : Option Nat} {Bd : Nat} (hg : A.grownBy B row) (hr : ∀ r, row = some r → Bd ≤ r ∧ ∃ o : Obj, A.heap[r]? = some o ∧ o.isCells = false) {b : Nat} {t : TypeId} {cs : Array Value} (h : Holds A b t cs) : Holds B b t cs := by
  unfold Holds at *
  refine (hg.block b (Array.getElem?_eq_some_iff.1 h).1 (fun e => ?_)).trans h
  obtain ⟨_, o, ho, hc⟩ := hr b e.symm
  rw [h] at ho; cases ho; cases hc
theorem below_kept {A B w : World} {row : Option Nat} {Bd n : Nat} (hg : A.grownBy B row) (hr : ∀ r, row = some r → Bd ≤ r ∧ ∃ o : Obj, A.heap[r]? = some o ∧ o.isCells = false) (hn : n ≤ Bd) (hw : n ≤ w.heap.size) (h : Below n w A) : Below n w B :=
  h.grown hg (Nat.le_trans hw h.size) (fun k e => Nat.le_trans hn (hr k e).1)

/-- The container of a list of lower parts. -/
def ofList (l : List Nat) (x : Nat) : Bool := decide (x ∈ l)
theorem ofList_snoc (l : List Nat) (x : Nat) : contA (fun y => decide (y = x) || ofList l y) = contA (ofList (l ++ [x])) := contA_congr fun y _ => by
  unfold ofList
  rw [← Bool.decide_or]
  exact decide_eq_decide.2 (by simp [or_comm])

theorem ofList_nil : contA (ofList []) = contA (fun _ => false) := contA_congr fun y _ => by simp [ofList]

theorem lowsL_rises (p : Nat → Bool) (k : Nat) : (lowsL p k).Pairwise (· < ·) := List.Pairwise.filter _ List.pairwise_lt_range
theorem mem_lowsL {p : Nat → Bool} {k l : Nat} : l ∈ lowsL p k ↔ k ≤ l ∧ l < 256 ∧ p l = true := by
  refine ⟨lowsL_lt, fun ⟨h1, h2, h3⟩ => ?_⟩
  unfold lowsL
  rw [List.mem_filter, List.mem_range]
  exact ⟨h2, by simp [h1, h3]⟩

theorem below_all {p : Nat → Bool} {e : Nat} {pre : List Nat} (hL : lowsL p 0 = pre) (hpre : ∀ l ∈ pre, l < e) : contA (ofList pre) = contA (fun l => p l && decide (l < e)) := contA_congr fun l hl => by
  unfold ofList
  rw [← hL, Bool.eq_iff_iff]
  simp [mem_lowsL, hl]
  intro h
  exact hpre l (by rw [← hL]; exact mem_lowsL.2 ⟨by omega, hl, h⟩)
theorem below_some {p : Nat → Bool} {e x : Nat} {pre rest : List Nat} (hL : lowsL p 0 = pre ++ x :: rest) (hpre : ∀ l ∈ pre, l < e) (hx : e ≤ x) : contA (ofList pre) = contA (fun l => p l && decide (l < e)) := contA_congr fun l hl => by
  have hr := lowsL_rises p 0
  rw [hL] at hr
  have hr2 := (List.pairwise_append.1 hr).2.1
  rw [List.pairwise_cons] at hr2
  unfold ofList
  rw [Bool.eq_iff_iff]
  simp
  constructor
  · intro h
    exact ⟨(lowsL_lt (p := p) (k := 0) (by rw [hL]; simp [h])).2.2, hpre l h⟩
  · rintro ⟨h1, h2⟩
    have hm : l ∈ lowsL p 0 := mem_lowsL.2 ⟨by omega, hl, h1⟩
    rw [hL, List.mem_append, List.mem_cons] at hm
    rcases hm with h | h | h
    · exact h
    · omega
    · have := hr2.1 l h; omega

/-- New blocks, one behind the other. -/
theorem holds_new1 (w : World) (t1 : TypeId) (c1 : Array Value) (o : Obj) : Holds ((w.alloc o).alloc (.cells c1 t1)) (w.heap.size + 1) t1 c1 := by
  have := Holds.new (w.alloc o) t1 c1
  rw [World.size_alloc] at this
  exact this
theorem holds_new2 (w : World) (t1 : TypeId) (c1 : Array Value) (o o' : Obj) : Holds (((w.alloc o).alloc o').alloc (.cells c1 t1)) (w.heap.size + 1 + 1) t1 c1 := by
  have := holds_new1 (w.alloc o) t1 c1 o'
  rw [World.size_alloc] at this
  exact this
theorem holds_new3 (w : World) (t1 : TypeId) (c1 : Array Value) (o o' o2 : Obj) : Holds ((((w.alloc o).alloc o').alloc o2).alloc (.cells c1 t1)) (w.heap.size + 1 + 1 + 1) t1 c1 := by
  have := holds_new2 (w.alloc o) t1 c1 o' o2
  rw [World.size_alloc] at this
  exact this
theorem below_new1 (w : World) (o : Obj) : Below w.heap.size w (w.alloc o) := (Below.refl _ w).alloc (Nat.le_refl _) _
theorem below_new2 (w : World) (o o' : Obj) : Below w.heap.size w ((w.alloc o).alloc o') := (below_new1 w o).alloc (by simp) _
theorem below_new3 (w : World) (o o' o2 : Obj) : Below w.heap.size w (((w.alloc o).alloc o').alloc o2) := (below_new2 w o o').alloc (by simp; omega) _
theorem below_new4 (w : World) (o o' o2 o3 : Obj) : Below w.heap.size w ((((w.alloc o).alloc o').alloc o2).alloc o3) := (below_new3 w o o' o2).alloc (by simp; omega) _

set_option maxRecDepth 8000 in
set_option maxHeartbeats 4000000 in
theorem below_any (p : Nat → Bool) (e : Nat) (w : World) :
    Calls Try.prog 50 #[.agg (contA p), .int .i64 (e : Nat)] w fun en w' => en = .returned (.agg (contA fun l => p l && decide (l < e))) ∧ Below w.heap.size w w' := by
  refine calls_of_wp_marks Try.func50 rfl ?_
  simp only [Try.ntmps50, List.size_toArray, List.length_cons, List.length_nil, Nat.reduceAdd, Nat.reduceSub, Array.replicate_succ, Array.replicate_zero, List.push_toArray, List.append_toArray, List.nil_append, List.cons_append]
  obtain ⟨W0, hW⟩ : ∃ W0, World.alloc (World.alloc (World.alloc (World.alloc w (.cells (contA p) 76)) (.cells #[.int .i64 (e : Nat)] 3)) (.cells (contA fun _ => false) 76)) (.cells (contA fun _ => false) 76) = W0 := ⟨_, rfl⟩
  have h1 : Holds W0 w.heap.size 76 (contA p) := by rw [← hW]; exact (((Holds.new _ _ _).alloc _).alloc _).alloc _
  have h2 : Holds W0 (w.heap.size + 1) 3 #[.int .i64 (e : Nat)] := by rw [← hW]; exact ((holds_new1 _ _ _ _).alloc _).alloc _
  have h3 : Holds W0 (w.heap.size + 1 + 1) 76 (contA fun _ => false) := by rw [← hW]; exact (holds_new2 _ _ _ _ _).alloc _
  have h4 : Holds W0 (w.heap.size + 1 + 1 + 1) 76 (contA fun _ => false) := by rw [← hW]; exact holds_new3 _ _ _ _ _ _
  have hB : Below w.heap.size w W0 := by rw [← hW]; exact below_new4 _ _ _ _ _
  rw [zeroC] at hW
  go_wp2_with (first
    | (refine wpList_ldC rfl _ rfl rfl h1 ?_)
    | (go_at_call 49; refine (lows_any p 0 _).mono ?_; rintro e w1 ⟨b, rfl, hb, hC, hF, hB1⟩))
  clear hW
  have hb4 : w.heap.size + 1 + 1 + 1 < b := Nat.lt_of_lt_of_le h4.lt hb
  replace h2 := below_holds hB1 h2
  replace h3 := below_holds hB1 h3
  replace h4 := below_holds hB1 h4
  have hbl := hC.lt
  replace hB := below_new hB hB1
  clear hb
  refine wp_rangeSeq rfl (enters_of Try.func65 (by kernel_rfl) rfl) (lows_seq p 0 b (b + 1) w1 hC hF) (Below.refl _ _) (fun k hk => by subst hk; exact hbl)
    (fun pre W => Holds W (w.heap.size + 1 + 1 + 1) 76 (contA (ofList pre)) ∧ Holds W (w.heap.size + 1) 3 #[.int .i64 (e : Nat)] ∧ Holds W (w.heap.size + 1 + 1) 76 (contA fun _ => false) ∧ (∀ l ∈ pre, l < e) ∧ Below w.heap.size w W)
    (fun c pre W => c = .exit 0 ∧ (∃ pre' x, pre = pre' ++ [x] ∧ e ≤ x ∧ (∀ l ∈ pre', l < e) ∧ Holds W (w.heap.size + 1 + 1 + 1) 76 (contA (ofList pre'))) ∧ Holds W (w.heap.size + 1 + 1) 76 (contA fun _ => false) ∧ Below w.heap.size w W)
    (fun s A B row hs hg hr => ⟨holds_kept hg hr hs.1, holds_kept hg hr hs.2.1, holds_kept hg hr hs.2.2.1, hs.2.2.2.1, below_kept hg hr (by have := hB.size; omega) (Nat.le_refl _) hs.2.2.2.2⟩)
    (fun c s A B row hs hg hr => by
      obtain ⟨h1, ⟨pre', x, h2, h3, h4, h5⟩, h6, h7⟩ := hs
      exact ⟨h1, ⟨pre', x, h2, h3, h4, holds_kept hg hr h5⟩, holds_kept hg hr h6, below_kept hg hr (by have := hB.size; omega) (Nat.le_refl _) h7⟩)
    ⟨h4.congr ofList_nil.symm, h2, h3, by simp, hB⟩
    (fun x => { tmps := #[.agg (contA p), .int .i64 (e : Nat), .pointer (some ⟨w.heap.size, 0, none⟩), .pointer (some ⟨w.heap.size + 1, 0, none⟩), .pointer (some ⟨w.heap.size + 1 + 1, 0, none⟩), .pointer (some ⟨w.heap.size + 1 + 1 + 1, 0, none⟩), .int .i64 (x : Nat), .agg (contA p), .func (.func 65) #[] #[.pointer (some ⟨b + 1, 0, none⟩), .pointer (some ⟨b, 0, none⟩)], .int .i64 (x : Nat), undef, undef, undef, undef, undef, undef, undef], defers := [] }) ?assign ?body ?done ?stop
  case assign =>
    intro l x W K hK
    gi_wp2
    exact hK
  case body =>
    rintro l pre x rest W hL hsz ⟨g4, g2, g3, gl, gB⟩
    have hx := lowsL_lt (p := p) (k := 0) (l := x) (by have := hL; simp at this; rw [this]; simp)
    have hc2 : W.cell? ⟨w.heap.size + 1, 0, none⟩ = some (.int .i64 (e : Nat)) := g2.cell 0
    have HG : Hid (Holds W (w.heap.size + 1) 3 #[.int .i64 (e : Nat)]) := g2
    clear hL h1 h2 h3 h4 hC hF hB1 g2
    by_cases hxe : e ≤ x
    · have hxi : (e : Int) ≤ x := by omega
      gi_wp2
      exact ⟨KeepsFrom.refl _ _, rfl, ⟨pre, x, rfl, hxe, gl, g4⟩, g3, gB⟩
    · have hxi : ¬ (e : Int) ≤ x := by omega
      gi_wp2_with (first
        | (refine wpListIn_ldC rfl _ rfl rfl g4 ?_)
        | (refine ⟨trivial, rfl, ?_⟩; gi_at_call 47; refine (CallsIn.inRound l (callsIn_wide.2 (with_any (ofList pre) x W hx.2.1))).mono ?_; rintro e w2 ⟨rfl, hB2⟩; have g4' := below_holds hB2 g4; rw [ofList_snoc])
        | (refine wpListIn_stC rfl _ _ rfl rfl rfl g4' ?_; intro W3 h5 hO hS))
      have k2 : KeepB (fun k => k = b) W W3 := (KeepB.below hB2 (by rintro k rfl; omega)).trans (KeepB.only hO (by omega) (by rintro k rfl; have := hB2.size; omega))
      exact ⟨(keepsFrom_below hB2).trans (keepsFrom_only hO (by omega)), k2, h5, hO.holds (below_holds hB2 HG.out) (by omega), hO.holds (below_holds hB2 g3) (by omega), fun l hl => by rcases List.mem_append.1 hl with h | h; exact gl l h; simp at h; omega, Only.fresh (gB.trans (hB2.mono gB.size)) hO (by omega)⟩
  case done =>
    rintro D W hD ⟨g4, g2, g3, gl, gB⟩ hK
    have HC := below_all (e := e) rfl gl
    clear h1 h2 h3 h4 hC hF hB1 g2
    go_wp2_with (first
      | (refine wpList_ldC rfl _ rfl rfl g4 ?_)
      | (refine wpList_stC rfl _ _ rfl rfl rfl g3 ?_; intro W3 h5 hO hS))
    refine leaves_marks (Marks.one (B := w.heap.size) (by have := hB.size; omega) ((hO.block D (Array.getElem?_eq_some_iff.1 hK).1 (by omega)).trans hK)) fun w' hw' => ⟨_, results_contC rfl _ _ _ _ _ rfl (hw'.holds h5), ?_⟩
    exact ⟨congrArg (fun c => Ending.returned (Value.agg c)) HC, (Only.fresh gB hO (by omega)).trans hw'.below⟩
  case stop =>
    rintro D c pre x rest W hD hL ⟨rfl, ⟨pre', x', hp, hx, gl, g4⟩, g3, gB⟩ hK
    obtain ⟨rfl, rfl⟩ : pre' = pre ∧ x' = x := by
      have := List.append_inj' hp rfl
      simp at this
      exact ⟨this.1.symm, this.2.symm⟩
    have HC := below_some hL gl hx
    clear h1 h2 h3 h4 hC hF hB1
    go_wp2_with (first
      | (refine wpList_ldC rfl _ rfl rfl g4 ?_)
      | (refine wpList_stC rfl _ _ rfl rfl rfl g3 ?_; intro W3 h5 hO hS))
    refine leaves_marks (Marks.one (B := w.heap.size) (by have := hB.size; omega) ((hO.block D (Array.getElem?_eq_some_iff.1 hK).1 (by omega)).trans hK)) fun w' hw' => ⟨_, results_contC rfl _ _ _ _ _ rfl (hw'.holds h5), ?_⟩
    exact ⟨congrArg (fun c => Ending.returned (Value.agg c)) HC, (Only.fresh gB hO (by omega)).trans hw'.below⟩
end Go.Proofs.Ytiokbhbggpibpaa
/-
  What writeList does: a container's lower parts as bytes.
-/
namespace Go.Proofs.Ytiokbhbggpibpaa
open Go Go.RowKit
attribute [local go_sem] Oper.semAt_some

theorem ownsRow_kept {A B : World} {row : Option Nat} {Bd : Nat} (hg : A.grownBy B row) (hr : ∀ r, row = some r → Bd ≤ r ∧ ∃ o : Obj, A.heap[r]? = some o ∧ o.isCells = false) {base : Nat} {e : TypeId} {size n : Nat} {v : Value} {xs : List Value} (h : A.ownsRow base e size v n xs) : B.ownsRow base e size v n xs := by
  refine h.kept hg ?_
  rcases h.2 with ⟨rfl, _⟩ | ⟨g, cap, cur, rfl, _, hc, _⟩
  · exact .inl rfl
  · refine .inr fun e => ?_
    obtain ⟨_, o, ho, hn⟩ := hr g (by rw [← e]; rfl)
    rw [hc] at ho; cases ho; cases hn
theorem ownsRow_below {w w' : World} (hb : Below w.heap.size w w') {base : Nat} {e : TypeId} {size n : Nat} {v : Value} {xs : List Value} (h : w.ownsRow base e size v n xs) : w'.ownsRow base e size v n xs :=
  ownsRow_kept (Bd := 0) (grown_below hb) (fun r e => by cases e) h

theorem keepB_append {S : Nat → Prop} {W w3 : World} {tmp : Obj} {row : Option Nat} (hg : (W.alloc tmp).grownBy w3 row) {B : Nat} (u : Value) (hS : ∀ k, S k → k < W.heap.size ∧ some k ≠ row ∧ k ≠ B) : KeepB S W (w3.setCell ⟨B, 0, none⟩ u) := by
  refine ⟨by have := hg.size; simp at this ⊢; omega, fun k hk => ?_⟩
  obtain ⟨h1, h2, h3⟩ := hS k hk
  rw [Below.heap_setCell _ _ _ _ h3, hg.block k (by simp; omega) h2, Below.heap_alloc _ _ _ h1]

/-- A row's block is none of another type. -/
theorem row_ne {W : World} {base g b n : Nat} {e t : TypeId} {size len cap : Nat} {xs : List Value} {cs : Array Value} (h : W.ownsRow base e size (.slice (some ⟨g, 0, none⟩) len cap) n xs) (hh : Holds W b t cs) (ht : t ≠ e) : g ≠ b := by
  rintro rfl
  rcases h.2 with ⟨h, _⟩ | ⟨g2, cap2, cur, h, _, hcur, _⟩
  · cases h
  · injection h with h _ _
    injection h with h
    injection h with h _ _
    subst h
    unfold Holds at hh
    rw [hh] at hcur
    injection hcur with hcur
    injection hcur with _ hcur _
    exact ht hcur

theorem info5 : (Try.prog.info? 5).map (fun i => (i.zero, i.size, i.bytes)) = some (some (.int .u8 0), 1, 1) := by kernel_rfl
theorem info3 : (Try.prog.info? 3).map (fun i => (i.zero, i.size, i.bytes)) = some (some (.int .i64 0), 1, 8) := by kernel_rfl
theorem underBytes : Try.prog.underlying 86 = some (.slice 5) := by kernel_rfl

/-- The lower parts as bytes. -/
def lowB (p : Nat → Bool) : List UInt8 := (lowsL p 0).map UInt8.ofNat
theorem lowB_len (p : Nat → Bool) : (lowB p).length = (lowsL p 0).length := by simp [lowB]
theorem lowsL_len (p : Nat → Bool) (k : Nat) : (lowsL p k).length ≤ 256 := by
  unfold lowsL
  refine Nat.le_trans (List.length_filter_le _ _) ?_
  simp

theorem convert_lows {w : World} {base : Nat} {g cap : Nat} {p : Nat → Bool} (h : w.ownsRow base 5 1 (.slice (some ⟨g, 0, none⟩) (lowsL p 0).length cap) (lowsL p 0).length ((lowsL p 0).map fun x => .int .u8 ((x : Nat) : Int))) :
    (convert 86 9 (.slice (some ⟨g, 0, none⟩) (lowsL p 0).length cap)).run Try.prog w = .ok (.string ⟨(lowB p).toArray⟩) w := by
  rw [← lowB_len] at h ⊢
  refine run_convert_bytes_back w 86 9 5 ⟨g, 0, none⟩ cap (lowB p) underBytes (by kernel_rfl) (by kernel_rfl) (fun j hj => ?_)
  have hj' : j < (lowsL p 0).length := by rw [← lowB_len]; exact hj
  refine (h.cells (g := g) rfl j (.int .u8 (((lowsL p 0)[j] : Nat) : Int)) (by rw [List.getElem?_map, List.getElem?_eq_getElem hj']; rfl)).trans ?_
  have hlt := (lowsL_lt (List.getElem_mem hj')).2.1
  simp [lowB]
  omega

set_option maxRecDepth 8000 in
set_option maxHeartbeats 1000000 in
theorem writeList_any (p : Nat → Bool) (w : World) :
    Calls Try.prog 69 #[.agg (contA p)] w fun en w' => en = .returned (.string ⟨(lowB p).toArray⟩) ∧ Below w.heap.size w w' := by
  obtain ⟨i0, hi, hz0, hz1, hz2⟩ := info_parts info5
  refine calls_of_wp_marks Try.func69 rfl ?_
  simp only [Try.ntmps69, List.size_toArray, List.length_cons, List.length_nil, Nat.reduceAdd, Nat.reduceSub, Array.replicate_succ, Array.replicate_zero, List.push_toArray, List.append_toArray, List.nil_append, List.cons_append]
  obtain ⟨W0, hW⟩ : ∃ W0, World.alloc w (.cells (contA p) 76) = W0 := ⟨_, rfl⟩
  have h1 : Holds W0 w.heap.size 76 (contA p) := by rw [← hW]; exact Holds.new _ _ _
  have hB : Below w.heap.size w W0 := by rw [← hW]; exact below_new1 _ _
  have hz : w.heap.size ≤ W0.heap.size := hB.size
  go_wp2_with (first
    | (at_make; refine wpList_make_own _ rfl _ _ 86 rfl w.heap.size 5 i0 (.int .u8 0) 1 underBytes hi hz0 hz1 .i64 .i64 32 32 rfl rfl rfl (by rw [hz2]; decide) (by decide) hz ?_; intro w1 hrow hg1; have h1' : ∀ o, Holds (w1.alloc o) w.heap.size 76 (contA p) := fun o => Holds.alloc (holds_kept (Bd := 0) hg1 (fun r e => by cases e) h1) o)
    | (refine wpList_ldC rfl _ rfl rfl (h1' _) ?_)
    | (go_at_call 49; refine (lows_any p 0 _).mono ?_; rintro e w2 ⟨b, rfl, hb, hC, hF, hB1⟩))
  clear hW h1 h1'
  have hB01 : Below w.heap.size w (w1.alloc (.cells #[.slice (some ⟨W0.heap.size, 0, none⟩) 0 32] 86)) := (hB.grown hg1 hz (fun k e => by cases e)).alloc (by have := hg1.size; omega) _
  have hbx : Boxed w2 w1.heap.size 86 (.slice (some ⟨W0.heap.size, 0, none⟩) 0 32) := below_holds hB1 (Boxed.new w1 _ _)
  have hrw : w2.ownsRow w.heap.size 5 1 (.slice (some ⟨W0.heap.size, 0, none⟩) 0 32) 0 [] := ownsRow_below hB1 (hrow.alloc _)
  have hB2 := below_new hB01 hB1
  have hb2 : w1.heap.size < b := by have := hb; simp at this; omega
  have hbl := hC.lt
  have hw1 : w.heap.size ≤ w1.heap.size := by have := hg1.size; omega
  clear hrow hg1 hb
  refine wp_rangeSeq rfl (enters_of Try.func65 (by kernel_rfl) rfl) (lows_seq p 0 b (b + 1) w2 hC hF) (Below.refl _ _) (fun k hk => by subst hk; exact hbl)
    (fun pre W => (∃ g cap, Boxed W w1.heap.size 86 (.slice (some ⟨g, 0, none⟩) pre.length cap) ∧ W.ownsRow w.heap.size 5 1 (.slice (some ⟨g, 0, none⟩) pre.length cap) pre.length (pre.map fun x => .int .u8 ((x : Nat) : Int)) ∧ Holds W b 76 (contA p)) ∧ Below w.heap.size w W)
    (fun _ _ _ => False)
    (fun s A B row hs hg hr => by
      obtain ⟨⟨g, cap, h1, h2, h4⟩, h3⟩ := hs
      exact ⟨⟨g, cap, holds_kept hg hr h1, ownsRow_kept hg hr h2, holds_kept hg hr h4⟩, below_kept hg hr (by have := hB2.size; omega) (Nat.le_refl _) h3⟩)
    (fun c s A B row hs hg hr => hs)
    ⟨⟨_, _, hbx, hrw, hC⟩, hB2⟩
    (fun x => { tmps := #[.agg (contA p), .pointer (some ⟨w.heap.size, 0, none⟩), .string ⟨#[]⟩, .pointer (some ⟨w1.heap.size, 0, none⟩), .int .i64 (x : Nat), .slice (some ⟨W0.heap.size, 0, none⟩) 0 32, .agg (contA p), .func (.func 65) #[] #[.pointer (some ⟨b + 1, 0, none⟩), .pointer (some ⟨b, 0, none⟩)], .int .i64 (x : Nat), undef, undef, undef, undef, undef, undef, undef], defers := [] }) ?assign ?body ?done ?stop
  case assign =>
    intro l x W K hK
    gi_wp2
    exact hK
  case body =>
    rintro l pre x rest W hL hsz ⟨⟨g, cap, hv, hr, hCW⟩, gB⟩
    have hx := (lowsL_lt (p := p) (k := 0) (l := x) (by have := hL; simp at this; rw [this]; simp)).2.1
    have hlen : pre.length < 256 := by
      have := lowsL_len p 0
      have e : (lowsL p 0).length = pre.length + (rest.length + 1) := by have := hL; simp at this; rw [this]; simp
      omega
    have hxi : ((x : Nat) : Int) % 256 = x := by omega
    have hxw : IntKind.u8.wrap (x : Int) = x := by rw [IntKind.wrap_u8]; exact hxi
    have hc := hv.cell
    clear hL hC hF hB1 hbx hrw
    gi_wp2_with (gi_at_builtin; refine wpListIn_append_own _ rfl _ _ 86 rfl w.heap.size 5 i0 (.int .u8 0) 1 1 underBytes hi hz0 hz1 hz2 rfl (by decide) _ _ _ rfl (hr.alloc _) ⟨W.heap.size, 0, none⟩ 1 1 [.int .u8 ((x : Nat) : Int)] rfl rfl (cell_one_new _ _ _) (by simp [Value.oneCell']) (by unfold maxLen; omega) (by omega) (by have := gB.size; simp; omega) ?_; intro v' w3 hown' hgrow _; obtain ⟨g', cap', rfl⟩ := ownsRow_succ hown'; obtain ⟨hv1, hv2, hr2, hk2, hb2⟩ := hv.appended (by decide) hr gB.size hw1 hown' hgrow; have hc1 := hv1.cell; have hf1 := hv1.frozen)
    have hgb : g ≠ b := row_ne hr hCW (by decide)
    have k2 := keepB_append (S := fun k => k = b) hgrow (B := w1.heap.size) (.slice (some ⟨g', 0, none⟩) (pre.length + 1) cap') (by rintro k rfl; exact ⟨by omega, fun e => hgb (by injection e with e; exact e.symm), by omega⟩)
    refine ⟨hk2.from _, k2, ⟨g', cap', ?_, ?_, k2.holds rfl hCW⟩, gB.trans hb2⟩
    · rw [List.length_append]; exact hv2
    · rw [List.length_append, List.map_append]; exact hr2
  case done =>
    rintro D W hD ⟨⟨g, cap, hv, hr, hCW⟩, gB⟩ hK
    have hcv := convert_lows (p := p) hr
    have hc := hv.cell
    clear hC hF hB1 hbx hrw hv hr hCW
    simp only [Int.toNat_zero] at hc hcv
    generalize (lowsL p 0).length = n0 at hc hcv
    go_wp2_with fail
    refine leaves_marks (Marks.one (B := w.heap.size) (by have := hB2.size; omega) hK) fun w' hw' => ⟨_, results_tmp rfl _ _ _, ?_⟩
    exact ⟨rfl, gB.trans hw'.below⟩
  case stop =>
    rintro D c pre x rest W _ _ h _
    exact h.elim
end Go.Proofs.Ytiokbhbggpibpaa
/-
  A set's containers in a map, in memory.
-/
namespace Go.Proofs.Ytiokbhbggpibpaa
open Go Go.RowKit Go.Maps

/-- What a cell of a container is as a number. -/
def valAt (cs : Array Value) (i : Nat) : Nat := match cs[i]? with
  | some (.int _ n) => n.toNat
  | _ => 0
def okCell : Value → Bool
  | .int .u8 n => decide (0 ≤ n) && decide (n < 256)
  | _ => false
/-- A container as a datum. -/
def dC (p : Nat → Bool) : DataW Unit := .lit (.string ((List.range 32).map fun i => UInt8.ofNat (bt p i)))
/-- How a container reads. -/
def cR : Value → Option (DataW Unit × List MemPlace)
  | .agg cs => if cs.size = 32 ∧ cs.all okCell = true then some (dC (ofBytes (valAt cs)), []) else none
  | _ => none

theorem dC_inj {p q : Nat → Bool} (h : dC p = dC q) : contA p = contA q := by
  unfold dC at h
  injection h with h
  injection h with h
  refine contA_congr fun l hl => ?_
  have h1 := congrArg (fun x : List UInt8 => x[l / 8]?) h
  simp only [List.getElem?_map, List.getElem?_range (show l / 8 < 32 by omega), Option.map_some] at h1
  injection h1 with h1
  have h2 := congrArg UInt8.toNat h1
  simp only [UInt8.toNat_ofNat', Nat.reducePow, Nat.mod_eq_of_lt (bt_lt p _), Nat.mod_eq_of_lt (bt_lt q _)] at h2
  have e : l = 8 * (l / 8) + l % 8 := by omega
  rw [e, ← bt_testBit p (l / 8) (l % 8) (by omega), ← bt_testBit q (l / 8) (l % 8) (by omega), h2]
theorem dC_congr {p q : Nat → Bool} (h : ∀ l, l < 256 → p l = q l) : dC p = dC q := by
  unfold dC
  congr 2
  refine List.map_congr_left fun i hi => ?_
  have := List.mem_range.1 hi
  rw [bt_congr fun j hj => h _ (by omega)]

theorem okCell_inv {v : Value} (h : okCell v = true) : ∃ n : Nat, v = .int .u8 (n : Nat) ∧ n < 256 := by
  unfold okCell at h
  split at h
  · rename_i n
    simp at h
    exact ⟨n.toNat, by congr 1; omega, by omega⟩
  · cases h

theorem cR_mk (p : Nat → Bool) : cR (.agg (contA p)) = some (dC p, []) := by
  unfold cR
  have h1 : (contA p).all okCell = true := by
    refine Array.all_eq_true_iff_forall_mem.2 fun v hv => ?_
    obtain ⟨i, rfl⟩ := Array.mem_ofFn.1 hv
    have := bt_lt p i.val
    simp [okCell]
    omega
  simp only
  rw [if_pos ⟨contA_size p, h1⟩]
  refine congrArg (fun d => some (d, [])) (dC_congr fun l hl => ?_)
  unfold ofBytes valAt
  rw [contA_get p (l / 8) (by omega)]
  simp only [Int.toNat_natCast]
  rw [bt_testBit p _ _ (by omega), show 8 * (l / 8) + l % 8 = l by omega]

theorem cells_eq {cs : Array Value} (h1 : cs.size = 32) (h2 : cs.all okCell = true) : cs = contA (ofBytes (valAt cs)) := by
  refine Array.ext_getElem? fun i => ?_
  by_cases hi : i < 32
  · have hi1 : i < cs.size := by omega
    obtain ⟨v, hv⟩ : ∃ v, cs[i]? = some v := ⟨_, Array.getElem?_eq_getElem hi1⟩
    obtain ⟨n, hn, hlt⟩ := okCell_inv (Array.all_eq_true_iff_forall_mem.1 h2 v (Array.mem_of_getElem? hv))
    have hv2 : valAt cs i = n := by
      unfold valAt
      rw [hv, hn]
      simp
    rw [contA_get _ i hi, bt_ofBytes _ _ (by rw [hv2]; exact hlt), hv2, hv, hn]
  · rw [Array.getElem?_eq_none (by omega), Array.getElem?_eq_none (by rw [contA_size]; omega)]

theorem cR_inv {v : Value} {y : DataW Unit × List MemPlace} (h : cR v = some y) : ∃ p, v = .agg (contA p) ∧ y = (dC p, []) := by
  unfold cR at h
  split at h
  · rename_i cs
    split at h
    · rename_i hc
      injection h with h
      exact ⟨ofBytes (valAt cs), congrArg Value.agg (cells_eq hc.1 hc.2), h.symm⟩
    · cases h
  · cases h

/-- The number of upper parts. -/
def NU : Nat := 8388608
theorem NU_eq : NU = 8388608 := rfl

/-- The container of an upper part. -/
def atU (M : Nat → Bool) (u : Nat) (l : Nat) : Bool := M (256 * u + l)
/-- Has it members? -/
def liveU (M : Nat → Bool) (u : Nat) : Prop := ∃ l, l < 256 ∧ M (256 * u + l) = true

def keyU (u : Nat) : Lit := .int .i64 (u : Nat)
theorem keyU_inj {u v : Nat} (h : keyU u = keyU v) : u = v := by
  unfold keyU at h
  injection h with _ h
  omega
theorem keyU_lit (u : Nat) : WideAt.IsKeyLit (keyU u) := by unfold keyU; simp [WideAt.IsKeyLit]

/-- What a map says of a set. -/
structure Reads (D : DataW Unit) (M : Nat → Bool) : Prop where
  val : ∀ u, Maps.has D (keyU u) = true → ∀ z, D.atKey (keyU u) z = dC (atU M u)
  has : ∀ kl, Maps.has D kl = true ↔ ∃ u, kl = keyU u ∧ liveU M u
  bound : ∀ n, M n = true → n < 2147483648

theorem liveU_lt {M : Nat → Bool} (h : ∀ n, M n = true → n < 2147483648) {u : Nat} (hu : liveU M u) : u < NU := by
  obtain ⟨l, hl, hm⟩ := hu
  have := h _ hm
  rw [NU_eq]
  omega
theorem dead_at {M : Nat → Bool} {u : Nat} (h : ¬ liveU M u) : ∀ l, l < 256 → atU M u l = false := fun l hl => by
  cases e : atU M u l
  · rfl
  · exact absurd ⟨l, hl, e⟩ h

theorem Reads.at {D : DataW Unit} {M : Nat → Bool} (h : Reads D M) (u : Nat) : D.atKey (keyU u) (dC fun _ => false) = dC (atU M u) := by
  cases hh : Maps.has D (keyU u)
  · rw [Maps.atKey_of_not_has hh]
    refine dC_congr fun l hl => (dead_at (fun hu => ?_) l hl).symm
    rw [(h.has _).2 ⟨u, rfl, hu⟩] at hh
    cases hh
  · exact h.val u hh _

theorem Reads.empty {M : Nat → Bool} (h : ∀ n, M n = false) : Reads (.map []) M where
  val u hu := by simp [Maps.has] at hu
  has kl := by
    simp [Maps.has]
    rintro u rfl ⟨l, _, hl⟩
    rw [h] at hl
    cases hl
  bound n hn := by rw [h] at hn; cases hn

/-- One container is laid anew. -/
def setU (M : Nat → Bool) (u : Nat) (q : Nat → Bool) (n : Nat) : Bool := if n / 256 = u then q (n % 256) else M n
theorem atU_setU_same (M : Nat → Bool) (u : Nat) (q : Nat → Bool) : ∀ l, l < 256 → atU (setU M u q) u l = q l := fun l hl => by
  unfold atU setU
  rw [if_pos (by omega), show (256 * u + l) % 256 = l by omega]
theorem atU_setU_other (M : Nat → Bool) (u v : Nat) (q : Nat → Bool) (h : v ≠ u) : ∀ l, l < 256 → atU (setU M u q) v l = atU M v l := fun l hl => by
  unfold atU setU
  rw [if_neg (by omega)]

theorem Reads.put {D : DataW Unit} {M : Nat → Bool} (h : Reads D M) (hD : Maps.IsMap D) {u : Nat} (hu : u < NU) {q : Nat → Bool} (hq : ∃ l, l < 256 ∧ q l = true) : Reads (D.put (keyU u) (dC q)) (setU M u q) where
  val v hv z := by
    by_cases e : v = u
    · subst e
      rw [Maps.atKey_put_same hD (keyU_lit v)]
      exact dC_congr fun l hl => (atU_setU_same M v q l hl).symm
    · have hne : keyU v ≠ keyU u := fun q => e (keyU_inj q)
      rw [Maps.has_put_other hne] at hv
      rw [Maps.atKey_put_other hne, h.val v hv]
      exact dC_congr fun l hl => (atU_setU_other M u v q e l hl).symm
  has kl := by
    by_cases e : kl = keyU u
    · subst e
      rw [Maps.has_put_same hD (keyU_lit u)]
      refine ⟨fun _ => ⟨u, rfl, ?_⟩, fun _ => rfl⟩
      obtain ⟨l, hl, hql⟩ := hq
      exact ⟨l, hl, by have := atU_setU_same M u q l hl; unfold atU at this; rw [this, hql]⟩
    · rw [Maps.has_put_other e, h.has]
      constructor
      · rintro ⟨v, rfl, l, hl, hm⟩
        exact ⟨v, rfl, l, hl, by have := atU_setU_other M u v q (fun q => e (by rw [q])) l hl; unfold atU at this; rw [this, hm]⟩
      · rintro ⟨v, rfl, l, hl, hm⟩
        exact ⟨v, rfl, l, hl, by have := atU_setU_other M u v q (fun q => e (by rw [q])) l hl; unfold atU at this; rw [← this, hm]⟩
  bound n hn := by
    unfold setU at hn
    split at hn
    · rename_i e
      rw [NU_eq] at hu
      omega
    · exact h.bound n hn

/-- One container is struck. -/
theorem Reads.del {D : DataW Unit} {M : Nat → Bool} (h : Reads D M) {u : Nat} : Reads (D.del (keyU u)) (setU M u fun _ => false) where
  val v hv z := by
    by_cases e : v = u
    · subst e
      rw [Maps.has_del_same] at hv
      cases hv
    · have hne : keyU v ≠ keyU u := fun q => e (keyU_inj q)
      rw [Maps.has_del_other hne] at hv
      rw [Maps.atKey_del_other hne, h.val v hv]
      exact dC_congr fun l hl => (atU_setU_other M u v _ e l hl).symm
  has kl := by
    by_cases e : kl = keyU u
    · subst e
      rw [Maps.has_del_same]
      constructor
      · intro h; cases h
      · rintro ⟨v, hv, l, hl, hm⟩
        have hv := keyU_inj hv
        subst hv
        have := atU_setU_same M u (fun _ => false) l hl
        unfold atU at this
        rw [this] at hm
        cases hm
    · rw [Maps.has_del_other e, h.has]
      constructor
      · rintro ⟨v, rfl, l, hl, hm⟩
        exact ⟨v, rfl, l, hl, by have := atU_setU_other M u v (fun _ => false) (fun q => e (by rw [q])) l hl; unfold atU at this; rw [this, hm]⟩
      · rintro ⟨v, rfl, l, hl, hm⟩
        exact ⟨v, rfl, l, hl, by have := atU_setU_other M u v (fun _ => false) (fun q => e (by rw [q])) l hl; unfold atU at this; rw [← this, hm]⟩
  bound n hn := by
    unfold setU at hn
    split at hn
    · cases hn
    · exact h.bound n hn

theorem nodup_len : ∀ (N : Nat) (l : List Nat), l.Nodup → (∀ x ∈ l, x < N) → l.length ≤ N
  | 0, l, _, h => by
    cases l with
    | nil => simp
    | cons x l => have := h x (by simp); omega
  | N + 1, l, hn, h => by
    have h1 := nodup_len N (l.erase N) (hn.erase N) (fun x hx => by
      have h2 := h x (List.mem_of_mem_erase hx)
      have h3 : x ≠ N := fun e => by subst e; exact (List.Nodup.not_mem_erase hn) hx
      omega)
    have h2 := List.length_erase (a := N) (l := l)
    split at h2 <;> omega
def litN : Lit → Nat
  | .int _ n => n.toNat
  | _ => 0
theorem keys_len {l : List (Lit × DataW Unit)} {N : Nat} (hp : l.Pairwise (fun p q => p.1 ≠ q.1)) (h : ∀ p ∈ l, ∃ u, u < N ∧ p.1 = keyU u) : l.length ≤ N := by
  have := nodup_len N (l.map fun p => litN p.1) (by
    unfold List.Nodup
    rw [List.pairwise_map]
    refine hp.imp_of_mem fun {p q} hpm hqm hne e => ?_
    obtain ⟨u, _, hu⟩ := h p hpm
    obtain ⟨v, _, hv⟩ := h q hqm
    rw [hu, hv] at e
    simp [litN, keyU] at e
    rw [hu, hv, e] at hne
    exact hne rfl) (by
    intro x hx
    obtain ⟨p, hpm, rfl⟩ := List.mem_map.1 hx
    obtain ⟨u, hu, e⟩ := h p hpm
    rw [e]
    simp [litN, keyU]
    exact hu)
  simpa using this

theorem keyed3 : Keyed Try.prog 3 := Maps.int_keyed Try.underlying3

/-- Block m is a map that says M. -/
def MapAt (w : World) (m : Nat) (M : Nat → Bool) : Prop := ∃ D : DataW Unit, w.ownsMap Try.prog 3 cR m NU D ∧ Reads D M

theorem Reads.size {D : DataW Unit} {M : Nat → Bool} (h : Reads D M) {w : World} {m n : Nat} (ho : w.ownsMap Try.prog 3 cR m n D) : w.ownsMap Try.prog 3 cR m NU D := by
  obtain ⟨es0, he, hp, hk⟩ := ho.entries keyed3
  obtain ⟨es, clock, hb, F, _, hD⟩ := ho
  refine ⟨es, clock, hb, F, ?_, hD⟩
  have e1 : es.size = es0.length := by
    rw [hD] at he
    injection he with he
    rw [← he, length_read]
  rw [e1]
  refine keys_len hp fun p hpm => ?_
  have hh : Maps.has D p.1 = true := by
    rw [he]
    exact List.any_eq_true.2 ⟨p, hpm, WideAt.sameKey_self (hk p hpm)⟩
  obtain ⟨u, hu, hl⟩ := (h.has p.1).1 hh
  exact ⟨u, liveU_lt h.bound hl, hu⟩
end Go.Proofs.Ytiokbhbggpibpaa
/-
  Sets in memory: a pointer to a struct whose one field is a map, or nil; what looks into them and what is written.
-/
namespace Go.Proofs.Ytiokbhbggpibpaa
open Go Go.RowKit Go.Maps

theorem zeroVal (w : World) : (zeroValue 76).run Try.prog w = .ok (.agg (contA fun _ => false)) w := by
  rw [zeroC]; exact Try.zeroValue76 w

theorem wfI {u : Int} (h : -9223372036854775808 ≤ u) (h' : u ≤ 9223372036854775807) : (Lit.int .i64 u).wf = true := by
  exact WalkArith.wf_i64 ⟨h, h'⟩

theorem keyOf_u {u : Int} (h : (Lit.int .i64 u).wf = true) : keyOf Try.prog 3 (.int .i64 u) = some (.int .i64 u) := Maps.keyOf_int_mk Try.underlying3 h

theorem keyU_pos {u : Int} {v : Nat} (h : Lit.int .i64 u = keyU v) : 0 ≤ u := by
  unfold keyU at h
  injection h with _ h
  omega

/-- What stands at a key. -/
def atI (M : Nat → Bool) (u : Int) (l : Nat) : Bool := if 0 ≤ u then atU M u.toNat l else false
theorem atI_nat (M : Nat → Bool) (u : Nat) : atI M (u : Int) = atU M u := by
  funext l
  unfold atI
  rw [if_pos (by omega), Int.toNat_natCast]

theorem run_look {w : World} {m : Nat} {M : Nat → Bool} (h : MapAt w m M) {u : Int} (hu : (Lit.int .i64 u).wf = true) : (Instr.lookup 60 (.map (some m)) (.int .i64 u) false).run Try.prog w = .ok (.agg (contA (atI M u))) w := by
  obtain ⟨D, ho, hr⟩ := h
  obtain ⟨v, ps, hrun, hv⟩ := ho.lookup keyed3 Try.underlying60 (zeroVal w) (cR_mk _) (keyOf_u hu)
  obtain ⟨p, rfl, hp⟩ := cR_inv hv
  have hp : D.atKey (.int .i64 u) (dC fun _ => false) = dC p := congrArg Prod.fst hp
  rw [hrun]
  have : contA p = contA (atI M u) := by
    apply dC_inj
    rw [← hp]
    by_cases h0 : 0 ≤ u
    · obtain ⟨n, rfl⟩ := Int.eq_ofNat_of_zero_le h0
      exact (hr.at n).trans (dC_congr fun l _ => by rw [atI_nat])
    · have hh : Maps.has D (.int .i64 u) = false := by
        cases hh : Maps.has D (.int .i64 u)
        · rfl
        · obtain ⟨v, hv, _⟩ := (hr.has _).1 hh
          exact absurd (keyU_pos hv) h0
      rw [Maps.atKey_of_not_has hh]
      exact dC_congr fun l _ => by unfold atI; rw [if_neg h0]
  rw [this]
theorem run_look_nil (w : World) {u : Int} (hu : (Lit.int .i64 u).wf = true) : (Instr.lookup 60 (.map none) (.int .i64 u) false).run Try.prog w = .ok (.agg (contA fun _ => false)) w := by
  have := Maps.look_nil false keyed3 Try.underlying60 (zeroVal w) (keyOf_u hu)
  simpa using this

/-- A map or none. -/
def MapV (w : World) : Option Nat → (Nat → Bool) → Prop
  | none, M => ∀ n, M n = false
  | some m, M => MapAt w m M
theorem run_lookV {w : World} {mo : Option Nat} {M : Nat → Bool} (h : MapV w mo M) {u : Int} (hu : (Lit.int .i64 u).wf = true) : (Instr.lookup 60 (.map mo) (.int .i64 u) false).run Try.prog w = .ok (.agg (contA (atI M u))) w := by
  cases mo with
  | none =>
    rw [run_look_nil w hu]
    have : contA (fun _ => false) = contA (atI M u) := contA_congr fun l _ => by
      unfold atI atU
      split
      · rw [h]
      · rfl
    rw [this]
  | some m => exact run_look h hu

theorem MapAt.lt {w : World} {m : Nat} {M : Nat → Bool} (h : MapAt w m M) : m < w.heap.size := by obtain ⟨D, ho, _⟩ := h; exact ho.lt
theorem MapAt.block {w w' : World} {m : Nat} {M : Nat → Bool} (h : MapAt w m M) (hb : w'.heap[m]? = w.heap[m]?) : MapAt w' m M := by
  obtain ⟨D, ⟨es, clock, hm, F, hs, hD⟩, hr⟩ := h
  exact ⟨D, ⟨es, clock, hb.trans hm, F, hs, hD⟩, hr⟩
theorem MapAt.bound {w : World} {m : Nat} {M : Nat → Bool} (h : MapAt w m M) : ∀ n, M n = true → n < 2147483648 := by obtain ⟨D, _, hr⟩ := h; exact hr.bound
theorem MapV.bound {w : World} {mo : Option Nat} {M : Nat → Bool} (h : MapV w mo M) : ∀ n, M n = true → n < 2147483648 := by
  cases mo with
  | none => intro n hn; rw [h] at hn; cases hn
  | some m => exact MapAt.bound h
theorem MapV.block {w w' : World} {mo : Option Nat} {M : Nat → Bool} (h : MapV w mo M) (hb : ∀ m, mo = some m → w'.heap[m]? = w.heap[m]?) : MapV w' mo M := by
  cases mo with
  | none => exact h
  | some m => exact MapAt.block h (hb m rfl)
theorem MapV.lt {w : World} {mo : Option Nat} {M : Nat → Bool} (h : MapV w mo M) : ∀ m, mo = some m → m < w.heap.size := by
  rintro m rfl
  exact MapAt.lt h
theorem MapAt.obj {w : World} {m : Nat} {M : Nat → Bool} (h : MapAt w m M) : ∃ es clock, w.heap[m]? = some (.map es clock) := by
  obtain ⟨D, ⟨es, clock, hm, _⟩, _⟩ := h
  exact ⟨es, clock, hm⟩

/-- A container is laid into a map. -/
theorem run_upd {w : World} {m : Nat} {M : Nat → Bool} (h : MapAt w m M) {u : Nat} (hu : u < NU) {q : Nat → Bool} (hq : ∃ l, l < 256 ∧ q l = true) :
    ∃ w', (Instr.mapUpdate 60 (.map (some m)) (.int .i64 (u : Nat)) (.agg (contA q))).run Try.prog w = .ok () w' ∧ MapAt w' m (setU M u q) ∧ Only m w w' ∧ w'.heap.size = w.heap.size := by
  obtain ⟨D, ho, hr⟩ := h
  have hw : (Lit.int .i64 (u : Int)).wf = true := by
    rw [NU_eq] at hu
    exact wfI (by omega) (by omega)
  have hm := ho.isMap
  obtain ⟨es, clock, hb, F, hs, rfl⟩ := ho
  obtain ⟨es', clock', hrun, F', hput, _⟩ := Maps.fit_store (R' := cR) keyed3 Try.underlying60 hb F (Nat.lt_of_le_of_lt hs (by decide)) (fun _ _ _ _ hz => hz) (keyOf_u hw) (cR_mk q)
  refine ⟨_, hrun, ?_, ?_, ?_⟩
  · have hr2 := hr.put hm hu hq
    refine ⟨_, hr2.size (n := es'.size) ⟨es', clock', ChangeMaps.heap_setBlock_same hb _, F', Nat.le_refl _, ?_⟩, hr2⟩
    rw [DataW.put_eq]
    unfold keyU
    rw [hput]
  · exact ⟨rfl, rfl, rfl, by simp [ChangeMaps.setBlock], fun k _ hk => ChangeMaps.heap_setBlock_other hb _ (fun e => hk e)⟩
  · simp [ChangeMaps.setBlock]
theorem wpList_upd {ops : Array Oper} {rest : List Oper} {op : Oper} {a : Act} {w : World} {Q : Exit → Act → World → Prop} (hgd : op.guard = none) (x y z : Operand) (ho : op.op = .mapUpdate 60 x y z)
    {m u : Nat} {q M : Nat → Bool} (hx : a.eval x = .map (some m)) (hy : a.eval y = .int .i64 (u : Nat)) (hz : a.eval z = .agg (contA q)) (h : MapAt w m M) (hu : u < NU) (hq : ∃ l, l < 256 ∧ q l = true)
    (hK : ∀ w', MapAt w' m (setU M u q) → Only m w w' → w'.heap.size = w.heap.size → wpList Try.prog ops Q rest (a.put op.dst undef) w') : wpList Try.prog ops Q (op :: rest) a w := by
  refine wpList_plain hgd fun K' hK' => ?_
  obtain ⟨w', hrun, r1, r2, r3⟩ := run_upd h hu hq
  unfold Oper.wp
  simp [execOp, ho, hx, hy, hz, hrun, Result.andThen]
  exact hK' _ _ (hK w' r1 r2 r3)
theorem MapAt.made (w : World) (M : Nat → Bool) (h : ∀ n, M n = false) : MapAt (w.alloc (.map #[] 0)) w.heap.size M :=
  ⟨_, (World.ownsMap_made w Try.prog 3 cR).mono (Nat.zero_le _), Reads.empty h⟩

/-- What a value says of a set: nil, or a pointer to a set; its map. -/
structure View (w : World) (s : Value) (mo : Option Nat) (M : Nat → Bool) : Prop where
  ptr : (s = .pointer none ∧ mo = none) ∨ ∃ b, s = .pointer (some ⟨b, 0, none⟩) ∧ Holds w b 62 #[.map mo]
  map : MapV w mo M
/-- A set that is no nil one. -/
structure SetAt (w : World) (b : Nat) (mo : Option Nat) (M : Nat → Bool) : Prop where
  ptr : Holds w b 62 #[.map mo]
  map : MapV w mo M
theorem SetAt.view {w : World} {b : Nat} {mo : Option Nat} {M : Nat → Bool} (h : SetAt w b mo M) : View w (.pointer (some ⟨b, 0, none⟩)) mo M := ⟨.inr ⟨b, rfl, h.ptr⟩, h.map⟩
theorem View.nil (w : World) : View w (.pointer none) none (fun _ => false) := ⟨.inl ⟨rfl, rfl⟩, fun _ => rfl⟩
theorem View.below {w w' : World} {s : Value} {mo : Option Nat} {M : Nat → Bool} (h : View w s mo M) (hb : Below w.heap.size w w') : View w' s mo M := by
  refine ⟨?_, h.map.block fun m hm => hb.block m (h.map.lt m hm)⟩
  rcases h.ptr with h1 | ⟨b, h1, h2⟩
  · exact .inl h1
  · exact .inr ⟨b, h1, below_holds hb h2⟩
theorem SetAt.below {w w' : World} {b : Nat} {mo : Option Nat} {M : Nat → Bool} (h : SetAt w b mo M) (hb : Below w.heap.size w w') : SetAt w' b mo M :=
  ⟨below_holds hb h.ptr, h.map.block fun m hm => hb.block m (h.map.lt m hm)⟩

/-- The world but for a set's two blocks, and for new ones. -/
structure OnlyS (b : Nat) (mo : Option Nat) (w w' : World) : Prop where
  os : w'.os = w.os
  tape : w'.tape = w.tape
  output : w'.output = w.output
  size : w.heap.size ≤ w'.heap.size
  block : ∀ k, k < w.heap.size → k ≠ b → some k ≠ mo → w'.heap[k]? = w.heap[k]?
theorem OnlyS.refl (b : Nat) (mo : Option Nat) (w : World) : OnlyS b mo w w := ⟨rfl, rfl, rfl, Nat.le_refl _, fun _ _ _ _ => rfl⟩
theorem OnlyS.below {b : Nat} {mo : Option Nat} {w w' : World} (h : Below w.heap.size w w') : OnlyS b mo w w' := ⟨h.os, h.tape, h.output, h.size, fun k hk _ _ => h.block k hk⟩
theorem OnlyS.only {b : Nat} {mo : Option Nat} {w w' : World} (h : Only b w w') : OnlyS b mo w w' := ⟨h.os, h.tape, h.output, h.size, fun k hk hb _ => h.block k hk hb⟩
theorem OnlyS.onlyM {b m : Nat} {w w' : World} (h : Only m w w') : OnlyS b (some m) w w' := ⟨h.os, h.tape, h.output, h.size, fun k hk _ hm => h.block k hk (fun e => hm (by rw [e]))⟩
/-- The map is the old one, or a new one. -/
def Newer (w : World) (mo mo' : Option Nat) : Prop := mo' = mo ∨ ∃ m, mo' = some m ∧ w.heap.size ≤ m
theorem Newer.refl (w : World) (mo : Option Nat) : Newer w mo mo := .inl rfl
theorem OnlyS.trans {b : Nat} {mo mo' : Option Nat} {w w1 w2 : World} (h : OnlyS b mo w w1) (hn : Newer w mo mo') (k : OnlyS b mo' w1 w2) : OnlyS b mo w w2 :=
  ⟨k.os.trans h.os, k.tape.trans h.tape, k.output.trans h.output, Nat.le_trans h.size k.size, fun i hi h1 h2 => (k.block i (Nat.lt_of_lt_of_le hi h.size) h1 (fun e => by
    rcases hn with rfl | ⟨m, rfl, hm⟩
    · exact h2 e
    · injection e with e
      omega)).trans (h.block i hi h1 h2)⟩
theorem Newer.trans {w w1 : World} {mo mo' mo2 : Option Nat} (h : Newer w mo mo') (hs : w.heap.size ≤ w1.heap.size) (k : Newer w1 mo' mo2) : Newer w mo mo2 := by
  rcases k with rfl | ⟨m, rfl, hm⟩
  · exact h
  · exact .inr ⟨m, rfl, by omega⟩
/-- Where both blocks are new, nothing has turned. -/
theorem OnlyS.fresh {b : Nat} {mo : Option Nat} {w w1 w2 : World} (h : Below w.heap.size w w1) (k : OnlyS b mo w1 w2) (hb : w.heap.size ≤ b) (hm : ∀ m, mo = some m → w.heap.size ≤ m) : Below w.heap.size w w2 :=
  ⟨k.os.trans h.os, k.tape.trans h.tape, k.output.trans h.output, Nat.le_trans h.size k.size, fun i hi => (k.block i (Nat.lt_of_lt_of_le hi h.size) (by omega) (fun e => by have := hm i e.symm; omega)).trans (h.block i hi)⟩
/-- Another set. -/
theorem View.onlyS {w w' : World} {s : Value} {mo mo' : Option Nat} {M : Nat → Bool} {b' : Nat} (h : View w s mo M) (k : OnlyS b' mo' w w') (h1 : s ≠ .pointer (some ⟨b', 0, none⟩)) (h2 : mo = none ∨ mo ≠ mo') (hb' : ∃ t cs, Holds w b' t cs) (hm' : ∀ m, mo' = some m → ∃ es clock, w.heap[m]? = some (.map es clock)) : View w' s mo M := by
  obtain ⟨t', cs', hb'⟩ := hb'
  refine ⟨?_, ?_⟩
  · rcases h.ptr with h3 | ⟨b, h3, h4⟩
    · exact .inl h3
    · refine .inr ⟨b, h3, ?_⟩
      unfold Holds at *
      rw [k.block b (Array.getElem?_eq_some_iff.1 h4).1 (fun e => h1 (by rw [h3, e])) (fun e => by
        obtain ⟨es, clock, hq⟩ := hm' b e.symm
        rw [h4] at hq; cases hq)]
      exact h4
  · refine h.map.block fun m hm => ?_
    subst hm
    refine k.block m (h.map.lt m rfl) (fun e => ?_) (fun e => ?_)
    · obtain ⟨es, clock, hq⟩ := MapAt.obj h.map
      subst e
      unfold Holds at hb'
      rw [hb'] at hq; cases hq
    · rcases h2 with h2 | h2
      · cases h2
      · exact h2 e
end Go.Proofs.Ytiokbhbggpibpaa
/-
  Regions that draw their order: operations that turn nothing, walked as quiet ones, then the rest in its own order.
-/
namespace Go.Proofs.Ytiokbhbggpibpaa
open Go Go.RowKit
section
variable {P : Program} {ops : Array Oper} {W : World} {Q : Act → Prop}
theorem wpStill_of_quiet : ∀ (l : List Oper) (a : Act), wpQuiet P ops (fun w' => w' = W) Q l a → wpStill P ops W Q l a
  | [], _, h => h
  | o :: rest, a, h => by
    unfold wpQuiet at h
    unfold wpStill
    split
    · rename_i hw
      rw [if_pos hw] at h
      obtain ⟨v, h1, h2⟩ := h
      have h3 := h1 W rfl
      unfold Oper.quietAt at h3
      unfold Oper.still
      generalize (execOp a.eval o).run P W = r at *
      cases r with
      | ok n w' =>
        cases n <;> simp only [Oper.quietUpon] at h3 <;> simp only [Oper.stillUpon]
        case value u => obtain ⟨e1, e2⟩ := h3; subst e2; exact ⟨e1, wpStill_of_quiet rest _ h2⟩
        case skip => obtain ⟨e1, e2⟩ := h3; subst e2; exact ⟨e1, wpStill_of_quiet rest _ h2⟩
        case enter f args => obtain ⟨e1, hc⟩ := h3; exact ⟨e1, v, hc, wpStill_of_quiet rest _ h2⟩
      | halt x w' => simp only [Oper.quietUpon] at h3
    · rename_i hw
      rw [if_neg hw] at h
      exact wpStill_of_quiet rest _ h
theorem wp_region_qtail {id : Nat} {Q : Exit → Act → World → Prop} {a : Act} {w : World} {l : List Oper} (n : Nat) (hm : P.follows .mixedOrders = true) (hB : Region.lexTailB .any l.toArray n = true)
    (h : wpQuiet P l.toArray (fun w' => w' = w.drew) (fun a' => wpList P l.toArray Q (l.drop n) a' w.drew) (l.take n) a) : (Code.region id l.toArray true).wp P Q a w :=
  wp_region_still_tail n hm hB (wpStill_of_quiet _ _ h)
end
section
variable {P : Program} {ops : Array Oper} {rest : List Oper} {op : Oper} {a : Act} {C : World → Prop} {Q : Act → Prop}

theorem wpQ_load (hw : Region.wanted op (yielded ops a.tmps) = true) (ty : TypeId) (x : Operand) (ho : op.op = .load ty x)
    (b : Nat) (hx : a.eval x = .pointer (some ⟨b, 0, none⟩)) (t : TypeId) (cs : Array Value) (d : TypeDesc) (hh : ∀ w, C w → Holds w b t cs)
    (hu : P.underlying ty = some d) (hd : d.isRow = true) (hi : (P.info? ty).map (·.size) = some cs.size)
    (h : wpQuiet P ops C Q rest (a.put op.dst (.agg cs))) : wpQuiet P ops C Q (op :: rest) a :=
  wpQuiet_step fun _ hK => by
    rw [if_pos hw]
    refine ⟨.agg cs, fun w hw => ?_, hK _ h⟩
    unfold Oper.quietAt execOp
    simp only [ho, hx, Instr.loadAt, Instr.sureAddr, Sem.run_bind, Sem.run_pure, Result.andThen_ok, run_loadVar_row w b t ty cs (0, 0) d (hh w hw) hu (by cases d <;> simp_all) hi]
    exact ⟨rfl, rfl⟩
theorem wpQ_call (hw : Region.wanted op (yielded ops a.tmps) = true) (f : FuncId)
    (vs : Array Value) (hf : ∀ w, (execOp a.eval op).run P w = .ok (.enter f vs) w) (v : Value) (hc : ∀ w, C w → Calls P f vs w fun e w' => e = .returned v ∧ C w')
    (h : wpQuiet P ops C Q rest (a.put op.dst v)) : wpQuiet P ops C Q (op :: rest) a :=
  wpQuiet_step fun _ hK => by
    rw [if_pos hw]
    refine ⟨v, fun w hw => ?_, hK _ h⟩
    unfold Oper.quietAt
    rw [hf w]
    exact ⟨rfl, hc w hw⟩
theorem wpQ_val (hw : Region.wanted op (yielded ops a.tmps) = true) (v : Value) (hv : ∀ w, (execOp a.eval op).run P w = .ok (.value v) w)
    (h : wpQuiet P ops C Q rest (a.put op.dst v)) : wpQuiet P ops C Q (op :: rest) a :=
  wpQuiet_step fun _ hK => by
    rw [if_pos hw]
    refine ⟨v, fun w _ => ?_, hK _ h⟩
    unfold Oper.quietAt
    rw [hv w]
    exact ⟨rfl, rfl⟩
theorem wp_region_class {id : Nat} {Q : Exit → Act → World → Prop} {a : Act} {w : World} {l : List Oper} (C : World → Prop) (hm : P.follows .mixedOrders = true) (hB : Region.lexB .any l.toArray = true) (h0 : C w.drew)
    (h : wpQuiet P l.toArray C (fun a' => ∀ w', C w' → Q .normal a' w') l a) : (Code.region id l.toArray true).wp P Q a w :=
  wp_region_quiet (C := C) hm hB h0 (by simpa using h)
end

theorem mixedP : Try.prog.follows .mixedOrders = true := by kernel_rfl
/-- A container is loaded. -/
theorem wpQ_ldC {ops : Array Oper} {rest : List Oper} {op : Oper} {a : Act} {C : World → Prop} {Q : Act → Prop} (hgd : op.guard = none) (x : Operand) (ho : op.op = .load 76 x)
    {b : Nat} (hx : a.eval x = .pointer (some ⟨b, 0, none⟩)) {t : TypeId} {p : Nat → Bool} (hh : ∀ w, C w → Holds w b t (contA p))
    (h : wpQuiet Try.prog ops C Q rest (a.put op.dst (.agg (contA p)))) : wpQuiet Try.prog ops C Q (op :: rest) a :=
  wpQ_load (by simp [Region.wanted, hgd]) 76 x ho b hx t _ _ hh Try.underlying76 rfl (infoC p) h
end Go.Proofs.Ytiokbhbggpibpaa
