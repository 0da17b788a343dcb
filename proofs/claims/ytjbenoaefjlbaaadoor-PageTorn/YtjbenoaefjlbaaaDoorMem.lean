/-
  Blocks of memory that are known whole, and worlds that part in one block alone. Plain; nothing of the program.
-/
import Derived.Test.YtjbenoaefjlbaaaDoorBits
import Derived.Laws.Rows
import Derived.Deep.Draws
namespace Go.Proofs.YtjbenoaefjlbaaaDoor
open Go Go.RowKit

/-- Block b is a row of the cells cs, none of which is frozen. -/
def Holds (w : World) (b : Nat) (t : TypeId) (cs : Array Value) : Prop := w.heap[b]? = some (.cells cs t (0, 0))

theorem Holds.lt {w : World} {b : Nat} {t : TypeId} {cs : Array Value} (h : Holds w b t cs) : b < w.heap.size := by
  unfold Holds at h
  exact (Array.getElem?_eq_some_iff.1 h).1
theorem Holds.cell {w : World} {b : Nat} {t : TypeId} {cs : Array Value} (h : Holds w b t cs) (i : Nat) : w.cell? ⟨b, i, none⟩ = cs[i]? :=
  cell_of_row w b i cs t (0, 0) h
theorem Holds.frozen {w : World} {b : Nat} {t : TypeId} {cs : Array Value} (h : Holds w b t cs) (i : Nat) : w.frozen? ⟨b, i, none⟩ = false := by
  unfold Holds at h
  simp [World.frozen?, h]
theorem Holds.set {w : World} {b : Nat} {t : TypeId} {cs : Array Value} (h : Holds w b t cs) (i : Nat) (v : Value) : Holds (w.setCell ⟨b, i, none⟩ v) b t (cs.setIfInBounds i v) := by
  unfold Holds at *
  simp [World.setCell, Array.getElem?_modify, h]
theorem Holds.drewN {w : World} {b : Nat} {t : TypeId} {cs : Array Value} (h : Holds w b t cs) (n : Nat) : Holds (w.drewN n) b t cs := h
theorem Holds.alloc {w : World} {b : Nat} {t : TypeId} {cs : Array Value} (h : Holds w b t cs) (o : Obj) : Holds (w.alloc o) b t cs := by
  have := h.lt
  unfold Holds at *
  rw [Below.heap_alloc _ _ _ this]; exact h
theorem Holds.new (w : World) (t : TypeId) (cs : Array Value) : Holds (w.alloc (.cells cs t)) w.heap.size t cs := by
  unfold Holds World.alloc; simp
theorem Holds.other {w : World} {b : Nat} {t : TypeId} {cs : Array Value} (h : Holds w b t cs) (a : Addr) (v : Value) (hb : b ≠ a.block) : Holds (w.setCell a v) b t cs := by
  unfold Holds at *
  rw [Below.heap_setCell _ _ _ _ hb]; exact h
theorem Holds.congr {w : World} {b : Nat} {t : TypeId} {cs cs' : Array Value} (h : Holds w b t cs) (e : cs = cs') : Holds w b t cs' := e ▸ h

/-- The world w' is as w was, but for block b, and for new blocks. -/
structure Only (b : Nat) (w w' : World) : Prop where
  os : w'.os = w.os
  tape : w'.tape = w.tape
  output : w'.output = w.output
  size : w.heap.size ≤ w'.heap.size
  block : ∀ k, k < w.heap.size → k ≠ b → w'.heap[k]? = w.heap[k]?

theorem Only.refl (b : Nat) (w : World) : Only b w w := ⟨rfl, rfl, rfl, Nat.le_refl _, fun _ _ _ => rfl⟩
theorem Only.trans {b : Nat} {w1 w2 w3 : World} (h : Only b w1 w2) (k : Only b w2 w3) : Only b w1 w3 :=
  ⟨k.os.trans h.os, k.tape.trans h.tape, k.output.trans h.output, Nat.le_trans h.size k.size,
   fun i hi hb => (k.block i (Nat.lt_of_lt_of_le hi h.size) hb).trans (h.block i hi hb)⟩
theorem Only.drewN {b : Nat} {w w' : World} (h : Only b w w') (n : Nat) : Only b w (w'.drewN n) := ⟨h.os, h.tape, h.output, h.size, h.block⟩
theorem Only.drew {b : Nat} {w w' : World} (h : Only b w w') : Only b w w'.drew := ⟨h.os, h.tape, h.output, h.size, h.block⟩
theorem Only.set {b : Nat} {w w' : World} (h : Only b w w') (i : Nat) (v : Value) : Only b w (w'.setCell ⟨b, i, none⟩ v) :=
  h.trans ⟨rfl, rfl, rfl, by simp, fun k _ hb => Below.heap_setCell _ _ _ _ hb⟩
theorem Only.alloc {b : Nat} {w w' : World} (h : Only b w w') (o : Obj) : Only b w (w'.alloc o) :=
  h.trans ⟨rfl, rfl, rfl, by simp, fun k hk _ => Below.heap_alloc _ _ _ hk⟩
theorem Only.holds {b c : Nat} {w w' : World} {t : TypeId} {cs : Array Value} (h : Only b w w') (hc : Holds w c t cs) (hb : c ≠ b) : Holds w' c t cs := by
  have := hc.lt
  unfold Holds at *
  rw [h.block c this hb]; exact hc
/-- Behind a call that makes blocks and turns none. -/
theorem Only.below {b : Nat} {w w' w'' : World} (h : Only b w w') (k : Below w'.heap.size w' w'') : Only b w w'' :=
  h.trans ⟨k.os, k.tape, k.output, k.size, fun i hi _ => k.block i hi⟩
/-- Where the block is a new one, nothing has turned. -/
theorem Only.fresh {b : Nat} {w w' w'' : World} (h : Below w.heap.size w w') (k : Only b w' w'') (hb : w.heap.size ≤ b) : Below w.heap.size w w'' :=
  ⟨k.os.trans h.os, k.tape.trans h.tape, k.output.trans h.output, Nat.le_trans h.size k.size,
   fun i hi => (k.block i (Nat.lt_of_lt_of_le hi h.size) (by omega)).trans (h.block i hi)⟩
theorem Below.holds {c : Nat} {w w' : World} {t : TypeId} {cs : Array Value} (h : Below w.heap.size w w') (hc : Holds w c t cs) : Holds w' c t cs := by
  have := hc.lt
  unfold Holds at *
  rw [h.block c this]; exact hc

theorem _root_.Go.RowKit.Below.drewL {B : Nat} {a w : World} (h : Below B a.drew w) : Below B a w := ⟨h.os, h.tape, h.output, h.size, h.block⟩

/-- The lanes of a state as cells. -/
def lanesA (s : Nat → BitVec 64) : Array Value := Array.ofFn (n := 25) fun i => .int .u64 (lane (s i.val))
theorem lanesA_size (s : Nat → BitVec 64) : (lanesA s).size = 25 := by simp [lanesA]
theorem lanesA_get (s : Nat → BitVec 64) (i : Nat) (h : i < 25) : (lanesA s)[i]? = some (.int .u64 (lane (s i))) := by
  simp [lanesA, h]
theorem lanesA_congr {s s' : Nat → BitVec 64} (h : ∀ i, i < 25 → s i = s' i) : lanesA s = lanesA s' := by
  unfold lanesA
  congr 1
  funext i
  rw [h i.val i.isLt]
theorem lanesA_set (s : Nat → BitVec 64) (i : Nat) (v : BitVec 64) (h : i < 25) : (lanesA s).setIfInBounds i (.int .u64 (lane v)) = lanesA (fun j => if j = i then v else s j) := by
  apply Array.ext
  · simp [lanesA]
  · intro j h1 h2
    by_cases e : j = i
    · subst e; simp [lanesA]
    · rw [Array.getElem_setIfInBounds_ne (by simpa using h1) (fun q => e q.symm)]
      simp [lanesA, e]
theorem Holds.laneAt {w : World} {b : Nat} {t : TypeId} {s : Nat → BitVec 64} (h : Holds w b t (lanesA s)) : ∀ i, i < 25 → w.cell? ⟨b, i, none⟩ = some (.int .u64 (lane (s i))) := fun i hi => by
  rw [h.cell, lanesA_get s i hi]
theorem Holds.laneSet {w : World} {b : Nat} {t : TypeId} {s : Nat → BitVec 64} (h : Holds w b t (lanesA s)) (i : Nat) (v : BitVec 64) (hi : i < 25) :
    Holds (w.setCell ⟨b, i, none⟩ (.int .u64 (lane v))) b t (lanesA (fun j => if j = i then v else s j)) :=
  (h.set i _).congr (lanesA_set s i v hi)

end Go.Proofs.YtjbenoaefjlbaaaDoor
