/-
  What a round that puts one more behind a row of its own leaves as it was.
-/
import Derived.Test.YtbidoangdnmjfaaDoorMReadR
namespace Go.Proofs.YtbidoangdnmjfaaDoor
open Go Go.RowKit

structure KeepS (g : Nat) (sv : Value) (w w' : World) : Prop where
  os : w'.os = w.os
  tape : w'.tape = w.tape
  output : w'.output = w.output
  size : w.heap.size ≤ w'.heap.size
  block : ∀ k, k < w.heap.size → k ≠ g → sv.ownBlock ≠ some k → w'.heap[k]? = w.heap[k]?
section
variable {g base : Nat} {sv : Value} {X W W' w : World}
theorem KeepS.refl : KeepS g sv X X := ⟨rfl, rfl, rfl, Nat.le_refl _, fun _ _ _ _ => rfl⟩
theorem KeepS.drew (h : KeepS g sv X W) : KeepS g sv X W.drew := ⟨h.os, h.tape, h.output, h.size, h.block⟩
theorem KeepS.below (h : KeepS g sv X W) (k : Below W.heap.size W W') : KeepS g sv X W' :=
  ⟨k.os.trans h.os, k.tape.trans h.tape, k.output.trans h.output, Nat.le_trans h.size k.size, fun b hb h1 h2 => (k.block b (Nat.lt_of_lt_of_le hb h.size)).trans (h.block b hb h1 h2)⟩
theorem KeepS.alloc (h : KeepS g sv X W) (o : Obj) : KeepS g sv X (W.alloc o) := h.below (below_new1 W o)
theorem KeepS.grown (h : KeepS g sv X W) (k : W.grownBy W' sv.ownBlock) : KeepS g sv X W' :=
  ⟨k.os.trans h.os, k.tape.trans h.tape, k.output.trans h.output, Nat.le_trans h.size k.size, fun b hb h1 h2 => (k.block b (Nat.lt_of_lt_of_le hb h.size) (fun e => h2 e.symm)).trans (h.block b hb h1 h2)⟩
theorem KeepS.only (h : KeepS g sv X W) (k : Only g W W') : KeepS g sv X W' :=
  ⟨k.os.trans h.os, k.tape.trans h.tape, k.output.trans h.output, Nat.le_trans h.size k.size, fun b hb h1 h2 => (k.block b (Nat.lt_of_lt_of_le hb h.size) h1).trans (h.block b hb h1 h2)⟩
theorem KeepS.cell {b i : Nat} {v : Value} (h : KeepS g sv X W) (hc : X.cell? ⟨b, i, none⟩ = some v) (h1 : b ≠ g) (h2 : sv.ownBlock ≠ some b) : W.cell? ⟨b, i, none⟩ = some v := by
  have hl : b < X.heap.size := World.block_lt_of_cell? X _ hc
  rw [World.cell?_of_block (h.block b hl h1 h2)]; exact hc
theorem KeepS.holds {b : Nat} {t : TypeId} {cs : Array Value} (h : KeepS g sv X W) (hc : Holds X b t cs) (h1 : b ≠ g) (h2 : sv.ownBlock ≠ some b) : Holds W b t cs := by
  have := hc.lt
  unfold Holds at *
  rw [h.block b this h1 h2]; exact hc
/-- Nothing that lay ahead of the row has turned but g. -/
theorem KeepS.from (h : KeepS g sv X W) (k : Only g w X) (hs : ∀ j, sv.ownBlock = some j → w.heap.size ≤ j) : Only g w W :=
  ⟨h.os.trans k.os, h.tape.trans k.tape, h.output.trans k.output, Nat.le_trans k.size h.size, fun b hb h1 => (h.block b (Nat.lt_of_lt_of_le hb k.size) h1 (fun e => by have := hs b e; omega)).trans (k.block b hb h1)⟩
theorem KeepS.keeps {B : Nat} (h : KeepS g sv X W) (hg : g < B) (hr : ∀ j, sv.ownBlock = some j → ∃ cs t p, X.heap[j]? = some (.cells cs t p)) : KeepsFrom B X W :=
  ⟨h.size, fun k o hk ho hc => (h.block k (Array.getElem?_eq_some_iff.1 ho).1 (by omega) (fun e => by
    obtain ⟨cs, t, p, h1⟩ := hr k e
    rw [ho] at h1
    cases h1
    cases hc)).trans ho⟩
theorem KeepS.keepB {S : Nat → Prop} (h : KeepS g sv X W) (hg : ¬ S g) (hs : ∀ j, sv.ownBlock = some j → ¬ S j) (hS : ∀ k, S k → k < X.heap.size) : KeepB S X W :=
  ⟨h.size, fun k hk => h.block k (hS k hk) (fun e => hg (e ▸ hk)) (fun e => hs k e hk)⟩
theorem OwnH.cells {L : List H32} (h : OwnH X base sv L) : ∀ j, sv.ownBlock = some j → ∃ cs t p, X.heap[j]? = some (.cells cs t p) := fun j hj => by
  rcases h.2 with ⟨rfl, _⟩ | ⟨g, cap, cur, rfl, h1, h2, _⟩
  · cases hj
  · injection hj with hj
    simp only at hj
    subst hj
    exact ⟨_, _, _, h2⟩
end
section
variable {ops : Array Oper} {Q : Exit → Act → World → Prop} {Kt : Act → World → Prop} {k : Nat} {op : Oper} {a : Act} {w : World} {v : Value} {K L : List H32} {base : Nat}
theorem op_stM (d : Option Tmp) (hdd : op.dst = d) (hk : ops[k]? = some op) (hw : Region.wanted op (yielded ops a.tmps) = true) (ty : TypeId) (x y : Operand) (ho : op.op = .store ty x y)
    {ad : Addr} {v : Value} (hx : a.eval x = .pointer (some ad)) (hy : a.eval y = v) {w' : World} (hst : (storeVar ty ad v).run Tryd.prog w = .ok () w') (h : Kt (a.put d undef) w') : wpOp Tryd.prog ops Q k Kt a w := by
  refine op_skip d hdd hk hw (w' := w') ?_ h
  unfold execOp
  simp only [ho, hx, hy, Instr.storeAt, Instr.sureAddr, Sem.run_bind, Sem.run_pure, Result.andThen_ok, hst]
theorem op_appHM (d : Option Tmp) (hdd : op.dst = d) (hk : ops[k]? = some op) (hw : Region.wanted op (yielded ops a.tmps) = true) (s x : Operand)
    (ho : op.op = .call { callee := .builtin .append, args := #[s, x], argTypes := #[23, 23] }) {y : Value} (hs : a.eval s = v) (hx : a.eval x = y) (hown : OwnH w base v K) (hy : HashesAt w y L) (hl : K.length + L.length ≤ 1000000000) (hbase : base ≤ w.heap.size)
    (h : ∀ v' w', OwnH w' base v' (K ++ L) → w.grownBy w' v.ownBlock → Kt (a.put d v') w') : wpOp Tryd.prog ops Q k Kt a w := by
  obtain ⟨v', w', hr, h2, h3⟩ := run_append_h op.type hown hy hl hbase
  refine op_val d hdd hk hw (v := v') (w' := w') ?_ (h v' w' h2 h3)
  unfold execOp
  simp only [ho, resolve, invoke, builtin, Sem.run_bind, Sem.run_pure, Result.andThen_ok, List.map_toArray, List.map_cons, List.map_nil, hs, hx, hr]
end
theorem OwnH.shape {w : World} {base : Nat} {v : Value} {L : List H32} (h : OwnH w base v L) : ∃ p c, v = .slice p L.length c := h.at.shape
theorem run_stHs {w : World} {g i : Nat} {t : TypeId} {cs : Array Value} (h : Holds w g t cs) (hi : i < cs.size) (p : Option Addr) (n c : Nat) : (storeVar 23 ⟨g, i, none⟩ (.slice p n c)).run Tryd.prog w = .ok () (w.setCell ⟨g, i, none⟩ (.slice p n c)) := by
  have h1 := h.cell i
  rw [Array.getElem?_eq_getElem hi] at h1
  have h2 := h.frozen i
  simp [go_sem, h1, h2]
/-- What stands behind some rounds of Read's range: the row so far, the text that is left. -/
def RdI (r : ByteArray) (s t h g g4 g5 base : Nat) (w0 : World) (k : Nat) (W : World) : Prop :=
  ∃ sv, Holds W g4 25 (brC s t h sv) ∧ OwnH W base sv (hsL (r.data.toList.drop 6) k) ∧ Holds W g5 9 #[.string (restB r k)] ∧ Holds W g 25 (brC 0 0 0 (.slice none 0 0)) ∧ Below w0.heap.size w0 W ∧ base ≤ W.heap.size
theorem RdI.kept {r : ByteArray} {s t h g g4 g5 base : Nat} {w0 : World} {k : Nat} {A B : World} {row : Option Nat} (hI : RdI r s t h g g4 g5 base w0 k A) (hw : w0.heap.size ≤ base) (hg : A.grownBy B row) (hr : ∀ r, row = some r → base ≤ r ∧ ∃ o : Obj, A.heap[r]? = some o ∧ o.isCells = false) : RdI r s t h g g4 g5 base w0 k B := by
  obtain ⟨sv, h1, h2, h3, h4, h5, h6⟩ := hI
  exact ⟨sv, holds_keptM hg hr h1, own_keptM hg hr h2, holds_keptM hg hr h3, holds_keptM hg hr h4, below_keptM hg hr hw (Nat.le_refl _) h5, Nat.le_trans h6 hg.size⟩
end Go.Proofs.YtbidoangdnmjfaaDoor
