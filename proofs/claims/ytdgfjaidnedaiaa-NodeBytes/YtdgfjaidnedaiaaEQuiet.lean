/-
  Loads of what nodes are made of, and regions that draw their order.
-/
import Derived.Test.YtdgfjaidnedaiaaESizeW
import Derived.BigQuiet
import Derived.Maps.RangeWalk
import Derived.Laws.ResultCell
import Derived.WalkSmall
namespace Go.Proofs.Ytdgfjaidnedaiaa
open Go Go.RowKit

section
variable {w : World} {ad : Addr}
theorem ldStr {x : ByteArray} (h : w.cell? ad = some (.string x)) : (loadVar 9 ad).run Try.prog w = .ok (.string x) w := by simp [go_sem, h]
theorem ldInt {x : Int} (h : w.cell? ad = some (.int .i64 x)) : (loadVar 3 ad).run Try.prog w = .ok (.int .i64 x) w := by simp [go_sem, h]
theorem ldBool {x : Bool} (h : w.cell? ad = some (.bool x)) : (loadVar 4 ad).run Try.prog w = .ok (.bool x) w := by simp [go_sem, h]
theorem ldRow {p : Option Addr} {n c : Nat} (h : w.cell? ad = some (.slice p n c)) : (loadVar 22 ad).run Try.prog w = .ok (.slice p n c) w := by simp [go_sem, h]
theorem infoCell2 : (Try.prog.info? 27).map (·.size) = some 4 := by kernel_rfl
theorem infoNode2 : (Try.prog.info? 24).map (·.size) = some 2 := by kernel_rfl
theorem ldCell {b o : Nat} {x : Cl} (h : CellAt w b o x) : (loadVar 27 ⟨b, o, none⟩).run Try.prog w = .ok (cla x) w :=
  run_loadVar_mid w b o 27 (clv x) _ (fun j v hv => by
    have hj : j < 4 := (List.getElem?_eq_some_iff.1 hv).1
    exact (h.cell j hj).trans hv) Try.underlying27 rfl infoCell2
theorem ldNode {b o : Nat} {leaf : Bool} {v : Value} (h0 : w.cell? ⟨b, o, none⟩ = some (.bool leaf)) (h1 : w.cell? ⟨b, o + 1, none⟩ = some v) : (loadVar 24 ⟨b, o, none⟩).run Try.prog w = .ok (nodeV leaf v) w :=
  run_loadVar_mid w b o 24 [.bool leaf, v] _ (fun j u hu => by
    match j with
    | 0 => simp at hu; rw [← hu]; exact h0
    | 1 => simp at hu; rw [← hu]; exact h1
    | k + 2 => simp at hu) Try.underlying24 rfl infoNode2
end
section
variable {ops : Array Oper} {rest : List Oper} {op : Oper} {a : Act} {C : World → Prop} {Q : Act → Prop}
/-- A load, in a class of worlds. -/
theorem wpQ_ld (hw : Region.wanted op (yielded ops a.tmps) = true) (ty : TypeId) (x : Operand) (ho : op.op = .load ty x) {ad : Addr} (hx : a.eval x = .pointer (some ad)) {v : Value} (hh : ∀ w, C w → (loadVar ty ad).run Try.prog w = .ok v w)
    (h : wpQuiet Try.prog ops C Q rest (a.put op.dst v)) : wpQuiet Try.prog ops C Q (op :: rest) a :=
  wpQuiet_step fun _ hK => by
    rw [if_pos hw]
    refine ⟨v, fun w hw => ?_, hK _ h⟩
    unfold Oper.quietAt execOp
    simp only [ho, hx, Instr.loadAt, Instr.sureAddr, Sem.run_bind, Sem.run_pure, Result.andThen_ok, hh w hw]
    exact ⟨rfl, rfl⟩
end
theorem then_normalE {K : Act → World → Prop} {Q : Exit → Act → World → Prop} {a : Act} {w : World} (h : K a w) : Exit.then K Q .normal a w := h
end Go.Proofs.Ytdgfjaidnedaiaa
