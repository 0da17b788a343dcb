/-
  '==' and '!=' on structs and arrays, as operations of a plain region.
-/
import Derived.Laws.StructEq
import Derived.WalkKit
import Derived.Test.YtadpopjhhanapaaProg
namespace Go.Proofs.Ytadpopjhhanapaa
open Go Go.RowKit
section
variable {P : Program}
theorem wpList_eqlS {ops : Array Oper} {rest : List Oper} {op : Oper} {a : Act} {w : World} {Q : Exit → Act → World → Prop} (hw : Region.wanted op (yielded ops a.tmps) = true) (t t' : TypeId) (x y : Operand) (ho : op.op = .binOp .eql t x y t')
    (xs ys : Array Value) (hx : a.eval x = .agg xs) (hy : a.eval y = .agg ys) (r : Bool) (hg : P.eqGuardType P.depth t = false) (he : (Op.equalIn 10000 t (.agg xs) (.agg ys)).run P w = .ok r w)
    (h : wpList P ops Q rest (a.put op.dst (.bool r)) w) : wpList P ops Q (op :: rest) a w :=
  wpList_step fun _ hK => by
    rw [if_pos hw]
    unfold Oper.wp execOp
    have h1 := run_eqGuard_agg (P := P) w .eql t x y xs ys hg
    have h2 := run_eql_struct (P := P) w t xs ys
    rw [he] at h2
    simp only [ho, hx, hy, Sem.run_bind, Sem.run_pure, h1, h2, Result.andThen_ok]
    exact hK _ _ h
theorem wpList_neqS {ops : Array Oper} {rest : List Oper} {op : Oper} {a : Act} {w : World} {Q : Exit → Act → World → Prop} (hw : Region.wanted op (yielded ops a.tmps) = true) (t t' : TypeId) (x y : Operand) (ho : op.op = .binOp .neq t x y t')
    (xs ys : Array Value) (hx : a.eval x = .agg xs) (hy : a.eval y = .agg ys) (r : Bool) (hg : P.eqGuardType P.depth t = false) (he : (Op.equalIn 10000 t (.agg xs) (.agg ys)).run P w = .ok r w)
    (h : wpList P ops Q rest (a.put op.dst (.bool !r)) w) : wpList P ops Q (op :: rest) a w :=
  wpList_step fun _ hK => by
    rw [if_pos hw]
    unfold Oper.wp execOp
    have h1 := run_eqGuard_agg (P := P) w .neq t x y xs ys hg
    have h2 := run_neq_struct (P := P) w t xs ys
    rw [he] at h2
    simp only [ho, hx, hy, Sem.run_bind, Sem.run_pure, h1, h2, Result.andThen_ok]
    exact hK _ _ h
end
end Go.Proofs.Ytadpopjhhanapaa
