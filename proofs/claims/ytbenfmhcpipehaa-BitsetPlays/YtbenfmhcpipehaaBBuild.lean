/-
  Parts that are built.
-/
import Derived.Test.YtbenfmhcpipehaaBPartsW
import Derived.Laws.Tables
namespace Go.Proofs.Ytbenfmhcpipehaa
open Go Go.RowKit Go.Maps
theorem contA_lit (p : Nat → Bool) : contA p = #[.int .u8 ((bt p 0 : Nat) : Int), .int .u8 ((bt p 1 : Nat) : Int), .int .u8 ((bt p 2 : Nat) : Int), .int .u8 ((bt p 3 : Nat) : Int), .int .u8 ((bt p 4 : Nat) : Int), .int .u8 ((bt p 5 : Nat) : Int), .int .u8 ((bt p 6 : Nat) : Int), .int .u8 ((bt p 7 : Nat) : Int), .int .u8 ((bt p 8 : Nat) : Int), .int .u8 ((bt p 9 : Nat) : Int), .int .u8 ((bt p 10 : Nat) : Int), .int .u8 ((bt p 11 : Nat) : Int), .int .u8 ((bt p 12 : Nat) : Int), .int .u8 ((bt p 13 : Nat) : Int), .int .u8 ((bt p 14 : Nat) : Int), .int .u8 ((bt p 15 : Nat) : Int), .int .u8 ((bt p 16 : Nat) : Int), .int .u8 ((bt p 17 : Nat) : Int), .int .u8 ((bt p 18 : Nat) : Int), .int .u8 ((bt p 19 : Nat) : Int), .int .u8 ((bt p 20 : Nat) : Int), .int .u8 ((bt p 21 : Nat) : Int), .int .u8 ((bt p 22 : Nat) : Int), .int .u8 ((bt p 23 : Nat) : Int), .int .u8 ((bt p 24 : Nat) : Int), .int .u8 ((bt p 25 : Nat) : Int), .int .u8 ((bt p 26 : Nat) : Int), .int .u8 ((bt p 27 : Nat) : Int), .int .u8 ((bt p 28 : Nat) : Int), .int .u8 ((bt p 29 : Nat) : Int), .int .u8 ((bt p 30 : Nat) : Int), .int .u8 ((bt p 31 : Nat) : Int)] := by
  unfold contA
  kernel_rfl
theorem built76 (u : Int) (c0 c1 c2 c3 c4 c5 c6 c7 c8 c9 c10 c11 c12 c13 c14 c15 c16 c17 c18 c19 c20 c21 c22 c23 c24 c25 c26 c27 c28 c29 c30 c31 : Value) : Try.prog.built 92 [(0, .int .i64 u), (1, .agg #[c0, c1, c2, c3, c4, c5, c6, c7, c8, c9, c10, c11, c12, c13, c14, c15, c16, c17, c18, c19, c20, c21, c22, c23, c24, c25, c26, c27, c28, c29, c30, c31])] = some #[.int .i64 u, c0, c1, c2, c3, c4, c5, c6, c7, c8, c9, c10, c11, c12, c13, c14, c15, c16, c17, c18, c19, c20, c21, c22, c23, c24, c25, c26, c27, c28, c29, c30, c31] := by kernel_rfl
theorem builtC (u : Int) (p : Nat → Bool) : Try.prog.built 92 [(0, .int .i64 u), (1, .agg (contA p))] = some (.int .i64 u :: (contA p).toList).toArray := by
  rw [contA_lit]
  exact built76 u _ _ _ _ _ _ _ _ _ _ _ _ _ _ _ _ _ _ _ _ _ _ _ _ _ _ _ _ _ _ _ _
theorem fill73 (c0 c1 c2 c3 c4 c5 c6 c7 c8 c9 c10 c11 c12 c13 c14 c15 c16 c17 c18 c19 c20 c21 c22 c23 c24 c25 c26 c27 c28 c29 c30 c31 c32 : Value) : Instr.fill (fun i => some (i * 33, 33)) ((Array.range (1 * 33)).map ((#[.int .i64 0, .int .u8 0, .int .u8 0, .int .u8 0, .int .u8 0, .int .u8 0, .int .u8 0, .int .u8 0, .int .u8 0, .int .u8 0, .int .u8 0, .int .u8 0, .int .u8 0, .int .u8 0, .int .u8 0, .int .u8 0, .int .u8 0, .int .u8 0, .int .u8 0, .int .u8 0, .int .u8 0, .int .u8 0, .int .u8 0, .int .u8 0, .int .u8 0, .int .u8 0, .int .u8 0, .int .u8 0, .int .u8 0, .int .u8 0, .int .u8 0, .int .u8 0, .int .u8 0] : Array Value)[· % 33]!)) [(0, .agg #[c0, c1, c2, c3, c4, c5, c6, c7, c8, c9, c10, c11, c12, c13, c14, c15, c16, c17, c18, c19, c20, c21, c22, c23, c24, c25, c26, c27, c28, c29, c30, c31, c32])] = some #[c0, c1, c2, c3, c4, c5, c6, c7, c8, c9, c10, c11, c12, c13, c14, c15, c16, c17, c18, c19, c20, c21, c22, c23, c24, c25, c26, c27, c28, c29, c30, c31, c32] := by kernel_rfl
theorem row73 (c0 c1 c2 c3 c4 c5 c6 c7 c8 c9 c10 c11 c12 c13 c14 c15 c16 c17 c18 c19 c20 c21 c22 c23 c24 c25 c26 c27 c28 c29 c30 c31 c32 : Value) (w : World) : (Instr.buildSlice 89 1 #[(0, .agg #[c0, c1, c2, c3, c4, c5, c6, c7, c8, c9, c10, c11, c12, c13, c14, c15, c16, c17, c18, c19, c20, c21, c22, c23, c24, c25, c26, c27, c28, c29, c30, c31, c32])]).run Try.prog w = .ok (.slice (some ⟨w.heap.size, 0, none⟩) 1 1) (w.alloc (.cells #[c0, c1, c2, c3, c4, c5, c6, c7, c8, c9, c10, c11, c12, c13, c14, c15, c16, c17, c18, c19, c20, c21, c22, c23, c24, c25, c26, c27, c28, c29, c30, c31, c32] 92)) := by
  have h := fill73 c0 c1 c2 c3 c4 c5 c6 c7 c8 c9 c10 c11 c12 c13 c14 c15 c16 c17 c18 c19 c20 c21 c22 c23 c24 c25 c26 c27 c28 c29 c30 c31 c32
  have hz := Try.zeroValue92 w
  have hs := Try.sizeOf92 w
  unfold Instr.buildSlice
  simp only [Sem.run_bind, run_underlying Try.underlying89, Result.andThen_ok, hs]
  rw [if_neg (by decide), if_neg (by decide)]
  simp only [Sem.run_bind, hz, Result.andThen_ok, Sem.run_pure, Value.cells]
  have e : (#[Value.int IntKind.i64 0, Value.int IntKind.u8 0, Value.int IntKind.u8 0, Value.int IntKind.u8 0, Value.int IntKind.u8 0, Value.int IntKind.u8 0, Value.int IntKind.u8 0, Value.int IntKind.u8 0, Value.int IntKind.u8 0, Value.int IntKind.u8 0, Value.int IntKind.u8 0, Value.int IntKind.u8 0, Value.int IntKind.u8 0, Value.int IntKind.u8 0, Value.int IntKind.u8 0, Value.int IntKind.u8 0, Value.int IntKind.u8 0, Value.int IntKind.u8 0, Value.int IntKind.u8 0, Value.int IntKind.u8 0, Value.int IntKind.u8 0, Value.int IntKind.u8 0, Value.int IntKind.u8 0, Value.int IntKind.u8 0, Value.int IntKind.u8 0, Value.int IntKind.u8 0, Value.int IntKind.u8 0, Value.int IntKind.u8 0, Value.int IntKind.u8 0, Value.int IntKind.u8 0, Value.int IntKind.u8 0, Value.int IntKind.u8 0, Value.int IntKind.u8 0] : Array Value).size = 33 := rfl
  simp only [e, h]
  simp [go_sem]

/-- A part's cells. -/
def partA (u : Nat) (cs : Array Value) : Array Value := (.int .i64 (u : Nat) :: cs.toList).toArray
theorem run_part (u : Nat) {cs : Array Value} (hc : IsC cs) (w : World) : (Instr.build 92 #[(0, .int .i64 (u : Nat)), (1, .agg cs)]).run Try.prog w = .ok (.agg (partA u cs)) w := by
  obtain ⟨p, rfl⟩ := hc
  exact run_build w 92 _ _ (builtC (u : Int) p)
theorem run_partRow (u : Nat) {cs : Array Value} (hc : IsC cs) (w : World) : (Instr.buildSlice 89 1 #[(0, .agg (partA u cs))]).run Try.prog w = .ok (.slice (some ⟨w.heap.size, 0, none⟩) 1 1) (w.alloc (.cells (partA u cs) 92)) := by
  obtain ⟨p, rfl⟩ := hc
  unfold partA
  rw [contA_lit]
  exact row73 _ _ _ _ _ _ _ _ _ _ _ _ _ _ _ _ _ _ _ _ _ _ _ _ _ _ _ _ _ _ _ _ _ w
theorem wpList_buildP {ops : Array Oper} {rest : List Oper} {op : Oper} {a : Act} {w : World} {Q : Exit → Act → World → Prop} (hgd : op.guard = none) (x y : Operand) (ho : op.op = .build 92 #[(0, x), (1, y)])
    {u : Nat} {cs : Array Value} (hx : a.eval x = .int .i64 (u : Nat)) (hy : a.eval y = .agg cs) (hc : IsC cs)
    (h : wpList Try.prog ops Q rest (a.put op.dst (.agg (partA u cs))) w) : wpList Try.prog ops Q (op :: rest) a w :=
  wpList_plain hgd fun _ hK => by
    unfold Oper.wp execOp
    simp only [ho]
    have e : (#[(0, x), (1, y)] : Array (Nat × Operand)).map (fun (i, z) => (i, a.eval z)) = #[(0, .int .i64 (u : Nat)), (1, .agg cs)] := by simp [hx, hy]
    rw [e]
    simp only [Sem.run_bind, run_part u hc w, Result.andThen_ok, Sem.run_pure]
    exact hK _ _ h
theorem wpList_rowP {ops : Array Oper} {rest : List Oper} {op : Oper} {a : Act} {w : World} {Q : Exit → Act → World → Prop} (hgd : op.guard = none) (x : Operand) (ho : op.op = .buildSlice 89 1 #[(0, x)])
    {u : Nat} {cs : Array Value} (hx : a.eval x = .agg (partA u cs)) (hc : IsC cs)
    (h : wpList Try.prog ops Q rest (a.put op.dst (.slice (some ⟨w.heap.size, 0, none⟩) 1 1)) (w.alloc (.cells (partA u cs) 92))) : wpList Try.prog ops Q (op :: rest) a w :=
  wpList_plain hgd fun _ hK => by
    unfold Oper.wp execOp
    simp only [ho]
    have e : (#[(0, x)] : Array (Nat × Operand)).map (fun (i, z) => (i, a.eval z)) = #[(0, .agg (partA u cs))] := by simp [hx]
    rw [e]
    simp only [Sem.run_bind, run_partRow u hc w, Result.andThen_ok, Sem.run_pure]
    exact hK _ _ h
end Go.Proofs.Ytbenfmhcpipehaa
