/-
  '==' on arrays of numbers.
-/
import Derived.Test.YtjdhdeffiigpbaaDoorKB
import Derived.Laws.StructEq
namespace Go.Proofs.YtjdhdeffiigpbaaDoor.K
open Go.RowKit
section
variable {P : Program}

theorem run_equalIn_row (w : World) (d : Nat) (t e : TypeId) (n : Nat) (k k' : IntKind) (ht : P.underlying t = some (.array n e)) (he : P.underlying e = some (.int k')) (hsz : ∀ w, (Go.sizeOf e).run P w = .ok 1 w) (f g : Nat → Int) :
    (Op.equalIn (d + 2) t (.agg (Array.ofFn (n := n) fun i => .int k (f i.val))) (.agg (Array.ofFn (n := n) fun i => .int k (g i.val)))).run P w = .ok ((List.range n).all fun i => f i == g i) w := by
  rw [List.range_eq_range', Op.equalIn]
  simp only [Sem.run_bind, run_underlying ht, Result.andThen_ok, hsz, Std.Legacy.Range.forIn_eq_forIn_range', Std.Legacy.Range.size, Nat.sub_zero, Nat.add_sub_cancel, Nat.div_one]
  have hl : ∀ i ∈ List.range' 0 n 1, i < n := fun i hi => by simpa using (List.mem_range'_1.1 hi).2
  generalize List.range' 0 n 1 = l at hl ⊢
  induction l with
  | nil => simp
  | cons i l ih =>
    have hi : i < n := hl i (by simp)
    have pf : ∀ h : Nat → Int, (part e (Array.ofFn (n := n) fun i => .int k (h i.val)) (i * 1)).run P w = .ok (.int k (h i)) w := fun h => by
      simp [part, isAgg, run_underlying he, hi]
    have pe := run_equalIn_int w d e k k' (f i) (g i) he
    simp only [List.forIn_cons, Sem.run_bind, pf f, pf g, pe, Result.andThen_ok, List.all_cons]
    cases hb : (f i == g i)
    · simp
    · simp only [Bool.not_true, Bool.false_eq_true, if_false, Sem.run_pure, Result.andThen_ok, Bool.true_and]
      exact ih fun j hj => hl j (by simp [hj])
/-- '==' on rows, as an operation of a plain region (it may have a guard). -/
theorem wpList_eql {ops : Array Oper} {rest : List Oper} {op : Oper} {a : Act} {w : World} {Q : Exit → Act → World → Prop} (hw : Region.wanted op (yielded ops a.tmps) = true) (t t' : TypeId) (x y : Operand) (ho : op.op = .binOp .eql t x y t')
    (xs ys : Array Value) (hx : a.eval x = .agg xs) (hy : a.eval y = .agg ys) (r : Bool) (hg : P.eqGuardType P.depth t = false) (he : (Op.equalIn 10000 t (.agg xs) (.agg ys)).run P w = .ok r w)
    (h : wpList P ops Q rest (a.put op.dst (.bool r)) w) : wpList P ops Q (op :: rest) a w :=
  wpList_step fun _ hK => by
    rw [if_pos hw]
    unfold Oper.wp execOp
    have h1 := run_eqGuard_agg (P := P) w .eql t x y xs ys hg
    have h2 := run_eql_struct (P := P) w t xs ys
    rw [he] at h2
    simp only [ho, hx, hy, Sem.run_bind, Sem.run_pure, h1, h2, Result.andThen_ok]
    exact hK _ _ h
/-- '!=' on rows. -/
theorem wpList_neq {ops : Array Oper} {rest : List Oper} {op : Oper} {a : Act} {w : World} {Q : Exit → Act → World → Prop} (hw : Region.wanted op (yielded ops a.tmps) = true) (t t' : TypeId) (x y : Operand) (ho : op.op = .binOp .neq t x y t')
    (xs ys : Array Value) (hx : a.eval x = .agg xs) (hy : a.eval y = .agg ys) (r : Bool) (hg : P.eqGuardType P.depth t = false) (he : (Op.equalIn 10000 t (.agg xs) (.agg ys)).run P w = .ok r w)
    (h : wpList P ops Q rest (a.put op.dst (.bool !r)) w) : wpList P ops Q (op :: rest) a w :=
  wpList_step fun _ hK => by
    rw [if_pos hw]
    unfold Oper.wp execOp
    have h1 := run_eqGuard_agg (P := P) w .neq t x y xs ys hg
    have h2 := run_neq_struct (P := P) w t xs ys
    rw [he] at h2
    simp only [ho, hx, hy, Sem.run_bind, Sem.run_pure, h1, h2, Result.andThen_ok]
    exact hK _ _ h
end

theorem guardSum : Tryd.prog.eqGuardType Tryd.prog.depth 40 = false := by kernel_rfl
theorem guardState : Tryd.prog.eqGuardType Tryd.prog.depth 71 = false := by kernel_rfl
theorem underSum : Tryd.prog.underlying 40 = some (.array 32 5) := by kernel_rfl
theorem underState : Tryd.prog.underlying 71 = some (.array 25 70) := by kernel_rfl
theorem underU8 : Tryd.prog.underlying 5 = some (.int .u8) := by kernel_rfl
theorem underU64 : Tryd.prog.underlying 70 = some (.int .u64) := by kernel_rfl
theorem infoU64 : (Tryd.prog.info? 70).map (·.size) = some 1 := by kernel_rfl
theorem sizeU64 (w : World) : (Go.sizeOf 70).run Tryd.prog w = .ok 1 w := by
  have h := infoU64
  cases hq : Tryd.prog.info? 70 with
  | none => simp [hq] at h
  | some i =>
    have hi : i.size = 1 := by simpa [hq] using h
    simp [Go.sizeOf, typeInfo, hq, hi]
theorem sizeU8' (w : World) : (Go.sizeOf 5).run Tryd.prog w = .ok 1 w := by
  have h : (Tryd.prog.info? 5).map (·.size) = some 1 := by kernel_rfl
  cases hq : Tryd.prog.info? 5 with
  | none => simp [hq] at h
  | some i =>
    have hi : i.size = 1 := by simpa [hq] using h
    simp [Go.sizeOf, typeInfo, hq, hi]

theorem eql_sums (w : World) (B C : Nat → UInt8) : (Op.equalIn 10000 40 (.agg (bytesA 32 B)) (.agg (bytesA 32 C))).run Tryd.prog w = .ok ((List.range 32).all fun i => oct (B i) == oct (C i)) w :=
  run_equalIn_row w 9998 40 5 32 .u8 .u8 underSum underU8 sizeU8' (fun i => oct (B i)) (fun i => oct (C i))
theorem eql_states (w : World) (s r : Nat → BitVec 64) : (Op.equalIn 10000 71 (.agg (lanesA s)) (.agg (lanesA r))).run Tryd.prog w = .ok ((List.range 25).all fun i => lane (s i) == lane (r i)) w :=
  run_equalIn_row w 9998 71 70 25 .u64 .u64 underState underU64 sizeU64 (fun i => lane (s i)) (fun i => lane (r i))
theorem eql_sums_same (w : World) (B : Nat → UInt8) : (Op.equalIn 10000 40 (.agg (bytesA 32 B)) (.agg (bytesA 32 B))).run Tryd.prog w = .ok true w := by
  rw [eql_sums]; congr 1; simp
theorem eql_states_of {s r : Nat → BitVec 64} (h : Same s r) (w : World) : (Op.equalIn 10000 71 (.agg (lanesA s)) (.agg (lanesA r))).run Tryd.prog w = .ok true w := by
  rw [eql_states]
  congr 1
  refine List.all_eq_true.2 fun i hi => ?_
  rw [h i (by simpa using hi)]; simp

end Go.Proofs.YtjdhdeffiigpbaaDoor.K
