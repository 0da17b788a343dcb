/-
  A block's bytes as a slice: from a place on; up to a place.
-/
import Derived.Test.YtjbenoaefjlbaaaDoorMsg
namespace Go.Proofs.YtjbenoaefjlbaaaDoor
open Go.RowKit

theorem info136' : Tryd.prog.underlying 57 = some (.array 136 5) := by kernel_rfl
theorem arr136 : Tryd.prog.arrayLen 57 = 136 := by kernel_rfl
theorem elm136 : Tryd.prog.elem 57 = 5 := by kernel_rfl
theorem ht136 : Tryd.prog.underlying 57 = some (.array (Tryd.prog.arrayLen 57) (Tryd.prog.elem 57)) := by rw [arr136, elm136]; exact info136'
theorem infoU8 : (Tryd.prog.info? 5).map (·.size) = some 1 := by kernel_rfl
theorem underBytes : Tryd.prog.underlying 42 = some (.slice 5) := by kernel_rfl
theorem sizeU8 (w : World) : (Go.sizeOf 5).run Tryd.prog w = .ok 1 w := by
  have h := infoU8
  cases hq : Tryd.prog.info? 5 with
  | none => simp [hq] at h
  | some i =>
    have hi : i.size = 1 := by simpa [hq] using h
    simp [Go.sizeOf, typeInfo, hq, hi]

theorem run_from (w : World) (b o m : Nat) (hm : m < 136) :
    (Instr.sliceAt 57 (.pointer (some ⟨b, o, none⟩)) (some (.int .i64 (m : Nat))) none none).run Tryd.prog w = .ok (.slice (some ⟨b, o + m, none⟩) (136 - m) (136 - m)) w := by
  rw [run_sliceAt_array_l w 57 _ ht136 .i64 m (by omega) (by rw [arr136]; omega), elm136, sizeU8, Result.andThen_ok, arr136]
  unfold slicedAt
  rw [if_neg (by simp; omega), Addr.add_mid]
  simp
theorem run_upto (w : World) (b o m : Nat) (hm : m < 136) :
    (Instr.sliceAt 57 (.pointer (some ⟨b, o, none⟩)) none (some (.int .i64 (m : Nat))) none).run Tryd.prog w = .ok (.slice (some ⟨b, o, none⟩) m 136) w := by
  rw [run_sliceAt_array_h w 57 _ ht136 .i64 m (by omega) (by rw [arr136]; omega), elm136, sizeU8, Result.andThen_ok, arr136]
  unfold slicedAt
  rw [if_neg (by simp), Addr.add_mid]
  simp
theorem run_whole (w : World) (b o : Nat) :
    (Instr.sliceAt 57 (.pointer (some ⟨b, o, none⟩)) none none none).run Tryd.prog w = .ok (.slice (some ⟨b, o, none⟩) 136 136) w := by
  rw [run_sliceAt_array_all w 57 _ ht136, elm136, sizeU8, Result.andThen_ok, arr136]
  unfold slicedAt
  rw [if_neg (by simp), Addr.add_mid]
  simp

theorem wpStill_from {ops : Array Oper} {rest : List Oper} {op : Oper} {a : Act} {w : World} {Q : Act → Prop} (hgd : op.guard = none) (x y : Operand) (ho : op.op = .slice 57 x (some y) none none)
    (b o m : Nat) (hm : m < 136) (hx : a.eval x = .pointer (some ⟨b, o, none⟩)) (hy : a.eval y = .int .i64 (m : Nat))
    (h : wpStill Tryd.prog ops w Q rest (a.put op.dst (.slice (some ⟨b, o + m, none⟩) (136 - m) (136 - m)))) : wpStill Tryd.prog ops w Q (op :: rest) a :=
  wpStill_step fun _ hK => by
    rw [if_pos (by simp [Region.wanted, hgd])]
    unfold Oper.still execOp
    simp only [ho, hx, hy, Option.map_some, Option.map_none, run_from w b o m hm, Sem.run_bind, Sem.run_pure, Result.andThen_ok]
    exact ⟨rfl, hK _ h⟩
theorem wpStill_upto {ops : Array Oper} {rest : List Oper} {op : Oper} {a : Act} {w : World} {Q : Act → Prop} (hgd : op.guard = none) (x y : Operand) (ho : op.op = .slice 57 x none (some y) none)
    (b o m : Nat) (hm : m < 136) (hx : a.eval x = .pointer (some ⟨b, o, none⟩)) (hy : a.eval y = .int .i64 (m : Nat))
    (h : wpStill Tryd.prog ops w Q rest (a.put op.dst (.slice (some ⟨b, o, none⟩) m 136))) : wpStill Tryd.prog ops w Q (op :: rest) a :=
  wpStill_step fun _ hK => by
    rw [if_pos (by simp [Region.wanted, hgd])]
    unfold Oper.still execOp
    simp only [ho, hx, hy, Option.map_some, Option.map_none, run_upto w b o m hm, Sem.run_bind, Sem.run_pure, Result.andThen_ok]
    exact ⟨rfl, hK _ h⟩
theorem wpStill_whole {ops : Array Oper} {rest : List Oper} {op : Oper} {a : Act} {w : World} {Q : Act → Prop} (hgd : op.guard = none) (x : Operand) (ho : op.op = .slice 57 x none none none)
    (b o : Nat) (hx : a.eval x = .pointer (some ⟨b, o, none⟩))
    (h : wpStill Tryd.prog ops w Q rest (a.put op.dst (.slice (some ⟨b, o, none⟩) 136 136))) : wpStill Tryd.prog ops w Q (op :: rest) a :=
  wpStill_step fun _ hK => by
    rw [if_pos (by simp [Region.wanted, hgd])]
    unfold Oper.still execOp
    simp only [ho, hx, Option.map_none, run_whole w b o, Sem.run_bind, Sem.run_pure, Result.andThen_ok]
    exact ⟨rfl, hK _ h⟩

end Go.Proofs.YtjbenoaefjlbaaaDoor
