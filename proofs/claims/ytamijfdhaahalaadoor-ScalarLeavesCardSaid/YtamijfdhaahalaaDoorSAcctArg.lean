/-
  An account that comes in as an argument, by value.
-/
import Derived.Test.YtamijfdhaahalaaDoorSAcctW
import Derived.ProofKit
import Derived.LaidMore
import Derived.OpenShut
import Derived.ChangeOld
namespace Go.Proofs.YtamijfdhaahalaaDoor
open Go.ChangeShapes Go.WideShapes Go.ChangeAt Go.RowKit

theorem cellsAcct : Tryd.prog.cellsOf 33 = 4 := by kernel_rfl
theorem cellsStrA : Tryd.prog.cellsOf 9 = 1 := by kernel_rfl
theorem cellsU64A : Tryd.prog.cellsOf 31 = 1 := by kernel_rfl
theorem cellsIntA : Tryd.prog.cellsOf 3 = 1 := by kernel_rfl
theorem underStrA : Tryd.prog.underlying 9 = some .string := by kernel_rfl
theorem underU64A : Tryd.prog.underlying 31 = some (.int .u64) := by kernel_rfl
theorem underIntA : Tryd.prog.underlying 3 = some (.int .i64) := by kernel_rfl

theorem len4 {α : Type} : ∀ l : List α, l.length = 4 → ∃ a b c d, l = [a, b, c, d]
  | [a, b, c, d], _ => ⟨a, b, c, d, rfl⟩
  | [], h => by simp at h
  | [_], h => by simp at h
  | [_, _], h => by simp at h
  | [_, _, _], h => by simp at h
  | _ :: _ :: _ :: _ :: _ :: _, h => by simp at h

set_option maxRecDepth 100000 in
theorem open_acct {H : Type} {enc : TypeId × Value → H} {w : World} {b0 : Nat} {r : Reach} {v : Value} {d : DataW H} {p : List MemPlace}
    (hv : Value.okWide Tryd.prog w r b0 33 v) (h : DataW.Trod enc Tryd.prog w 0 (fun _ => true) true 33 v d p) : ∃ (n : Nat) (b c : ByteArray) (z : Int), v = .agg (acct n b c z) ∧ n < 18446744073709551616 ∧ -9223372036854775808 ≤ z ∧ z ≤ 9223372036854775807 := by
  simp only [Value.okWide, Tryd.underlying33] at hv
  obtain ⟨cs, rfl, hsz, _⟩ := hv
  obtain ⟨fuel, hf⟩ := h
  obtain ⟨xs, m, hm, _, hl, hlen, hel⟩ := DataW.trod_struct Tryd.underlying33 hf
  rw [cellsAcct] at hl
  have hx4 : xs.length = 4 := hlen
  have f0 : DataW.trod enc Tryd.prog w 0 (fun _ => true) true m 31 (((Value.agg cs).cells.toList.drop 0).take (Tryd.prog.cellsOf 31)) = xs[0]? := hel 0 _ rfl
  have f1 : DataW.trod enc Tryd.prog w 0 (fun _ => true) true m 9 (((Value.agg cs).cells.toList.drop 1).take (Tryd.prog.cellsOf 9)) = xs[1]? := hel 1 _ rfl
  have f2 : DataW.trod enc Tryd.prog w 0 (fun _ => true) true m 9 (((Value.agg cs).cells.toList.drop 2).take (Tryd.prog.cellsOf 9)) = xs[2]? := hel 2 _ rfl
  have f3 : DataW.trod enc Tryd.prog w 0 (fun _ => true) true m 3 (((Value.agg cs).cells.toList.drop 3).take (Tryd.prog.cellsOf 3)) = xs[3]? := hel 3 _ rfl
  rw [cellsU64A, List.getElem?_eq_getElem (by omega)] at f0
  rw [cellsStrA, List.getElem?_eq_getElem (by omega)] at f1 f2
  rw [cellsIntA, List.getElem?_eq_getElem (by omega)] at f3
  have hcs : (Value.agg cs).cells.toList = cs.toList := rfl
  rw [hcs] at f0 f1 f2 f3 hl
  obtain ⟨l⟩ := cs
  have hll : l.length = 4 := by simpa using hl
  obtain ⟨x0, x1, x2, x3, rfl⟩ := len4 l hll
  clear hel hf hsz
  simp only [List.drop_zero, List.take_succ_cons, List.take_zero, List.drop_succ_cons] at f0 f1 f2 f3
  obtain ⟨y0, e0, _, w0⟩ := DataW.trod_int underU64A f0
  obtain ⟨y1, e1, _⟩ := DataW.trod_string underStrA f1
  obtain ⟨y2, e2, _⟩ := DataW.trod_string underStrA f2
  obtain ⟨y3, e3, _, w3⟩ := DataW.trod_int underIntA f3
  injection e0 with e0 _
  injection e1 with e1 _
  injection e2 with e2 _
  injection e3 with e3 _
  have g0 : 0 ≤ y0 ∧ y0 ≤ 18446744073709551615 := by simpa [Lit.wf, IntKind.min, IntKind.max, IntKind.signed, IntKind.bits] using w0
  have g3 : -9223372036854775808 ≤ y3 ∧ y3 ≤ 9223372036854775807 := by simpa [Lit.wf, IntKind.min, IntKind.max, IntKind.signed, IntKind.bits] using w3
  obtain ⟨n, rfl⟩ := Int.eq_ofNat_of_zero_le g0.1
  refine ⟨n, y1, y2, y3, ?_, by omega, g3.1, g3.2⟩
  rw [e0, e1, e2, e3]
  rfl
end Go.Proofs.YtamijfdhaahalaaDoor
