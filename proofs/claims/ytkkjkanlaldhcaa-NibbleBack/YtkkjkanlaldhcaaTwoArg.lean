/-
  Two flags that come in as an argument, by value.
-/
import Derived.Test.YtkkjkanlaldhcaaProg
import Derived.RowKit3
import Derived.ChangeOld
import Derived.ProofKit
import Derived.OpenShut
import Derived.WideKeyArr2
namespace Go.Proofs.Ytkkjkanlaldhcaa
open Go.ChangeShapes Go.WideShapes Go.ChangeAt Go.RowKit

theorem cellsTwo : Try.prog.cellsOf 35 = 2 := by kernel_rfl
theorem cellsBool : Try.prog.cellsOf 4 = 1 := by kernel_rfl
theorem underTwo : Try.prog.underlying 35 = some (.array 2 4) := by kernel_rfl
theorem underBool : Try.prog.underlying 4 = some .bool := by kernel_rfl
theorem open_two {H : Type} {enc : TypeId × Value → H} {w : World} {base b0 : Nat} {spare : Nat → Bool} {held : Bool} {r : Reach} {v : Value} {d : DataW H} {p : List MemPlace}
    (hv : Value.okWide Try.prog w r b0 35 v) (h : DataW.Trod enc Try.prog w base spare held 35 v d p) : ∃ x y : Bool, v = .agg #[.bool x, .bool y] := by
  simp only [Value.okWide, underTwo] at hv
  obtain ⟨cs, rfl, hsz, _⟩ := hv
  rw [cellsTwo] at hsz
  obtain ⟨fuel, hf⟩ := h
  obtain ⟨xs, m, rfl, _, _, hn, hel⟩ := DataW.trod_array underTwo hf
  have key : ∀ i, i < 2 → ∃ x : Bool, cs[i]? = some (.bool x) := fun i hi => by
    have h0 := hel i hi
    rw [List.getElem?_eq_getElem (by omega), cellsBool, Nat.mul_one] at h0
    obtain ⟨x, e1, _⟩ := DataW.trod_bool underBool h0
    refine ⟨x, ?_⟩
    have e2 : ((cs.toList.drop i).take 1)[0]? = some (.bool x) := by
      show ((((Value.agg cs).cells.toList).drop i).take 1)[0]? = _
      rw [e1]; rfl
    rw [List.getElem?_take, if_pos (by omega), List.getElem?_drop, Nat.add_zero, Array.getElem?_toList] at e2
    exact e2
  obtain ⟨x, hx⟩ := key 0 (by omega)
  obtain ⟨y, hy⟩ := key 1 (by omega)
  refine ⟨x, y, congrArg _ ?_⟩
  apply Array.ext_getElem?
  intro i
  match i with
  | 0 => exact hx
  | 1 => exact hy
  | i + 2 => rw [Array.getElem?_eq_none (by omega), Array.getElem?_eq_none (by simp)]
end Go.Proofs.Ytkkjkanlaldhcaa
