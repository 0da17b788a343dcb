/-
  An array of texts that comes in as an argument, by value; each is short enough.
-/
import Derived.Test.YtbidoangdnmjfaaDoorMOrdP
import Derived.Test.YtbidoangdnmjfaaDoorMDoor
import Derived.RowKit3
import Derived.ChangeOld
import Derived.ProofKit
import Derived.OpenShut
import Derived.WideKeyArr2
namespace Go.Proofs.YtbidoangdnmjfaaDoor
open Go Go.ChangeShapes Go.WideShapes Go.ChangeAt Go.RowKit

theorem underStrM : Tryd.prog.underlying 9 = some .string := by kernel_rfl
theorem cellsStrM : Tryd.prog.cellsOf 9 = 1 := by kernel_rfl
set_option maxRecDepth 4000 in
theorem open_strsM {H : Type} {enc : TypeId × Value → H} {w : World} {base b0 : Nat} {spare : Nat → Bool} {held : Bool} {r : Reach} {v : Value} {d : DataW H} {p : List MemPlace} {t : TypeId} {n : Nat}
    (hu : Tryd.prog.underlying t = some (.array n 9)) (hcl : Tryd.prog.cellsOf t = n)
    (hv : Value.okWide Tryd.prog w r b0 t v) (h : DataW.Trod enc Tryd.prog w base spare held t v d p) : ∃ R : Nat → ByteArray, v = .agg (strA n R) ∧ ∀ i, (R i).size ≤ 9223372036854775807 := by
  simp only [Value.okWide, hu] at hv
  obtain ⟨cs, rfl, hsz, _⟩ := hv
  rw [hcl] at hsz
  obtain ⟨fuel, hf⟩ := h
  obtain ⟨xs, m, rfl, _, _, hn, hel⟩ := DataW.trod_array hu hf
  have key : ∀ i, i < n → ∃ x : ByteArray, cs[i]? = some (.string x) ∧ x.size ≤ 9223372036854775807 := fun i hi => by
    have h0 := hel i hi
    rw [List.getElem?_eq_getElem (by omega), cellsStrM, Nat.mul_one] at h0
    obtain ⟨x, e1, _, hx⟩ := DataW.trod_string underStrM h0
    refine ⟨x, ?_, by unfold maxLen at hx; omega⟩
    have e2 : ((cs.toList.drop i).take 1)[0]? = some (.string x) := by
      show ((((Value.agg cs).cells.toList).drop i).take 1)[0]? = _
      rw [e1]; rfl
    rw [List.getElem?_take, if_pos (by omega), List.getElem?_drop, Nat.add_zero, Array.getElem?_toList] at e2
    exact e2
  refine ⟨fun i => if h : i < n then (key i h).choose else ⟨#[]⟩, congrArg _ ?_, fun i => ?_⟩
  · apply Array.ext_getElem?
    intro i
    by_cases hi : i < n
    · rw [strA_get n _ i hi]
      refine (key i hi).choose_spec.1.trans ?_
      simp [hi]
    · rw [Array.getElem?_eq_none (by omega), Array.getElem?_eq_none (by rw [strA_size]; omega)]
  · by_cases hi : i < n
    · simp only [dif_pos hi]
      exact (key i hi).choose_spec.2
    · simp only [dif_neg hi]
      exact Nat.zero_le _
theorem under16M : Tryd.prog.underlying 51 = some (.array 16 9) := by kernel_rfl
theorem cells16M : Tryd.prog.cellsOf 51 = 16 := by kernel_rfl
end Go.Proofs.YtbidoangdnmjfaaDoor
