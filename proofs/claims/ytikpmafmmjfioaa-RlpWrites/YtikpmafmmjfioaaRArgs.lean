/-
  A slice of texts and a slice of flags that come in as arguments.
-/
import Derived.Test.YtikpmafmmjfioaaRRPure
import Derived.ProofKit
import Derived.LaidMore
import Derived.OpenShut
import Derived.SliceStrings
import Derived.Deep.Grids
namespace Go.Proofs.Ytikpmafmmjfioaa
open Go.ChangeShapes Go.WideShapes Go.ChangeAt Go.RowKit

theorem underStr : Try.prog.underlying 9 = some .string := by kernel_rfl
theorem cellsStr : Try.prog.cellsOf 9 = 1 := by kernel_rfl
theorem underBools : Try.prog.underlying 46 = some (.slice 4) := by kernel_rfl
theorem underBool : Try.prog.underlying 4 = some .bool := by kernel_rfl
theorem cellsBool : Try.prog.cellsOf 4 = 1 := by kernel_rfl

theorem addr_plain {w : World} {a : Addr} {v : Value} (h : w.cell? (a.add 0) = some v) : ∃ c o, a = ⟨c, o, none⟩ := by
  obtain ⟨c, o, sp⟩ := a
  cases sp with
  | none => exact ⟨c, o, rfl⟩
  | some s =>
    unfold Addr.add at h
    unfold World.cell? at h
    split at h <;> simp_all

theorem open_texts {H : Type} {enc : TypeId × Value → H} {w : World} {b0 : Nat} {r : Reach} {v : Value} {d : DataW H} {p : List MemPlace}
    (hv : Value.okWide Try.prog w r b0 25 v) (h : DataW.Trod enc Try.prog w 0 (fun _ => true) true 25 v d p) : ∃ ps : List ByteArray, Texts w v ps ∧ ps.length ≤ 9223372036854775807 := by
  obtain ⟨a0, len, cap, rfl⟩ := okWide_slice underStrings hv
  obtain ⟨fuel, hf⟩ := h
  rcases open_strings underStrings underStr cellsStr hf with ⟨hcs, _⟩ | ⟨a, l, c, ss, hcs, _, hl, hm, hz, _, hcell, _⟩
  · simp [Value.cells] at hcs
    obtain ⟨rfl, rfl, rfl⟩ := hcs
    exact ⟨[], ⟨none, 0, rfl, fun i hi => by simp at hi⟩, by simp⟩
  · simp [Value.cells] at hcs
    obtain ⟨rfl, rfl, rfl⟩ := hcs
    simp only [if_true] at hz
    refine ⟨ss.take len, ⟨some a, cap, by rw [List.length_take]; congr 1; omega, fun i hi => ?_⟩, by rw [List.length_take]; unfold maxLen at hm; omega⟩
    have hi2 : i < ss.length := by rw [List.length_take] at hi; omega
    have h0 := hcell 0 (by omega)
    obtain ⟨cc, o, rfl⟩ := addr_plain h0
    have h1 := hcell i hi2
    rw [Addr.add_mid] at h1
    refine ⟨cc, o, rfl, World.block_lt_of_cell? w _ h1, ?_⟩
    rw [h1, List.getElem_take]
    simp [List.getD, List.getElem?_eq_getElem hi2]

theorem open_flags {H : Type} {enc : TypeId × Value → H} {w : World} {b0 : Nat} {r : Reach} {v : Value} {d : DataW H} {p : List MemPlace}
    (hv : Value.okWide Try.prog w r b0 46 v) (h : DataW.Trod enc Try.prog w 0 (fun _ => true) true 46 v d p) : ∃ bs : List Bool, Flags w v bs ∧ bs.length ≤ 9223372036854775807 := by
  obtain ⟨a0, len, cap, rfl⟩ := okWide_slice underBools hv
  obtain ⟨fuel, hf⟩ := h
  rcases Go.Deep.open_bools underBools underBool cellsBool hf with ⟨hcs, _⟩ | ⟨a, l, c, B, hcs, _, hl, hm, _, hcell⟩
  · simp [Value.cells] at hcs
    obtain ⟨rfl, rfl, rfl⟩ := hcs
    exact ⟨[], ⟨none, 0, rfl, fun i hi => by simp at hi⟩, by simp⟩
  · simp [Value.cells] at hcs
    obtain ⟨rfl, rfl, rfl⟩ := hcs
    have hlen : ((List.range len).map B).length = len := by simp
    refine ⟨(List.range len).map B, ⟨some a, cap, by rw [hlen], fun i hi => ?_⟩, by rw [hlen]; unfold maxLen at hm; omega⟩
    rw [hlen] at hi
    have h0 := hcell 0 (by omega)
    obtain ⟨cc, o, rfl⟩ := addr_plain h0
    have h1 := hcell i (by omega)
    rw [Addr.add_mid] at h1
    refine ⟨cc, o, rfl, World.block_lt_of_cell? w _ h1, ?_⟩
    rw [h1]; simp
end Go.Proofs.Ytikpmafmmjfioaa
