/-
  A slice of texts that comes in as an argument.
-/
import Derived.Test.YtooednielegmnaaDoorDoor
import Derived.SliceStrings
namespace Go.Proofs.YtooednielegmnaaDoor
open Go.ChangeShapes Go.WideShapes Go.ChangeAt Go.RowKit

theorem underStrings : Tryd.prog.underlying 31 = some (.slice 9) := by kernel_rfl
theorem underStr : Tryd.prog.underlying 9 = some .string := by kernel_rfl
theorem cellsStr : Tryd.prog.cellsOf 9 = 1 := by kernel_rfl

theorem addr_plain {w : World} {a : Addr} {v : Value} (h : w.cell? (a.add 0) = some v) : ∃ c o, a = ⟨c, o, none⟩ := by
  obtain ⟨c, o, sp⟩ := a
  cases sp with
  | none => exact ⟨c, o, rfl⟩
  | some s =>
    unfold Addr.add at h
    unfold World.cell? at h
    split at h <;> simp_all

theorem open_texts {H : Type} {enc : TypeId × Value → H} {w : World} {b0 : Nat} {r : Reach} {v : Value} {d : DataW H} {p : List MemPlace}
    (hv : Value.okWide Tryd.prog w r b0 31 v) (h : DataW.Trod enc Tryd.prog w 0 (fun _ => true) true 31 v d p) : ∃ ps : List ByteArray, Texts w v ps ∧ ps.length ≤ maxLen := by
  obtain ⟨a0, len, cap, rfl⟩ := okWide_slice underStrings hv
  obtain ⟨fuel, hf⟩ := h
  rcases open_strings underStrings underStr cellsStr hf with ⟨hcs, _⟩ | ⟨a, l, c, ss, hcs, _, hl, hm, hz, _, hcell, _⟩
  · simp [Value.cells] at hcs
    obtain ⟨rfl, rfl, rfl⟩ := hcs
    exact ⟨[], ⟨none, 0, rfl, fun i hi => by simp at hi⟩, by simp⟩
  · simp [Value.cells] at hcs
    obtain ⟨rfl, rfl, rfl⟩ := hcs
    simp only [if_true] at hz
    refine ⟨ss.take len, ⟨some a, cap, by rw [List.length_take]; congr 1; omega, fun i hi => ?_⟩, by rw [List.length_take]; omega⟩
    have hi2 : i < ss.length := by rw [List.length_take] at hi; omega
    have h0 := hcell 0 (by omega)
    obtain ⟨cc, o, rfl⟩ := addr_plain h0
    have h1 := hcell i hi2
    rw [Addr.add_mid] at h1
    refine ⟨cc, o, rfl, World.block_lt_of_cell? w _ h1, ?_⟩
    rw [h1, List.getElem_take]
    simp [List.getD, List.getElem?_eq_getElem hi2]

end Go.Proofs.YtooednielegmnaaDoor
