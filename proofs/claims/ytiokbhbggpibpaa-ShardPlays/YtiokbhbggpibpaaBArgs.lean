/-
  Slices of integers among the arguments.
-/
import Derived.Test.YtiokbhbggpibpaaBSetW
import Derived.ProofKit
import Derived.ChangeSlices
import Derived.ChangeOld
namespace Go.Proofs.Ytiokbhbggpibpaa
open Go Go.ChangeShapes Go.WideShapes Go.ChangeAt Go.RowKit

theorem underIntSl : Try.prog.underlying 22 = some (.slice 3) := by kernel_rfl
theorem underInt1 : Try.prog.underlying 3 = some (.int .i64) := by kernel_rfl
theorem cellsInt1 : Try.prog.cellsOf 3 = 1 := by kernel_rfl
theorem addr_plain {w : World} {a : Addr} {v : Value} (h : w.cell? (a.add 0) = some v) : ∃ c o, a = ⟨c, o, none⟩ := by
  obtain ⟨c, o, sp⟩ := a
  cases sp with
  | none => exact ⟨c, o, rfl⟩
  | some s =>
    unfold Addr.add at h
    unfold World.cell? at h
    split at h <;> simp_all
theorem int_i64 {a : Int} (h : (Lit.int .i64 a).wf = true) : -9223372036854775808 ≤ a ∧ a ≤ 9223372036854775807 := by
  simp only [Lit.wf, Bool.and_eq_true, decide_eq_true_eq] at h
  have h1 : IntKind.i64.min = -9223372036854775808 := rfl
  have h2 : IntKind.i64.max = 9223372036854775807 := rfl
  rw [h1, h2] at h
  exact h

set_option maxRecDepth 100000 in
theorem open_nums {H : Type} {enc : TypeId × Value → H} {w : World} {b0 : Nat} {r : Reach} {v : Value} {d : DataW H} {p : List MemPlace}
    (hv : Value.okWide Try.prog w r b0 22 v) (h : DataW.Trod enc Try.prog w 0 (fun _ => true) true 22 v d p) :
    ∃ (a : Option Addr) (n c : Nat) (l : List Int), v = .slice a n c ∧ IntsAt w (.slice a n c) l ∧ n ≤ c ∧ c ≤ 9223372036854775807 ∧ ∀ x ∈ l, -9223372036854775808 ≤ x ∧ x ≤ 9223372036854775807 := by
  obtain ⟨a0, len, cap, rfl⟩ := okWide_slice underIntSl hv
  obtain ⟨fuel, hf⟩ := h
  rcases open_ints underIntSl underInt1 cellsInt1 hf with ⟨hcs, _⟩ | ⟨a, l, c, zs, hcs, _, hl, hm, hz, _, hcell, hwf⟩
  · simp [Value.cells] at hcs
    obtain ⟨rfl, rfl, rfl⟩ := hcs
    exact ⟨none, 0, 0, [], rfl, .inl ⟨rfl, none, 0, rfl⟩, by omega, by omega, by simp⟩
  · simp [Value.cells] at hcs
    obtain ⟨rfl, rfl, rfl⟩ := hcs
    simp only [if_true] at hz
    have hlen : (zs.take len).length = len := by rw [List.length_take]; omega
    refine ⟨some a, len, cap, zs.take len, rfl, ?_, hl, by unfold maxLen at hm; omega, fun x hx => int_i64 (hwf x (List.mem_of_mem_take hx))⟩
    by_cases h0 : len = 0
    · subst h0
      exact .inl ⟨by simp, _, _, rfl⟩
    · obtain ⟨cc, o, rfl⟩ := addr_plain (hcell 0 (by omega))
      refine .inr ⟨cc, o, cap, by rw [hlen], fun i hi => ?_⟩
      rw [hlen] at hi
      have h1 := hcell i (by omega)
      rw [Addr.add_mid] at h1
      rw [h1]
      simp [List.getD_eq_getElem?_getD, hi]
end Go.Proofs.Ytiokbhbggpibpaa
