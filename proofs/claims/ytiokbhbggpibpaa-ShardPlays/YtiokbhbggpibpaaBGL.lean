/-
  Texts of this claim, put together.
-/
import Derived.Test.YtiokbhbggpibpaaBNilW
import Derived.Test.YtiokbhbggpibpaaBGK
import Derived.Test.YtiokbhbggpibpaaBGreatW
/-
  each: the members from a number on, at most so many.
-/
namespace Go.Proofs.Ytiokbhbggpibpaa
open Go Go.RowKit Go.Maps
attribute [local go_sem] Oper.semAt_some
end Go.Proofs.Ytiokbhbggpibpaa
/-
  What asked leans on: the answers by the list of members.
-/
namespace Go.Proofs.Ytiokbhbggpibpaa
open Go Go.RowKit Go.Maps

theorem from_eq {M : Nat → Bool} (hM : ∀ n, M n = true → n < 2147483648) (f : Int) : (memFrom M 0).filter (fun x : Nat => decide (f ≤ (x : Int))) = memFrom M f.toNat := by
  refine eq_of_rising ((memFrom_rises M 0).sublist List.filter_sublist) (memFrom_rises M _) fun x => ?_
  rw [List.mem_filter, mem_memFrom hM, mem_memFrom hM, decide_eq_true_eq]
  constructor
  · rintro ⟨⟨_, h1⟩, h2⟩; exact ⟨by omega, h1⟩
  · rintro ⟨h1, h2⟩; exact ⟨⟨Nat.zero_le _, h2⟩, by omega⟩
theorem cut_eq {M : Nat → Bool} (hM : ∀ n, M n = true → n < 2147483648) (f : Int) : (memFrom M 0).filter (fun x : Nat => decide ((x : Int) < f)) = memFrom (cutM M f.toNat) 0 := by
  have hC : ∀ n, cutM M f.toNat n = true → n < 2147483648 := fun n h => by unfold cutM at h; simp at h; exact hM n h.1
  refine eq_of_rising ((memFrom_rises M 0).sublist List.filter_sublist) (memFrom_rises _ _) fun x => ?_
  rw [List.mem_filter, mem_memFrom hM, mem_memFrom hC, decide_eq_true_eq]
  unfold cutM
  simp
theorem least_first {M : Nat → Bool} (hM : ∀ n, M n = true → n < 2147483648) {f n : Nat} {b : Bool} (h : LeastOf M f n b) : firstV (memFrom M f) = .tuple #[.int .i64 (n : Nat), .bool b] := by
  have hr := memFrom_rises M f
  cases b with
  | true =>
    obtain ⟨h1, h2, h3⟩ := h
    have hm : n ∈ memFrom M f := (mem_memFrom hM).2 ⟨h2, h1⟩
    cases hL : memFrom M f with
    | nil => rw [hL] at hm; cases hm
    | cons a t =>
      rw [hL] at hm hr
      have ha := (mem_memFrom hM (f := f) (n := a)).1 (by rw [hL]; simp)
      have h4 := h3 a ha.2 rfl ha.1
      have : a = n := by
        rcases List.mem_cons.1 hm with e | e
        · exact e.symm
        · have := (List.pairwise_cons.1 hr).1 n e
          omega
      rw [← this]; rfl
  | false =>
    obtain ⟨rfl, h2⟩ := h
    cases hL : memFrom M f with
    | nil => rfl
    | cons a t =>
      have ha := (mem_memFrom hM (f := f) (n := a)).1 (by rw [hL]; simp)
      have := h2 a ha.2 rfl
      omega
theorem has_mem {M : Nat → Bool} (hM : ∀ n, M n = true → n < 2147483648) (f : Int) : decide (f ∈ (memFrom M 0).map fun x : Nat => (x : Int)) = hasI M f := by
  unfold hasI
  rw [Bool.eq_iff_iff]
  simp only [decide_eq_true_eq, Bool.and_eq_true, List.mem_map]
  constructor
  · rintro ⟨x, hx, rfl⟩
    exact ⟨by omega, ((mem_memFrom hM).1 hx).2⟩
  · rintro ⟨h0, h1⟩
    exact ⟨f.toNat, (mem_memFrom hM).2 ⟨Nat.zero_le _, h1⟩, by omega⟩
theorem great_last {M : Nat → Bool} (hM : ∀ n, M n = true → n < 2147483648) {g : Nat} {ok : Bool} (h : GreatOf M g ok) : (memFrom M 0 = [] ∧ ok = false ∧ g = 0) ∨ (ok = true ∧ 0 < (memFrom M 0).length ∧ (memFrom M 0)[(memFrom M 0).length - 1]? = some g) := by
  rcases h with ⟨rfl, h1, h2⟩ | ⟨rfl, rfl, h⟩
  · refine .inr ⟨rfl, ?_⟩
    have hm : g ∈ memFrom M 0 := (mem_memFrom hM).2 ⟨Nat.zero_le _, h1⟩
    have hp := List.length_pos_of_mem hm
    refine ⟨hp, ?_⟩
    have hr := memFrom_rises M 0
    obtain ⟨z, hz⟩ : ∃ z, (memFrom M 0).getLast? = some z := by
      cases h9 : (memFrom M 0).getLast? with
      | none => rw [List.getLast?_eq_none_iff.1 h9] at hm; cases hm
      | some z => exact ⟨z, rfl⟩
    have hzm := h2 z ((mem_memFrom hM).1 (List.mem_of_getLast? hz)).2
    have := last_max hr hz g hm
    rw [← List.getLast?_eq_getElem?, hz]
    rw [show z = g by omega]
  · refine .inl ⟨?_, rfl, rfl⟩
    cases hL : memFrom M 0 with
    | nil => rfl
    | cons a t =>
      have ha := (mem_memFrom hM (f := 0) (n := a)).1 (by rw [hL]; simp)
      rw [h] at ha
      cases ha.2
end Go.Proofs.Ytiokbhbggpibpaa
