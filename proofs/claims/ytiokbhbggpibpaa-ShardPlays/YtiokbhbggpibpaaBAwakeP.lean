/-
  How many members a set has; the set of the chapter's example.
-/
import Derived.Test.YtiokbhbggpibpaaBGI
import Derived.Test.YtiokbhbggpibpaaBGF
import Derived.Test.YtiokbhbggpibpaaBLeastW
namespace Go.Proofs.Ytiokbhbggpibpaa
open Go Go.RowKit Go.Maps

theorem flatMap_filter_len {g : Nat → Bool} {h : Nat → List Nat} : ∀ N, (((List.range N).filter g).flatMap h).length = sumU (fun u => if g u then (h u).length else 0) N
  | 0 => by simp [sumU]
  | N + 1 => by
    rw [List.range_succ, List.filter_append, List.flatMap_append, List.length_append, flatMap_filter_len N, sumU]
    cases hg : g N <;> simp [hg]
theorem card_len (M : Nat → Bool) : card M = (memFrom M 0).length := by
  unfold memFrom uppers
  rw [flatMap_filter_len]
  unfold card
  refine sumU_congr fun u _ => ?_
  have hl : (ofU M 0 u).length = cnt (atU M u) := by
    unfold ofU
    rw [List.length_map, cnt_lows]
    simp
  rw [hl]
  by_cases e : liveB M u = true
  · simp [e]
  · have : cnt (atU M u) = 0 := by
      refine Nat.eq_zero_of_not_pos fun q => ?_
      obtain ⟨l, h1, h2⟩ := cnt_pos.1 q
      exact e (liveB_iff.2 ⟨l, h1, h2⟩)
    simp [e, this]

/-- The chapter's example. -/
def M0 : Nat → Bool := ofInts [5, 300, 5, -1]
theorem M0_iff {n : Nat} : M0 n = true ↔ n = 5 ∨ n = 300 := by
  unfold M0 ofInts
  simp
  omega
theorem M0_bound : ∀ n, M0 n = true → n < 2147483648 := fun n h => by
  rcases M0_iff.1 h with rfl | rfl <;> decide
theorem mem_M0 : memFrom M0 0 = [5, 300] := by
  refine eq_of_rising (memFrom_rises _ _) (by decide) fun n => ?_
  rw [mem_memFrom M0_bound, M0_iff]
  simp
theorem card_M0 : card M0 = 2 := by rw [card_len, mem_M0]; rfl
theorem cut_M0 : card (cutM M0 6) = 1 := by
  have hb : ∀ n, cutM M0 6 n = true → n < 2147483648 := fun n h => M0_bound n (by unfold cutM at h; simp at h; exact h.1)
  have : memFrom (cutM M0 6) 0 = [5] := by
    refine eq_of_rising (memFrom_rises _ _) (by decide) fun n => ?_
    rw [mem_memFrom hb]
    unfold cutM
    simp [M0_iff]
    omega
  rw [card_len, this]; rfl
theorem least_M0 {n : Nat} {b : Bool} (h : LeastOf M0 6 n b) : n = 300 ∧ b = true := by
  cases b with
  | true =>
    obtain ⟨h1, h2, h3⟩ := h
    rcases M0_iff.1 h1 with rfl | rfl
    · omega
    · exact ⟨rfl, rfl⟩
  | false =>
    have := h.2 300 (M0_iff.2 (.inr rfl)) rfl
    omega
theorem least_M0' {n : Nat} {b : Bool} (h : LeastOf M0 301 n b) : b = false := by
  cases b with
  | true =>
    obtain ⟨h1, h2, h3⟩ := h
    rcases M0_iff.1 h1 with rfl | rfl <;> omega
  | false => rfl
theorem lows_M0 (u : Nat) (hu : u < 2) : lowsL (atU M0 u) 0 = [5 + 39 * u] := by
  refine eq_of_rising (lowsL_rises _ _) (by simp) fun n => ?_
  rw [mem_lowsL]
  unfold atU
  rw [M0_iff]
  simp
  omega
theorem uppers_M0 : uppers M0 0 = [0, 1] := by
  refine eq_of_rising (uppers_rises _ _) (by decide) fun u => ?_
  rw [mem_uppers]
  constructor
  · rintro ⟨_, _, l, h1, h2⟩
    rcases M0_iff.1 h2 with h | h
    · simp; omega
    · simp; omega
  · intro h
    simp at h
    rcases h with rfl | rfl
    · exact ⟨by decide, by decide, 5, by decide, M0_iff.2 (.inl rfl)⟩
    · exact ⟨by decide, by decide, 44, by decide, M0_iff.2 (.inr rfl)⟩
theorem bytes_M0 : bytesM M0 = [0, 0, 0, 0, 5, 0, 0, 1, 0, 44] := by
  unfold bytesM
  rw [uppers_M0]
  have h0 := lows_M0 0 (by decide)
  have h1 := lows_M0 1 (by decide)
  have c0 : cnt (atU M0 0) = 1 := by rw [cnt_lows, h0]; rfl
  have c1 : cnt (atU M0 1) = 1 := by rw [cnt_lows, h1]; rfl
  simp only [List.flatMap_cons, List.flatMap_nil, partB, bodyB, lowB, c0, c1, h0, h1]
  decide
end Go.Proofs.Ytiokbhbggpibpaa
