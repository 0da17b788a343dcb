/-
  What BitsetPlays leans on: the list of a set's members, with one more.
-/
import Derived.Test.YtbenfmhcpipehaaBAskP
namespace Go.Proofs.Ytbenfmhcpipehaa
open Go Go.RowKit Go.Maps

theorem insN_bound {M : Nat → Bool} (hM : ∀ n, M n = true → n < 2147483648) {m : Nat} (hm : m < 2147483648) : ∀ n, insN M m n = true → n < 2147483648 := fun n h => by
  unfold insN at h
  simp at h
  rcases h with rfl | h
  · exact hm
  · exact hM n h
theorem ins_list {L : List Nat} {m k : Nat} (hr : L.Pairwise (· < ·)) (hno : m ∉ L) (hp : Place L m k) : (insL L m k).Pairwise (· < ·) ∧ ∀ x, x ∈ insL L m k ↔ x = m ∨ x ∈ L := by
  obtain ⟨hk, h1, h2⟩ := hp
  have hdr : ∀ x ∈ L.drop k, m < x := fun x hx => by
    obtain ⟨j, hj⟩ := List.getElem?_of_mem hx
    rw [List.getElem?_drop] at hj
    have hjl := (List.getElem?_eq_some_iff.1 hj).1
    have hxm : x ∈ L := List.mem_of_getElem? hj
    have hne : x ≠ m := fun e => hno (e ▸ hxm)
    have hkz := h2 _ (List.getElem?_eq_getElem (show k < L.length by omega))
    by_cases e : j = 0
    · subst e
      rw [Nat.add_zero, List.getElem?_eq_getElem (by omega)] at hj
      injection hj with hj
      omega
    · have := List.pairwise_iff_getElem.1 hr k (k + j) (by omega) hjl (by omega)
      rw [List.getElem?_eq_getElem hjl] at hj
      injection hj with hj
      omega
  constructor
  · unfold insL
    refine List.pairwise_append.2 ⟨List.pairwise_append.2 ⟨hr.sublist (List.take_sublist _ _), List.pairwise_singleton _ _, fun a ha b hb => by rw [List.mem_singleton.1 hb]; exact h1 a ha⟩, hr.sublist (List.drop_sublist _ _), fun a ha b hb => ?_⟩
    have h3 := hdr b hb
    rcases List.mem_append.1 ha with h | h
    · have := h1 a h; omega
    · rw [List.mem_singleton.1 h]; exact h3
  · intro x
    unfold insL
    have hsp : x ∈ L ↔ x ∈ L.take k ∨ x ∈ L.drop k := by
      conv => lhs; rw [← List.take_append_drop k L]
      rw [List.mem_append]
    rw [List.mem_append, List.mem_append, List.mem_singleton, hsp]
    constructor
    · rintro ((h | h) | h)
      · exact .inr (.inl h)
      · exact .inl h
      · exact .inr (.inr h)
    · rintro (h | h | h)
      · exact .inl (.inr h)
      · exact .inl (.inl h)
      · exact .inr h
theorem ins_mem {M : Nat → Bool} (hM : ∀ n, M n = true → n < 2147483648) {m k : Nat} (hm : m < 2147483648) (hno : m ∉ memFrom M 0) (hp : Place (memFrom M 0) m k) : insL (memFrom M 0) m k = memFrom (insN M m) 0 := by
  have hl := ins_list (memFrom_rises M 0) hno hp
  refine eq_of_rising hl.1 (memFrom_rises _ _) fun x => ?_
  rw [hl.2, mem_memFrom hM, mem_memFrom (insN_bound hM hm)]
  unfold insN
  simp
end Go.Proofs.Ytbenfmhcpipehaa
