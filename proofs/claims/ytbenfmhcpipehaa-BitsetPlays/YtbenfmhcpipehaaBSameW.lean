/-
  What same does.
-/
import Derived.Test.YtbenfmhcpipehaaBOrderW
namespace Go.Proofs.Ytbenfmhcpipehaa
open Go Go.RowKit Go.Maps

theorem eq_step {l m : List Int} {i : Nat} {x : Int} (h : l.take i = m.take i) (hl : l[i]? = some x) (hm : m[i]? = some x) : l.take (i + 1) = m.take (i + 1) := by
  have h1 := (List.getElem?_eq_some_iff.1 hl).1
  have h2 := (List.getElem?_eq_some_iff.1 hm).1
  rw [List.take_succ_eq_append_getElem h1, List.take_succ_eq_append_getElem h2, h]
  rw [List.getElem?_eq_getElem h1] at hl
  rw [List.getElem?_eq_getElem h2] at hm
  injection hl with hl
  injection hm with hm
  rw [hl, hm]

set_option maxRecDepth 8000 in
set_option maxHeartbeats 1000000 in
theorem same_any {w : World} {p q : Option Addr} {n n' c c' : Nat} {l m : List Int} (hl : IntsAt w (.slice p n c) l) (hm : IntsAt w (.slice q n' c') m) (hn : n ≤ 9223372036854775807) (hn' : n' ≤ 9223372036854775807) :
    Calls Try.prog 18 #[.slice p n c, .slice q n' c'] w fun e w' => e = .returned (.bool (decide (l = m))) ∧ Below w.heap.size w w' := by
  have h1 := hl.len
  have h2 := hm.len
  by_cases hne : n = n'
  · have hnei : (n : Int) = n' := by omega
    subst hne
    go_enter Try.func18, Try.ntmps18
    go_wp2_with fail
    go_loopw [5] (fun y wr => ∃ i : Nat, y = .int .i64 (i : Nat) ∧ i ≤ n ∧ l.take i = m.take i ∧ Below w.heap.size w wr) (fun y _ => n - (intOf y).toNat)
    case atStart => exact ⟨0, rfl, Nat.zero_le _, rfl, Below.refl _ _⟩
    case round =>
      obtain ⟨i, rfl, hi, ht, hB⟩ := hrel
      by_cases hin : i < n
      · have hini : (i : Int) < n := by omega
        have hi0 : (0 : Int) ≤ i := by omega
        obtain ⟨b, o, rfl, hc1⟩ := (hl.below hB).at (i := i) (by omega)
        obtain ⟨b2, o2, rfl, hc2⟩ := (hm.below hB).at (i := i) (by omega)
        obtain ⟨x, hx⟩ : ∃ x, l[i]? = some x := ⟨_, List.getElem?_eq_getElem (by omega)⟩
        obtain ⟨y, hy⟩ : ∃ y, m[i]? = some y := ⟨_, List.getElem?_eq_getElem (by omega)⟩
        have cx := hc1 i x hx
        have cy := hc2 i y hy
        clear hc1 hc2
        by_cases hxy : x = y
        · subst hxy
          have hst := eq_step ht hx hy
          clear hx hy
          go_wp2_with fail
          go_quiet (fail)
          go_wp2_with fail
          refine ⟨⟨i + 1, by simp, by omega, hst, below_drewN hB _⟩, by simp [intOf]; omega⟩
        · have hd : l ≠ m := fun e => by rw [e, hy] at hx; injection hx with hx; exact hxy hx.symm
          clear hx hy
          go_wp2_with fail
          go_quiet (fail)
          go_wp2_with fail
          go_ret
          exact ⟨by simp [hd], below_drewN hB _⟩
      · have hini : ¬ (i : Int) < n := by omega
        obtain rfl : i = n := by omega
        have he : l = m := by rw [List.take_of_length_le (by omega), List.take_of_length_le (by omega)] at ht; exact ht
        go_wp2_with fail
        go_ret
        exact ⟨by simp, hB⟩
  · have hnei : ¬ (n : Int) = n' := by omega
    have hd : l ≠ m := fun e => hne (by rw [← h1, ← h2, e])
    go_enter Try.func18, Try.ntmps18
    go_wp2_with fail
    go_ret
    exact ⟨by simp [hd], Below.refl _ _⟩
end Go.Proofs.Ytbenfmhcpipehaa
