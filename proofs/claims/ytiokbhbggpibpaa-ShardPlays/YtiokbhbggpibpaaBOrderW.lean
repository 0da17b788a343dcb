/-
  BitsetOrder's walk.
-/
import Derived.Test.YtiokbhbggpibpaaBAwake
namespace Go.Proofs.Ytiokbhbggpibpaa
open Go Go.RowKit Go.Maps

theorem ofInts_congr {l m : List Int} (h : ∀ x, x ∈ l ↔ x ∈ m) : ofInts l = ofInts m := by
  funext n
  unfold ofInts
  rw [Bool.eq_iff_iff]
  simp [h]
theorem addB_mem {l : List Int} {x : Int} (h : x ∈ l) : addB (ofInts l) x = false := by
  unfold addB ofInts
  by_cases hx : 0 ≤ x ∧ x ≤ 2147483647
  · have : ((x.toNat : Nat) : Int) = x := by omega
    rw [this]
    simp [h]
    omega
  · rw [decide_eq_false hx]; rfl
theorem addM_drop {l : List Int} {k : Nat} {x : Int} (h : l[k]? = some x) : addM (ofInts (l.drop (k + 1))) x = ofInts (l.drop k) := by
  rw [addM_ofInts]
  refine ofInts_congr fun y => ?_
  have hk := (List.getElem?_eq_some_iff.1 h).1
  rw [List.drop_eq_getElem_cons hk]
  rw [List.getElem?_eq_getElem hk] at h
  injection h with h
  rw [h]
  simp [or_comm]
theorem addM_mem {l : List Int} {x : Int} (h : x ∈ l) : addM (ofInts l) x = ofInts l := by
  rw [addM_ofInts]
  refine ofInts_congr fun y => ?_
  simp
  rintro rfl
  exact h

set_option maxRecDepth 8000 in
/-- Add of what is a member, or may be none. -/
theorem add_no {w : World} {b : Nat} {mo : Option Nat} {M : Nat → Bool} (h : SetAt w b mo M) (n : Int) (hn : n ≤ 9223372036854775807) (hno : addB M n = false) :
    Calls Try.prog 27 #[.pointer (some ⟨b, 0, none⟩), .int .i64 n] w fun e w' => e = .returned (.bool false) ∧ Below w.heap.size w w' := by
  by_cases h0 : 0 ≤ n
  · by_cases h1 : n ≤ 2147483647
    · obtain ⟨k, rfl⟩ := Int.eq_ofNat_of_zero_le h0
      have hm : M k = true := by
        unfold addB at hno
        rw [decide_eq_true ⟨h0, h1⟩, Int.toNat_natCast] at hno
        simpa using hno
      have hh := has5_any h.view (k : Int) (by omega)
      rw [hasI_pos, hm] at hh
      have hni : ¬ (k : Int) < 0 := by omega
      have hni2 : ¬ (2147483647 : Int) < k := by omega
      clear hno
      go_enter Try.func27, Try.ntmps27
      go_wp2_with (first
        | (go_at_call 33; refine hh.mono ?_; rintro e w1 ⟨rfl, hB1⟩))
      go_ret
      exact ⟨rfl, hB1⟩
    · have hni : ¬ n < 0 := by omega
      have hni2 : (2147483647 : Int) < n := by omega
      clear hno
      go_enter Try.func27, Try.ntmps27
      go_wp2_with fail
      go_ret
      exact ⟨rfl, Below.refl _ _⟩
  · have hni : n < 0 := by omega
    clear hno
    go_enter Try.func27, Try.ntmps27
    go_wp2_with fail
    go_ret
    exact ⟨rfl, Below.refl _ _⟩

/-- A slice of integers' number. -/
theorem IntsAt.at {w : World} {p : Option Addr} {n c : Nat} {l : List Int} (h : IntsAt w (.slice p n c) l) {i : Nat} (hi : i < l.length) : ∃ b o, p = some ⟨b, o, none⟩ ∧ ∀ j x, l[j]? = some x → w.cell? ⟨b, o + j, none⟩ = some (.int .i64 x) := by
  rcases h with ⟨h, _⟩ | ⟨b, o, c', h1, h2⟩
  · rw [h] at hi; simp at hi
  · injection h1 with e1 e2 e3
    refine ⟨b, o, e1, fun j x hj => ?_⟩
    have hl := (List.getElem?_eq_some_iff.1 hj).1
    rw [h2 j hl, List.getD_eq_getElem?_getD, hj]
    rfl
theorem IntsAt.cut {w : World} {b o n c : Nat} {l : List Int} (h : IntsAt w (.slice (some ⟨b, o, none⟩) n c) l) (k : Nat) (hk : k ≤ l.length) : IntsAt w (.slice (some ⟨b, o, none⟩) k c) (l.take k) := by
  have hlen : (l.take k).length = k := by rw [List.length_take]; omega
  rcases h with ⟨h, _⟩ | ⟨b', o', c', h1, h2⟩
  · subst h
    simp at hk
    subst hk
    exact .inl ⟨by simp, _, _, rfl⟩
  · injection h1 with e1 e2 e3
    injection e1 with e1
    injection e1 with e4 e5
    subst e3 e4 e5
    refine .inr ⟨b, o, c, by rw [hlen], fun i hi => ?_⟩
    rw [hlen] at hi
    rw [h2 i (by omega)]
    simp [List.getD_eq_getElem?_getD, hi]
theorem IntsAt.len {w : World} {p : Option Addr} {n c : Nat} {l : List Int} (h : IntsAt w (.slice p n c) l) : l.length = n := by
  rcases h with ⟨h, p', c', h2⟩ | ⟨b', o', c', h1, h2⟩
  · injection h2 with _ e _; rw [h, e]; rfl
  · injection h1 with _ e _; exact e.symm
end Go.Proofs.Ytiokbhbggpibpaa
