/-
  Texts of this claim, put together.
-/
import Derived.Test.YtiokbhbggpibpaaBGL
import Derived.Test.YtiokbhbggpibpaaBGK
import Derived.Test.YtiokbhbggpibpaaHLaw
/-
  What BitsetPlays leans on: the list of a set's members, with one more.
-/
namespace Go.Proofs.Ytiokbhbggpibpaa
open Go Go.RowKit Go.Maps

theorem insN_bound {M : Nat → Bool} (hM : ∀ n, M n = true → n < 2147483648) {m : Nat} (hm : m < 2147483648) : ∀ n, insN M m n = true → n < 2147483648 := fun n h => by
  unfold insN at h
  simp at h
  rcases h with rfl | h
  · exact hm
  · exact hM n h
theorem ins_list {L : List Nat} {m k : Nat} (hr : L.Pairwise (· < ·)) (hno : m ∉ L) (hp : Place L m k) : (insL L m k).Pairwise (· < ·) ∧ ∀ x, x ∈ insL L m k ↔ x = m ∨ x ∈ L := by
  obtain ⟨hk, h1, h2⟩ := hp
  have hdr : ∀ x ∈ L.drop k, m < x := fun x hx => by
    obtain ⟨j, hj⟩ := List.getElem?_of_mem hx
    rw [List.getElem?_drop] at hj
    have hjl := (List.getElem?_eq_some_iff.1 hj).1
    have hxm : x ∈ L := List.mem_of_getElem? hj
    have hne : x ≠ m := fun e => hno (e ▸ hxm)
    have hkz := h2 _ (List.getElem?_eq_getElem (show k < L.length by omega))
    by_cases e : j = 0
    · subst e
      rw [Nat.add_zero, List.getElem?_eq_getElem (by omega)] at hj
      injection hj with hj
      omega
    · have := List.pairwise_iff_getElem.1 hr k (k + j) (by omega) hjl (by omega)
      rw [List.getElem?_eq_getElem hjl] at hj
      injection hj with hj
      omega
  constructor
  · unfold insL
    refine List.pairwise_append.2 ⟨List.pairwise_append.2 ⟨hr.sublist (List.take_sublist _ _), List.pairwise_singleton _ _, fun a ha b hb => by rw [List.mem_singleton.1 hb]; exact h1 a ha⟩, hr.sublist (List.drop_sublist _ _), fun a ha b hb => ?_⟩
    have h3 := hdr b hb
    rcases List.mem_append.1 ha with h | h
    · have := h1 a h; omega
    · rw [List.mem_singleton.1 h]; exact h3
  · intro x
    unfold insL
    have hsp : x ∈ L ↔ x ∈ L.take k ∨ x ∈ L.drop k := by
      conv => lhs; rw [← List.take_append_drop k L]
      rw [List.mem_append]
    rw [List.mem_append, List.mem_append, List.mem_singleton, hsp]
    constructor
    · rintro ((h | h) | h)
      · exact .inr (.inl h)
      · exact .inl h
      · exact .inr (.inr h)
    · rintro (h | h | h)
      · exact .inl (.inr h)
      · exact .inl (.inl h)
      · exact .inr h
theorem ins_mem {M : Nat → Bool} (hM : ∀ n, M n = true → n < 2147483648) {m k : Nat} (hm : m < 2147483648) (hno : m ∉ memFrom M 0) (hp : Place (memFrom M 0) m k) : insL (memFrom M 0) m k = memFrom (insN M m) 0 := by
  have hl := ins_list (memFrom_rises M 0) hno hp
  refine eq_of_rising hl.1 (memFrom_rises _ _) fun x => ?_
  rw [hl.2, mem_memFrom hM, mem_memFrom (insN_bound hM hm)]
  unfold insN
  simp
end Go.Proofs.Ytiokbhbggpibpaa
/-
  The document's Of: the members of a list of numbers, rising.
-/
namespace Go.Proofs.Ytiokbhbggpibpaa
open Go Go.RowKit Go.Maps

theorem OwnInts.kept {w w' : World} {v : Value} {L : List Nat} (h : OwnInts w 0 v L) (hb : ∀ g, v.ownBlock = some g → w'.heap[g]? = w.heap[g]?) : OwnInts w' 0 v L := by
  refine ⟨h.1, h.2.imp id ?_⟩
  rintro ⟨g, cap, cur, rfl, h1, h2, h3⟩
  exact ⟨g, cap, cur, rfl, h1, (hb g rfl).trans h2, h3⟩
theorem OwnInts.block {w : World} {v : Value} {L : List Nat} (h : OwnInts w 0 v L) {g : Nat} (hg : v.ownBlock = some g) : g < w.heap.size ∧ ∃ cur, w.heap[g]? = some (.cells cur 3 (0, 0)) := by
  rcases h.2 with ⟨rfl, _⟩ | ⟨g', cap, cur, rfl, _, h2, _⟩
  · cases hg
  · simp [Value.ownBlock] at hg
    subst hg
    exact ⟨(Array.getElem?_eq_some_iff.1 h2).1, cur, h2⟩
theorem OwnInts.below0 {w w' : World} {v : Value} {L : List Nat} (h : OwnInts w 0 v L) (hB : Below w.heap.size w w') : OwnInts w' 0 v L :=
  h.kept fun _ hg => hB.block _ (h.block hg).1
/-- The document's Add. -/
theorem qadd_any {w : World} {v : Value} {M : Nat → Bool} (hv : OwnInts w 0 v (memFrom M 0)) (hM : ∀ n, M n = true → n < 2147483648) (hln : (memFrom M 0).length ≤ 1000000) (n : Int) :
    Calls Try.prog 35 #[v, .int .i64 n] w fun e w' => ∃ v', e = .returned (.tuple #[v', .bool (addB M n)]) ∧ OwnInts w' 0 v' (memFrom (addM M n) 0) ∧ Below w.heap.size w w' := by
  by_cases hok : 0 ≤ n ∧ n ≤ 2147483647
  · obtain ⟨k, rfl⟩ := Int.eq_ofNat_of_zero_le hok.1
    have e2 : addM M (k : Int) = insN M k := by unfold addM; rw [if_pos hok, Int.toNat_natCast]
    cases hm : M k with
    | false =>
      have e1 : addB M (k : Int) = true := by unfold addB; rw [decide_eq_true hok, Int.toNat_natCast, hm]; rfl
      have hno : k ∉ memFrom M 0 := fun h => by rw [((mem_memFrom hM).1 h).2] at hm; cases hm
      refine (qadd_yes hv hln k (by omega) hno).mono ?_
      rintro e w' ⟨v', p, rfl, h1, h2, h3⟩
      rw [ins_mem hM (by omega) hno h2] at h1
      rw [e1, e2]
      exact ⟨v', rfl, h1, h3⟩
    | true =>
      have e1 : addB M (k : Int) = false := by unfold addB; rw [Int.toNat_natCast, hm]; simp
      refine (qadd_no hv hln (k : Int) (.inr (.inr (List.mem_map.2 ⟨k, (mem_memFrom hM).2 ⟨Nat.zero_le _, hm⟩, rfl⟩)))).mono ?_
      rintro e w' ⟨rfl, h3⟩
      rw [e1, e2, insN_same hm]
      exact ⟨v, rfl, hv.below0 h3, h3⟩
  · have e1 : addB M n = false := by unfold addB; rw [decide_eq_false hok]; rfl
    have e2 : addM M n = M := by unfold addM; rw [if_neg hok]
    refine (qadd_no hv hln n (by omega)).mono ?_
    rintro e w' ⟨rfl, h3⟩
    rw [e1, e2]
    exact ⟨v, rfl, hv.below0 h3, h3⟩

set_option maxRecDepth 8000 in
theorem qof_any {w : World} {v : Value} {l : List Int} (hv : IntsAt w v l) (hl : l.length ≤ 100000) :
    Calls Try.prog 10 #[v] w fun e w' => ∃ v', e = .returned v' ∧ OwnInts w' 0 v' (memFrom (ofInts l) 0) ∧ Below w.heap.size w w' := by
  obtain ⟨p, c, rfl⟩ := hv.lenH
  obtain ⟨n, hn⟩ : ∃ n, l.length = n := ⟨_, rfl⟩
  have HN : Hid (l.length = n) := hn
  rw [hn] at hv hl ⊢
  clear hn
  have hni : (n : Int) ≤ 100000 := by omega
  have h0 : OwnInts w 0 (.slice none 0 0) (memFrom (ofInts (l.take 0)) 0) := by
    have : memFrom (ofInts (l.take 0)) 0 = [] := by
      have := ints_card (l.take 0)
      exact List.eq_nil_of_length_eq_zero (by simpa using this)
    rw [this]
    exact World.ownsRow_nil _ _ _ _
  go_enter Try.func10, Try.ntmps10
  go_wp2_with fail
  go_loopw [3, 4] (fun x y wr => ∃ k : Nat, k ≤ n ∧ y = .int .i64 (k : Nat) ∧ OwnInts wr 0 x (memFrom (ofInts (l.take k)) 0) ∧ Below w.heap.size w wr) (fun _ y _ => n - (intOf y).toNat)
  case atStart => exact ⟨0, Nat.zero_le _, rfl, h0, Below.refl _ _⟩
  case round =>
    clear h0
    obtain ⟨k, hk, rfl, ho, hB⟩ := hrel
    by_cases hkn : k < n
    · have hki : (k : Int) < n := by omega
      obtain ⟨t, ht⟩ : ∃ t, l[k]? = some t := ⟨_, List.getElem?_eq_getElem (by rw [HN.out]; exact hkn)⟩
      obtain ⟨gx, ox, rfl, ex⟩ := (hv.below hB).get ht
      have hadd := qadd_any ho (ofInts_bound _) (by have := ints_card (l.take k); rw [List.length_take] at this; omega) t
      rw [addM_ofInts] at hadd
      have HT : Hid (l.take (k + 1) = l.take k ++ [t]) := by show _ = _; rw [List.take_add_one, ht]; rfl
      clear ht ho
      go_wp2_with fail
      refine hadd.mono ?_
      rintro e w1 ⟨v1, rfl, ho1, hB1⟩
      clear hadd
      have F1 : Hid (OwnInts w1 0 v1 (memFrom (ofInts (l.take (k + 1))) 0) ∧ Below w.heap.size w w1) := ⟨by rw [HT.out]; exact ho1, below_new hB hB1⟩
      clear ho1 hB1 hB
      go_wp2_with fail
      exact ⟨⟨k + 1, by omega, by go_num, F1.out.1, F1.out.2⟩, by simp [intOf]; omega⟩
    · have hki : ¬ (k : Int) < n := by omega
      have HE : Hid (l.take k = l) := by show _ = _; exact List.take_of_length_le (by rw [HN.out]; omega)
      go_wp2_with fail
      go_ret
      rw [HE.out] at ho
      exact ⟨_, rfl, ho, hB⟩
end Go.Proofs.Ytiokbhbggpibpaa
