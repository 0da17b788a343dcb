/-
  Texts of this claim, put together.
-/
import Derived.Test.YtiokbhbggpibpaaHJoinW
/-
  Shard's Append and Cut of chunks that are no set's, and Append of a number that is none.
-/
namespace Go.Proofs.Ytiokbhbggpibpaa
open Go Go.RowKit

set_option maxRecDepth 8000 in
theorem happend_bad {w : World} {v : Value} {L : List Ck} (hv : ChunksAt w v L) (hno : ∀ ps, Good ps → L ≠ chk ps) (hsz : ∀ c ∈ L, c.2.size ≤ 2147483648) (hl : L.length ≤ 1000000) (n : Int) :
    Calls Try.prog 18 #[v, .int .i64 n] w fun e w' => e = .returned (.tuple #[.slice none 0 0, .int .i64 10]) ∧ Below w.heap.size w w' := by
  have hrd := hread_bad hv hno hsz hl
  clear hv hno hsz
  go_enter Try.func18, Try.ntmps18
  go_wp2_with (first
    | (go_at_call 37; refine hrd.mono ?_; rintro e w1 ⟨rfl, hB1⟩))
  go_ret2
  exact ⟨rfl, hB1⟩
set_option maxRecDepth 8000 in
theorem hcut_bad {w : World} {v : Value} {L : List Ck} (hv : ChunksAt w v L) (hno : ∀ ps, Good ps → L ≠ chk ps) (hsz : ∀ c ∈ L, c.2.size ≤ 2147483648) (hl : L.length ≤ 1000000) (n : Int) :
    Calls Try.prog 20 #[v, .int .i64 n] w fun e w' => e = .returned (.tuple #[.slice none 0 0, .int .i64 10]) ∧ Below w.heap.size w w' := by
  have hrd := hread_bad hv hno hsz hl
  clear hv hno hsz
  go_enter Try.func20, Try.ntmps20
  go_wp2_with (first
    | (go_at_call 37; refine hrd.mono ?_; rintro e w1 ⟨rfl, hB1⟩))
  go_ret2
  exact ⟨rfl, hB1⟩
end Go.Proofs.Ytiokbhbggpibpaa
/-
  Shard's Append of a number that is none to be appended.
-/
namespace Go.Proofs.Ytiokbhbggpibpaa
open Go Go.RowKit

theorem addB_no {p : List Nat} {n : Int} {m x : Nat} (hm : max n 0 = (m : Int)) (h : LeastOf (ofN p) m x false) (hno : ¬ ((0 ≤ n ∧ n ≤ 2147483647) ∧ ∀ x ∈ p, (x : Int) < n)) : addB (ofN p) n = false := by
  unfold addB
  by_cases hr : 0 ≤ n ∧ n ≤ 2147483647
  · exfalso
    refine hno ⟨hr, fun y hy => ?_⟩
    have := h.2 y (decide_eq_true hy) rfl
    omega
  · rw [decide_eq_false hr, Bool.false_and]
set_option maxRecDepth 8000 in
set_option maxHeartbeats 8000000 in
theorem happend_arg {w : World} {v : Value} {ps : List (List Nat)} (hv : ChunksAt w v (chk ps)) (hg : Good ps) (hl : ps.length ≤ 10000) {n : Int} (hn2 : n ≤ 9223372036854775807) (hno : ¬ ((0 ≤ n ∧ n ≤ 2147483647) ∧ ∀ x ∈ ps.flatten, (x : Int) < n)) :
    Calls Try.prog 18 #[v, .int .i64 n] w fun e w' => e = .returned (.tuple #[.slice none 0 0, .int .i64 1]) ∧ Below w.heap.size w w' := by
  have hnot := run_notH
  have hrd := hread_ok hv hg (by omega)
  obtain ⟨p0, c0, rfl⟩ := hv.shape
  rw [chk_len] at hv hrd ⊢
  obtain ⟨m, hm⟩ : ∃ m, ps.length = m := ⟨_, rfl⟩
  have HM : Hid (ps.length = m) := hm
  rw [hm] at hv hrd hl ⊢
  clear hm hv
  have hmi : (m : Int) ≤ 10000 := by omega
  obtain ⟨f, hf⟩ : ∃ f : Nat, max n 0 = (f : Int) := ⟨(max n 0).toNat, by omega⟩
  have hfm : f ≤ 9223372036854775807 := by omega
  have HF : Hid (max n 0 = (f : Int)) := hf
  have HO : Hid (¬ ((0 ≤ n ∧ n ≤ 2147483647) ∧ ∀ x ∈ ps.flatten, (x : Int) < n)) := hno
  clear hf hno
  go_enter Try.func18, Try.ntmps18
  go_wp2_with fail
  refine hrd.mono ?_
  rintro e w1 ⟨q, Bs, rfl, hq, hS, hB1⟩
  clear hrd
  go_wp2_with fail
  refine (new_any (w := w1) (v := .slice none 0 0) (l := []) (.inl ⟨rfl, none, 0, rfl⟩) (by simp) (by simp)).mono ?_
  rintro e w2 ⟨b0, rfl, mo0, hs0, hb0, hm0, hB2⟩
  have e0 : ofInts [] = ofN [] := ofInts_ofN (p := []) ⟨List.Pairwise.nil, fun x hx => by simp at hx⟩
  rw [e0] at hs0
  clear e0
  have hBw := below_new hB1 hB2
  by_cases hz : ps = []
  · subst hz
    have hm0' : m = 0 := HM.out.symm
    subst hm0'
    have hlow : w.heap.size ≤ b0 := by have := hB1.size; omega
    have hlowm : ∀ m, mo0 = some m → w.heap.size ≤ m := fun m h => by have := hm0 m h; have := hB1.size; omega
    clear hS hq hb0 hm0
    have hlt := least_any hs0.view n f HF.out hfm
    go_wp2_with fail
    refine hlt.mono ?_
    rintro e w3 ⟨x3, b3, rfl, hle, hB3⟩
    clear hlt
    have hst3 := hs0.below hB3
    have had := add_any hst3 n hn2
    cases b3 with
    | true =>
      clear had hle
      go_wp2_with fail
      go_ret2
      exact ⟨rfl, below_new hBw hB3⟩
    | false =>
      rw [addB_no HF.out hle HO.out] at had
      clear hle
      go_wp2_with fail
      refine had.mono ?_
      rintro e w4 ⟨rfl, mo4, hs4, hn4, ho4⟩
      clear had
      have hB4 := OnlyS.fresh (below_new hBw hB3) ho4 hlow hlowm
      clear hs4 hn4 ho4
      go_wp2_with fail
      go_ret2
      exact ⟨rfl, hB4⟩
  · obtain ⟨qs, pt, hps, hq64, hnp, hp1, hp64, hlen, hfull⟩ := hg.last hz
    rw [HM.out] at hlen
    obtain ⟨k, hk⟩ : ∃ k, qs.length = k := ⟨_, rfl⟩
    rw [hk] at hlen hfull
    have hki : (m : Int) - 1 = (k : Int) := by omega
    have hkm : (k : Int) < m := by omega
    have hmpos : 0 < m := by omega
    have hpk : ps[k]? = some pt := by rw [hps, ← hk]; simp
    obtain ⟨⟨bt, mt⟩, hbt⟩ : ∃ x, Bs[k]? = some x := ⟨_, List.getElem?_eq_getElem (by rw [hS.len, HM.out]; omega)⟩
    have hst0 := (hS.sets k _ _ hbt hpk).below hB2
    have hlo := hS.low _ (List.mem_of_getElem? hbt)
    have hlow : w.heap.size ≤ bt := hlo bt (.inl rfl)
    have hlowm : ∀ m, mt = some m → w.heap.size ≤ m := fun m h => hlo m (.inr h)
    have hcq : w2.cell? ⟨q, k, none⟩ = some (.pointer (some ⟨bt, 0, none⟩)) := by
      rw [(below_holds hB2 hq).cell k]
      unfold ptrs
      simp [hbt]
    have HP : Hid (¬ ((0 ≤ n ∧ n ≤ 2147483647) ∧ ∀ x ∈ pt, (x : Int) < n)) := fun ⟨h1, h2⟩ => HO.out ⟨h1, fun x hx => by
      have hfl : ps.flatten = qs.flatten ++ pt := by rw [hps, List.flatten_append]; simp
      rw [hfl] at hx
      rcases List.mem_append.1 hx with hx | hx
      · have hr := hg.nums.rises
        rw [hfl] at hr
        have hm := head_mem hp1
        have h3 := (List.pairwise_append.1 hr).2.2 x hx _ hm
        have h4 := h2 _ hm
        omega
      · exact h2 x hx⟩
    clear hS hq hb0 hm0 hs0 hps hlo hk hpk hbt hlen hfull
    have hlt := least_any hst0.view n f HF.out hfm
    go_wp2_with fail
    refine hlt.mono ?_
    rintro e w3 ⟨x3, b3, rfl, hle, hB3⟩
    clear hlt
    have hst3 := hst0.below hB3
    have had := add_any hst3 n hn2
    cases b3 with
    | true =>
      clear had hle
      go_wp2_with fail
      go_ret2
      exact ⟨rfl, below_new hBw hB3⟩
    | false =>
      rw [addB_no HF.out hle HP.out] at had
      clear hle
      go_wp2_with fail
      refine had.mono ?_
      rintro e w4 ⟨rfl, mo4, hs4, hn4, ho4⟩
      clear had
      have hB4 := OnlyS.fresh (below_new hBw hB3) ho4 hlow hlowm
      clear hs4 hn4 ho4
      go_wp2_with fail
      go_ret2
      exact ⟨rfl, hB4⟩
end Go.Proofs.Ytiokbhbggpibpaa
