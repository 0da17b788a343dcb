/-
  What the document's Split does.
-/
import Derived.Test.YtamijfdhaahalaaDoorSplitW
namespace Go.Proofs.YtamijfdhaahalaaDoor
open Go Go.RowKit

theorem alone_one (T : List UInt8) (d : UInt8) (h : T = [d]) : alone T = decide (d.toNat < 128) := by rw [h]; rfl
theorem alone_not (T : List UInt8) (h : T.length ≠ 1) : alone T = false := by
  match T, h with
  | [], _ => rfl
  | [_], h => exact absurd rfl h
  | _ :: _ :: _, _ => rfl
theorem wrap_small (n : Int) (h0 : 0 ≤ n) (h1 : n ≤ 9223372036854775807) : IntKind.i64.wrap n = n := by
  simp [IntKind.wrap, IntKind.bits, IntKind.signed]; omega
theorem slice_two (x : ByteArray) (f n : Nat) (i j : Int) (w : World) (hi : i = (f : Int)) (hj : j = (f : Int) + (n : Int)) (h : f + n ≤ x.size) :
    (Instr.slice 9 (.string x) (some (.int .i64 i)) (some (.int .i64 j)) none).run Tryd.prog w = .ok (.string (x.extract f (f + n))) w := by
  rw [run_slice_string w 9 x .i64 .i64 i j (by kernel_rfl) (by omega) (by omega) (by omega), hi, hj, show ((f : Int) + n).toNat = f + n by omega, Int.toNat_natCast]
theorem split_eq (x : ByteArray) (f n : Nat) (ok : Bool) (c : UInt8) (h : rd x.data.toList = (f, n, ok)) (hc : x.data.toList.headD 0 = c) : split x.data.toList = if ok = false ∨ x.size < f + n then none else
      if 0 < f ∧ c.toNat < 192 ∧ alone ((x.data.toList.drop f).take n) = true then none else
      some ((x.data.toList.drop f).take n, decide (192 ≤ c.toNat), x.data.toList.drop (f + n)) := by
  unfold split
  rw [h, hc, ← sizeB]

set_option maxRecDepth 8000 in
set_option maxHeartbeats 2000000 in
theorem refSplit_any (x : ByteArray) (w : World) (hx : x.size < 4611686018427387904) :
    Calls Tryd.prog 85 #[.string x] w fun e w' => e = .returned (splitV (split x.data.toList)) ∧ Below w.heap.size w w' := by
  by_cases h0 : x.size = 0
  · have h0i : (x.size : Int) = 0 := by omega
    have hs : split x.data.toList = none := by rw [show x.data.toList = [] from List.eq_nil_of_length_eq_zero (by rw [sizeB]; exact h0)]; rfl
    rw [hs]
    clear hs
    go_enter Tryd.func85, Tryd.ntmps85
    go_wp2_with fail
    exact bodyPost_ret (results_tmp4 rfl _ _ _) rfl ⟨rfl, Below.refl _ _⟩
  have hp : 0 < x.size := by omega
  have hpi : (0 : Int) < x.size := by omega
  have hp1 : (1 : Int) ≤ x.size := by omega
  have h0i : ¬ (x.size : Int) = 0 := by omega
  obtain ⟨c, r, hl⟩ : ∃ c r, x.data.toList = c :: r := by
    cases hl : x.data.toList with
    | nil => exact absurd (by rw [← sizeB, hl]; rfl) h0
    | cons c r => exact ⟨c, r, rfl⟩
  have hc : x[0] = c := by rw [getB x 0 hp]; simp [hl]
  have hrs : r.length + 1 = x.size := by rw [← sizeB, hl]; rfl
  have hlt := c.toNat_lt
  have hhd : x.data.toList.headD 0 = c := by rw [hl]; rfl
  by_cases h1 : c.toNat < 128
  · have h1i : (c.toNat : Int) < 128 := by omega
    have hr : rd x.data.toList = (0, 1, true) := by rw [hl]; unfold rd; simp only [if_pos h1]
    rw [split_eq x 0 1 true c hr hhd, if_neg (by rintro (q | q) <;> first | (cases q; done) | omega), if_neg (by simp), decide_eq_false (by omega)]
    have hex : x.extract 0 (0 + 1) = ⟨((x.data.toList.drop 0).take 1).toArray⟩ := extract_str x 0 1
    have hey : x.extract (0 + 1) x.size = ⟨(x.data.toList.drop (0 + 1)).toArray⟩ := by
      rw [extract_str, List.take_of_length_le (by rw [List.length_drop, sizeB]; omega)]
    have HE : Hid _ := And.intro hex hey
    clear hr hl hex hey
    go_enter Tryd.func85, Tryd.ntmps85
    go_wp2_with fail
    go_quiet (fail)
    go_wp2
    refine bodyPost_ret (results_tmp4 (t := 2) (u := 3) (v := 4) (s := 5) rfl _ _ _) rfl ⟨?_, below_drewN _ _ _⟩
    exact split_close2 x 0 1 _ _ c false HE.out.1 HE.out.2
  have h1i : ¬ (c.toNat : Int) < 128 := by omega
  obtain ⟨k, hk⟩ : ∃ k, k = (c.toNat - 128) % 64 := ⟨_, rfl⟩
  have hk64 : k < 64 := by omega
  by_cases hL : c.toNat < 192
  · have hLi : ¬ (192 : Int) ≤ c.toNat := by omega
    have hki : (c.toNat : Int) - 128 = (k : Int) := by omega
    by_cases h2 : k < 56
    · have h2i : ¬ (55 : Int) < k := by omega
      have hr : rd x.data.toList = (1, k, true) := by rw [hl]; unfold rd; simp only [if_neg h1, ← hk, if_pos h2]
      have hki0 : (k : Int) < 64 := by omega
      clear hk
      rw [split_eq x 1 k true c hr hhd]
      clear hr hl
      by_cases hz : x.size < 1 + k
      · rw [if_pos (.inr hz)]
        have hzi : (x.size : Int) - 1 < k := by omega
        go_enter Tryd.func85, Tryd.ntmps85
        go_wp2_with fail
        exact bodyPost_ret (results_tmp4 rfl _ _ _) rfl ⟨rfl, Below.refl _ _⟩
      · rw [if_neg (by simp; omega)]
        have hzi : ¬ (x.size : Int) - 1 < k := by omega
        have hex : x.extract 1 (1 + k) = ⟨((x.data.toList.drop 1).take k).toArray⟩ := by rw [extract_str, Nat.add_sub_cancel_left]
        have hey : x.extract (1 + k) x.size = ⟨(x.data.toList.drop (1 + k)).toArray⟩ := by
          rw [extract_str, List.take_of_length_le (by rw [List.length_drop, sizeB]; omega)]
        have hTl : ((x.data.toList.drop 1).take k).length = k := by rw [List.length_take, List.length_drop, sizeB]; omega
        obtain ⟨Z, hZ⟩ : ∃ Z, Z = (x.data.toList.drop 1).take k := ⟨_, rfl⟩
        rw [← hZ] at hex hTl ⊢
        have HE : Hid _ := And.intro hex hey
        have hfa : (0 : Int) ≤ (1 : Int) + (k : Nat) ∧ (1 : Int) + (k : Nat) ≤ x.size := by omega
        have hfb : (1 : Int) ≤ (1 : Int) + (k : Nat) := by omega
        have hfc : (0 : Int) ≤ (1 : Int) + (k : Nat) := hfa.1
        have hfd : (1 : Int) + (k : Nat) ≤ x.size := hfa.2
        have hwr : IntKind.i64.wrap ((1 : Int) + (k : Nat)) = (1 : Int) + (k : Nat) := wrap_small _ (by omega) (by omega)
        have hsl := fun w => slice_two x 1 k (1 : Int) ((1 : Int) + (k : Nat)) w rfl rfl (by omega)
        clear hex hey
        by_cases hn1 : k = 1
        · have hfl : 1 < x.size := by omega
          have hd1 : Z = [x[1]] := by
            rw [hZ, hn1, List.drop_eq_getElem_cons (by exact hfl), getB x 1 hfl]; rfl
          have hal := alone_one Z _ hd1
          have hfi : ((1 : Nat) : Int) < x.size := by omega
          have hn1i : ((k : Nat) : Int) = 1 := by omega
          have hf2 : (2 : Int) ≤ x.size := by omega
          have hwr1 : IntKind.i64.wrap (1 + 1) = 2 := rfl
          have hwr2 : IntKind.i64.wrap 2 = 2 := rfl
          have hsl := fun w => slice_two x 1 1 1 2 w rfl rfl (by omega)
          have hf2a : (0 : Int) ≤ 2 ∧ (2 : Int) ≤ x.size := ⟨by omega, hf2⟩
          have HE1 : Hid (x.extract 1 (1 + 1) = ⟨Z.toArray⟩ ∧ x.extract (1 + 1) x.size = ⟨(x.data.toList.drop (1 + k)).toArray⟩) := by have h7 := HE.out; rw [hn1] at h7 ⊢; exact h7
          have hdl := (x[1]).toNat_lt
          clear hd1 hZ hTl
          by_cases hd : (x[1]).toNat < 128
          · have hdi : ((x[1]).toNat : Int) < 128 := by omega
            rw [if_pos ⟨by omega, by omega, by rw [hal]; simpa using hd⟩]
            clear hal
            go_enter Tryd.func85, Tryd.ntmps85
            go_wp2_with fail
            exact bodyPost_ret (results_tmp4 rfl _ _ _) rfl ⟨rfl, Below.refl _ _⟩
          · have hdi : ¬ ((x[1]).toNat : Int) < 128 := by omega
            rw [if_neg (by rw [hal]; simp; omega), decide_eq_false (by omega)]
            clear hal
            go_enter Tryd.func85, Tryd.ntmps85
            go_wp2_with fail
            go_quiet (fail)
            go_wp2
            refine bodyPost_ret (results_tmp4 (t := 2) (u := 3) (v := 4) (s := 5) rfl _ _ _) rfl ⟨?_, below_drewN _ _ _⟩
            exact split_close2 x 1 1 Z _ c false HE1.out.1 HE1.out.2
        · have hn1i : ¬ ((k : Nat) : Int) = 1 := by omega
          have hal := alone_not Z (by rw [hTl]; exact hn1)
          rw [if_neg (by rw [hal]; simp), decide_eq_false (by omega)]
          clear hal hZ hTl
          go_enter Tryd.func85, Tryd.ntmps85
          go_wp2_with fail
          go_quiet (fail)
          go_wp2
          refine bodyPost_ret (results_tmp4 (t := 2) (u := 3) (v := 4) (s := 5) rfl _ _ _) rfl ⟨?_, below_drewN _ _ _⟩
          exact split_close2 x 1 k Z _ c false HE.out.1 HE.out.2
    · have h2i : (55 : Int) < k := by omega
      obtain ⟨m, hm⟩ : ∃ m, m = k - 55 := ⟨_, rfl⟩
      have hmi : 1 + (k : Int) - 55 = ((m + 1 : Nat) : Int) := by omega
      by_cases h3 : r.length < m
      · have h3i : (x.size : Int) < ((m + 1 : Nat) : Int) := by omega
        have hr : rd x.data.toList = (0, 0, false) := by rw [hl]; unfold rd; simp only [if_neg h1, ← hk, if_neg h2, ← hm, if_pos h3]
        rw [split_eq x 0 0 false c hr hhd, if_pos (.inl rfl)]
        obtain ⟨M, hM⟩ : ∃ M, M = m + 1 := ⟨_, rfl⟩
        rw [← hM] at hmi h3i
        clear hr hl hk hm hM
        go_enter Tryd.func85, Tryd.ntmps85
        go_wp2_with fail
        exact bodyPost_ret (results_tmp4 rfl _ _ _) rfl ⟨rfl, Below.refl _ _⟩
      · have h3i : ¬ (x.size : Int) < ((m + 1 : Nat) : Int) := by omega
        have hr : rd x.data.toList = (m + 1, uintV (r.take m), uintB (r.take m) && decide (56 ≤ uintV (r.take m))) := by
          rw [hl]; unfold rd
          simp only [if_neg h1, ← hk, if_neg h2, ← hm, if_neg h3, show k - 54 = m + 1 by omega]
        have hex : x.extract 1 (m + 1) = ⟨(r.take m).toArray⟩ := by rw [extract_str, hl]; simp
        have hms : ((m + 1 : Nat) : Int) ≤ x.size := by omega
        have hm0 : (1 : Int) ≤ ((m + 1 : Nat) : Int) := by omega
        have hus := uintV_lt (r.take m)
        have hml : (r.take m).length ≤ 8 := by rw [List.length_take]; omega
        obtain ⟨U, hU⟩ : ∃ U, U = uintV (r.take m) := ⟨_, rfl⟩
        obtain ⟨V, hV⟩ : ∃ V, V = uintB (r.take m) := ⟨_, rfl⟩
        obtain ⟨T, hT⟩ : ∃ T, T = r.take m := ⟨_, rfl⟩
        obtain ⟨M, hM⟩ : ∃ M, M = m + 1 := ⟨_, rfl⟩
        rw [← hU, ← hV] at hr
        rw [← hU] at hus
        rw [← hT] at hex hml hU hV
        rw [← hM] at hmi hms hm0 hex hr h3i
        have HU : Hid (U = uintV T) := hU
        have HV : Hid (V = uintB T) := hV
        have hM9 : M ≤ 9 := by omega
        clear hk hT hU hV hm hM h3
        by_cases hV : V = true
        · subst hV
          by_cases hU : 56 ≤ U
          · have hUi : ¬ (U : Int) < 56 := by omega
            rw [decide_eq_true hU, Bool.and_self] at hr
            by_cases hUx : U ≤ x.size
            · have hUxi : ¬ (x.size : Int) < U := by omega
              have hU63 : (U : Int) ≤ 4611686018427387904 := by omega
              rw [split_eq x M U true c hr hhd]
              clear hr hl
              by_cases hz : x.size < M + U
              · rw [if_pos (.inr hz)]
                have hzi : (x.size : Int) - M < U := by omega
                go_enter Tryd.func85, Tryd.ntmps85
                go_wp2_with (first
                  | (go_at_call 46; refine (refUint_any ⟨T.toArray⟩ _ (by show T.toArray.size ≤ _; simp; omega)).mono ?_; rintro e w1 ⟨rfl, rfl⟩; rw [show (⟨T.toArray⟩ : ByteArray).data.toList = T from rfl, ← HU.out, ← HV.out])
                  | fail)
                exact bodyPost_ret (results_tmp4 rfl _ _ _) rfl ⟨rfl, Below.refl _ _⟩
              · rw [if_neg (by simp; omega)]
                have hzi : ¬ (x.size : Int) - M < U := by omega
                have hex : x.extract M (M + U) = ⟨((x.data.toList.drop M).take U).toArray⟩ := by rw [extract_str, Nat.add_sub_cancel_left]
                have hey : x.extract (M + U) x.size = ⟨(x.data.toList.drop (M + U)).toArray⟩ := by
                  rw [extract_str, List.take_of_length_le (by rw [List.length_drop, sizeB]; omega)]
                have hTl : ((x.data.toList.drop M).take U).length = U := by rw [List.length_take, List.length_drop, sizeB]; omega
                obtain ⟨Z, hZ⟩ : ∃ Z, Z = (x.data.toList.drop M).take U := ⟨_, rfl⟩
                rw [← hZ] at hex hTl ⊢
                have HE : Hid _ := And.intro hex hey
                have hfa : (0 : Int) ≤ (M : Int) + (U : Nat) ∧ (M : Int) + (U : Nat) ≤ x.size := by omega
                have hfb : (M : Int) ≤ (M : Int) + (U : Nat) := by omega
                have hfc : (0 : Int) ≤ (M : Int) + (U : Nat) := hfa.1
                have hfd : (M : Int) + (U : Nat) ≤ x.size := hfa.2
                have hwr : IntKind.i64.wrap ((M : Int) + (U : Nat)) = (M : Int) + (U : Nat) := wrap_small _ (by omega) (by omega)
                have hsl := fun w => slice_two x M U (M : Int) ((M : Int) + (U : Nat)) w rfl rfl (by omega)
                clear hex hey
                by_cases hn1 : U = 1
                · exact absurd hn1 (by omega)
                · have hn1i : ¬ ((U : Nat) : Int) = 1 := by omega
                  have hal := alone_not Z (by rw [hTl]; exact hn1)
                  rw [if_neg (by rw [hal]; simp), decide_eq_false (by omega)]
                  clear hal hZ hTl
                  go_enter Tryd.func85, Tryd.ntmps85
                  go_wp2_with (first
                    | (go_at_call 46; refine (refUint_any ⟨T.toArray⟩ _ (by show T.toArray.size ≤ _; simp; omega)).mono ?_; rintro e w1 ⟨rfl, rfl⟩; rw [show (⟨T.toArray⟩ : ByteArray).data.toList = T from rfl, ← HU.out, ← HV.out])
                    | fail)
                  go_quiet (fail)
                  go_wp2
                  refine bodyPost_ret (results_tmp4 (t := 2) (u := 3) (v := 4) (s := 5) rfl _ _ _) rfl ⟨?_, below_drewN _ _ _⟩
                  exact split_close2 x M U Z _ c false HE.out.1 HE.out.2
            · have hUxi : (x.size : Int) < U := by omega
              rw [split_eq x M U true c hr hhd, if_pos (.inr (by omega))]
              clear hr hl
              go_enter Tryd.func85, Tryd.ntmps85
              go_wp2_with (first
                | (go_at_call 46; refine (refUint_any ⟨T.toArray⟩ _ (by show T.toArray.size ≤ _; simp; omega)).mono ?_; rintro e w1 ⟨rfl, rfl⟩; rw [show (⟨T.toArray⟩ : ByteArray).data.toList = T from rfl, ← HU.out, ← HV.out])
                | fail)
              exact bodyPost_ret (results_tmp4 rfl _ _ _) rfl ⟨rfl, Below.refl _ _⟩
          · have hUi : (U : Int) < 56 := by omega
            rw [decide_eq_false hU, Bool.and_false] at hr
            rw [split_eq x M U false c hr hhd, if_pos (.inl rfl)]
            clear hr hl
            go_enter Tryd.func85, Tryd.ntmps85
            go_wp2_with (first
              | (go_at_call 46; refine (refUint_any ⟨T.toArray⟩ _ (by show T.toArray.size ≤ _; simp; omega)).mono ?_; rintro e w1 ⟨rfl, rfl⟩; rw [show (⟨T.toArray⟩ : ByteArray).data.toList = T from rfl, ← HU.out, ← HV.out])
              | fail)
            exact bodyPost_ret (results_tmp4 rfl _ _ _) rfl ⟨rfl, Below.refl _ _⟩
        · have hV : V = false := by simpa using hV
          subst hV
          rw [Bool.false_and] at hr
          rw [split_eq x M U false c hr hhd, if_pos (.inl rfl)]
          clear hr hl
          go_enter Tryd.func85, Tryd.ntmps85
          go_wp2_with (first
            | (go_at_call 46; refine (refUint_any ⟨T.toArray⟩ _ (by show T.toArray.size ≤ _; simp; omega)).mono ?_; rintro e w1 ⟨rfl, rfl⟩; rw [show (⟨T.toArray⟩ : ByteArray).data.toList = T from rfl, ← HU.out, ← HV.out])
            | fail)
          exact bodyPost_ret (results_tmp4 rfl _ _ _) rfl ⟨rfl, Below.refl _ _⟩
  · have hLi : (192 : Int) ≤ c.toNat := by omega
    have hki : (c.toNat : Int) - 192 = (k : Int) := by omega
    by_cases h2 : k < 56
    · have h2i : ¬ (55 : Int) < k := by omega
      have hr : rd x.data.toList = (1, k, true) := by rw [hl]; unfold rd; simp only [if_neg h1, ← hk, if_pos h2]
      have hki0 : (k : Int) < 64 := by omega
      clear hk
      rw [split_eq x 1 k true c hr hhd]
      clear hr hl
      by_cases hz : x.size < 1 + k
      · rw [if_pos (.inr hz)]
        have hzi : (x.size : Int) - 1 < k := by omega
        go_enter Tryd.func85, Tryd.ntmps85
        go_wp2_with fail
        exact bodyPost_ret (results_tmp4 rfl _ _ _) rfl ⟨rfl, Below.refl _ _⟩
      · rw [if_neg (by simp; omega)]
        have hzi : ¬ (x.size : Int) - 1 < k := by omega
        have hex : x.extract 1 (1 + k) = ⟨((x.data.toList.drop 1).take k).toArray⟩ := by rw [extract_str, Nat.add_sub_cancel_left]
        have hey : x.extract (1 + k) x.size = ⟨(x.data.toList.drop (1 + k)).toArray⟩ := by
          rw [extract_str, List.take_of_length_le (by rw [List.length_drop, sizeB]; omega)]
        have hTl : ((x.data.toList.drop 1).take k).length = k := by rw [List.length_take, List.length_drop, sizeB]; omega
        obtain ⟨Z, hZ⟩ : ∃ Z, Z = (x.data.toList.drop 1).take k := ⟨_, rfl⟩
        rw [← hZ] at hex hTl ⊢
        have HE : Hid _ := And.intro hex hey
        have hfa : (0 : Int) ≤ (1 : Int) + (k : Nat) ∧ (1 : Int) + (k : Nat) ≤ x.size := by omega
        have hfb : (1 : Int) ≤ (1 : Int) + (k : Nat) := by omega
        have hfc : (0 : Int) ≤ (1 : Int) + (k : Nat) := hfa.1
        have hfd : (1 : Int) + (k : Nat) ≤ x.size := hfa.2
        have hwr : IntKind.i64.wrap ((1 : Int) + (k : Nat)) = (1 : Int) + (k : Nat) := wrap_small _ (by omega) (by omega)
        have hsl := fun w => slice_two x 1 k (1 : Int) ((1 : Int) + (k : Nat)) w rfl rfl (by omega)
        clear hex hey
        clear hZ hTl
        rw [if_neg (by simp; omega), decide_eq_true (by omega)]
        go_enter Tryd.func85, Tryd.ntmps85
        go_wp2_with fail
        go_quiet (fail)
        go_wp2
        refine bodyPost_ret (results_tmp4 (t := 2) (u := 3) (v := 4) (s := 5) rfl _ _ _) rfl ⟨?_, below_drewN _ _ _⟩
        exact split_close2 x 1 k Z _ c true HE.out.1 HE.out.2
    · have h2i : (55 : Int) < k := by omega
      obtain ⟨m, hm⟩ : ∃ m, m = k - 55 := ⟨_, rfl⟩
      have hmi : 1 + (k : Int) - 55 = ((m + 1 : Nat) : Int) := by omega
      by_cases h3 : r.length < m
      · have h3i : (x.size : Int) < ((m + 1 : Nat) : Int) := by omega
        have hr : rd x.data.toList = (0, 0, false) := by rw [hl]; unfold rd; simp only [if_neg h1, ← hk, if_neg h2, ← hm, if_pos h3]
        rw [split_eq x 0 0 false c hr hhd, if_pos (.inl rfl)]
        obtain ⟨M, hM⟩ : ∃ M, M = m + 1 := ⟨_, rfl⟩
        rw [← hM] at hmi h3i
        clear hr hl hk hm hM
        go_enter Tryd.func85, Tryd.ntmps85
        go_wp2_with fail
        exact bodyPost_ret (results_tmp4 rfl _ _ _) rfl ⟨rfl, Below.refl _ _⟩
      · have h3i : ¬ (x.size : Int) < ((m + 1 : Nat) : Int) := by omega
        have hr : rd x.data.toList = (m + 1, uintV (r.take m), uintB (r.take m) && decide (56 ≤ uintV (r.take m))) := by
          rw [hl]; unfold rd
          simp only [if_neg h1, ← hk, if_neg h2, ← hm, if_neg h3, show k - 54 = m + 1 by omega]
        have hex : x.extract 1 (m + 1) = ⟨(r.take m).toArray⟩ := by rw [extract_str, hl]; simp
        have hms : ((m + 1 : Nat) : Int) ≤ x.size := by omega
        have hm0 : (1 : Int) ≤ ((m + 1 : Nat) : Int) := by omega
        have hus := uintV_lt (r.take m)
        have hml : (r.take m).length ≤ 8 := by rw [List.length_take]; omega
        obtain ⟨U, hU⟩ : ∃ U, U = uintV (r.take m) := ⟨_, rfl⟩
        obtain ⟨V, hV⟩ : ∃ V, V = uintB (r.take m) := ⟨_, rfl⟩
        obtain ⟨T, hT⟩ : ∃ T, T = r.take m := ⟨_, rfl⟩
        obtain ⟨M, hM⟩ : ∃ M, M = m + 1 := ⟨_, rfl⟩
        rw [← hU, ← hV] at hr
        rw [← hU] at hus
        rw [← hT] at hex hml hU hV
        rw [← hM] at hmi hms hm0 hex hr h3i
        have HU : Hid (U = uintV T) := hU
        have HV : Hid (V = uintB T) := hV
        have hM9 : M ≤ 9 := by omega
        clear hk hT hU hV hm hM h3
        by_cases hV : V = true
        · subst hV
          by_cases hU : 56 ≤ U
          · have hUi : ¬ (U : Int) < 56 := by omega
            rw [decide_eq_true hU, Bool.and_self] at hr
            by_cases hUx : U ≤ x.size
            · have hUxi : ¬ (x.size : Int) < U := by omega
              have hU63 : (U : Int) ≤ 4611686018427387904 := by omega
              rw [split_eq x M U true c hr hhd]
              clear hr hl
              by_cases hz : x.size < M + U
              · rw [if_pos (.inr hz)]
                have hzi : (x.size : Int) - M < U := by omega
                go_enter Tryd.func85, Tryd.ntmps85
                go_wp2_with (first
                  | (go_at_call 46; refine (refUint_any ⟨T.toArray⟩ _ (by show T.toArray.size ≤ _; simp; omega)).mono ?_; rintro e w1 ⟨rfl, rfl⟩; rw [show (⟨T.toArray⟩ : ByteArray).data.toList = T from rfl, ← HU.out, ← HV.out])
                  | fail)
                exact bodyPost_ret (results_tmp4 rfl _ _ _) rfl ⟨rfl, Below.refl _ _⟩
              · rw [if_neg (by simp; omega)]
                have hzi : ¬ (x.size : Int) - M < U := by omega
                have hex : x.extract M (M + U) = ⟨((x.data.toList.drop M).take U).toArray⟩ := by rw [extract_str, Nat.add_sub_cancel_left]
                have hey : x.extract (M + U) x.size = ⟨(x.data.toList.drop (M + U)).toArray⟩ := by
                  rw [extract_str, List.take_of_length_le (by rw [List.length_drop, sizeB]; omega)]
                have hTl : ((x.data.toList.drop M).take U).length = U := by rw [List.length_take, List.length_drop, sizeB]; omega
                obtain ⟨Z, hZ⟩ : ∃ Z, Z = (x.data.toList.drop M).take U := ⟨_, rfl⟩
                rw [← hZ] at hex hTl ⊢
                have HE : Hid _ := And.intro hex hey
                have hfa : (0 : Int) ≤ (M : Int) + (U : Nat) ∧ (M : Int) + (U : Nat) ≤ x.size := by omega
                have hfb : (M : Int) ≤ (M : Int) + (U : Nat) := by omega
                have hfc : (0 : Int) ≤ (M : Int) + (U : Nat) := hfa.1
                have hfd : (M : Int) + (U : Nat) ≤ x.size := hfa.2
                have hwr : IntKind.i64.wrap ((M : Int) + (U : Nat)) = (M : Int) + (U : Nat) := wrap_small _ (by omega) (by omega)
                have hsl := fun w => slice_two x M U (M : Int) ((M : Int) + (U : Nat)) w rfl rfl (by omega)
                clear hex hey
                clear hZ hTl
                rw [if_neg (by simp; omega), decide_eq_true (by omega)]
                go_enter Tryd.func85, Tryd.ntmps85
                go_wp2_with (first
                  | (go_at_call 46; refine (refUint_any ⟨T.toArray⟩ _ (by show T.toArray.size ≤ _; simp; omega)).mono ?_; rintro e w1 ⟨rfl, rfl⟩; rw [show (⟨T.toArray⟩ : ByteArray).data.toList = T from rfl, ← HU.out, ← HV.out])
                  | fail)
                go_quiet (fail)
                go_wp2
                refine bodyPost_ret (results_tmp4 (t := 2) (u := 3) (v := 4) (s := 5) rfl _ _ _) rfl ⟨?_, below_drewN _ _ _⟩
                exact split_close2 x M U Z _ c true HE.out.1 HE.out.2
            · have hUxi : (x.size : Int) < U := by omega
              rw [split_eq x M U true c hr hhd, if_pos (.inr (by omega))]
              clear hr hl
              go_enter Tryd.func85, Tryd.ntmps85
              go_wp2_with (first
                | (go_at_call 46; refine (refUint_any ⟨T.toArray⟩ _ (by show T.toArray.size ≤ _; simp; omega)).mono ?_; rintro e w1 ⟨rfl, rfl⟩; rw [show (⟨T.toArray⟩ : ByteArray).data.toList = T from rfl, ← HU.out, ← HV.out])
                | fail)
              exact bodyPost_ret (results_tmp4 rfl _ _ _) rfl ⟨rfl, Below.refl _ _⟩
          · have hUi : (U : Int) < 56 := by omega
            rw [decide_eq_false hU, Bool.and_false] at hr
            rw [split_eq x M U false c hr hhd, if_pos (.inl rfl)]
            clear hr hl
            go_enter Tryd.func85, Tryd.ntmps85
            go_wp2_with (first
              | (go_at_call 46; refine (refUint_any ⟨T.toArray⟩ _ (by show T.toArray.size ≤ _; simp; omega)).mono ?_; rintro e w1 ⟨rfl, rfl⟩; rw [show (⟨T.toArray⟩ : ByteArray).data.toList = T from rfl, ← HU.out, ← HV.out])
              | fail)
            exact bodyPost_ret (results_tmp4 rfl _ _ _) rfl ⟨rfl, Below.refl _ _⟩
        · have hV : V = false := by simpa using hV
          subst hV
          rw [Bool.false_and] at hr
          rw [split_eq x M U false c hr hhd, if_pos (.inl rfl)]
          clear hr hl
          go_enter Tryd.func85, Tryd.ntmps85
          go_wp2_with (first
            | (go_at_call 46; refine (refUint_any ⟨T.toArray⟩ _ (by show T.toArray.size ≤ _; simp; omega)).mono ?_; rintro e w1 ⟨rfl, rfl⟩; rw [show (⟨T.toArray⟩ : ByteArray).data.toList = T from rfl, ← HU.out, ← HV.out])
            | fail)
          exact bodyPost_ret (results_tmp4 rfl _ _ _) rfl ⟨rfl, Below.refl _ _⟩
end Go.Proofs.YtamijfdhaahalaaDoor
