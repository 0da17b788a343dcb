/-
  Texts of this claim, put together.
-/
import Derived.Test.YtadpopjhhanapaaSplitW
import Derived.Test.YtadpopjhhanapaaRowW
import Derived.Test.YtadpopjhhanapaaDecodeW
/-
  What the document's Split does.
-/
namespace Go.Proofs.Ytadpopjhhanapaa
open Go Go.RowKit

theorem alone_one (T : List UInt8) (d : UInt8) (h : T = [d]) : alone T = decide (d.toNat < 128) := by rw [h]; rfl
theorem alone_not (T : List UInt8) (h : T.length ≠ 1) : alone T = false := by
  match T, h with
  | [], _ => rfl
  | [_], h => exact absurd rfl h
  | _ :: _ :: _, _ => rfl
theorem wrap_small (n : Int) (h0 : 0 ≤ n) (h1 : n ≤ 9223372036854775807) : IntKind.i64.wrap n = n := by
  simp [IntKind.wrap, IntKind.bits, IntKind.signed]; omega
theorem slice_two (x : ByteArray) (f n : Nat) (i j : Int) (w : World) (hi : i = (f : Int)) (hj : j = (f : Int) + (n : Int)) (h : f + n ≤ x.size) :
    (Instr.slice 9 (.string x) (some (.int .i64 i)) (some (.int .i64 j)) none).run Try.prog w = .ok (.string (x.extract f (f + n))) w := by
  rw [run_slice_string w 9 x .i64 .i64 i j (by kernel_rfl) (by omega) (by omega) (by omega), hi, hj, show ((f : Int) + n).toNat = f + n by omega, Int.toNat_natCast]
theorem split_eq (x : ByteArray) (f n : Nat) (ok : Bool) (c : UInt8) (h : rd x.data.toList = (f, n, ok)) (hc : x.data.toList.headD 0 = c) : split x.data.toList = if ok = false ∨ x.size < f + n then none else
      if 0 < f ∧ c.toNat < 192 ∧ alone ((x.data.toList.drop f).take n) = true then none else
      some ((x.data.toList.drop f).take n, decide (192 ≤ c.toNat), x.data.toList.drop (f + n)) := by
  unfold split
  rw [h, hc, ← sizeB]

set_option maxRecDepth 8000 in
set_option maxHeartbeats 2000000 in
theorem refSplit_any (x : ByteArray) (w : World) (hx : x.size < 4611686018427387904) :
    Calls Try.prog 71 #[.string x] w fun e w' => e = .returned (splitV (split x.data.toList)) ∧ Below w.heap.size w w' := by
  by_cases h0 : x.size = 0
  · have h0i : (x.size : Int) = 0 := by omega
    have hs : split x.data.toList = none := by rw [show x.data.toList = [] from List.eq_nil_of_length_eq_zero (by rw [sizeB]; exact h0)]; rfl
    rw [hs]
    clear hs
    go_enter Try.func71, Try.ntmps71
    go_wp2_with fail
    exact bodyPost_ret (results_tmp4 rfl _ _ _) rfl ⟨rfl, Below.refl _ _⟩
  have hp : 0 < x.size := by omega
  have hpi : (0 : Int) < x.size := by omega
  have hp1 : (1 : Int) ≤ x.size := by omega
  have h0i : ¬ (x.size : Int) = 0 := by omega
  obtain ⟨c, r, hl⟩ : ∃ c r, x.data.toList = c :: r := by
    cases hl : x.data.toList with
    | nil => exact absurd (by rw [← sizeB, hl]; rfl) h0
    | cons c r => exact ⟨c, r, rfl⟩
  have hc : x[0] = c := by rw [getB x 0 hp]; simp [hl]
  have hrs : r.length + 1 = x.size := by rw [← sizeB, hl]; rfl
  have hlt := c.toNat_lt
  have hhd : x.data.toList.headD 0 = c := by rw [hl]; rfl
  by_cases h1 : c.toNat < 128
  · have h1i : (c.toNat : Int) < 128 := by omega
    have hr : rd x.data.toList = (0, 1, true) := by rw [hl]; unfold rd; simp only [if_pos h1]
    rw [split_eq x 0 1 true c hr hhd, if_neg (by rintro (q | q) <;> first | (cases q; done) | omega), if_neg (by simp), decide_eq_false (by omega)]
    have hex : x.extract 0 (0 + 1) = ⟨((x.data.toList.drop 0).take 1).toArray⟩ := extract_str x 0 1
    have hey : x.extract (0 + 1) x.size = ⟨(x.data.toList.drop (0 + 1)).toArray⟩ := by
      rw [extract_str, List.take_of_length_le (by rw [List.length_drop, sizeB]; omega)]
    have HE : Hid _ := And.intro hex hey
    clear hr hl hex hey
    go_enter Try.func71, Try.ntmps71
    go_wp2_with fail
    go_quiet (fail)
    go_wp2
    refine bodyPost_ret (results_tmp4 (t := 2) (u := 3) (v := 4) (s := 5) rfl _ _ _) rfl ⟨?_, below_drewN _ _ _⟩
    exact split_close2 x 0 1 _ _ c false HE.out.1 HE.out.2
  have h1i : ¬ (c.toNat : Int) < 128 := by omega
  obtain ⟨k, hk⟩ : ∃ k, k = (c.toNat - 128) % 64 := ⟨_, rfl⟩
  have hk64 : k < 64 := by omega
  by_cases hL : c.toNat < 192
  · have hLi : ¬ (192 : Int) ≤ c.toNat := by omega
    have hki : (c.toNat : Int) - 128 = (k : Int) := by omega
    by_cases h2 : k < 56
    · have h2i : ¬ (55 : Int) < k := by omega
      have hr : rd x.data.toList = (1, k, true) := by rw [hl]; unfold rd; simp only [if_neg h1, ← hk, if_pos h2]
      have hki0 : (k : Int) < 64 := by omega
      clear hk
      rw [split_eq x 1 k true c hr hhd]
      clear hr hl
      by_cases hz : x.size < 1 + k
      · rw [if_pos (.inr hz)]
        have hzi : (x.size : Int) - 1 < k := by omega
        go_enter Try.func71, Try.ntmps71
        go_wp2_with fail
        exact bodyPost_ret (results_tmp4 rfl _ _ _) rfl ⟨rfl, Below.refl _ _⟩
      · rw [if_neg (by simp; omega)]
        have hzi : ¬ (x.size : Int) - 1 < k := by omega
        have hex : x.extract 1 (1 + k) = ⟨((x.data.toList.drop 1).take k).toArray⟩ := by rw [extract_str, Nat.add_sub_cancel_left]
        have hey : x.extract (1 + k) x.size = ⟨(x.data.toList.drop (1 + k)).toArray⟩ := by
          rw [extract_str, List.take_of_length_le (by rw [List.length_drop, sizeB]; omega)]
        have hTl : ((x.data.toList.drop 1).take k).length = k := by rw [List.length_take, List.length_drop, sizeB]; omega
        obtain ⟨Z, hZ⟩ : ∃ Z, Z = (x.data.toList.drop 1).take k := ⟨_, rfl⟩
        rw [← hZ] at hex hTl ⊢
        have HE : Hid _ := And.intro hex hey
        have hfa : (0 : Int) ≤ (1 : Int) + (k : Nat) ∧ (1 : Int) + (k : Nat) ≤ x.size := by omega
        have hfb : (1 : Int) ≤ (1 : Int) + (k : Nat) := by omega
        have hfc : (0 : Int) ≤ (1 : Int) + (k : Nat) := hfa.1
        have hfd : (1 : Int) + (k : Nat) ≤ x.size := hfa.2
        have hwr : IntKind.i64.wrap ((1 : Int) + (k : Nat)) = (1 : Int) + (k : Nat) := wrap_small _ (by omega) (by omega)
        have hsl := fun w => slice_two x 1 k (1 : Int) ((1 : Int) + (k : Nat)) w rfl rfl (by omega)
        clear hex hey
        by_cases hn1 : k = 1
        · have hfl : 1 < x.size := by omega
          have hd1 : Z = [x[1]] := by
            rw [hZ, hn1, List.drop_eq_getElem_cons (by exact hfl), getB x 1 hfl]; rfl
          have hal := alone_one Z _ hd1
          have hfi : ((1 : Nat) : Int) < x.size := by omega
          have hn1i : ((k : Nat) : Int) = 1 := by omega
          have hf2 : (2 : Int) ≤ x.size := by omega
          have hwr1 : IntKind.i64.wrap (1 + 1) = 2 := rfl
          have hwr2 : IntKind.i64.wrap 2 = 2 := rfl
          have hsl := fun w => slice_two x 1 1 1 2 w rfl rfl (by omega)
          have hf2a : (0 : Int) ≤ 2 ∧ (2 : Int) ≤ x.size := ⟨by omega, hf2⟩
          have HE1 : Hid (x.extract 1 (1 + 1) = ⟨Z.toArray⟩ ∧ x.extract (1 + 1) x.size = ⟨(x.data.toList.drop (1 + k)).toArray⟩) := by have h7 := HE.out; rw [hn1] at h7 ⊢; exact h7
          have hdl := (x[1]).toNat_lt
          clear hd1 hZ hTl
          by_cases hd : (x[1]).toNat < 128
          · have hdi : ((x[1]).toNat : Int) < 128 := by omega
            rw [if_pos ⟨by omega, by omega, by rw [hal]; simpa using hd⟩]
            clear hal
            go_enter Try.func71, Try.ntmps71
            go_wp2_with fail
            exact bodyPost_ret (results_tmp4 rfl _ _ _) rfl ⟨rfl, Below.refl _ _⟩
          · have hdi : ¬ ((x[1]).toNat : Int) < 128 := by omega
            rw [if_neg (by rw [hal]; simp; omega), decide_eq_false (by omega)]
            clear hal
            go_enter Try.func71, Try.ntmps71
            go_wp2_with fail
            go_quiet (fail)
            go_wp2
            refine bodyPost_ret (results_tmp4 (t := 2) (u := 3) (v := 4) (s := 5) rfl _ _ _) rfl ⟨?_, below_drewN _ _ _⟩
            exact split_close2 x 1 1 Z _ c false HE1.out.1 HE1.out.2
        · have hn1i : ¬ ((k : Nat) : Int) = 1 := by omega
          have hal := alone_not Z (by rw [hTl]; exact hn1)
          rw [if_neg (by rw [hal]; simp), decide_eq_false (by omega)]
          clear hal hZ hTl
          go_enter Try.func71, Try.ntmps71
          go_wp2_with fail
          go_quiet (fail)
          go_wp2
          refine bodyPost_ret (results_tmp4 (t := 2) (u := 3) (v := 4) (s := 5) rfl _ _ _) rfl ⟨?_, below_drewN _ _ _⟩
          exact split_close2 x 1 k Z _ c false HE.out.1 HE.out.2
    · have h2i : (55 : Int) < k := by omega
      obtain ⟨m, hm⟩ : ∃ m, m = k - 55 := ⟨_, rfl⟩
      have hmi : 1 + (k : Int) - 55 = ((m + 1 : Nat) : Int) := by omega
      by_cases h3 : r.length < m
      · have h3i : (x.size : Int) < ((m + 1 : Nat) : Int) := by omega
        have hr : rd x.data.toList = (0, 0, false) := by rw [hl]; unfold rd; simp only [if_neg h1, ← hk, if_neg h2, ← hm, if_pos h3]
        rw [split_eq x 0 0 false c hr hhd, if_pos (.inl rfl)]
        obtain ⟨M, hM⟩ : ∃ M, M = m + 1 := ⟨_, rfl⟩
        rw [← hM] at hmi h3i
        clear hr hl hk hm hM
        go_enter Try.func71, Try.ntmps71
        go_wp2_with fail
        exact bodyPost_ret (results_tmp4 rfl _ _ _) rfl ⟨rfl, Below.refl _ _⟩
      · have h3i : ¬ (x.size : Int) < ((m + 1 : Nat) : Int) := by omega
        have hr : rd x.data.toList = (m + 1, uintV (r.take m), uintB (r.take m) && decide (56 ≤ uintV (r.take m))) := by
          rw [hl]; unfold rd
          simp only [if_neg h1, ← hk, if_neg h2, ← hm, if_neg h3, show k - 54 = m + 1 by omega]
        have hex : x.extract 1 (m + 1) = ⟨(r.take m).toArray⟩ := by rw [extract_str, hl]; simp
        have hms : ((m + 1 : Nat) : Int) ≤ x.size := by omega
        have hm0 : (1 : Int) ≤ ((m + 1 : Nat) : Int) := by omega
        have hus := uintV_lt (r.take m)
        have hml : (r.take m).length ≤ 8 := by rw [List.length_take]; omega
        obtain ⟨U, hU⟩ : ∃ U, U = uintV (r.take m) := ⟨_, rfl⟩
        obtain ⟨V, hV⟩ : ∃ V, V = uintB (r.take m) := ⟨_, rfl⟩
        obtain ⟨T, hT⟩ : ∃ T, T = r.take m := ⟨_, rfl⟩
        obtain ⟨M, hM⟩ : ∃ M, M = m + 1 := ⟨_, rfl⟩
        rw [← hU, ← hV] at hr
        rw [← hU] at hus
        rw [← hT] at hex hml hU hV
        rw [← hM] at hmi hms hm0 hex hr h3i
        have HU : Hid (U = uintV T) := hU
        have HV : Hid (V = uintB T) := hV
        have hM9 : M ≤ 9 := by omega
        clear hk hT hU hV hm hM h3
        by_cases hV : V = true
        · subst hV
          by_cases hU : 56 ≤ U
          · have hUi : ¬ (U : Int) < 56 := by omega
            rw [decide_eq_true hU, Bool.and_self] at hr
            by_cases hUx : U ≤ x.size
            · have hUxi : ¬ (x.size : Int) < U := by omega
              have hU63 : (U : Int) ≤ 4611686018427387904 := by omega
              rw [split_eq x M U true c hr hhd]
              clear hr hl
              by_cases hz : x.size < M + U
              · rw [if_pos (.inr hz)]
                have hzi : (x.size : Int) - M < U := by omega
                go_enter Try.func71, Try.ntmps71
                go_wp2_with (first
                  | (go_at_call 27; refine (refUint_any ⟨T.toArray⟩ _ (by show T.toArray.size ≤ _; simp; omega)).mono ?_; rintro e w1 ⟨rfl, rfl⟩; rw [show (⟨T.toArray⟩ : ByteArray).data.toList = T from rfl, ← HU.out, ← HV.out])
                  | fail)
                exact bodyPost_ret (results_tmp4 rfl _ _ _) rfl ⟨rfl, Below.refl _ _⟩
              · rw [if_neg (by simp; omega)]
                have hzi : ¬ (x.size : Int) - M < U := by omega
                have hex : x.extract M (M + U) = ⟨((x.data.toList.drop M).take U).toArray⟩ := by rw [extract_str, Nat.add_sub_cancel_left]
                have hey : x.extract (M + U) x.size = ⟨(x.data.toList.drop (M + U)).toArray⟩ := by
                  rw [extract_str, List.take_of_length_le (by rw [List.length_drop, sizeB]; omega)]
                have hTl : ((x.data.toList.drop M).take U).length = U := by rw [List.length_take, List.length_drop, sizeB]; omega
                obtain ⟨Z, hZ⟩ : ∃ Z, Z = (x.data.toList.drop M).take U := ⟨_, rfl⟩
                rw [← hZ] at hex hTl ⊢
                have HE : Hid _ := And.intro hex hey
                have hfa : (0 : Int) ≤ (M : Int) + (U : Nat) ∧ (M : Int) + (U : Nat) ≤ x.size := by omega
                have hfb : (M : Int) ≤ (M : Int) + (U : Nat) := by omega
                have hfc : (0 : Int) ≤ (M : Int) + (U : Nat) := hfa.1
                have hfd : (M : Int) + (U : Nat) ≤ x.size := hfa.2
                have hwr : IntKind.i64.wrap ((M : Int) + (U : Nat)) = (M : Int) + (U : Nat) := wrap_small _ (by omega) (by omega)
                have hsl := fun w => slice_two x M U (M : Int) ((M : Int) + (U : Nat)) w rfl rfl (by omega)
                clear hex hey
                by_cases hn1 : U = 1
                · exact absurd hn1 (by omega)
                · have hn1i : ¬ ((U : Nat) : Int) = 1 := by omega
                  have hal := alone_not Z (by rw [hTl]; exact hn1)
                  rw [if_neg (by rw [hal]; simp), decide_eq_false (by omega)]
                  clear hal hZ hTl
                  go_enter Try.func71, Try.ntmps71
                  go_wp2_with (first
                    | (go_at_call 27; refine (refUint_any ⟨T.toArray⟩ _ (by show T.toArray.size ≤ _; simp; omega)).mono ?_; rintro e w1 ⟨rfl, rfl⟩; rw [show (⟨T.toArray⟩ : ByteArray).data.toList = T from rfl, ← HU.out, ← HV.out])
                    | fail)
                  go_quiet (fail)
                  go_wp2
                  refine bodyPost_ret (results_tmp4 (t := 2) (u := 3) (v := 4) (s := 5) rfl _ _ _) rfl ⟨?_, below_drewN _ _ _⟩
                  exact split_close2 x M U Z _ c false HE.out.1 HE.out.2
            · have hUxi : (x.size : Int) < U := by omega
              rw [split_eq x M U true c hr hhd, if_pos (.inr (by omega))]
              clear hr hl
              go_enter Try.func71, Try.ntmps71
              go_wp2_with (first
                | (go_at_call 27; refine (refUint_any ⟨T.toArray⟩ _ (by show T.toArray.size ≤ _; simp; omega)).mono ?_; rintro e w1 ⟨rfl, rfl⟩; rw [show (⟨T.toArray⟩ : ByteArray).data.toList = T from rfl, ← HU.out, ← HV.out])
                | fail)
              exact bodyPost_ret (results_tmp4 rfl _ _ _) rfl ⟨rfl, Below.refl _ _⟩
          · have hUi : (U : Int) < 56 := by omega
            rw [decide_eq_false hU, Bool.and_false] at hr
            rw [split_eq x M U false c hr hhd, if_pos (.inl rfl)]
            clear hr hl
            go_enter Try.func71, Try.ntmps71
            go_wp2_with (first
              | (go_at_call 27; refine (refUint_any ⟨T.toArray⟩ _ (by show T.toArray.size ≤ _; simp; omega)).mono ?_; rintro e w1 ⟨rfl, rfl⟩; rw [show (⟨T.toArray⟩ : ByteArray).data.toList = T from rfl, ← HU.out, ← HV.out])
              | fail)
            exact bodyPost_ret (results_tmp4 rfl _ _ _) rfl ⟨rfl, Below.refl _ _⟩
        · have hV : V = false := by simpa using hV
          subst hV
          rw [Bool.false_and] at hr
          rw [split_eq x M U false c hr hhd, if_pos (.inl rfl)]
          clear hr hl
          go_enter Try.func71, Try.ntmps71
          go_wp2_with (first
            | (go_at_call 27; refine (refUint_any ⟨T.toArray⟩ _ (by show T.toArray.size ≤ _; simp; omega)).mono ?_; rintro e w1 ⟨rfl, rfl⟩; rw [show (⟨T.toArray⟩ : ByteArray).data.toList = T from rfl, ← HU.out, ← HV.out])
            | fail)
          exact bodyPost_ret (results_tmp4 rfl _ _ _) rfl ⟨rfl, Below.refl _ _⟩
  · have hLi : (192 : Int) ≤ c.toNat := by omega
    have hki : (c.toNat : Int) - 192 = (k : Int) := by omega
    by_cases h2 : k < 56
    · have h2i : ¬ (55 : Int) < k := by omega
      have hr : rd x.data.toList = (1, k, true) := by rw [hl]; unfold rd; simp only [if_neg h1, ← hk, if_pos h2]
      have hki0 : (k : Int) < 64 := by omega
      clear hk
      rw [split_eq x 1 k true c hr hhd]
      clear hr hl
      by_cases hz : x.size < 1 + k
      · rw [if_pos (.inr hz)]
        have hzi : (x.size : Int) - 1 < k := by omega
        go_enter Try.func71, Try.ntmps71
        go_wp2_with fail
        exact bodyPost_ret (results_tmp4 rfl _ _ _) rfl ⟨rfl, Below.refl _ _⟩
      · rw [if_neg (by simp; omega)]
        have hzi : ¬ (x.size : Int) - 1 < k := by omega
        have hex : x.extract 1 (1 + k) = ⟨((x.data.toList.drop 1).take k).toArray⟩ := by rw [extract_str, Nat.add_sub_cancel_left]
        have hey : x.extract (1 + k) x.size = ⟨(x.data.toList.drop (1 + k)).toArray⟩ := by
          rw [extract_str, List.take_of_length_le (by rw [List.length_drop, sizeB]; omega)]
        have hTl : ((x.data.toList.drop 1).take k).length = k := by rw [List.length_take, List.length_drop, sizeB]; omega
        obtain ⟨Z, hZ⟩ : ∃ Z, Z = (x.data.toList.drop 1).take k := ⟨_, rfl⟩
        rw [← hZ] at hex hTl ⊢
        have HE : Hid _ := And.intro hex hey
        have hfa : (0 : Int) ≤ (1 : Int) + (k : Nat) ∧ (1 : Int) + (k : Nat) ≤ x.size := by omega
        have hfb : (1 : Int) ≤ (1 : Int) + (k : Nat) := by omega
        have hfc : (0 : Int) ≤ (1 : Int) + (k : Nat) := hfa.1
        have hfd : (1 : Int) + (k : Nat) ≤ x.size := hfa.2
        have hwr : IntKind.i64.wrap ((1 : Int) + (k : Nat)) = (1 : Int) + (k : Nat) := wrap_small _ (by omega) (by omega)
        have hsl := fun w => slice_two x 1 k (1 : Int) ((1 : Int) + (k : Nat)) w rfl rfl (by omega)
        clear hex hey
        clear hZ hTl
        rw [if_neg (by simp; omega), decide_eq_true (by omega)]
        go_enter Try.func71, Try.ntmps71
        go_wp2_with fail
        go_quiet (fail)
        go_wp2
        refine bodyPost_ret (results_tmp4 (t := 2) (u := 3) (v := 4) (s := 5) rfl _ _ _) rfl ⟨?_, below_drewN _ _ _⟩
        exact split_close2 x 1 k Z _ c true HE.out.1 HE.out.2
    · have h2i : (55 : Int) < k := by omega
      obtain ⟨m, hm⟩ : ∃ m, m = k - 55 := ⟨_, rfl⟩
      have hmi : 1 + (k : Int) - 55 = ((m + 1 : Nat) : Int) := by omega
      by_cases h3 : r.length < m
      · have h3i : (x.size : Int) < ((m + 1 : Nat) : Int) := by omega
        have hr : rd x.data.toList = (0, 0, false) := by rw [hl]; unfold rd; simp only [if_neg h1, ← hk, if_neg h2, ← hm, if_pos h3]
        rw [split_eq x 0 0 false c hr hhd, if_pos (.inl rfl)]
        obtain ⟨M, hM⟩ : ∃ M, M = m + 1 := ⟨_, rfl⟩
        rw [← hM] at hmi h3i
        clear hr hl hk hm hM
        go_enter Try.func71, Try.ntmps71
        go_wp2_with fail
        exact bodyPost_ret (results_tmp4 rfl _ _ _) rfl ⟨rfl, Below.refl _ _⟩
      · have h3i : ¬ (x.size : Int) < ((m + 1 : Nat) : Int) := by omega
        have hr : rd x.data.toList = (m + 1, uintV (r.take m), uintB (r.take m) && decide (56 ≤ uintV (r.take m))) := by
          rw [hl]; unfold rd
          simp only [if_neg h1, ← hk, if_neg h2, ← hm, if_neg h3, show k - 54 = m + 1 by omega]
        have hex : x.extract 1 (m + 1) = ⟨(r.take m).toArray⟩ := by rw [extract_str, hl]; simp
        have hms : ((m + 1 : Nat) : Int) ≤ x.size := by omega
        have hm0 : (1 : Int) ≤ ((m + 1 : Nat) : Int) := by omega
        have hus := uintV_lt (r.take m)
        have hml : (r.take m).length ≤ 8 := by rw [List.length_take]; omega
        obtain ⟨U, hU⟩ : ∃ U, U = uintV (r.take m) := ⟨_, rfl⟩
        obtain ⟨V, hV⟩ : ∃ V, V = uintB (r.take m) := ⟨_, rfl⟩
        obtain ⟨T, hT⟩ : ∃ T, T = r.take m := ⟨_, rfl⟩
        obtain ⟨M, hM⟩ : ∃ M, M = m + 1 := ⟨_, rfl⟩
        rw [← hU, ← hV] at hr
        rw [← hU] at hus
        rw [← hT] at hex hml hU hV
        rw [← hM] at hmi hms hm0 hex hr h3i
        have HU : Hid (U = uintV T) := hU
        have HV : Hid (V = uintB T) := hV
        have hM9 : M ≤ 9 := by omega
        clear hk hT hU hV hm hM h3
        by_cases hV : V = true
        · subst hV
          by_cases hU : 56 ≤ U
          · have hUi : ¬ (U : Int) < 56 := by omega
            rw [decide_eq_true hU, Bool.and_self] at hr
            by_cases hUx : U ≤ x.size
            · have hUxi : ¬ (x.size : Int) < U := by omega
              have hU63 : (U : Int) ≤ 4611686018427387904 := by omega
              rw [split_eq x M U true c hr hhd]
              clear hr hl
              by_cases hz : x.size < M + U
              · rw [if_pos (.inr hz)]
                have hzi : (x.size : Int) - M < U := by omega
                go_enter Try.func71, Try.ntmps71
                go_wp2_with (first
                  | (go_at_call 27; refine (refUint_any ⟨T.toArray⟩ _ (by show T.toArray.size ≤ _; simp; omega)).mono ?_; rintro e w1 ⟨rfl, rfl⟩; rw [show (⟨T.toArray⟩ : ByteArray).data.toList = T from rfl, ← HU.out, ← HV.out])
                  | fail)
                exact bodyPost_ret (results_tmp4 rfl _ _ _) rfl ⟨rfl, Below.refl _ _⟩
              · rw [if_neg (by simp; omega)]
                have hzi : ¬ (x.size : Int) - M < U := by omega
                have hex : x.extract M (M + U) = ⟨((x.data.toList.drop M).take U).toArray⟩ := by rw [extract_str, Nat.add_sub_cancel_left]
                have hey : x.extract (M + U) x.size = ⟨(x.data.toList.drop (M + U)).toArray⟩ := by
                  rw [extract_str, List.take_of_length_le (by rw [List.length_drop, sizeB]; omega)]
                have hTl : ((x.data.toList.drop M).take U).length = U := by rw [List.length_take, List.length_drop, sizeB]; omega
                obtain ⟨Z, hZ⟩ : ∃ Z, Z = (x.data.toList.drop M).take U := ⟨_, rfl⟩
                rw [← hZ] at hex hTl ⊢
                have HE : Hid _ := And.intro hex hey
                have hfa : (0 : Int) ≤ (M : Int) + (U : Nat) ∧ (M : Int) + (U : Nat) ≤ x.size := by omega
                have hfb : (M : Int) ≤ (M : Int) + (U : Nat) := by omega
                have hfc : (0 : Int) ≤ (M : Int) + (U : Nat) := hfa.1
                have hfd : (M : Int) + (U : Nat) ≤ x.size := hfa.2
                have hwr : IntKind.i64.wrap ((M : Int) + (U : Nat)) = (M : Int) + (U : Nat) := wrap_small _ (by omega) (by omega)
                have hsl := fun w => slice_two x M U (M : Int) ((M : Int) + (U : Nat)) w rfl rfl (by omega)
                clear hex hey
                clear hZ hTl
                rw [if_neg (by simp; omega), decide_eq_true (by omega)]
                go_enter Try.func71, Try.ntmps71
                go_wp2_with (first
                  | (go_at_call 27; refine (refUint_any ⟨T.toArray⟩ _ (by show T.toArray.size ≤ _; simp; omega)).mono ?_; rintro e w1 ⟨rfl, rfl⟩; rw [show (⟨T.toArray⟩ : ByteArray).data.toList = T from rfl, ← HU.out, ← HV.out])
                  | fail)
                go_quiet (fail)
                go_wp2
                refine bodyPost_ret (results_tmp4 (t := 2) (u := 3) (v := 4) (s := 5) rfl _ _ _) rfl ⟨?_, below_drewN _ _ _⟩
                exact split_close2 x M U Z _ c true HE.out.1 HE.out.2
            · have hUxi : (x.size : Int) < U := by omega
              rw [split_eq x M U true c hr hhd, if_pos (.inr (by omega))]
              clear hr hl
              go_enter Try.func71, Try.ntmps71
              go_wp2_with (first
                | (go_at_call 27; refine (refUint_any ⟨T.toArray⟩ _ (by show T.toArray.size ≤ _; simp; omega)).mono ?_; rintro e w1 ⟨rfl, rfl⟩; rw [show (⟨T.toArray⟩ : ByteArray).data.toList = T from rfl, ← HU.out, ← HV.out])
                | fail)
              exact bodyPost_ret (results_tmp4 rfl _ _ _) rfl ⟨rfl, Below.refl _ _⟩
          · have hUi : (U : Int) < 56 := by omega
            rw [decide_eq_false hU, Bool.and_false] at hr
            rw [split_eq x M U false c hr hhd, if_pos (.inl rfl)]
            clear hr hl
            go_enter Try.func71, Try.ntmps71
            go_wp2_with (first
              | (go_at_call 27; refine (refUint_any ⟨T.toArray⟩ _ (by show T.toArray.size ≤ _; simp; omega)).mono ?_; rintro e w1 ⟨rfl, rfl⟩; rw [show (⟨T.toArray⟩ : ByteArray).data.toList = T from rfl, ← HU.out, ← HV.out])
              | fail)
            exact bodyPost_ret (results_tmp4 rfl _ _ _) rfl ⟨rfl, Below.refl _ _⟩
        · have hV : V = false := by simpa using hV
          subst hV
          rw [Bool.false_and] at hr
          rw [split_eq x M U false c hr hhd, if_pos (.inl rfl)]
          clear hr hl
          go_enter Try.func71, Try.ntmps71
          go_wp2_with (first
            | (go_at_call 27; refine (refUint_any ⟨T.toArray⟩ _ (by show T.toArray.size ≤ _; simp; omega)).mono ?_; rintro e w1 ⟨rfl, rfl⟩; rw [show (⟨T.toArray⟩ : ByteArray).data.toList = T from rfl, ← HU.out, ← HV.out])
            | fail)
          exact bodyPost_ret (results_tmp4 rfl _ _ _) rfl ⟨rfl, Below.refl _ _⟩
end Go.Proofs.Ytadpopjhhanapaa
/-
  What the document's things does.
-/
namespace Go.Proofs.Ytadpopjhhanapaa
open Go Go.RowKit

set_option maxRecDepth 8000 in
set_option maxHeartbeats 4000000 in
theorem things_any (N : Nat) : ∀ (x0 : ByteArray) (most : Nat)  (w : World), x0.size < N → x0.size ≤ 1000000 → most ≤ 16 → 
    Calls Try.prog 49 #[.string x0, .int .i64 most] w fun e w' => RowAns w w' (things most x0.data.toList) e ∧ Below w.heap.size w w' := by
  induction N with
  | zero => intro x0 most w h; omega
  | succ N ih =>
    intro x0 most w hN hx0 hmost
    have he9 : True := trivial
    obtain ⟨i8, hi, hiz, his, hib⟩ := infoItem
    have HI : Hid (Try.prog.info? 54 = some i8 ∧ i8.zero = some (.agg #[.bool false, .string ⟨#[]⟩, .slice none 0 0]) ∧ i8.size = 3 ∧ i8.bytes = 48) := ⟨hi, hiz, his, hib⟩
    clear hi hiz his hib
    have IH : Hid (∀ (x0 : ByteArray) (most : Nat)  (w : World), x0.size < N → x0.size ≤ 1000000 → most ≤ 16 → 
      Calls Try.prog 49 #[.string x0, .int .i64 most] w fun e w' => RowAns w w' (things most x0.data.toList) e ∧ Below w.heap.size w w') := ih
    clear ih
    have hmax : (1000001 : Nat) ≤ maxLen := by decide
    obtain ⟨n, hn⟩ : ∃ n, n = w.heap.size := ⟨_, rfl⟩
    have HN : Hid (n = w.heap.size) := hn
    clear hn
    go_enter Try.func49, Try.ntmps49
    go_wp2_with fail
    go_loopw [0, 6] (fun sv ov wr => ∃ (x : ByteArray) (v : Value) (r : Row) (xs : List Value), sv = .string x ∧ ov = v ∧ r.len + x.size ≤ x0.size ∧ things most x0.data.toList = (things most x.data.toList).map r.app ∧ Below n w wr ∧ n ≤ wr.heap.size ∧ wr.ownsRow n 54 3 v r.len xs ∧ RCells wr (SRow n wr v) r xs) (fun sv _ _ => txtLen sv)
    case atStart => exact ⟨x0, _, .nil, [], rfl, rfl, by simp [Row.len], by cases things most x0.data.toList <;> rfl, Below.refl _ _, by have := HN.out; omega, World.ownsRow_nil _ _ _ _, rfl⟩
    case round =>
      obtain ⟨x, v, r, xs, rfl, hv, hrx, hth, hB, hnw, own, hrc⟩ := hrel
      have hv2 := hv.symm
      clear hv
      subst hv2
      have hxx : x.size < 4611686018427387904 := by omega
      have OWN : Hid (wr.ownsRow n 54 3 v r.len xs) := own
      have HRC : Hid (RCells wr (SRow n wr v) r xs) := hrc
      have HTH : Hid (things most x0.data.toList = (things most x.data.toList).map r.app) := hth
      have he7 : True := trivial
      clear own hrc hth
      by_cases h0 : 0 < x.size
      · have h0i : (0 : Int) < x.size := by omega
        have hne := neNil x (by omega)
        have he8 : True := trivial
        cases hsp : split x.data.toList with
        | none =>
          have HNO : Hid (things most x0.data.toList = none) := by have h1 := HTH.out; rw [things_none hne hsp] at h1; exact h1
          go_wp2_with (first
            | (go_at_call 71; refine (refSplit_any x _ hxx).mono ?_; rintro e w1 ⟨rfl, hB1⟩; rw [hsp]; unfold splitV)
            | fail)
          go_ret2
          refine ⟨?_, ?_⟩
          · rw [HNO.out]; rfl
          · have hB2 : Below n w _ := hB.trans (hB1.mono hnw)
            rw [← HN.out]; exact hB2
        | some q =>
          obtain ⟨p, l, t⟩ := q
          obtain ⟨a1, a2, a3⟩ := split_len hsp
          rw [sizeB] at a1 a2 a3
          by_cases hmz : most = 0
          ·
            have HNO : Hid (things most x0.data.toList = none) := by have h1 := HTH.out; rw [hmz] at h1 ⊢; rw [things_deep hne] at h1; exact h1
            have hdi : (most : Int) < 1 := by omega
            clear hmz
            go_wp2_with (first
              | (go_at_call 71; refine (refSplit_any x _ hxx).mono ?_; rintro e w1 ⟨rfl, hB1⟩; rw [hsp]; unfold splitV)
              | fail)
            go_ret2
            refine ⟨?_, ?_⟩
            · rw [HNO.out]; rfl
            · have hB2 : Below n w _ := hB.trans (hB1.mono hnw)
              rw [← HN.out]; exact hB2
          · obtain ⟨mo, hmo⟩ : ∃ mo, most = mo + 1 := ⟨most - 1, by omega⟩
            have hmi : (most : Int) - 1 = (mo : Int) := by omega
            have hmo16 : mo ≤ 16 := by omega
            have HMO : Hid (most = mo + 1) := hmo
            have hdi : ¬ (most : Int) < 1 := by omega
            clear hmo hmz
            cases l with
            | false =>
              have hT : things most x.data.toList = (things most t).map (Row.item false p .nil) := by rw [HMO.out]; exact things_text hne hsp
              have HT : Hid (things most x.data.toList = (things most t).map (Row.item false p .nil)) := hT
              clear hT
              go_wp2_with (first
                | (go_at_call 71; refine (refSplit_any x _ hxx).mono ?_; rintro e w1 ⟨rfl, hB1⟩; rw [hsp]; unfold splitV; have hs1 := hB1.size)
                | (refine wpList_append_own2 _ rfl _ _ 52 rfl n 54 i8 (.agg #[.bool false, .string ⟨#[]⟩, .slice none 0 0]) 3 48 underItems HI.out.1 HI.out.2.1 HI.out.2.2.1 HI.out.2.2.2 rfl (by omega) v r.len xs rfl (((ownsRow_below OWN.out hB1).alloc _).alloc _) ⟨w1.heap.size + 1, 0, none⟩ 1 1 [.bool false, .string ⟨p.toArray⟩, .slice none 0 0] rfl rfl (item_news2 w1 _ _ _ _) (by intro u hu; simp at hu; rcases hu with rfl | rfl | rfl <;> rfl) (by omega) (by omega) (by omega) (by rw [World.size_alloc, World.size_alloc]; omega) ?_
                   intro v2 w2 own2 gr2 wh2)
                | fail)
              have hB12 := two_allocs hB1 (.cells #[.bool false, .string ⟨p.toArray⟩, .slice none 0 0] 54) (.cells #[.bool false, .string ⟨p.toArray⟩, .slice none 0 0] 54)
              have hrc2 := rcells_append (rcells_below HRC.out hB12) gr2 wh2
              have hBB : Below n w w2 := below_grown (hB.trans (hB12.mono hnw)) gr2 (Nat.le_trans hnw hB12.size) (fun k hk => (OWN.out.lt k hk).1)
              have hsz2 : n ≤ w2.heap.size := Nat.le_trans (Nat.le_trans hnw hB12.size) gr2.size
              have HRL : Hid _ := And.intro hrc2 (And.intro hBB (And.intro hsz2 own2))
              clear hrc2 hBB hsz2 own2 gr2 wh2 hB12
              go_roundw
              case rel =>
                obtain ⟨hrc2, hBB, hsz2, own2⟩ := HRL.out
                refine ⟨⟨t.toArray⟩, v2, r.app (.item false p .nil .nil), _, rfl, rfl, ?_, ?_, hBB, hsz2, ?_, hrc2.snoc (c' := 0) (a' := none) (inner := .nil) (by omega) (by simp [Row.len]) trivial⟩
                · rw [Row.len_app]; show r.len + 1 + t.toArray.size ≤ _; simp; omega
                · rw [HTH.out, HT.out]; exact map_app _ _ _ _ _
                · rw [Row.len_app]; exact own2
              case measure => show t.toArray.size < x.size; simp; omega
            | true =>
              have ha3 := a3 rfl
              have hT : things most x.data.toList = match things mo p with
                | none => none
                | some q => (things most t).map (Row.item true [] q) := by rw [HMO.out]; exact things_list hne hsp
              cases hq : things mo p with
              | none =>
                rw [hq] at hT
                have HNO : Hid (things most x0.data.toList = none) := by have h1 := HTH.out; rw [hT] at h1; exact h1
                clear hT
                go_wp2_with (first
                  | (go_at_call 71; refine (refSplit_any x _ hxx).mono ?_; rintro e w1 ⟨rfl, hB1⟩; rw [hsp]; unfold splitV; have hs1 := hB1.size
                     have he6 : True := trivial)
                  | (go_at_call 49; refine (IH.out ⟨p.toArray⟩ mo _ (by show p.toArray.size < _; simp; omega) (by show p.toArray.size ≤ _; simp; omega) (by omega) ).mono ?_; rintro e w2 ⟨hans, hB2⟩; rw [show (⟨p.toArray⟩ : ByteArray).data.toList = p from rfl, hq] at hans; obtain rfl : e = _ := hans)
                  | fail)
                go_ret2
                refine ⟨?_, ?_⟩
                · rw [HNO.out]; rfl
                · have hB3 : Below n w w2 := (hB.trans (hB1.mono hnw)).trans ((one_alloc hB2).mono (Nat.le_trans hnw hs1))
                  rw [← HN.out]; exact hB3
              | some q =>
                rw [hq] at hT
                have HT : Hid (things most x.data.toList = (things most t).map (Row.item true [] q)) := hT
                have hql := things_len p.length p (Nat.le_refl _) q hq
                clear hT
                go_wp2_with (first
                  | (go_at_call 71; refine (refSplit_any x _ hxx).mono ?_; rintro e w1 ⟨rfl, hB1⟩; rw [hsp]; unfold splitV; have hs1 := hB1.size
                     have he6 : True := trivial)
                  | (go_at_call 49; refine (IH.out ⟨p.toArray⟩ mo _ (by show p.toArray.size < _; simp; omega) (by show p.toArray.size ≤ _; simp; omega) (by omega) ).mono ?_; rintro e w2 ⟨hans, hB2⟩; rw [show (⟨p.toArray⟩ : ByteArray).data.toList = p from rfl, hq] at hans; obtain ⟨aq, cq, rfl, hlq⟩ := hans
                     have hm : Holds w2 w1.heap.size 54 #[.bool false, .string ⟨p.toArray⟩, .slice none 0 0] := below_holds hB2 (Holds.new w1 _ _)
                     have hBr2 : Below wr.heap.size wr w2 := hB1.trans ((one_alloc hB2).mono hs1)
                     have hs2 : w1.heap.size + 1 ≤ w2.heap.size := by have h9 := hB2.size; rw [World.size_alloc] at h9; exact h9
                     rw [World.size_alloc] at hlq
                     have HLQ : Hid (Lies w2 (fun k => w1.heap.size + 1 ≤ k ∧ k < w2.heap.size) q aq) := hlq
                     clear hlq hB2)
                  | (refine wpList_storeH rfl 54 _ _ rfl w1.heap.size #[.bool true, .string ⟨#[]⟩, .slice aq q.len cq] rfl rfl 54 _ hm infoItem3 rfl (item_one _ _ _ _ _) ?_
                     intro w3 h3 o3 z3
                     have Z3 : Hid (w3.heap.size = w2.heap.size) := z3
                     clear hm z3)
                  | (refine wpList_loadH rfl 54 _ rfl w1.heap.size rfl 54 _ _ h3 Try.underlying54 rfl infoItem3 ?_)
                  | (refine wpList_append_own2 _ rfl _ _ 52 rfl n 54 i8 (.agg #[.bool false, .string ⟨#[]⟩, .slice none 0 0]) 3 48 underItems HI.out.1 HI.out.2.1 HI.out.2.2.1 HI.out.2.2.2 rfl (by omega) v r.len xs rfl ((ownsRow_only (ownsRow_below OWN.out hBr2) o3 (fun q9 => by have h8 := (OWN.out.lt _ q9).2; omega)).alloc _) ⟨w3.heap.size, 0, none⟩ 1 1 [.bool true, .string ⟨#[]⟩, .slice aq q.len cq] rfl rfl (item_news w3 _ _ _) (by intro u hu; simp at hu; rcases hu with rfl | rfl | rfl <;> rfl) (by omega) (by omega) (by omega) (by rw [World.size_alloc]; have h9 := hBr2.size; have h8 := Z3.out; omega) ?_
                     intro v4 w4 own4 gr4 wh4)
                  | fail)
                have hal : Below w3.heap.size w3 (w3.alloc (.cells #[.bool true, .string ⟨#[]⟩, .slice aq q.len cq] 54)) := (Below.refl _ _).alloc (Nat.le_refl _) _
                have hbs := hBr2.size
                have z3 := Z3.out
                have hrc3 : RCells w3 (SRow n w3 v) r xs := (HRC.out.kept fun i hi => (o3.block i (by have := hi.2.1; omega) (by have := hi.2.1; omega)).trans (hBr2.block i hi.2.1)).mono fun _ hi => ⟨hi.1, by have := hi.2.1; omega, hi.2.2⟩
                have hrc4 := rcells_append (rcells_below hrc3 hal) gr4 wh4
                have hlv : ∀ k, v.ownBlock = some k → n ≤ k ∧ k < wr.heap.size := fun k hk => OWN.out.lt k hk
                have hl4 : Lies w4 (SRow n w4 v4) q aq := by
                  have e1 := HLQ.out.kept (w' := w4) fun i hi => by
                    rw [gr4.block i (by rw [World.size_alloc]; omega) (fun q9 => by have := (hlv i q9.symm).2; omega), hal.block i (by omega), o3.block i hi.2 (by omega)]
                  refine e1.mono fun k hk => ⟨by omega, by have h9 := gr4.size; rw [World.size_alloc] at h9; omega, fun q9 => ?_⟩
                  rcases wh4 with q8 | q8
                  · rw [q8] at q9; have := (hlv k q9.symm).2; omega
                  · rw [q8, World.size_alloc] at q9; have h7 : k = w3.heap.size + 1 := by simpa using q9
                    omega
                have hB3 : Below n w w3 := Only.fresh' (hB.trans (hBr2.mono hnw)) o3 ⟨by omega, by omega⟩
                have hBB : Below n w w4 := below_grown (hB3.trans (hal.mono (by omega))) gr4 (by rw [World.size_alloc]; omega) (fun k hk => (hlv k hk).1)
                have hsz4 : n ≤ w4.heap.size := by have h9 := gr4.size; rw [World.size_alloc] at h9; omega
                have HRL : Hid _ := And.intro hrc4 (And.intro hBB (And.intro hsz4 (And.intro own4 hl4)))
                clear hrc3 hrc4 hBB hsz4 own4 gr4 wh4 hBr2 hal hl4 hB3 o3 h3
                go_roundw
                case rel =>
                  obtain ⟨hrc2, hBB, hsz2, own2, hl2⟩ := HRL.out
                  refine ⟨⟨t.toArray⟩, v4, r.app (.item true [] q .nil), _, rfl, rfl, ?_, ?_, hBB, hsz2, ?_, hrc2.snoc (c' := cq) (by simp) (by omega) hl2⟩
                  · rw [Row.len_app]; show r.len + 1 + t.toArray.size ≤ _; simp; omega
                  · rw [HTH.out, HT.out]; exact map_app _ _ _ _ _
                  · rw [Row.len_app]; exact own2
                case measure => show t.toArray.size < x.size; simp; omega
      · have h0i : ¬ (0 : Int) < x.size := by omega
        have hxz : x.size = 0 := by omega
        have hzi : (x.size : Int) = 0 := by omega
        have he8 : True := trivial
        have HF : Hid (things most x0.data.toList = some r) := by
          have h1 := HTH.out
          rw [show x.data.toList = [] from List.eq_nil_of_length_eq_zero (by rw [sizeB]; exact hxz), things_nil] at h1
          show things most x0.data.toList = some r
          rw [h1, Option.map_some, Row.app_nil]
        obtain ⟨ar, cr, hvr, hlr⟩ := lies_own OWN.out HRC.out rfl (S' := fun k => n ≤ k ∧ k < wr.heap.size) (fun k hk => ⟨hk.1, hk.2.1⟩) (fun k hk => OWN.out.lt k hk)
        have HL : Hid (v = .slice ar r.len cr ∧ Lies wr (fun k => n ≤ k ∧ k < wr.heap.size) r ar) := ⟨hvr, hlr⟩
        clear hvr hlr
        go_wp2_with fail
        go_ret2
        refine ⟨?_, ?_⟩
        · rw [HF.out]
          exact ⟨ar, cr, by rw [← HL.out.1]; rfl, by rw [← HN.out]; exact HL.out.2⟩
        · rw [← HN.out]; exact hB
end Go.Proofs.Ytadpopjhhanapaa
/-
  What the document's Decode does.
-/
namespace Go.Proofs.Ytadpopjhhanapaa
open Go Go.RowKit

theorem things_pos {most : Nat} {t : List UInt8} {q : Row} (ht : t ≠ []) (h : things most t = some q) : 1 ≤ q.len := by
  cases hs : split t with
  | none => rw [things_none ht hs] at h; cases h
  | some x =>
    obtain ⟨p, l, r⟩ := x
    cases most with
    | zero => rw [things_deep ht] at h; cases h
    | succ most =>
      cases l with
      | false =>
        rw [things_text ht hs] at h
        obtain ⟨q2, _, rfl⟩ := Option.map_eq_some_iff.1 h
        simp [Row.len]
      | true =>
        rw [things_list ht hs] at h
        cases hp : things most p with
        | none => rw [hp] at h; cases h
        | some q3 =>
          rw [hp] at h
          obtain ⟨q2, _, rfl⟩ := Option.map_eq_some_iff.1 h
          simp [Row.len]
theorem decode_things (l : List UInt8) : decode l = match things 16 l with
    | some r => if r.len = 1 then some r else none
    | none => none := by
  by_cases h0 : l = []
  · subst h0; rfl
  cases hs : split l with
  | none => rw [things_none h0 hs]; unfold decode; rw [hs]
  | some x =>
    obtain ⟨p, b, t⟩ := x
    by_cases ht : t = []
    · subst ht
      have hd : decode l = things 16 l := by unfold decode; rw [hs]
      cases hq : things 16 l with
      | none => rw [hd, hq]
      | some r =>
        rw [hq] at hd
        obtain ⟨b, s, i, rfl, _, _⟩ := decode_one hd
        rw [hd]; rfl
    · rw [things_split hs ht]
      have key : ∀ q, things 16 l = some q → 2 ≤ q.len := by
        intro q hq
        cases b with
        | false =>
          rw [things_text h0 hs] at hq
          obtain ⟨q2, h2, rfl⟩ := Option.map_eq_some_iff.1 hq
          have := things_pos ht h2
          simp only [Row.len]; omega
        | true =>
          rw [things_list h0 hs] at hq
          cases hp : things 15 p with
          | none => rw [hp] at hq; cases hq
          | some q3 =>
            rw [hp] at hq
            obtain ⟨q2, h2, rfl⟩ := Option.map_eq_some_iff.1 hq
            have := things_pos ht h2
            simp only [Row.len]; omega
      cases hq : things 16 l with
      | none => rfl
      | some q => have := key q hq; dsimp only; rw [if_neg (by omega)]

set_option maxRecDepth 8000 in
set_option maxHeartbeats 4000000 in
theorem refDecode_any (x : ByteArray) (w : World) (hx : x.size ≤ 1000000) :
    Calls Try.prog 26 #[.string x] w fun e w' => ItemAns w w' (decode x.data.toList) e ∧ Below w.heap.size w w' := by
  have hd := decode_things x.data.toList
  cases hq : things 16 x.data.toList with
  | none =>
    rw [hq] at hd
    rw [hd]
    clear hd
    go_enter Try.func26, Try.ntmps26
    go_wp2_with (first
      | (go_at_call 49; refine (things_any (x.size + 1) x 16 _ (by omega) hx (by omega)).mono ?_; rintro e w2 ⟨hans, hB2⟩; rw [hq] at hans; obtain rfl : e = _ := hans
         have hm : Holds w2 w.heap.size 54 #[.bool false, .string ⟨#[]⟩, .slice none 0 0] := below_holds hB2 (Holds.new w _ _)
         have hB2w := one_alloc hB2)
      | (refine wpList_storeH rfl 54 _ _ rfl w.heap.size #[.bool false, .string ⟨#[]⟩, .slice none 0 0] rfl rfl 54 _ hm infoItem3 rfl (item_one _ _ _ _ _) ?_
         intro w3 h3 o3 z3)
      | fail)
    refine bodyPost_ret (results_cellH2 (p := 2) (u := 3) rfl _ w3 w.heap.size 54 _ _ rfl h3 Try.underlying54 rfl infoItem3) rfl ⟨rfl, ?_⟩
    exact Only.fresh' hB2w o3 ⟨Nat.le_refl _, hB2w.size⟩
  | some r =>
    have hrl := things_len x.size x.data.toList (by rw [sizeB]; omega) r hq
    rw [sizeB] at hrl
    rw [hq] at hd
    dsimp only at hd
    by_cases h1 : r.len = 1
    · rw [if_pos h1] at hd
      obtain ⟨b, s, i, rfl, hsl, hil⟩ := decode_one hd
      rw [sizeB] at hsl hil
      have hlen1 : (Row.item b s i .nil).len = 1 := rfl
      rw [hd]
      clear hd h1
      go_enter Try.func26, Try.ntmps26
      go_wp2_with (first
        | (go_at_call 49; refine (things_any (x.size + 1) x 16 _ (by omega) hx (by omega)).mono ?_; rintro e w2 ⟨hans, hB2⟩; rw [hq] at hans; obtain ⟨aq, cq, rfl, hlq⟩ := hans
           obtain ⟨bk, o, a', c', rfl, hbk, hc0, hc1, hc2, _, _, hli, _⟩ := hlq
           have hm : Holds w2 w.heap.size 54 #[.bool false, .string ⟨#[]⟩, .slice none 0 0] := below_holds hB2 (Holds.new w _ _)
           have hB2w := one_alloc hB2
           have hr3 := range3 hc0 hc1 hc2
           have HR3 : Hid (w2.rangeAt bk o [.bool b, .string ⟨s.toArray⟩, .slice a' i.len c']) := hr3
           rw [World.size_alloc] at hbk
           have HLI : Hid (Lies w2 (fun k => (w.alloc (.cells #[.bool false, .string ⟨#[]⟩, .slice none 0 0] 54)).heap.size ≤ k ∧ k < w2.heap.size) i a') := hli
           clear hr3 hc0 hc1 hc2 hli)
        | (refine wpList_load_mid rfl 54 _ rfl bk o rfl _ _ HR3.out Try.underlying54 rfl infoItem3 ?_)
        | (refine wpList_storeH rfl 54 _ _ rfl w.heap.size #[.bool b, .string ⟨s.toArray⟩, .slice a' i.len c'] rfl rfl 54 _ hm infoItem3 rfl (item_one _ _ _ _ _) ?_
           intro w3 h3 o3 z3)
        | fail)
      refine bodyPost_ret (results_cellH2 (p := 2) (u := 3) rfl _ w3 w.heap.size 54 _ _ rfl h3 Try.underlying54 rfl infoItem3) rfl ⟨?_, ?_⟩
      · refine ⟨a', c', rfl, by omega, by omega, ?_⟩
        refine (HLI.out.kept fun k hk => o3.block k hk.2 (by have := hk.1; rw [World.size_alloc] at this; omega)).mono fun k hk => ⟨by have := hk.1; rw [World.size_alloc] at this; omega, by rw [z3]; exact hk.2⟩
      · exact Only.fresh' hB2w o3 ⟨Nat.le_refl _, hB2w.size⟩
    · rw [if_neg h1] at hd
      rw [hd]
      have h1i : ¬ (r.len : Int) = 1 := by omega
      have hri : (r.len : Int) ≤ 1000000 := by omega
      clear hd
      go_enter Try.func26, Try.ntmps26
      go_wp2_with (first
        | (go_at_call 49; refine (things_any (x.size + 1) x 16 _ (by omega) hx (by omega)).mono ?_; rintro e w2 ⟨hans, hB2⟩; rw [hq] at hans; obtain ⟨aq, cq, rfl, hlq⟩ := hans
           have hm : Holds w2 w.heap.size 54 #[.bool false, .string ⟨#[]⟩, .slice none 0 0] := below_holds hB2 (Holds.new w _ _)
           have hB2w := one_alloc hB2)
        | (refine wpList_storeH rfl 54 _ _ rfl w.heap.size #[.bool false, .string ⟨#[]⟩, .slice none 0 0] rfl rfl 54 _ hm infoItem3 rfl (item_one _ _ _ _ _) ?_
           intro w3 h3 o3 z3)
        | fail)
      refine bodyPost_ret (results_cellH2 (p := 2) (u := 3) rfl _ w3 w.heap.size 54 _ _ rfl h3 Try.underlying54 rfl infoItem3) rfl ⟨rfl, ?_⟩
      exact Only.fresh' hB2w o3 ⟨Nat.le_refl _, hB2w.size⟩
end Go.Proofs.Ytadpopjhhanapaa
