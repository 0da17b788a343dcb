/-
  The program's Fits, Check and the document's Size, Check.
-/
import Derived.Test.YtdgfjaidnedaiaaEQuiet
namespace Go.Proofs.Ytdgfjaidnedaiaa
open Go Go.RowKit

theorem fits_any {w : World} {leaf : Bool} {v : Value} {L : List Cl} (hv : CellsAt w v L) (hl : L.length ≤ 100000) (hs : Short 10000 L) : Calls Try.prog 16 #[nodeV leaf v] w fun e w' => e = .returned (.bool (decide (sizeL leaf L ≤ 1013))) ∧ Below w.heap.size w w' := by
  obtain ⟨W0, g, hW0, hg, hB0, hb0, c0, c1⟩ := box_node w leaf v
  have hsz := size_any (leaf := leaf) (hv.below hB0) hl hs
  have HB : Hid (Below w.heap.size w W0) := hB0
  have HG : Hid (w.heap.size = g) := hg
  obtain ⟨p, c, rfl⟩ := hv.shape
  clear hv hB0 hb0
  unfold nodeV at hsz ⊢
  generalize sizeL leaf L = z at hsz ⊢
  have HD : Hid (decide ((z : Int) ≤ 1013) = decide (z ≤ 1013)) := by
    show _ = _
    by_cases hz : z ≤ 1013
    · rw [decide_eq_true hz, decide_eq_true (by omega)]
    · rw [decide_eq_false hz, decide_eq_false (by omega)]
  go_enter Try.func16, Try.ntmps16
  go_wp2_with (go_at_call 14; refine hsz.mono ?_; rintro e w1 ⟨rfl, hB1⟩)
  go_ret
  rw [← HG.out, ← HD.out]
  exact ⟨rfl, below_new HB.out hB1⟩
set_option maxRecDepth 8000 in
set_option maxHeartbeats 1000000 in
theorem qsize_any {w : World} {leaf : Bool} {v : Value} {L : List Cl} (hv : CellsAt w v L) (hl : L.length ≤ 100000) (hs : Short 10000 L) : Calls Try.prog 15 #[nodeV leaf v] w fun e w' => e = .returned (.int .i64 (sizeL leaf L : Nat)) ∧ Below w.heap.size w w' := by
  unfold nodeV
  obtain ⟨p, c, rfl⟩ := hv.shape
  obtain ⟨n, hn⟩ : ∃ n, L.length = n := ⟨_, rfl⟩
  have HN : Hid (L.length = n) := hn
  rw [hn] at hv hl ⊢
  clear hn
  have hni : (n : Int) ≤ 100000 := by omega
  obtain ⟨S, hS⟩ : ∃ S : Nat → Nat, ∀ k, S k = sizeL leaf (L.take k) := ⟨_, fun _ => rfl⟩
  have hSk : ∀ k x, L[k]? = some x → S (k + 1) = S k + sizeC leaf x := fun k x h => by rw [hS, hS, sizeL_take h]
  have hSl : ∀ k, S k ≤ 2100000000 := fun k => by
    rw [hS]
    have h1 := sizeL_le leaf L k
    have h2 := sizeL_short (leaf := leaf) hs
    rw [HN.out] at h2
    have : n * 20010 ≤ 100000 * 20010 := Nat.mul_le_mul_right _ hl
    omega
  have hS0 : S 0 = 2 := by rw [hS]; rfl
  have hSn : S n = sizeL leaf L := by rw [hS, ← HN.out, List.take_length]
  rw [← hSn]
  clear hSn hS
  obtain ⟨W0, g, hW0, hg, hB0, hb0, c0, c1⟩ := box_node w leaf (.slice p n c)
  have hgH : Hid (w.heap.size = g) := hg
  have hWH : Hid (Below w.heap.size w W0 ∧ Holds W0 g 24 #[.bool leaf, .slice p n c]) := ⟨hB0, hb0⟩
  clear hB0 hb0
  go_enter Try.func15, Try.ntmps15
  go_wp2_with fail
  go_loopw [3, 4] (fun x y wr => ∃ k : Nat, y = .int .i64 (k : Nat) ∧ k ≤ n ∧ x = .int .i64 (S k : Nat) ∧ Below W0.heap.size W0 wr) (fun _ y _ => n - (intOf y).toNat)
  case atStart => exact ⟨0, rfl, Nat.zero_le _, by rw [hS0]; rfl, Below.refl _ _⟩
  case round =>
    clear c0 c1
    obtain ⟨k, rfl, hk, rfl, hB⟩ := hrel
    have hBw := below_new hWH.out.1 hB
    have hb := below_holds hB hWH.out.2
    have c0 := hb.cell 0
    have c1 := hb.cell 1
    simp at c0 c1
    clear hb
    by_cases hkn : k < n
    · have hki : (k : Int) < n := by omega
      obtain ⟨x, hx⟩ : ∃ x, L[k]? = some x := ⟨_, List.getElem?_eq_getElem (by have := HN.out; omega)⟩
      obtain ⟨b, o, rfl, hnn, hd⟩ := (hv.below hBw).at hx
      clear hnn
      have hxs := hs x (List.mem_of_getElem? hx)
      have HT : Hid (S (k + 1) = S k + sizeC leaf x) := hSk k x hx
      have h1 : S k + sizeC leaf x ≤ 2100000000 := by rw [← hSk k x hx]; exact hSl _
      have hcs := fun w => qcsize_any leaf x (by omega) (by omega) w
      clear hSk hSl hS0 hv
      generalize sizeC leaf x = y at HT h1 hcs
      generalize S k = s0 at HT h1 ⊢
      have hs0 : (s0 : Int) + y ≤ 2100000000 := by omega
      go_wp2_with fail
      refine wp_region_class (fun W => Below wr.heap.size wr W) mixedP (by kernel_rfl) (Below.refl _ _).drew ?_
      go_big_quiet_step (exact fun _ => rfl)
      go_big_quiet_step (exact fun _ => rfl)
      refine wpQ_ld rfl _ _ rfl rfl (fun W hW => ldBool (keep_cell hW c0)) ?_
      go_frame
      go_big_quiet_step (exact fun _ => rfl)
      refine wpQ_ld rfl _ _ rfl rfl (fun W hW => ldRow (keep_cell hW c1)) ?_
      go_frame
      go_big_quiet_step (exact fun _ => rfl)
      go_big_quiet_step (exact fun _ => rfl)
      refine wpQ_ld rfl _ _ rfl rfl (fun W hW => ldCell (hd.below hW)) ?_
      go_frame
      refine wpQ_call rfl 38 #[.bool leaf, cla x] (fun _ => by go_simp) (.int .i64 (y : Nat)) (fun W hW => (hcs W).mono fun e w' h => ⟨h.1, below_new hW h.2⟩) ?_
      go_frame
      go_big_quiet_step (exact fun _ => rfl)
      go_big_quiet_step (exact fun _ => rfl)
      refine wpQuiet_nil ?_
      intro W6 hB6
      simp only [Exit.inBlock, Exit.then]
      go_at_K
      have hB2 : Below W0.heap.size W0 W6 := below_new hB hB6
      clear hB hB6 c0 c1 hd
      go_wp2_with fail
      exact ⟨⟨k + 1, by go_num, by omega, by rw [HT.out]; go_num, hB2⟩, by simp [intOf]; omega⟩
    · have hki : ¬ (k : Int) < n := by omega
      obtain rfl : k = n := by omega
      go_wp2_with fail
      go_ret
      rw [← hgH.out]
      exact ⟨rfl, hBw⟩
theorem le_no {a b : ByteArray} (h : kl a b = true) : (Op.bytesLess b.toList a.toList || b.toList == a.toList) = false := by
  have h1 : Op.bytesLess b.toList a.toList = false := kl_asymm h
  have h2 : (b.toList == a.toList) = false := beq_eq_false_iff_ne.2 fun e => kl_ne h (ba_ext e).symm
  rw [h1, h2]; rfl
theorem le_yes {a b : ByteArray} (h : kl a b = false) : (Op.bytesLess b.toList a.toList || b.toList == a.toList) = true := by
  cases h1 : Op.bytesLess b.toList a.toList with
  | true => rfl
  | false => rw [kl_tri (a := b) (b := a) h1 h]; simp
theorem run_leqE {a b : ByteArray} {r : Bool} (h : (Op.bytesLess a.toList b.toList || a.toList == b.toList) = r) (w : World) : (binOp .leq 9 (.string a) (.string b)).run Try.prog w = .ok (.bool r) w := by rw [← h]; simp [binOp, Op.stringOp]
theorem wrapE1 {k j : Nat} (h : k = j + 1) (hk : k ≤ 1000000) : IntKind.i64.wrap ((k : Int) - 1) = (j : Int) := by rw [IntKind.wrap_i64]; omega
set_option maxRecDepth 8000 in
set_option maxHeartbeats 1000000 in
theorem check_any {w : World} {leaf : Bool} {v : Value} {L : List Cl} (hv : CellsAt w v L) (hl : L.length ≤ 100000) : Calls Try.prog 12 #[nodeV leaf v] w fun e w' => e = .returned (.int .i64 (chkE leaf L)) ∧ Below w.heap.size w w' := by
  have hnot := run_notE
  unfold nodeV
  obtain ⟨p, c, rfl⟩ := hv.shape
  obtain ⟨n, hn⟩ : ∃ n, L.length = n := ⟨_, rfl⟩
  have HN : Hid (L.length = n) := hn
  rw [hn] at hv hl ⊢
  clear hn
  have hni : (n : Int) ≤ 100000 := by omega
  obtain ⟨R, hR⟩ : ∃ R, chkE leaf L = R := ⟨_, rfl⟩
  have HR : Hid (chkE leaf L = R) := hR
  rw [hR]
  clear hR
  obtain ⟨W0, g, hW0, hg, hB0, hb0, c0, c1⟩ := box_node w leaf (.slice p n c)
  have hgH : Hid (w.heap.size = g) := hg
  have hWH : Hid (Below w.heap.size w W0 ∧ Holds W0 g 24 #[.bool leaf, .slice p n c]) := ⟨hB0, hb0⟩
  clear hB0 hb0
  go_enter Try.func12, Try.ntmps12
  go_wp2_with fail
  go_loopw [8] (fun y wr => ∃ k : Nat, y = .int .i64 (k : Nat) ∧ k ≤ n ∧ Hid (OkL leaf (L.take k)) ∧ Below W0.heap.size W0 wr) (fun y _ => n - (intOf y).toNat)
  case atStart => exact ⟨0, rfl, Nat.zero_le _, OkL.nil _, Below.refl _ _⟩
  case round =>
    clear c0 c1
    obtain ⟨k, rfl, hk, HO, hB⟩ := hrel
    have hBw := below_new hWH.out.1 hB
    have hb := below_holds hB hWH.out.2
    have c0 := hb.cell 0
    have c1 := hb.cell 1
    simp at c0 c1
    clear hb
    by_cases hkn : k < n
    · have hki : (k : Int) < n := by omega
      obtain ⟨x, hx⟩ : ∃ x, L[k]? = some x := ⟨_, List.getElem?_eq_getElem (by have := HN.out; omega)⟩
      obtain ⟨b, o, rfl, hnn, d0, d1, d2, d3⟩ := (hv.below hBw).at hx
      clear hnn
      have hcs := fun w => maybe_any leaf x w
      obtain ⟨W1, z, hW1, hz, hB1, hf⟩ := box_cell wr x
      have e0 := keep_cell hB1 c0
      have e1 := keep_cell hB1 c1
      have HB1 : Hid (Below W0.heap.size W0 W1) := below_new hB hB1
      have f0 := hf.1
      cases hm : mayB leaf x with
      | false =>
        rw [hm] at hcs
        have HRe : Hid (R = 1) := HR.out.symm.trans (chkE_no (ok_not_may hx hm))
        have hvB := hv
        clear hv hm hB1
        go_wp2_with fail
        refine wp_region_class (fun W => Below W1.heap.size W1 W) mixedP (by kernel_rfl) (Below.refl _ _).drew ?_
        go_big_quiet_step (exact fun _ => rfl)
        refine wpQ_ld rfl _ _ rfl rfl (fun W hW => ldBool (keep_cell hW e0)) ?_
        go_frame
        refine wpQ_ld rfl _ _ rfl rfl (fun W hW => ldCell (hf.below hW)) ?_
        go_frame
        refine wpQ_call rfl 35 #[.bool leaf, cla x] (fun _ => by go_simp) (.bool false) (fun W hW => (hcs W).mono fun e w' h => ⟨h.1, below_new hW h.2⟩) ?_
        go_frame
        go_big_quiet_step (exact fun _ => rfl)
        go_big_quiet_step (exact fun _ => rfl)
        go_big_quiet_step (fail)
        go_big_quiet_step (fail)
        go_big_quiet_step (fail)
        go_big_quiet_step (fail)
        go_big_quiet_step (fail)
        go_big_quiet_step (fail)
        go_big_quiet_step (fail)
        go_big_quiet_step (fail)
        go_big_quiet_step (fail)
        go_big_quiet_step (fail)
        go_big_quiet_step (fail)
        go_big_quiet_step (fail)
        go_big_quiet_step (fail)
        go_big_quiet_step (fail)
        go_big_quiet_step (exact fun _ => rfl)
        refine wpQuiet_nil ?_
        intro W6 hB6
        show Exit.then _ _ Exit.normal _ _
        simp only [Exit.then]
        go_at_K
        have HB2 : Hid (Below w.heap.size w W6) := below_new hWH.out.1 (below_new HB1.out hB6)
        clear hB6
        go_wp2_with fail
        go_ret
        rw [HRe.out]
        exact ⟨rfl, HB2.out⟩
      | true =>
        rw [hm] at hcs
        by_cases h0 : k = 0
        · have hk0 : ¬ (0 : Int) < k := by omega
          have HO2 : Hid (OkL leaf (L.take (k + 1))) := ok_step hx HO.out hm fun a h => absurd h (by omega)
          clear hv hm hB1 h0
          go_wp2_with fail
          refine wp_region_class (fun W => Below W1.heap.size W1 W) mixedP (by kernel_rfl) (Below.refl _ _).drew ?_
          go_big_quiet_step (exact fun _ => rfl)
          refine wpQ_ld rfl _ _ rfl rfl (fun W hW => ldBool (keep_cell hW e0)) ?_
          go_frame
          refine wpQ_ld rfl _ _ rfl rfl (fun W hW => ldCell (hf.below hW)) ?_
          go_frame
          refine wpQ_call rfl 35 #[.bool leaf, cla x] (fun _ => by go_simp) (.bool true) (fun W hW => (hcs W).mono fun e w' h => ⟨h.1, below_new hW h.2⟩) ?_
          go_frame
          go_big_quiet_step (exact fun _ => rfl)
          go_big_quiet_step (exact fun _ => rfl)
          go_big_quiet_step (exact fun _ => rfl)
          refine wpQ_val rfl (.bool false) (fun _ => by go_simp; omega) ?_
          go_frame
          go_big_quiet_step (exact fun _ => rfl)
          go_big_quiet_step (fail)
          go_big_quiet_step (fail)
          go_big_quiet_step (fail)
          go_big_quiet_step (fail)
          go_big_quiet_step (fail)
          go_big_quiet_step (fail)
          go_big_quiet_step (fail)
          go_big_quiet_step (fail)
          go_big_quiet_step (fail)
          go_big_quiet_step (fail)
          go_big_quiet_step (exact fun _ => rfl)
          go_big_quiet_step (exact fun _ => rfl)
          refine wpQuiet_nil ?_
          intro W6 hB6
          show Exit.then _ _ Exit.normal _ _
          simp only [Exit.then]
          go_at_K
          have HB2 : Hid (Below W0.heap.size W0 W6) := below_new HB1.out hB6
          clear hB6
          go_wp2_with fail
          exact ⟨⟨k + 1, by go_num, by omega, HO2, HB2.out⟩, by simp [intOf]; omega⟩
        · obtain ⟨j, hj⟩ : ∃ j, k = j + 1 := ⟨k - 1, by omega⟩
          have hwr := wrapE1 hj (by omega)
          have hji : (j : Int) < n := by omega
          have hk0 : (0 : Int) < k := by omega
          obtain ⟨y, hy⟩ : ∃ y, L[j]? = some y := ⟨_, List.getElem?_eq_getElem (by have := HN.out; omega)⟩
          obtain ⟨b', o', hbo, hnn, g0⟩ := (hv.below (below_new hWH.out.1 HB1.out)).at hy
          injection hbo with hbo
          injection hbo with hb1 ho1
          subst hb1 ho1
          have gk := g0.1
          have HJ : Hid (k = j + 1) := hj
          have hky : L[k - 1]? = some y := by rw [hj, Nat.add_sub_cancel]; exact hy
          clear hnn hj
          cases hlt : kl y.k x.k with
          | false =>
            have hle := le_yes hlt
            have HRe : Hid (R = 1) := HR.out.symm.trans (chkE_no (ok_not_rise (by omega) hky hx hlt))
            clear hv hm hB1 hlt hky
            go_wp2_with fail
            refine wp_region_class (fun W => Below W1.heap.size W1 W) mixedP (by kernel_rfl) (Below.refl _ _).drew ?_
            go_big_quiet_step (exact fun _ => rfl)
            refine wpQ_ld rfl _ _ rfl rfl (fun W hW => ldBool (keep_cell hW e0)) ?_
            go_frame
            refine wpQ_ld rfl _ _ rfl rfl (fun W hW => ldCell (hf.below hW)) ?_
            go_frame
            refine wpQ_call rfl 35 #[.bool leaf, cla x] (fun _ => by go_simp) (.bool true) (fun W hW => (hcs W).mono fun e w' h => ⟨h.1, below_new hW h.2⟩) ?_
            go_frame
            go_big_quiet_step (exact fun _ => rfl)
            go_big_quiet_step (exact fun _ => rfl)
            go_big_quiet_step (exact fun _ => rfl)
            refine wpQ_val rfl (.bool true) (fun _ => by go_simp; omega) ?_
            go_frame
            go_big_quiet_step (exact fun _ => rfl)
            go_big_quiet_step (exact fun _ => rfl)
            refine wpQ_ld rfl _ _ rfl rfl (fun W hW => ldStr (keep_cell hW f0)) ?_
            go_frame
            go_big_quiet_step (exact fun _ => rfl)
            refine wpQ_ld rfl _ _ rfl rfl (fun W hW => ldRow (keep_cell hW e1)) ?_
            go_frame
            go_big_quiet_step (exact fun _ => rfl)
            refine wpQ_val rfl (.int .i64 (j : Nat)) (fun _ => by go_simp) ?_
            go_frame
            go_big_quiet_step (exact fun _ => rfl)
            go_big_quiet_step (exact fun _ => rfl)
            refine wpQ_ld rfl _ _ rfl rfl (fun W hW => ldStr (keep_cell hW gk)) ?_
            go_frame
            refine wpQ_val rfl (.bool true) (fun _ => by go_simp; rw [run_leqE hle]; rfl) ?_
            go_frame
            go_big_quiet_step (exact fun _ => rfl)
            go_big_quiet_step (exact fun _ => rfl)
            refine wpQuiet_nil ?_
            intro W6 hB6
            show Exit.then _ _ Exit.normal _ _
            simp only [Exit.then]
            go_at_K
            have HB2 : Hid (Below w.heap.size w W6) := below_new hWH.out.1 (below_new HB1.out hB6)
            clear hB6
            go_wp2_with fail
            go_ret
            rw [HRe.out]
            exact ⟨rfl, HB2.out⟩
          | true =>
            have hle := le_no hlt
            have HO2 : Hid (OkL leaf (L.take (k + 1))) := ok_step hx HO.out hm fun a _ ha => by rw [hky] at ha; injection ha with ha; rw [← ha]; exact hlt
            clear hv hm hB1 hlt hky
            go_wp2_with fail
            refine wp_region_class (fun W => Below W1.heap.size W1 W) mixedP (by kernel_rfl) (Below.refl _ _).drew ?_
            go_big_quiet_step (exact fun _ => rfl)
            refine wpQ_ld rfl _ _ rfl rfl (fun W hW => ldBool (keep_cell hW e0)) ?_
            go_frame
            refine wpQ_ld rfl _ _ rfl rfl (fun W hW => ldCell (hf.below hW)) ?_
            go_frame
            refine wpQ_call rfl 35 #[.bool leaf, cla x] (fun _ => by go_simp) (.bool true) (fun W hW => (hcs W).mono fun e w' h => ⟨h.1, below_new hW h.2⟩) ?_
            go_frame
            go_big_quiet_step (exact fun _ => rfl)
            go_big_quiet_step (exact fun _ => rfl)
            go_big_quiet_step (exact fun _ => rfl)
            refine wpQ_val rfl (.bool true) (fun _ => by go_simp; omega) ?_
            go_frame
            go_big_quiet_step (exact fun _ => rfl)
            go_big_quiet_step (exact fun _ => rfl)
            refine wpQ_ld rfl _ _ rfl rfl (fun W hW => ldStr (keep_cell hW f0)) ?_
            go_frame
            go_big_quiet_step (exact fun _ => rfl)
            refine wpQ_ld rfl _ _ rfl rfl (fun W hW => ldRow (keep_cell hW e1)) ?_
            go_frame
            go_big_quiet_step (exact fun _ => rfl)
            refine wpQ_val rfl (.int .i64 (j : Nat)) (fun _ => by go_simp) ?_
            go_frame
            go_big_quiet_step (exact fun _ => rfl)
            go_big_quiet_step (exact fun _ => rfl)
            refine wpQ_ld rfl _ _ rfl rfl (fun W hW => ldStr (keep_cell hW gk)) ?_
            go_frame
            refine wpQ_val rfl (.bool false) (fun _ => by go_simp; rw [run_leqE hle]; rfl) ?_
            go_frame
            go_big_quiet_step (exact fun _ => rfl)
            go_big_quiet_step (exact fun _ => rfl)
            refine wpQuiet_nil ?_
            intro W6 hB6
            show Exit.then _ _ Exit.normal _ _
            simp only [Exit.then]
            go_at_K
            have HB2 : Hid (Below W0.heap.size W0 W6) := below_new HB1.out hB6
            clear hB6
            go_wp2_with fail
            exact ⟨⟨k + 1, by go_num, by omega, HO2, HB2.out⟩, by simp [intOf]; omega⟩
    · have hki : ¬ (k : Int) < n := by omega
      obtain rfl : k = n := by omega
      have HRe : Hid (R = 0) := HR.out.symm.trans (chkE_ok (by have := HO.out; rw [← HN.out, List.take_length] at this; exact this))
      go_wp2_with fail
      go_ret
      rw [← hgH.out, HRe.out]
      exact ⟨rfl, hBw⟩
set_option maxRecDepth 8000 in
set_option maxHeartbeats 1000000 in
theorem qcheck_any {w : World} {leaf : Bool} {v : Value} {L : List Cl} (hv : CellsAt w v L) (hl : L.length ≤ 100000) : Calls Try.prog 13 #[nodeV leaf v] w fun e w' => e = .returned (.int .i64 (chkE leaf L)) ∧ Below w.heap.size w w' := by
  have hnot := run_notE
  unfold nodeV
  obtain ⟨p, c, rfl⟩ := hv.shape
  obtain ⟨n, hn⟩ : ∃ n, L.length = n := ⟨_, rfl⟩
  have HN : Hid (L.length = n) := hn
  rw [hn] at hv hl ⊢
  clear hn
  have hni : (n : Int) ≤ 100000 := by omega
  obtain ⟨R, hR⟩ : ∃ R, chkE leaf L = R := ⟨_, rfl⟩
  have HR : Hid (chkE leaf L = R) := hR
  rw [hR]
  clear hR
  obtain ⟨W0, g, hW0, hg, hB0, hb0, c0, c1⟩ := box_node w leaf (.slice p n c)
  have hgH : Hid (w.heap.size = g) := hg
  have hWH : Hid (Below w.heap.size w W0 ∧ Holds W0 g 24 #[.bool leaf, .slice p n c]) := ⟨hB0, hb0⟩
  clear hB0 hb0
  go_enter Try.func13, Try.ntmps13
  go_wp2_with fail
  go_loopw [3] (fun y wr => ∃ k : Nat, y = .int .i64 (k : Nat) ∧ k ≤ n ∧ Hid (OkL leaf (L.take k)) ∧ Below W0.heap.size W0 wr) (fun y _ => n - (intOf y).toNat)
  case atStart => exact ⟨0, rfl, Nat.zero_le _, OkL.nil _, Below.refl _ _⟩
  case round =>
    clear c0 c1
    obtain ⟨k, rfl, hk, HO, hB⟩ := hrel
    have hBw := below_new hWH.out.1 hB
    have hb := below_holds hB hWH.out.2
    have c0 := hb.cell 0
    have c1 := hb.cell 1
    simp at c0 c1
    clear hb
    by_cases hkn : k < n
    · have hki : (k : Int) < n := by omega
      obtain ⟨x, hx⟩ : ∃ x, L[k]? = some x := ⟨_, List.getElem?_eq_getElem (by have := HN.out; omega)⟩
      obtain ⟨b, o, rfl, hnn, hd⟩ := (hv.below hBw).at hx
      clear hnn
      have hcs := fun w => qmay_any leaf x w
      cases hm : mayB leaf x with
      | false =>
        rw [hm] at hcs
        have HRe : Hid (R = 1) := HR.out.symm.trans (chkE_no (ok_not_may hx hm))
        clear hv hm
        go_wp2_with fail
        refine wp_region_class (fun W => Below wr.heap.size wr W) mixedP (by kernel_rfl) (Below.refl _ _).drew ?_
        go_big_quiet_step (exact fun _ => rfl)
        refine wpQ_ld rfl _ _ rfl rfl (fun W hW => ldBool (keep_cell hW c0)) ?_
        go_frame
        go_big_quiet_step (exact fun _ => rfl)
        refine wpQ_ld rfl _ _ rfl rfl (fun W hW => ldRow (keep_cell hW c1)) ?_
        go_frame
        go_big_quiet_step (exact fun _ => rfl)
        go_big_quiet_step (exact fun _ => rfl)
        refine wpQ_ld rfl _ _ rfl rfl (fun W hW => ldCell (hd.below hW)) ?_
        go_frame
        refine wpQ_call rfl 36 #[.bool leaf, cla x] (fun _ => by go_simp) (.bool false) (fun W hW => (hcs W).mono fun e w' h => ⟨h.1, below_new hW h.2⟩) ?_
        go_frame
        go_big_quiet_step (exact fun _ => rfl)
        refine wpQuiet_nil ?_
        intro W1 hB1
        show Exit.then _ _ Exit.normal _ _
        simp only [Exit.then]
        go_at_K
        have hBr : Below W0.heap.size W0 W1 := below_new hB hB1
        have e1 := keep_cell hB1 c1
        have dk := (hd.below hB1).1
        clear hB hB1 hd c0 c1
        go_wp2_with fail
        refine wp_region_class (fun W => Below W1.heap.size W1 W) mixedP (by kernel_rfl) (Below.refl _ _).drew ?_
        go_big_quiet_step (exact fun _ => rfl)
        go_big_quiet_step (exact fun _ => rfl)
        go_big_quiet_step (exact fun _ => rfl)
        go_big_quiet_step (fail)
        go_big_quiet_step (fail)
        go_big_quiet_step (fail)
        go_big_quiet_step (fail)
        go_big_quiet_step (fail)
        go_big_quiet_step (fail)
        go_big_quiet_step (fail)
        go_big_quiet_step (fail)
        go_big_quiet_step (fail)
        go_big_quiet_step (fail)
        go_big_quiet_step (fail)
        go_big_quiet_step (fail)
        go_big_quiet_step (fail)
        go_big_quiet_step (fail)
        go_big_quiet_step (fail)
        go_big_quiet_step (fail)
        go_big_quiet_step (fail)
        go_big_quiet_step (fail)
        go_big_quiet_step (exact fun _ => rfl)
        refine wpQuiet_nil ?_
        intro W6 hB6
        show Exit.then _ _ Exit.normal _ _
        simp only [Exit.then]
        go_at_K
        have HB2 : Hid (Below w.heap.size w W6) := below_new hWH.out.1 (below_new hBr hB6)
        clear hB6
        go_wp2_with fail
        go_ret
        rw [HRe.out]
        exact ⟨rfl, HB2.out⟩
      | true =>
        rw [hm] at hcs
        by_cases h0 : k = 0
        · have hk0 : ¬ (0 : Int) < k := by omega
          have HO2 : Hid (OkL leaf (L.take (k + 1))) := ok_step hx HO.out hm fun a h => absurd h (by omega)
          clear hv hm h0
          go_wp2_with fail
          refine wp_region_class (fun W => Below wr.heap.size wr W) mixedP (by kernel_rfl) (Below.refl _ _).drew ?_
          go_big_quiet_step (exact fun _ => rfl)
          refine wpQ_ld rfl _ _ rfl rfl (fun W hW => ldBool (keep_cell hW c0)) ?_
          go_frame
          go_big_quiet_step (exact fun _ => rfl)
          refine wpQ_ld rfl _ _ rfl rfl (fun W hW => ldRow (keep_cell hW c1)) ?_
          go_frame
          go_big_quiet_step (exact fun _ => rfl)
          go_big_quiet_step (exact fun _ => rfl)
          refine wpQ_ld rfl _ _ rfl rfl (fun W hW => ldCell (hd.below hW)) ?_
          go_frame
          refine wpQ_call rfl 36 #[.bool leaf, cla x] (fun _ => by go_simp) (.bool true) (fun W hW => (hcs W).mono fun e w' h => ⟨h.1, below_new hW h.2⟩) ?_
          go_frame
          go_big_quiet_step (exact fun _ => rfl)
          refine wpQuiet_nil ?_
          intro W1 hB1
          show Exit.then _ _ Exit.normal _ _
          simp only [Exit.then]
          go_at_K
          have hBr : Below W0.heap.size W0 W1 := below_new hB hB1
          have e1 := keep_cell hB1 c1
          have dk := (hd.below hB1).1
          clear hB hB1 hd c0 c1
          go_wp2_with fail
          refine wp_region_class (fun W => Below W1.heap.size W1 W) mixedP (by kernel_rfl) (Below.refl _ _).drew ?_
          go_big_quiet_step (exact fun _ => rfl)
          go_big_quiet_step (exact fun _ => rfl)
          go_big_quiet_step (exact fun _ => rfl)
          go_big_quiet_step (exact fun _ => rfl)
          refine wpQ_val rfl (.bool false) (fun _ => by go_simp; omega) ?_
          go_frame
          go_big_quiet_step (exact fun _ => rfl)
          go_big_quiet_step (fail)
          go_big_quiet_step (fail)
          go_big_quiet_step (fail)
          go_big_quiet_step (fail)
          go_big_quiet_step (fail)
          go_big_quiet_step (fail)
          go_big_quiet_step (fail)
          go_big_quiet_step (fail)
          go_big_quiet_step (fail)
          go_big_quiet_step (fail)
          go_big_quiet_step (fail)
          go_big_quiet_step (fail)
          go_big_quiet_step (fail)
          go_big_quiet_step (fail)
          go_big_quiet_step (exact fun _ => rfl)
          go_big_quiet_step (exact fun _ => rfl)
          refine wpQuiet_nil ?_
          intro W6 hB6
          show Exit.then _ _ Exit.normal _ _
          simp only [Exit.then]
          go_at_K
          have HB2 : Hid (Below W0.heap.size W0 W6) := below_new hBr hB6
          clear hB6
          go_wp2_with fail
          exact ⟨⟨k + 1, by go_num, by omega, HO2, HB2.out⟩, by simp [intOf]; omega⟩
        · obtain ⟨j, hj⟩ : ∃ j, k = j + 1 := ⟨k - 1, by omega⟩
          have hwr := wrapE1 hj (by omega)
          have hji : (j : Int) < n := by omega
          have hk0 : (0 : Int) < k := by omega
          obtain ⟨y, hy⟩ : ∃ y, L[j]? = some y := ⟨_, List.getElem?_eq_getElem (by have := HN.out; omega)⟩
          obtain ⟨b', o', hbo, hnn, g0⟩ := (hv.below hBw).at hy
          injection hbo with hbo
          injection hbo with hb1 ho1
          subst hb1 ho1
          have gk0 := g0.1
          have HJ : Hid (k = j + 1) := hj
          have hky : L[k - 1]? = some y := by rw [hj, Nat.add_sub_cancel]; exact hy
          clear hnn hj
          cases hlt : kl y.k x.k with
          | false =>
            have hle := le_yes hlt
            have HRe : Hid (R = 1) := HR.out.symm.trans (chkE_no (ok_not_rise (by omega) hky hx hlt))
            clear hv hm hlt hky
            go_wp2_with fail
            refine wp_region_class (fun W => Below wr.heap.size wr W) mixedP (by kernel_rfl) (Below.refl _ _).drew ?_
            go_big_quiet_step (exact fun _ => rfl)
            refine wpQ_ld rfl _ _ rfl rfl (fun W hW => ldBool (keep_cell hW c0)) ?_
            go_frame
            go_big_quiet_step (exact fun _ => rfl)
            refine wpQ_ld rfl _ _ rfl rfl (fun W hW => ldRow (keep_cell hW c1)) ?_
            go_frame
            go_big_quiet_step (exact fun _ => rfl)
            go_big_quiet_step (exact fun _ => rfl)
            refine wpQ_ld rfl _ _ rfl rfl (fun W hW => ldCell (hd.below hW)) ?_
            go_frame
            refine wpQ_call rfl 36 #[.bool leaf, cla x] (fun _ => by go_simp) (.bool true) (fun W hW => (hcs W).mono fun e w' h => ⟨h.1, below_new hW h.2⟩) ?_
            go_frame
            go_big_quiet_step (exact fun _ => rfl)
            refine wpQuiet_nil ?_
            intro W1 hB1
            show Exit.then _ _ Exit.normal _ _
            simp only [Exit.then]
            go_at_K
            have hBr : Below W0.heap.size W0 W1 := below_new hB hB1
            have e1 := keep_cell hB1 c1
            have dk := (hd.below hB1).1
            have gk := keep_cell hB1 gk0
            clear hB hB1 hd c0 c1
            go_wp2_with fail
            refine wp_region_class (fun W => Below W1.heap.size W1 W) mixedP (by kernel_rfl) (Below.refl _ _).drew ?_
            go_big_quiet_step (exact fun _ => rfl)
            go_big_quiet_step (exact fun _ => rfl)
            go_big_quiet_step (exact fun _ => rfl)
            go_big_quiet_step (exact fun _ => rfl)
            refine wpQ_val rfl (.bool true) (fun _ => by go_simp; omega) ?_
            go_frame
            go_big_quiet_step (exact fun _ => rfl)
            go_big_quiet_step (exact fun _ => rfl)
            refine wpQ_ld rfl _ _ rfl rfl (fun W hW => ldRow (keep_cell hW e1)) ?_
            go_frame
            go_big_quiet_step (exact fun _ => rfl)
            go_big_quiet_step (exact fun _ => rfl)
            go_big_quiet_step (exact fun _ => rfl)
            refine wpQ_ld rfl _ _ rfl rfl (fun W hW => ldStr (keep_cell hW dk)) ?_
            go_frame
            go_big_quiet_step (exact fun _ => rfl)
            refine wpQ_ld rfl _ _ rfl rfl (fun W hW => ldRow (keep_cell hW e1)) ?_
            go_frame
            go_big_quiet_step (exact fun _ => rfl)
            refine wpQ_val rfl (.int .i64 (j : Nat)) (fun _ => by go_simp) ?_
            go_frame
            go_big_quiet_step (exact fun _ => rfl)
            go_big_quiet_step (exact fun _ => rfl)
            refine wpQ_ld rfl _ _ rfl rfl (fun W hW => ldStr (keep_cell hW gk)) ?_
            go_frame
            refine wpQ_val rfl (.bool true) (fun _ => by go_simp; rw [run_leqE hle]; rfl) ?_
            go_frame
            go_big_quiet_step (exact fun _ => rfl)
            go_big_quiet_step (exact fun _ => rfl)
            refine wpQuiet_nil ?_
            intro W6 hB6
            show Exit.then _ _ Exit.normal _ _
            simp only [Exit.then]
            go_at_K
            have HB2 : Hid (Below w.heap.size w W6) := below_new hWH.out.1 (below_new hBr hB6)
            clear hB6
            go_wp2_with fail
            go_ret
            rw [HRe.out]
            exact ⟨rfl, HB2.out⟩
          | true =>
            have hle := le_no hlt
            have HO2 : Hid (OkL leaf (L.take (k + 1))) := ok_step hx HO.out hm fun a _ ha => by rw [hky] at ha; injection ha with ha; rw [← ha]; exact hlt
            clear hv hm hlt hky
            go_wp2_with fail
            refine wp_region_class (fun W => Below wr.heap.size wr W) mixedP (by kernel_rfl) (Below.refl _ _).drew ?_
            go_big_quiet_step (exact fun _ => rfl)
            refine wpQ_ld rfl _ _ rfl rfl (fun W hW => ldBool (keep_cell hW c0)) ?_
            go_frame
            go_big_quiet_step (exact fun _ => rfl)
            refine wpQ_ld rfl _ _ rfl rfl (fun W hW => ldRow (keep_cell hW c1)) ?_
            go_frame
            go_big_quiet_step (exact fun _ => rfl)
            go_big_quiet_step (exact fun _ => rfl)
            refine wpQ_ld rfl _ _ rfl rfl (fun W hW => ldCell (hd.below hW)) ?_
            go_frame
            refine wpQ_call rfl 36 #[.bool leaf, cla x] (fun _ => by go_simp) (.bool true) (fun W hW => (hcs W).mono fun e w' h => ⟨h.1, below_new hW h.2⟩) ?_
            go_frame
            go_big_quiet_step (exact fun _ => rfl)
            refine wpQuiet_nil ?_
            intro W1 hB1
            show Exit.then _ _ Exit.normal _ _
            simp only [Exit.then]
            go_at_K
            have hBr : Below W0.heap.size W0 W1 := below_new hB hB1
            have e1 := keep_cell hB1 c1
            have dk := (hd.below hB1).1
            have gk := keep_cell hB1 gk0
            clear hB hB1 hd c0 c1
            go_wp2_with fail
            refine wp_region_class (fun W => Below W1.heap.size W1 W) mixedP (by kernel_rfl) (Below.refl _ _).drew ?_
            go_big_quiet_step (exact fun _ => rfl)
            go_big_quiet_step (exact fun _ => rfl)
            go_big_quiet_step (exact fun _ => rfl)
            go_big_quiet_step (exact fun _ => rfl)
            refine wpQ_val rfl (.bool true) (fun _ => by go_simp; omega) ?_
            go_frame
            go_big_quiet_step (exact fun _ => rfl)
            go_big_quiet_step (exact fun _ => rfl)
            refine wpQ_ld rfl _ _ rfl rfl (fun W hW => ldRow (keep_cell hW e1)) ?_
            go_frame
            go_big_quiet_step (exact fun _ => rfl)
            go_big_quiet_step (exact fun _ => rfl)
            go_big_quiet_step (exact fun _ => rfl)
            refine wpQ_ld rfl _ _ rfl rfl (fun W hW => ldStr (keep_cell hW dk)) ?_
            go_frame
            go_big_quiet_step (exact fun _ => rfl)
            refine wpQ_ld rfl _ _ rfl rfl (fun W hW => ldRow (keep_cell hW e1)) ?_
            go_frame
            go_big_quiet_step (exact fun _ => rfl)
            refine wpQ_val rfl (.int .i64 (j : Nat)) (fun _ => by go_simp) ?_
            go_frame
            go_big_quiet_step (exact fun _ => rfl)
            go_big_quiet_step (exact fun _ => rfl)
            refine wpQ_ld rfl _ _ rfl rfl (fun W hW => ldStr (keep_cell hW gk)) ?_
            go_frame
            refine wpQ_val rfl (.bool false) (fun _ => by go_simp; rw [run_leqE hle]; rfl) ?_
            go_frame
            go_big_quiet_step (exact fun _ => rfl)
            go_big_quiet_step (exact fun _ => rfl)
            refine wpQuiet_nil ?_
            intro W6 hB6
            show Exit.then _ _ Exit.normal _ _
            simp only [Exit.then]
            go_at_K
            have HB2 : Hid (Below W0.heap.size W0 W6) := below_new hBr hB6
            clear hB6
            go_wp2_with fail
            exact ⟨⟨k + 1, by go_num, by omega, HO2, HB2.out⟩, by simp [intOf]; omega⟩
    · have hki : ¬ (k : Int) < n := by omega
      obtain rfl : k = n := by omega
      have HRe : Hid (R = 0) := HR.out.symm.trans (chkE_ok (by have := HO.out; rw [← HN.out, List.take_length] at this; exact this))
      go_wp2_with fail
      go_ret
      rw [← hgH.out, HRe.out]
      exact ⟨rfl, hBw⟩
end Go.Proofs.Ytdgfjaidnedaiaa
