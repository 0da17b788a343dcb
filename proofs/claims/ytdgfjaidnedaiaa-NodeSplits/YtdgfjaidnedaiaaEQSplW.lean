/-
  The document's Split.
-/
import Derived.Test.YtdgfjaidnedaiaaESplP
namespace Go.Proofs.Ytdgfjaidnedaiaa
open Go Go.RowKit Go.Lib

theorem wrap_two {S : Nat} (h : S ≤ 2100000000) : IntKind.i64.wrap (2 * (S : Int)) = ((2 * S : Nat) : Int) := by rw [IntKind.wrap_i64]; omega
theorem Short.take {m : Nat} {L : List Cl} (h : Short m L) (k : Nat) : Short m (L.take k) := fun c hc => h c (List.mem_of_mem_take hc)
set_option maxRecDepth 8000 in
set_option maxHeartbeats 4000000 in
theorem qsplit_any {w : World} {leaf : Bool} {v : Value} {L : List Cl} (hv : CellsAt w v L) (hl : L.length ≤ 100000) (hs : Short 10000 L) : Calls Try.prog 30 #[nodeV leaf v] w fun e w' => ∃ u, e = .returned u ∧ NodesAt w' u leaf (splL leaf L) ∧ Below w.heap.size w w' := by
  obtain ⟨p, c, rfl⟩ := hv.shape
  have hcap := hv.cap.2
  obtain ⟨W0, g, hW0, hg, hB0, hb0, c0, c1⟩ := box_node w leaf (.slice p L.length c)
  have hqs := fun W (hW : Below w.heap.size w W) => qsize_any (leaf := leaf) (hv.below hW) hl hs
  have hqt := fun (k : Nat) (p' : Option Addr) (c' : Nat) W (hW : CellsAt W (.slice p' k c') (L.take k)) => qsize_any (leaf := leaf) hW (by rw [List.length_take]; omega) (hs.take k)
  have HV : Hid (∀ W, Below w.heap.size w W → CellsAt W (.slice p L.length c) L) := fun W hW => hv.below hW
  have HB0 : Hid (Below w.heap.size w W0) := hB0
  obtain ⟨R, hR⟩ : ∃ R, splL leaf L = R := ⟨_, rfl⟩
  rw [hR]
  obtain ⟨T, hT⟩ : ∃ T, sizeL leaf L = T := ⟨_, rfl⟩
  have HT : Hid (sizeL leaf L = T ∧ splL leaf L = R) := ⟨hT, hR⟩
  have hTl : T ≤ 2100000000 := by
    rw [← hT]
    have h2 := sizeL_short (leaf := leaf) hs
    have : L.length * 20010 ≤ 100000 * 20010 := Nat.mul_le_mul_right _ hl
    omega
  have hTi : (T : Int) ≤ 2100000000 := by omega
  rw [hT] at hqs
  have hSl : ∀ k, sizeL leaf (L.take k) ≤ T := fun k => by rw [← hT]; exact sizeL_le leaf L k
  obtain ⟨n, hn⟩ : ∃ n, L.length = n := ⟨_, rfl⟩
  have HN : Hid (L.length = n) := hn
  rw [hn] at c1 hW0 hl hqs HV hcap ⊢
  have hni : (n : Int) ≤ 100000 := by omega
  have hq0 := hqs W0 hB0
  unfold nodeV at hqs hqt hq0 ⊢
  clear hv hb0 hR hT hn hB0
  by_cases hc : T ≤ 1013 ∨ n < 2
  · have HR : Hid (R = [L]) := by show _ = _; rw [← HT.out.2]; unfold splL; rw [HT.out.1, HN.out, if_pos hc]
    have hend : ∀ W1, Below W0.heap.size W0 W1 → ∃ W5 g5, W1.alloc (.cells #[.bool leaf, .slice p n c] 24) = W5 ∧ W1.heap.size = g5 ∧ Hid (NodesAt W5 (.slice (some ⟨g5, 0, none⟩) 1 1) leaf [L] ∧ Below w.heap.size w W5) := fun W1 hB1 => by
      obtain ⟨W5, g5, hW5, hg5, hB5, hh5⟩ := box_nodes W1 #[.bool leaf, .slice p n c]
      refine ⟨W5, g5, hW5, hg5, ?_, below_new HB0.out (below_new hB1 hB5)⟩
      have e := HV.out W5 (below_new HB0.out (below_new hB1 hB5))
      have hN := HN.out
      subst hN
      exact nodes_one hh5 e
    by_cases hf : T ≤ 1013
    · have hfi : (T : Int) ≤ 1013 := by omega
      clear hf hc
      go_enter Try.func30, Try.ntmps30
      go_wp2_with (go_at_call 15; refine hq0.mono ?_; rintro e W1 ⟨rfl, hB1⟩; replace c0 := keep_cell hB1 c0; replace c1 := keep_cell hB1 c1; obtain ⟨W5, g5, hW5, hg5, HF⟩ := hend W1 hB1; clear hB1)
      go_ret
      rw [HR.out]
      exact ⟨_, rfl, HF.out.1, HF.out.2⟩
    · have hfi : ¬ (T : Int) ≤ 1013 := by omega
      have hn2 : (n : Int) < 2 := by omega
      clear hf hc
      go_enter Try.func30, Try.ntmps30
      go_wp2_with (go_at_call 15; refine hq0.mono ?_; rintro e W1 ⟨rfl, hB1⟩; replace c0 := keep_cell hB1 c0; replace c1 := keep_cell hB1 c1; obtain ⟨W5, g5, hW5, hg5, HF⟩ := hend W1 hB1; clear hB1)
      go_ret
      rw [HR.out]
      exact ⟨_, rfl, HF.out.1, HF.out.2⟩
  · have HR : Hid (∀ k, halfN leaf L = k → R = [L.take k, L.drop k]) := fun k hk => by show _ = _; rw [← HT.out.2, ← hk]; unfold splL; rw [HT.out.1, HN.out, if_neg hc]
    have hfi : ¬ (T : Int) ≤ 1013 := by omega
    have hn2 : ¬ (n : Int) < 2 := by omega
    have hn1 : 2 ≤ n := by omega
    obtain ⟨m, hm⟩ : ∃ m, n = m + 1 := ⟨n - 1, by omega⟩
    have HM : Hid (n = m + 1) := hm
    have HMI : Hid (IntKind.i64.wrap ((n : Int) - 1) = (m : Int)) := wrapE1 hm (by omega)
    have hm1 : 1 ≤ m := by omega
    clear hc hm
    go_enter Try.func30, Try.ntmps30
    go_wp2_with (go_at_call 15; refine hq0.mono ?_; rintro e W1 ⟨rfl, hB1⟩; replace c0 := keep_cell hB1 c0; replace c1 := keep_cell hB1 c1)
    have HB1 : Hid (Below w.heap.size w W1) := below_new HB0.out hB1
    clear hB1 hq0
    go_loopw [3] (fun y wr => ∃ k : Nat, y = .int .i64 (k : Nat) ∧ 1 ≤ k ∧ k ≤ m ∧ Hid (∀ j, 1 ≤ j → j < k → enough leaf L j = false) ∧ Below W1.heap.size W1 wr) (fun y _ => m - (intOf y).toNat)
    case atStart => exact ⟨1, rfl, Nat.le_refl _, hm1, fun j h1 h2 => by omega, Below.refl _ _⟩
    case round =>
      obtain ⟨k, rfl, hk1, hk2, HF, hB⟩ := hrel
      replace c0 := keep_cell hB c0
      replace c1 := keep_cell hB c1
      have HBw : Hid (Below w.heap.size w wr) := below_new HB1.out hB
      obtain ⟨pa, ca, hsa, hca⟩ := sl_to p (n := n) (c := c) k (by have := HM.out; omega) hcap
      have hk2i : (k : Int) ≤ m := by omega
      have hki0 : (0 : Int) ≤ k := by omega
      have hkb : (k : Int) ≤ 100000 := by have := HM.out; omega
      have HB : Hid (Below W1.heap.size W1 wr) := hB
      clear hB
      have HE : Hid (enough leaf L k = decide (T ≤ 2 * sizeL leaf (L.take k))) := by show _ = _; unfold enough; rw [HT.out.1]
      have hend : ∀ W2, Below wr.heap.size wr W2 → halfN leaf L = k → ∀ pb cb kb, CellsAt W2 (.slice pa k ca) (L.take k) → CellsAt W2 (.slice pb kb cb) (L.drop k) → ∃ W5 g5, W2.alloc (.cells #[.bool leaf, .slice pa k ca, .bool leaf, .slice pb kb cb] 24) = W5 ∧ W2.heap.size = g5 ∧ Below W2.heap.size W2 W5 ∧ Hid (NodesAt W5 (.slice (some ⟨g5, 0, none⟩) 2 2) leaf R ∧ Below w.heap.size w W5) := fun W2 hB2 hh pb cb kb hA hD => by
        obtain ⟨W5, g5, hW5, hg5, hB5, hh5⟩ := box_nodes W2 #[.bool leaf, .slice pa k ca, .bool leaf, .slice pb kb cb]
        refine ⟨W5, g5, hW5, hg5, hB5, ?_, below_new HBw.out (below_new hB2 hB5)⟩
        rw [HR.out k hh]
        have e1 := hA.cap.1
        have e2 := hD.cap.1
        refine ⟨g5, rfl, fun i M hM => ?_⟩
        match i with
        | 0 => simp at hM; subst hM; rw [← e1]; exact ⟨_, _, hh5.cell 0, hh5.cell 1, hA.below hB5⟩
        | 1 => simp at hM; subst hM; rw [← e2]; exact ⟨_, _, hh5.cell 2, hh5.cell 3, hD.below hB5⟩
        | i + 2 => simp at hM
      obtain ⟨S, hS⟩ : ∃ S, sizeL leaf (L.take k) = S := ⟨_, rfl⟩
      have hcz := fun W (hW : Below wr.heap.size wr W) => hqt k pa ca W (hca W L (HV.out W (below_new HBw.out hW)))
      have hqz := fun W (hW : Below wr.heap.size wr W) => hqs W (below_new HBw.out hW)
      have hSi : S ≤ T := by rw [← hS]; exact hSl k
      rw [hS] at hcz HE
      have HMU : Hid (IntKind.i64.wrap (2 * (S : Int)) = ((2 * S : Nat) : Int)) := wrap_two (by omega)
      have HC : Hid (∀ W L, CellsAt W (.slice p n c) L → CellsAt W (.slice pa k ca) (L.take k)) := hca
      clear hqt hqs hSl hS hca
      by_cases hkm : k < m
      · have hkmi : (k : Int) < (m : Int) := by omega
        by_cases hen : T ≤ 2 * S
        · have hlt : (T : Int) ≤ 2 * (S : Int) := by omega
          have HH : Hid (halfN leaf L = k) := halfN_of (by have := HN.out; omega) hk1 (by have := HN.out; have := HM.out; omega) HF.out (.inr (by rw [HE.out, decide_eq_true hen]))
          go_wp2_with fail
          have hmi := HMI.out
          have hmul := HMU.out
          refine wp_region_class (fun W => Below wr.heap.size wr W) mixedP (by kernel_rfl) (Below.refl _ _).drew ?_
          go_big_quiet_step (exact fun _ => rfl)
          go_big_quiet_step (exact fun _ => rfl)
          refine wpQ_ld rfl _ _ rfl rfl (fun W hW => ldRow (keep_cell hW c1)) ?_
          go_frame
          go_big_quiet_step (exact fun _ => rfl)
          refine wpQ_val rfl (.int .i64 (m : Nat)) (fun _ => by go_simp) ?_
          go_frame
          refine wpQ_val rfl (.bool true) (fun _ => by go_simp) ?_
          go_frame
          go_big_quiet_step (exact fun _ => rfl)
          go_big_quiet_step (exact fun _ => rfl)
          refine wpQ_ld rfl _ _ rfl rfl (fun W hW => ldBool (keep_cell hW c0)) ?_
          go_frame
          go_big_quiet_step (exact fun _ => rfl)
          refine wpQ_ld rfl _ _ rfl rfl (fun W hW => ldRow (keep_cell hW c1)) ?_
          go_frame
          go_big_quiet_step (exact fun _ => rfl)
          refine wpQ_val rfl (.slice pa k ca) (fun _ => by go_simp) ?_
          go_frame
          go_big_quiet_step (exact fun _ => rfl)
          refine wpQ_call rfl 15 #[.agg #[.bool leaf, .slice pa k ca]] (fun _ => by go_simp) (.int .i64 (S : Nat)) (fun W hW => (hcz W hW).mono fun e w' h => ⟨h.1, below_new hW h.2⟩) ?_
          go_frame
          refine wpQ_val rfl (.int .i64 ((2 * S : Nat) : Int)) (fun _ => by go_simp) ?_
          go_frame
          refine wpQ_ld rfl _ _ rfl rfl (v := .agg #[.bool leaf, .slice p n c]) (fun W hW => ldNode (keep_cell hW c0) (keep_cell hW c1)) ?_
          go_frame
          refine wpQ_call rfl 15 #[.agg #[.bool leaf, .slice p n c]] (fun _ => by go_simp) (.int .i64 (T : Nat)) (fun W hW => (hqz W hW).mono fun e w' h => ⟨h.1, below_new hW h.2⟩) ?_
          go_frame
          refine wpQ_val rfl (.bool false) (fun _ => by go_simp) ?_
          go_frame
          refine wpQ_val rfl (.bool false) (fun _ => by go_simp) ?_
          go_frame
          refine wpQuiet_nil ?_
          intro W6 hB6
          show Exit.then _ _ Exit.normal _ _
          simp only [Exit.then]
          go_at_K
          clear hmi hmul
          clear hcz hqz HMU
          go_wp2_with fail
          replace c0 := keep_cell hB6 c0
          replace c1 := keep_cell hB6 c1
          obtain ⟨pb, cb, hsb, hcb⟩ := sl_from p (n := n) (c := c) k (by have := HM.out; omega) hcap
          have hB6d : Below wr.heap.size wr W6.drew := hB6.drew
          have hnb := HV.out W6.drew (below_new HBw.out hB6d)
          obtain ⟨W5, g5, hW5, hg5, hB5, HFin⟩ := hend W6.drew hB6d HH.out pb cb (n - k) (HC.out _ _ hnb) (hcb _ _ hnb)
          have hC5 : Below W6.heap.size W6 W5 := below_drewL hB5
          generalize (n - k) = kb at hsb hW5
          clear hcb hnb hend hB6d hB5
          refine wp_region_tree (fun W => Below W6.heap.size W6 W) [0, 1, 2, 3, 4, 5, 6, 7, 8, 9, 10, 11, 12, 13] (.one 14 (.one 15 .nil)) mixedP (by kernel_rfl) rfl (by kernel_rfl) (fun _ _ _ d _ h => by cases d <;> exact h) (Below.refl _ _).drew ?_
          refine tk_val (some 37) rfl rfl rfl (.pointer (some ⟨g, 0, none⟩)) (fun _ => by go_simp) ?_
          go_frame
          refine tk_ld (some 38) rfl rfl rfl _ _ rfl rfl (fun W hW => ldBool (keep_cell hW c0)) ?_
          go_frame
          refine tk_val (some 39) rfl rfl rfl (.pointer (some ⟨g, 1, none⟩)) (fun _ => by go_simp) ?_
          go_frame
          refine tk_ld (some 40) rfl rfl rfl _ _ rfl rfl (fun W hW => ldRow (keep_cell hW c1)) ?_
          go_frame
          refine tk_val (some 41) rfl rfl rfl (.int .i64 (k : Nat)) (fun _ => by go_simp) ?_
          go_frame
          refine tk_val (some 42) rfl rfl rfl (.slice pa k ca) (fun _ => by go_simp) ?_
          go_frame
          refine tk_val (some 43) rfl rfl rfl (.agg #[.bool leaf, .slice pa k ca]) (fun _ => by go_simp) ?_
          go_frame
          refine tk_val (some 44) rfl rfl rfl (.pointer (some ⟨g, 0, none⟩)) (fun _ => by go_simp) ?_
          go_frame
          refine tk_ld (some 45) rfl rfl rfl _ _ rfl rfl (fun W hW => ldBool (keep_cell hW c0)) ?_
          go_frame
          refine tk_val (some 46) rfl rfl rfl (.pointer (some ⟨g, 1, none⟩)) (fun _ => by go_simp) ?_
          go_frame
          refine tk_ld (some 47) rfl rfl rfl _ _ rfl rfl (fun W hW => ldRow (keep_cell hW c1)) ?_
          go_frame
          refine tk_val (some 48) rfl rfl rfl (.int .i64 (k : Nat)) (fun _ => by go_simp) ?_
          go_frame
          refine tk_val (some 49) rfl rfl rfl (.slice pb kb cb) (fun _ => by go_simp) ?_
          go_frame
          refine tk_val (some 50) rfl rfl rfl (.agg #[.bool leaf, .slice pb kb cb]) (fun _ => by go_simp) ?_
          go_frame
          refine tk_nil ?_
          refine op_val (some 51) rfl rfl rfl (v := .slice (some ⟨g5, 0, none⟩) 2 2) (w' := W5) (by go_simp) ?_
          refine ⟨hC5, ?_⟩
          go_frame
          refine op_val (some 2) rfl rfl rfl (v := .slice (some ⟨g5, 0, none⟩) 2 2) (w' := W5) (by go_simp) ?_
          refine ⟨hC5, ?_⟩
          go_frame
          refine then_normalE ?_
          go_at_K
          go_wp2_with fail
          go_ret
          exact ⟨_, rfl, HFin.out.1, HFin.out.2⟩
        · have hlt : 2 * (S : Int) < (T : Int) := by omega
          have HF2 : Hid (∀ j, 1 ≤ j → j < k + 1 → enough leaf L j = false) := fun j h1 h2 => by
            by_cases e : j = k
            · rw [e, HE.out, decide_eq_false hen]
            · exact HF.out j h1 (by omega)
          go_wp2_with fail
          have hmi := HMI.out
          have hmul := HMU.out
          refine wp_region_class (fun W => Below wr.heap.size wr W) mixedP (by kernel_rfl) (Below.refl _ _).drew ?_
          go_big_quiet_step (exact fun _ => rfl)
          go_big_quiet_step (exact fun _ => rfl)
          refine wpQ_ld rfl _ _ rfl rfl (fun W hW => ldRow (keep_cell hW c1)) ?_
          go_frame
          go_big_quiet_step (exact fun _ => rfl)
          refine wpQ_val rfl (.int .i64 (m : Nat)) (fun _ => by go_simp) ?_
          go_frame
          refine wpQ_val rfl (.bool true) (fun _ => by go_simp) ?_
          go_frame
          go_big_quiet_step (exact fun _ => rfl)
          go_big_quiet_step (exact fun _ => rfl)
          refine wpQ_ld rfl _ _ rfl rfl (fun W hW => ldBool (keep_cell hW c0)) ?_
          go_frame
          go_big_quiet_step (exact fun _ => rfl)
          refine wpQ_ld rfl _ _ rfl rfl (fun W hW => ldRow (keep_cell hW c1)) ?_
          go_frame
          go_big_quiet_step (exact fun _ => rfl)
          refine wpQ_val rfl (.slice pa k ca) (fun _ => by go_simp) ?_
          go_frame
          go_big_quiet_step (exact fun _ => rfl)
          refine wpQ_call rfl 15 #[.agg #[.bool leaf, .slice pa k ca]] (fun _ => by go_simp) (.int .i64 (S : Nat)) (fun W hW => (hcz W hW).mono fun e w' h => ⟨h.1, below_new hW h.2⟩) ?_
          go_frame
          refine wpQ_val rfl (.int .i64 ((2 * S : Nat) : Int)) (fun _ => by go_simp) ?_
          go_frame
          refine wpQ_ld rfl _ _ rfl rfl (v := .agg #[.bool leaf, .slice p n c]) (fun W hW => ldNode (keep_cell hW c0) (keep_cell hW c1)) ?_
          go_frame
          refine wpQ_call rfl 15 #[.agg #[.bool leaf, .slice p n c]] (fun _ => by go_simp) (.int .i64 (T : Nat)) (fun W hW => (hqz W hW).mono fun e w' h => ⟨h.1, below_new hW h.2⟩) ?_
          go_frame
          refine wpQ_val rfl (.bool true) (fun _ => by go_simp) ?_
          go_frame
          refine wpQ_val rfl (.bool true) (fun _ => by go_simp) ?_
          go_frame
          refine wpQuiet_nil ?_
          intro W6 hB6
          show Exit.then _ _ Exit.normal _ _
          simp only [Exit.then]
          go_at_K
          clear hmi hmul
          clear hcz hqz HMU
          have hB2 : Below W1.heap.size W1 W6 := below_new HB.out hB6
          go_wp2_with fail
          exact ⟨⟨k + 1, by go_num, by omega, by omega, HF2, hB2⟩, by simp [intOf]; omega⟩
      · have hkmi : ¬ (k : Int) < (m : Int) := by omega
        have HH : Hid (halfN leaf L = k) := halfN_of (by have := HN.out; omega) hk1 (by have := HN.out; have := HM.out; omega) HF.out (.inl (by have := HN.out; have := HM.out; omega))
        go_wp2_with fail
        have hmi := HMI.out
        refine wp_region_class (fun W => Below wr.heap.size wr W) mixedP (by kernel_rfl) (Below.refl _ _).drew ?_
        go_big_quiet_step (exact fun _ => rfl)
        go_big_quiet_step (exact fun _ => rfl)
        refine wpQ_ld rfl _ _ rfl rfl (fun W hW => ldRow (keep_cell hW c1)) ?_
        go_frame
        go_big_quiet_step (exact fun _ => rfl)
        refine wpQ_val rfl (.int .i64 (m : Nat)) (fun _ => by go_simp) ?_
        go_frame
        refine wpQ_val rfl (.bool false) (fun _ => by go_simp) ?_
        go_frame
        go_big_quiet_step (exact fun _ => rfl)
        go_big_quiet_step (fail)
        go_big_quiet_step (fail)
        go_big_quiet_step (fail)
        go_big_quiet_step (fail)
        go_big_quiet_step (fail)
        go_big_quiet_step (fail)
        go_big_quiet_step (fail)
        go_big_quiet_step (fail)
        go_big_quiet_step (fail)
        go_big_quiet_step (fail)
        go_big_quiet_step (fail)
        go_big_quiet_step (fail)
        refine wpQ_val rfl (.bool false) (fun _ => by go_simp) ?_
        go_frame
        refine wpQuiet_nil ?_
        intro W6 hB6
        show Exit.then _ _ Exit.normal _ _
        simp only [Exit.then]
        go_at_K
        clear hmi
        clear hcz hqz HMU
        go_wp2_with fail
        replace c0 := keep_cell hB6 c0
        replace c1 := keep_cell hB6 c1
        obtain ⟨pb, cb, hsb, hcb⟩ := sl_from p (n := n) (c := c) k (by have := HM.out; omega) hcap
        have hB6d : Below wr.heap.size wr W6.drew := hB6.drew
        have hnb := HV.out W6.drew (below_new HBw.out hB6d)
        obtain ⟨W5, g5, hW5, hg5, hB5, HFin⟩ := hend W6.drew hB6d HH.out pb cb (n - k) (HC.out _ _ hnb) (hcb _ _ hnb)
        have hC5 : Below W6.heap.size W6 W5 := below_drewL hB5
        generalize (n - k) = kb at hsb hW5
        clear hcb hnb hend hB6d hB5
        refine wp_region_tree (fun W => Below W6.heap.size W6 W) [0, 1, 2, 3, 4, 5, 6, 7, 8, 9, 10, 11, 12, 13] (.one 14 (.one 15 .nil)) mixedP (by kernel_rfl) rfl (by kernel_rfl) (fun _ _ _ d _ h => by cases d <;> exact h) (Below.refl _ _).drew ?_
        refine tk_val (some 37) rfl rfl rfl (.pointer (some ⟨g, 0, none⟩)) (fun _ => by go_simp) ?_
        go_frame
        refine tk_ld (some 38) rfl rfl rfl _ _ rfl rfl (fun W hW => ldBool (keep_cell hW c0)) ?_
        go_frame
        refine tk_val (some 39) rfl rfl rfl (.pointer (some ⟨g, 1, none⟩)) (fun _ => by go_simp) ?_
        go_frame
        refine tk_ld (some 40) rfl rfl rfl _ _ rfl rfl (fun W hW => ldRow (keep_cell hW c1)) ?_
        go_frame
        refine tk_val (some 41) rfl rfl rfl (.int .i64 (k : Nat)) (fun _ => by go_simp) ?_
        go_frame
        refine tk_val (some 42) rfl rfl rfl (.slice pa k ca) (fun _ => by go_simp) ?_
        go_frame
        refine tk_val (some 43) rfl rfl rfl (.agg #[.bool leaf, .slice pa k ca]) (fun _ => by go_simp) ?_
        go_frame
        refine tk_val (some 44) rfl rfl rfl (.pointer (some ⟨g, 0, none⟩)) (fun _ => by go_simp) ?_
        go_frame
        refine tk_ld (some 45) rfl rfl rfl _ _ rfl rfl (fun W hW => ldBool (keep_cell hW c0)) ?_
        go_frame
        refine tk_val (some 46) rfl rfl rfl (.pointer (some ⟨g, 1, none⟩)) (fun _ => by go_simp) ?_
        go_frame
        refine tk_ld (some 47) rfl rfl rfl _ _ rfl rfl (fun W hW => ldRow (keep_cell hW c1)) ?_
        go_frame
        refine tk_val (some 48) rfl rfl rfl (.int .i64 (k : Nat)) (fun _ => by go_simp) ?_
        go_frame
        refine tk_val (some 49) rfl rfl rfl (.slice pb kb cb) (fun _ => by go_simp) ?_
        go_frame
        refine tk_val (some 50) rfl rfl rfl (.agg #[.bool leaf, .slice pb kb cb]) (fun _ => by go_simp) ?_
        go_frame
        refine tk_nil ?_
        refine op_val (some 51) rfl rfl rfl (v := .slice (some ⟨g5, 0, none⟩) 2 2) (w' := W5) (by go_simp) ?_
        refine ⟨hC5, ?_⟩
        go_frame
        refine op_val (some 2) rfl rfl rfl (v := .slice (some ⟨g5, 0, none⟩) 2 2) (w' := W5) (by go_simp) ?_
        refine ⟨hC5, ?_⟩
        go_frame
        refine then_normalE ?_
        go_at_K
        go_wp2_with fail
        go_ret
        exact ⟨_, rfl, HFin.out.1, HFin.out.2⟩
end Go.Proofs.Ytdgfjaidnedaiaa
