/-
  The program's Put.
-/
import Derived.Test.YtdgfjaidnedaiaaEJoinW
namespace Go.Proofs.Ytdgfjaidnedaiaa
open Go Go.RowKit

theorem isAt_lt {L : List Cl} {key : ByteArray} (h : isAt L key = true) : fndN L key < L.length := by
  rcases Nat.lt_or_ge (fndN L key) L.length with q | q
  · exact q
  · rw [isAt_none (List.getElem?_eq_none q)] at h; cases h
theorem one_cl {W : World} {g : Nat} {x : Cl} (h : CellAt W g 0 x) : CellsAt W (.slice (some ⟨g, 0, none⟩) 1 1) [x] := by
  refine .inr ⟨g, 0, 1, rfl, Nat.le_refl _, fun i y hy => ?_⟩
  cases i with
  | zero => simp at hy; rw [← hy]; exact h
  | succ i => simp at hy
theorem only_cellAt {w w' : World} {b o g : Nat} {x : Cl} (ho : Only g w w') (h : CellAt w b o x) (hg : b ≠ g) : CellAt w' b o x :=
  ⟨only_cell ho h.1 hg, only_cell ho h.2.1 hg, only_cell ho h.2.2.1 hg, only_cell ho h.2.2.2 hg⟩
set_option maxRecDepth 8000 in
set_option maxHeartbeats 4000000 in
theorem put_any {w : World} {leaf : Bool} {v : Value} {L : List Cl} (hv : CellsAt w v L) (hr : Rises L) (hl : L.length ≤ 100000) (x : Cl) :
    Calls Try.prog 27 #[nodeV leaf v, cla x] w fun e w' => ∃ u, e = .returned (nodeV leaf u) ∧ OwnCells w' w.heap.size u (putL L x) ∧ Below w.heap.size w w' := by
  obtain ⟨W0, g0, hW0, hg0, hB0, hb0, c0, c1⟩ := box_node w leaf v
  obtain ⟨Wx, g1, hWx, hg1, hBx, hx0⟩ := box_cell W0 x
  obtain ⟨W1, g2, hW1, hg2, hB1, hb1, d0, d1⟩ := box_node Wx false (.slice none 0 0)
  have hB01 := below_new hB0 (below_new hBx hB1)
  replace c0 := keep_cell (below_new hBx hB1) c0
  replace c1 := keep_cell (below_new hBx hB1) c1
  replace hx0 := hx0.below hB1
  obtain ⟨p, c, rfl⟩ := hv.shape
  have hcap := hv.cap.2
  have hgg : g0 ≠ g2 ∧ g1 ≠ g2 := by
    have := hb0.lt
    have := hBx.size
    have := World.block_lt_of_cell? _ _ hx0.1
    have h3 : Wx.heap.size = W0.heap.size + 1 := by rw [← hWx]; simp
    omega
  have HK1 : Hid (w.heap.size = g0 ∧ w.heap.size ≤ g2 ∧ Holds W1 g2 24 #[.bool false, .slice none 0 0] ∧ Below w.heap.size w W1) := ⟨hg0, by have := hB0.size; have := hBx.size; omega, hb1, hB01⟩
  have hf := find_any (w := W1) (leaf := leaf) (hv.below hB01) hr hl x.k
  obtain ⟨N, hN⟩ : ∃ N, fndN L x.k = N := ⟨_, rfl⟩
  obtain ⟨M, hM⟩ : ∃ M, fndN L x.k + (if isAt L x.k = true then 1 else 0) = M := ⟨_, rfl⟩
  obtain ⟨R, hR⟩ : ∃ R, putL L x = R := ⟨_, rfl⟩
  rw [hR]
  have HD : Hid (R = [L.take N, [x], L.drop M].flatten) := by show _ = _; rw [← hR]; unfold putL; rw [hM, hN]; simp
  clear hR
  have hNn : N ≤ L.length := by rw [← hN]; exact fndN_le _ _
  have hMn : M ≤ L.length := by
    rw [← hM]
    by_cases h : isAt L x.k = true
    · rw [if_pos h]; exact isAt_lt h
    · rw [if_neg h]; exact fndN_le _ _
  have HM : Hid (M = N + (if isAt L x.k = true then 1 else 0)) := by show _ = _; rw [← hM, hN]
  obtain ⟨pa, ca, hsa, hca⟩ := sl_part p (n := L.length) (c := c) 0 N (Nat.zero_le _) hNn hcap
  obtain ⟨pb, cb, hsb, hcb⟩ := sl_part p (n := L.length) (c := c) M L.length hMn (Nat.le_refl _) hcap
  have hpa := fun w => part_any (w := w) (leaf := leaf) hsa
  have hpb := fun w => part_any (w := w) (leaf := leaf) hsb
  have HA : Hid (∀ W, Below w.heap.size w W → CellsAt W (.slice pa (N - 0) ca) (L.take N) ∧ CellsAt W (.slice pb (L.length - M) cb) (L.drop M)) := fun W hW => by
    refine ⟨?_, ?_⟩
    · have := hca W L (hv.below hW)
      simpa using this
    · have := hcb W L (hv.below hW)
      rw [List.take_of_length_le (by rw [List.length_drop]; exact Nat.le_refl _)] at this
      exact this
  have HSm : Hid ([L.take N, [x], L.drop M].flatten.length ≤ 1000000) := by show _ ≤ _; simp; omega
  unfold nodeV at hpa hpb hf ⊢
  rw [hN] at hf
  clear hsa hsb hca hcb hB0 hB1 hb0 hb1 d0 d1 hB01 hM hN hBx
  obtain ⟨n, hn⟩ : ∃ n, L.length = n := ⟨_, rfl⟩
  rw [hn] at hpa hpb hf hW0 c1 hNn hMn hl ⊢
  generalize (N - 0) = ka at hpa HA
  rw [hn] at HA
  generalize (n - M) = kb at hpb HA
  clear hn hcap hv
  have hni : (n : Int) ≤ 100000 := by omega
  have hNi : (N : Int) ≤ 100000 := by omega
  have x0 := hx0.1
  obtain ⟨xk, xv, xp, xs⟩ := x
  unfold cla
  dsimp only at hW0 hWx hf x0 HM ⊢
  generalize isAt L xk = at0 at hf HM
  cases at0 with
  | true =>
    have hMi : (N : Int) + 1 = (M : Int) := by have := HM.out; simp at this; omega
    clear HM
    go_enter Try.func27, Try.ntmps27
    go_wp2_with (go_at_call 21; refine hf.mono ?_; rintro e W2 ⟨rfl, hB2⟩; replace c0 := keep_cell hB2 c0; replace c1 := keep_cell hB2 c1; replace hx0 := hx0.below hB2; have HK : Hid (w.heap.size = g0 ∧ w.heap.size ≤ g2 ∧ Holds W2 g2 24 #[.bool false, .slice none 0 0] ∧ Below w.heap.size w W2) := (⟨HK1.out.1, HK1.out.2.1, below_holds hB2 HK1.out.2.2.1, below_new HK1.out.2.2.2 hB2⟩); clear hB2 hf)
    refine wp_region_tree (fun W => Below w.heap.size w W ∧ W.cell? ⟨g0, 0, none⟩ = some (.bool leaf) ∧ W.cell? ⟨g0, 1, none⟩ = some (.slice p n c) ∧ CellAt W g1 0 ⟨xk, xv, xp, xs⟩) [0, 1, 2, 3, 5, 7, 8, 9, 10, 11] (.two 4 (.two 6 (.one 12 (.one 13 (.one 14 (.one 15 .nil)))) 12 (.one 6 (.one 13 (.one 14 (.one 15 .nil))))) 6 (.one 4 (.one 12 (.one 13 (.one 14 (.one 15 .nil)))))) mixedP (by kernel_rfl) rfl (by kernel_rfl) (fun _ _ _ d _ h => by cases d <;> exact h) ⟨HK.out.2.2.2.drew, c0, c1, hx0⟩ ?_
    refine tk_val (some 19) rfl rfl rfl (.pointer (some ⟨g0, 0, none⟩)) (fun _ => by go_simp) ?_
    go_frame
    refine tk_ld (some 20) rfl rfl rfl _ _ rfl rfl (fun W hW => ldBool hW.2.1) ?_
    go_frame
    refine tk_ld (some 21) rfl rfl rfl _ _ rfl rfl (fun W hW => ldNode hW.2.1 hW.2.2.1) ?_
    go_frame
    refine tk_val (some 22) rfl rfl rfl (.int .i64 (N : Nat)) (fun _ => by go_simp) ?_
    go_frame
    refine tk_ld (some 24) rfl rfl rfl _ _ rfl rfl (fun W hW => ldCell hW.2.2.2) ?_
    go_frame
    refine tk_ld (some 26) rfl rfl rfl _ _ rfl rfl (fun W hW => ldNode hW.2.1 hW.2.2.1) ?_
    go_frame
    refine tk_val (some 27) rfl rfl rfl (.int .i64 (M : Nat)) (fun _ => by go_simp) ?_
    go_frame
    refine tk_val (some 28) rfl rfl rfl (.pointer (some ⟨g0, 1, none⟩)) (fun _ => by go_simp) ?_
    go_frame
    refine tk_ld (some 29) rfl rfl rfl _ _ rfl rfl (fun W hW => ldRow hW.2.2.1) ?_
    go_frame
    refine tk_val (some 30) rfl rfl rfl (.int .i64 (n : Nat)) (fun _ => by go_simp) ?_
    go_frame
    refine tk_nil ?_
    unfold nodeV
    obtain ⟨x, hxx⟩ : ∃ x : Cl, x = ⟨xk, xv, xp, xs⟩ := ⟨_, rfl⟩
    rw [← hxx] at HD HSm hx0 ⊢
    clear hxx
    refine ⟨?_, ?_⟩
    · refine op_call (some 23) rfl rfl rfl (f := 45) (vs := #[.agg #[.bool leaf, .slice p n c], .int .i64 ((0 : Nat) : Int), .int .i64 (N : Int)]) (by go_simp) ?_
      refine (hpa _).mono ?_
      rintro e w2 ⟨rfl, hBw2⟩
      have hCw2 : Below W2.heap.size W2 w2 := below_drewL hBw2
      refine ⟨_, rfl, ⟨below_new HK.out.2.2.2 hCw2, keep_cell hCw2 c0, keep_cell hCw2 c1, hx0.below hCw2⟩, ?_⟩
      go_frame
      refine ⟨?_, ?_⟩
      · obtain ⟨w3, gx, hWw3, hgw3, hBw3, hxw3⟩ := box_cell w2 x
        have hCw3 : Below W2.heap.size W2 w3 := below_new hCw2 hBw3
        refine op_val (some 25) rfl rfl rfl (v := .slice (some ⟨gx, 0, none⟩) 1 1) (w' := w3) (by unfold cla; go_simp) ?_
        refine ⟨⟨below_new HK.out.2.2.2 hCw3, keep_cell hCw3 c0, keep_cell hCw3 c1, hx0.below hCw3⟩, ?_⟩
        go_frame
        have honew3 := one_cl hxw3
        refine op_call (some 31) rfl rfl rfl (f := 45) (vs := #[.agg #[.bool leaf, .slice p n c], .int .i64 (M : Int), .int .i64 (n : Int)]) (by go_simp) ?_
        refine (hpb _).mono ?_
        rintro e w4 ⟨rfl, hBw4⟩
        have hCw4 : Below W2.heap.size W2 w4 := below_new hCw3 hBw4
        refine ⟨_, rfl, ⟨below_new HK.out.2.2.2 hCw4, keep_cell hCw4 c0, keep_cell hCw4 c1, hx0.below hCw4⟩, ?_⟩
        go_frame
        obtain ⟨W8, g8, hW8, hg8, hB8, hh8⟩ := box_rows w4 [.slice pa ka ca, .slice (some ⟨gx, 0, none⟩) 1 1, .slice pb kb cb]
        have hC8 : Below W2.heap.size W2 W8 := below_new hCw4 hB8
        have hBw8 := below_new HK.out.2.2.2 hC8
        refine op_val (some 32) rfl rfl rfl (v := .slice (some ⟨g8, 0, none⟩) 3 3) (w' := W8) (by go_simp) ?_
        refine ⟨⟨hBw8, keep_cell hC8 c0, keep_cell hC8 c1, hx0.below hC8⟩, ?_⟩
        go_frame
        have hm := made_any (leaf := leaf) hh8 (ls := [L.take N, [x], L.drop M]) rfl (three_rows (HA.out W8 hBw8).1 (honew3.below (below_new hBw4 (hB8))) (HA.out W8 hBw8).2) HSm.out (by simp)
        refine op_call (some 33) rfl rfl rfl (f := 44) (vs := #[.bool leaf, .slice (some ⟨g8, 0, none⟩) 3 3]) (by go_simp) ?_
        refine hm.mono ?_
        rintro e w9 ⟨v9, rfl, hown, hB9⟩
        have hC9 := below_new hC8 hB9
        obtain ⟨p9, c9, rfl⟩ := hown.at.shape
        refine ⟨_, rfl, ⟨below_new hBw8 hB9, keep_cell hC9 c0, keep_cell hC9 c1, hx0.below hC9⟩, ?_⟩
        unfold nodeV
        go_frame
        refine op_storeH none rfl rfl rfl 24 _ _ rfl g2 _ rfl rfl 24 _ (below_holds hC9 HK.out.2.2.1) infoNode2 rfl (by simp [Value.oneCell']) ?_
        intro w10 hH hO hs10
        have hC10 := node_back hBw8 HK.out.2.1 (below_holds hC8 HK.out.2.2.1).lt hB9 hown hO
        refine ⟨⟨hC10.2, only_cell hO (keep_cell hC9 c0) hgg.1, only_cell hO (keep_cell hC9 c1) hgg.1, only_cellAt hO (hx0.below hC9) hgg.2⟩, ?_⟩
        go_frame
        refine then_normalE ?_
        go_at_K
        go_wp2_with fail
        refine bodyPost_ret (results_cellH (p := 4) rfl _ w10 g2 24 _ _ rfl hH Try.underlying24 rfl infoNode2) rfl ?_
        rw [HD.out]
        exact ⟨_, rfl, hC10⟩
      · refine op_call (some 31) rfl rfl rfl (f := 45) (vs := #[.agg #[.bool leaf, .slice p n c], .int .i64 (M : Int), .int .i64 (n : Int)]) (by go_simp) ?_
        refine (hpb _).mono ?_
        rintro e w3 ⟨rfl, hBw3⟩
        have hCw3 : Below W2.heap.size W2 w3 := below_new hCw2 hBw3
        refine ⟨_, rfl, ⟨below_new HK.out.2.2.2 hCw3, keep_cell hCw3 c0, keep_cell hCw3 c1, hx0.below hCw3⟩, ?_⟩
        go_frame
        obtain ⟨w4, gx, hWw4, hgw4, hBw4, hxw4⟩ := box_cell w3 x
        have hCw4 : Below W2.heap.size W2 w4 := below_new hCw3 hBw4
        refine op_val (some 25) rfl rfl rfl (v := .slice (some ⟨gx, 0, none⟩) 1 1) (w' := w4) (by unfold cla; go_simp) ?_
        refine ⟨⟨below_new HK.out.2.2.2 hCw4, keep_cell hCw4 c0, keep_cell hCw4 c1, hx0.below hCw4⟩, ?_⟩
        go_frame
        have honew4 := one_cl hxw4
        obtain ⟨W8, g8, hW8, hg8, hB8, hh8⟩ := box_rows w4 [.slice pa ka ca, .slice (some ⟨gx, 0, none⟩) 1 1, .slice pb kb cb]
        have hC8 : Below W2.heap.size W2 W8 := below_new hCw4 hB8
        have hBw8 := below_new HK.out.2.2.2 hC8
        refine op_val (some 32) rfl rfl rfl (v := .slice (some ⟨g8, 0, none⟩) 3 3) (w' := W8) (by go_simp) ?_
        refine ⟨⟨hBw8, keep_cell hC8 c0, keep_cell hC8 c1, hx0.below hC8⟩, ?_⟩
        go_frame
        have hm := made_any (leaf := leaf) hh8 (ls := [L.take N, [x], L.drop M]) rfl (three_rows (HA.out W8 hBw8).1 (honew4.below (hB8)) (HA.out W8 hBw8).2) HSm.out (by simp)
        refine op_call (some 33) rfl rfl rfl (f := 44) (vs := #[.bool leaf, .slice (some ⟨g8, 0, none⟩) 3 3]) (by go_simp) ?_
        refine hm.mono ?_
        rintro e w9 ⟨v9, rfl, hown, hB9⟩
        have hC9 := below_new hC8 hB9
        obtain ⟨p9, c9, rfl⟩ := hown.at.shape
        refine ⟨_, rfl, ⟨below_new hBw8 hB9, keep_cell hC9 c0, keep_cell hC9 c1, hx0.below hC9⟩, ?_⟩
        unfold nodeV
        go_frame
        refine op_storeH none rfl rfl rfl 24 _ _ rfl g2 _ rfl rfl 24 _ (below_holds hC9 HK.out.2.2.1) infoNode2 rfl (by simp [Value.oneCell']) ?_
        intro w10 hH hO hs10
        have hC10 := node_back hBw8 HK.out.2.1 (below_holds hC8 HK.out.2.2.1).lt hB9 hown hO
        refine ⟨⟨hC10.2, only_cell hO (keep_cell hC9 c0) hgg.1, only_cell hO (keep_cell hC9 c1) hgg.1, only_cellAt hO (hx0.below hC9) hgg.2⟩, ?_⟩
        go_frame
        refine then_normalE ?_
        go_at_K
        go_wp2_with fail
        refine bodyPost_ret (results_cellH (p := 4) rfl _ w10 g2 24 _ _ rfl hH Try.underlying24 rfl infoNode2) rfl ?_
        rw [HD.out]
        exact ⟨_, rfl, hC10⟩
    · obtain ⟨w2, gx, hWw2, hgw2, hBw2, hxw2⟩ := box_cell W2.drew x
      have hCw2 : Below W2.heap.size W2 w2 := below_drewL hBw2
      refine op_val (some 25) rfl rfl rfl (v := .slice (some ⟨gx, 0, none⟩) 1 1) (w' := w2) (by unfold cla; go_simp) ?_
      refine ⟨⟨below_new HK.out.2.2.2 hCw2, keep_cell hCw2 c0, keep_cell hCw2 c1, hx0.below hCw2⟩, ?_⟩
      go_frame
      have honew2 := one_cl hxw2
      refine op_call (some 23) rfl rfl rfl (f := 45) (vs := #[.agg #[.bool leaf, .slice p n c], .int .i64 ((0 : Nat) : Int), .int .i64 (N : Int)]) (by go_simp) ?_
      refine (hpa _).mono ?_
      rintro e w3 ⟨rfl, hBw3⟩
      have hCw3 : Below W2.heap.size W2 w3 := below_new hCw2 hBw3
      refine ⟨_, rfl, ⟨below_new HK.out.2.2.2 hCw3, keep_cell hCw3 c0, keep_cell hCw3 c1, hx0.below hCw3⟩, ?_⟩
      go_frame
      refine op_call (some 31) rfl rfl rfl (f := 45) (vs := #[.agg #[.bool leaf, .slice p n c], .int .i64 (M : Int), .int .i64 (n : Int)]) (by go_simp) ?_
      refine (hpb _).mono ?_
      rintro e w4 ⟨rfl, hBw4⟩
      have hCw4 : Below W2.heap.size W2 w4 := below_new hCw3 hBw4
      refine ⟨_, rfl, ⟨below_new HK.out.2.2.2 hCw4, keep_cell hCw4 c0, keep_cell hCw4 c1, hx0.below hCw4⟩, ?_⟩
      go_frame
      obtain ⟨W8, g8, hW8, hg8, hB8, hh8⟩ := box_rows w4 [.slice pa ka ca, .slice (some ⟨gx, 0, none⟩) 1 1, .slice pb kb cb]
      have hC8 : Below W2.heap.size W2 W8 := below_new hCw4 hB8
      have hBw8 := below_new HK.out.2.2.2 hC8
      refine op_val (some 32) rfl rfl rfl (v := .slice (some ⟨g8, 0, none⟩) 3 3) (w' := W8) (by go_simp) ?_
      refine ⟨⟨hBw8, keep_cell hC8 c0, keep_cell hC8 c1, hx0.below hC8⟩, ?_⟩
      go_frame
      have hm := made_any (leaf := leaf) hh8 (ls := [L.take N, [x], L.drop M]) rfl (three_rows (HA.out W8 hBw8).1 (honew2.below (below_new hBw3 (below_new hBw4 (hB8)))) (HA.out W8 hBw8).2) HSm.out (by simp)
      refine op_call (some 33) rfl rfl rfl (f := 44) (vs := #[.bool leaf, .slice (some ⟨g8, 0, none⟩) 3 3]) (by go_simp) ?_
      refine hm.mono ?_
      rintro e w9 ⟨v9, rfl, hown, hB9⟩
      have hC9 := below_new hC8 hB9
      obtain ⟨p9, c9, rfl⟩ := hown.at.shape
      refine ⟨_, rfl, ⟨below_new hBw8 hB9, keep_cell hC9 c0, keep_cell hC9 c1, hx0.below hC9⟩, ?_⟩
      unfold nodeV
      go_frame
      refine op_storeH none rfl rfl rfl 24 _ _ rfl g2 _ rfl rfl 24 _ (below_holds hC9 HK.out.2.2.1) infoNode2 rfl (by simp [Value.oneCell']) ?_
      intro w10 hH hO hs10
      have hC10 := node_back hBw8 HK.out.2.1 (below_holds hC8 HK.out.2.2.1).lt hB9 hown hO
      refine ⟨⟨hC10.2, only_cell hO (keep_cell hC9 c0) hgg.1, only_cell hO (keep_cell hC9 c1) hgg.1, only_cellAt hO (hx0.below hC9) hgg.2⟩, ?_⟩
      go_frame
      refine then_normalE ?_
      go_at_K
      go_wp2_with fail
      refine bodyPost_ret (results_cellH (p := 4) rfl _ w10 g2 24 _ _ rfl hH Try.underlying24 rfl infoNode2) rfl ?_
      rw [HD.out]
      exact ⟨_, rfl, hC10⟩
  | false =>
    have hMi : (N : Int) = (M : Int) := by have := HM.out; simp at this; omega
    clear HM
    go_enter Try.func27, Try.ntmps27
    go_wp2_with (go_at_call 21; refine hf.mono ?_; rintro e W2 ⟨rfl, hB2⟩; replace c0 := keep_cell hB2 c0; replace c1 := keep_cell hB2 c1; replace hx0 := hx0.below hB2; have HK : Hid (w.heap.size = g0 ∧ w.heap.size ≤ g2 ∧ Holds W2 g2 24 #[.bool false, .slice none 0 0] ∧ Below w.heap.size w W2) := (⟨HK1.out.1, HK1.out.2.1, below_holds hB2 HK1.out.2.2.1, below_new HK1.out.2.2.2 hB2⟩); clear hB2 hf)
    refine wp_region_tree (fun W => Below w.heap.size w W ∧ W.cell? ⟨g0, 0, none⟩ = some (.bool leaf) ∧ W.cell? ⟨g0, 1, none⟩ = some (.slice p n c) ∧ CellAt W g1 0 ⟨xk, xv, xp, xs⟩) [0, 1, 2, 3, 5, 7, 8, 9, 10, 11] (.two 4 (.two 6 (.one 12 (.one 13 (.one 14 (.one 15 .nil)))) 12 (.one 6 (.one 13 (.one 14 (.one 15 .nil))))) 6 (.one 4 (.one 12 (.one 13 (.one 14 (.one 15 .nil)))))) mixedP (by kernel_rfl) rfl (by kernel_rfl) (fun _ _ _ d _ h => by cases d <;> exact h) ⟨HK.out.2.2.2.drew, c0, c1, hx0⟩ ?_
    refine tk_val (some 19) rfl rfl rfl (.pointer (some ⟨g0, 0, none⟩)) (fun _ => by go_simp) ?_
    go_frame
    refine tk_ld (some 20) rfl rfl rfl _ _ rfl rfl (fun W hW => ldBool hW.2.1) ?_
    go_frame
    refine tk_ld (some 21) rfl rfl rfl _ _ rfl rfl (fun W hW => ldNode hW.2.1 hW.2.2.1) ?_
    go_frame
    refine tk_val (some 22) rfl rfl rfl (.int .i64 (N : Nat)) (fun _ => by go_simp) ?_
    go_frame
    refine tk_ld (some 24) rfl rfl rfl _ _ rfl rfl (fun W hW => ldCell hW.2.2.2) ?_
    go_frame
    refine tk_ld (some 26) rfl rfl rfl _ _ rfl rfl (fun W hW => ldNode hW.2.1 hW.2.2.1) ?_
    go_frame
    refine tk_val (some 27) rfl rfl rfl (.int .i64 (M : Nat)) (fun _ => by go_simp) ?_
    go_frame
    refine tk_val (some 28) rfl rfl rfl (.pointer (some ⟨g0, 1, none⟩)) (fun _ => by go_simp) ?_
    go_frame
    refine tk_ld (some 29) rfl rfl rfl _ _ rfl rfl (fun W hW => ldRow hW.2.2.1) ?_
    go_frame
    refine tk_val (some 30) rfl rfl rfl (.int .i64 (n : Nat)) (fun _ => by go_simp) ?_
    go_frame
    refine tk_nil ?_
    unfold nodeV
    obtain ⟨x, hxx⟩ : ∃ x : Cl, x = ⟨xk, xv, xp, xs⟩ := ⟨_, rfl⟩
    rw [← hxx] at HD HSm hx0 ⊢
    clear hxx
    refine ⟨?_, ?_⟩
    · refine op_call (some 23) rfl rfl rfl (f := 45) (vs := #[.agg #[.bool leaf, .slice p n c], .int .i64 ((0 : Nat) : Int), .int .i64 (N : Int)]) (by go_simp) ?_
      refine (hpa _).mono ?_
      rintro e w2 ⟨rfl, hBw2⟩
      have hCw2 : Below W2.heap.size W2 w2 := below_drewL hBw2
      refine ⟨_, rfl, ⟨below_new HK.out.2.2.2 hCw2, keep_cell hCw2 c0, keep_cell hCw2 c1, hx0.below hCw2⟩, ?_⟩
      go_frame
      refine ⟨?_, ?_⟩
      · obtain ⟨w3, gx, hWw3, hgw3, hBw3, hxw3⟩ := box_cell w2 x
        have hCw3 : Below W2.heap.size W2 w3 := below_new hCw2 hBw3
        refine op_val (some 25) rfl rfl rfl (v := .slice (some ⟨gx, 0, none⟩) 1 1) (w' := w3) (by unfold cla; go_simp) ?_
        refine ⟨⟨below_new HK.out.2.2.2 hCw3, keep_cell hCw3 c0, keep_cell hCw3 c1, hx0.below hCw3⟩, ?_⟩
        go_frame
        have honew3 := one_cl hxw3
        refine op_call (some 31) rfl rfl rfl (f := 45) (vs := #[.agg #[.bool leaf, .slice p n c], .int .i64 (M : Int), .int .i64 (n : Int)]) (by go_simp) ?_
        refine (hpb _).mono ?_
        rintro e w4 ⟨rfl, hBw4⟩
        have hCw4 : Below W2.heap.size W2 w4 := below_new hCw3 hBw4
        refine ⟨_, rfl, ⟨below_new HK.out.2.2.2 hCw4, keep_cell hCw4 c0, keep_cell hCw4 c1, hx0.below hCw4⟩, ?_⟩
        go_frame
        obtain ⟨W8, g8, hW8, hg8, hB8, hh8⟩ := box_rows w4 [.slice pa ka ca, .slice (some ⟨gx, 0, none⟩) 1 1, .slice pb kb cb]
        have hC8 : Below W2.heap.size W2 W8 := below_new hCw4 hB8
        have hBw8 := below_new HK.out.2.2.2 hC8
        refine op_val (some 32) rfl rfl rfl (v := .slice (some ⟨g8, 0, none⟩) 3 3) (w' := W8) (by go_simp) ?_
        refine ⟨⟨hBw8, keep_cell hC8 c0, keep_cell hC8 c1, hx0.below hC8⟩, ?_⟩
        go_frame
        have hm := made_any (leaf := leaf) hh8 (ls := [L.take N, [x], L.drop M]) rfl (three_rows (HA.out W8 hBw8).1 (honew3.below (below_new hBw4 (hB8))) (HA.out W8 hBw8).2) HSm.out (by simp)
        refine op_call (some 33) rfl rfl rfl (f := 44) (vs := #[.bool leaf, .slice (some ⟨g8, 0, none⟩) 3 3]) (by go_simp) ?_
        refine hm.mono ?_
        rintro e w9 ⟨v9, rfl, hown, hB9⟩
        have hC9 := below_new hC8 hB9
        obtain ⟨p9, c9, rfl⟩ := hown.at.shape
        refine ⟨_, rfl, ⟨below_new hBw8 hB9, keep_cell hC9 c0, keep_cell hC9 c1, hx0.below hC9⟩, ?_⟩
        unfold nodeV
        go_frame
        refine op_storeH none rfl rfl rfl 24 _ _ rfl g2 _ rfl rfl 24 _ (below_holds hC9 HK.out.2.2.1) infoNode2 rfl (by simp [Value.oneCell']) ?_
        intro w10 hH hO hs10
        have hC10 := node_back hBw8 HK.out.2.1 (below_holds hC8 HK.out.2.2.1).lt hB9 hown hO
        refine ⟨⟨hC10.2, only_cell hO (keep_cell hC9 c0) hgg.1, only_cell hO (keep_cell hC9 c1) hgg.1, only_cellAt hO (hx0.below hC9) hgg.2⟩, ?_⟩
        go_frame
        refine then_normalE ?_
        go_at_K
        go_wp2_with fail
        refine bodyPost_ret (results_cellH (p := 4) rfl _ w10 g2 24 _ _ rfl hH Try.underlying24 rfl infoNode2) rfl ?_
        rw [HD.out]
        exact ⟨_, rfl, hC10⟩
      · refine op_call (some 31) rfl rfl rfl (f := 45) (vs := #[.agg #[.bool leaf, .slice p n c], .int .i64 (M : Int), .int .i64 (n : Int)]) (by go_simp) ?_
        refine (hpb _).mono ?_
        rintro e w3 ⟨rfl, hBw3⟩
        have hCw3 : Below W2.heap.size W2 w3 := below_new hCw2 hBw3
        refine ⟨_, rfl, ⟨below_new HK.out.2.2.2 hCw3, keep_cell hCw3 c0, keep_cell hCw3 c1, hx0.below hCw3⟩, ?_⟩
        go_frame
        obtain ⟨w4, gx, hWw4, hgw4, hBw4, hxw4⟩ := box_cell w3 x
        have hCw4 : Below W2.heap.size W2 w4 := below_new hCw3 hBw4
        refine op_val (some 25) rfl rfl rfl (v := .slice (some ⟨gx, 0, none⟩) 1 1) (w' := w4) (by unfold cla; go_simp) ?_
        refine ⟨⟨below_new HK.out.2.2.2 hCw4, keep_cell hCw4 c0, keep_cell hCw4 c1, hx0.below hCw4⟩, ?_⟩
        go_frame
        have honew4 := one_cl hxw4
        obtain ⟨W8, g8, hW8, hg8, hB8, hh8⟩ := box_rows w4 [.slice pa ka ca, .slice (some ⟨gx, 0, none⟩) 1 1, .slice pb kb cb]
        have hC8 : Below W2.heap.size W2 W8 := below_new hCw4 hB8
        have hBw8 := below_new HK.out.2.2.2 hC8
        refine op_val (some 32) rfl rfl rfl (v := .slice (some ⟨g8, 0, none⟩) 3 3) (w' := W8) (by go_simp) ?_
        refine ⟨⟨hBw8, keep_cell hC8 c0, keep_cell hC8 c1, hx0.below hC8⟩, ?_⟩
        go_frame
        have hm := made_any (leaf := leaf) hh8 (ls := [L.take N, [x], L.drop M]) rfl (three_rows (HA.out W8 hBw8).1 (honew4.below (hB8)) (HA.out W8 hBw8).2) HSm.out (by simp)
        refine op_call (some 33) rfl rfl rfl (f := 44) (vs := #[.bool leaf, .slice (some ⟨g8, 0, none⟩) 3 3]) (by go_simp) ?_
        refine hm.mono ?_
        rintro e w9 ⟨v9, rfl, hown, hB9⟩
        have hC9 := below_new hC8 hB9
        obtain ⟨p9, c9, rfl⟩ := hown.at.shape
        refine ⟨_, rfl, ⟨below_new hBw8 hB9, keep_cell hC9 c0, keep_cell hC9 c1, hx0.below hC9⟩, ?_⟩
        unfold nodeV
        go_frame
        refine op_storeH none rfl rfl rfl 24 _ _ rfl g2 _ rfl rfl 24 _ (below_holds hC9 HK.out.2.2.1) infoNode2 rfl (by simp [Value.oneCell']) ?_
        intro w10 hH hO hs10
        have hC10 := node_back hBw8 HK.out.2.1 (below_holds hC8 HK.out.2.2.1).lt hB9 hown hO
        refine ⟨⟨hC10.2, only_cell hO (keep_cell hC9 c0) hgg.1, only_cell hO (keep_cell hC9 c1) hgg.1, only_cellAt hO (hx0.below hC9) hgg.2⟩, ?_⟩
        go_frame
        refine then_normalE ?_
        go_at_K
        go_wp2_with fail
        refine bodyPost_ret (results_cellH (p := 4) rfl _ w10 g2 24 _ _ rfl hH Try.underlying24 rfl infoNode2) rfl ?_
        rw [HD.out]
        exact ⟨_, rfl, hC10⟩
    · obtain ⟨w2, gx, hWw2, hgw2, hBw2, hxw2⟩ := box_cell W2.drew x
      have hCw2 : Below W2.heap.size W2 w2 := below_drewL hBw2
      refine op_val (some 25) rfl rfl rfl (v := .slice (some ⟨gx, 0, none⟩) 1 1) (w' := w2) (by unfold cla; go_simp) ?_
      refine ⟨⟨below_new HK.out.2.2.2 hCw2, keep_cell hCw2 c0, keep_cell hCw2 c1, hx0.below hCw2⟩, ?_⟩
      go_frame
      have honew2 := one_cl hxw2
      refine op_call (some 23) rfl rfl rfl (f := 45) (vs := #[.agg #[.bool leaf, .slice p n c], .int .i64 ((0 : Nat) : Int), .int .i64 (N : Int)]) (by go_simp) ?_
      refine (hpa _).mono ?_
      rintro e w3 ⟨rfl, hBw3⟩
      have hCw3 : Below W2.heap.size W2 w3 := below_new hCw2 hBw3
      refine ⟨_, rfl, ⟨below_new HK.out.2.2.2 hCw3, keep_cell hCw3 c0, keep_cell hCw3 c1, hx0.below hCw3⟩, ?_⟩
      go_frame
      refine op_call (some 31) rfl rfl rfl (f := 45) (vs := #[.agg #[.bool leaf, .slice p n c], .int .i64 (M : Int), .int .i64 (n : Int)]) (by go_simp) ?_
      refine (hpb _).mono ?_
      rintro e w4 ⟨rfl, hBw4⟩
      have hCw4 : Below W2.heap.size W2 w4 := below_new hCw3 hBw4
      refine ⟨_, rfl, ⟨below_new HK.out.2.2.2 hCw4, keep_cell hCw4 c0, keep_cell hCw4 c1, hx0.below hCw4⟩, ?_⟩
      go_frame
      obtain ⟨W8, g8, hW8, hg8, hB8, hh8⟩ := box_rows w4 [.slice pa ka ca, .slice (some ⟨gx, 0, none⟩) 1 1, .slice pb kb cb]
      have hC8 : Below W2.heap.size W2 W8 := below_new hCw4 hB8
      have hBw8 := below_new HK.out.2.2.2 hC8
      refine op_val (some 32) rfl rfl rfl (v := .slice (some ⟨g8, 0, none⟩) 3 3) (w' := W8) (by go_simp) ?_
      refine ⟨⟨hBw8, keep_cell hC8 c0, keep_cell hC8 c1, hx0.below hC8⟩, ?_⟩
      go_frame
      have hm := made_any (leaf := leaf) hh8 (ls := [L.take N, [x], L.drop M]) rfl (three_rows (HA.out W8 hBw8).1 (honew2.below (below_new hBw3 (below_new hBw4 (hB8)))) (HA.out W8 hBw8).2) HSm.out (by simp)
      refine op_call (some 33) rfl rfl rfl (f := 44) (vs := #[.bool leaf, .slice (some ⟨g8, 0, none⟩) 3 3]) (by go_simp) ?_
      refine hm.mono ?_
      rintro e w9 ⟨v9, rfl, hown, hB9⟩
      have hC9 := below_new hC8 hB9
      obtain ⟨p9, c9, rfl⟩ := hown.at.shape
      refine ⟨_, rfl, ⟨below_new hBw8 hB9, keep_cell hC9 c0, keep_cell hC9 c1, hx0.below hC9⟩, ?_⟩
      unfold nodeV
      go_frame
      refine op_storeH none rfl rfl rfl 24 _ _ rfl g2 _ rfl rfl 24 _ (below_holds hC9 HK.out.2.2.1) infoNode2 rfl (by simp [Value.oneCell']) ?_
      intro w10 hH hO hs10
      have hC10 := node_back hBw8 HK.out.2.1 (below_holds hC8 HK.out.2.2.1).lt hB9 hown hO
      refine ⟨⟨hC10.2, only_cell hO (keep_cell hC9 c0) hgg.1, only_cell hO (keep_cell hC9 c1) hgg.1, only_cellAt hO (hx0.below hC9) hgg.2⟩, ?_⟩
      go_frame
      refine then_normalE ?_
      go_at_K
      go_wp2_with fail
      refine bodyPost_ret (results_cellH (p := 4) rfl _ w10 g2 24 _ _ rfl hH Try.underlying24 rfl infoNode2) rfl ?_
      rw [HD.out]
      exact ⟨_, rfl, hC10⟩
end Go.Proofs.Ytdgfjaidnedaiaa
