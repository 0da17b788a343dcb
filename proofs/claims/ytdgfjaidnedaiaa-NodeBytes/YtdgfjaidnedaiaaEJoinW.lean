/-
  The program's Join and Drop.
-/
import Derived.Test.YtdgfjaidnedaiaaEPutW
namespace Go.Proofs.Ytdgfjaidnedaiaa
open Go Go.RowKit

theorem box_rows (w : World) (vs : List Value) : ∃ W g, w.alloc (.cells vs.toArray 22) = W ∧ w.heap.size = g ∧ Below w.heap.size w W ∧ Holds W g 22 vs.toArray := ⟨_, _, rfl, rfl, below_new1 _ _, Holds.new _ _ _⟩
theorem two_rows {w : World} {u v : Value} {A B : List Cl} (ha : CellsAt w u A) (hb : CellsAt w v B) : ∀ (i : Nat) x l, [u, v][i]? = some x → [A, B][i]? = some l → CellsAt w x l
  | 0, x, l, h1, h2 => by simp at h1 h2; rw [← h1, ← h2]; exact ha
  | 1, x, l, h1, h2 => by simp at h1 h2; rw [← h1, ← h2]; exact hb
  | i + 2, x, l, h1, h2 => by simp at h1
theorem one_rows {w : World} {u : Value} {A : List Cl} (ha : CellsAt w u A) : ∀ (i : Nat) x l, [u][i]? = some x → [A][i]? = some l → CellsAt w x l
  | 0, x, l, h1, h2 => by simp at h1 h2; rw [← h1, ← h2]; exact ha
  | i + 1, x, l, h1, h2 => by simp at h1
theorem three_rows {w : World} {u v y : Value} {A B D : List Cl} (ha : CellsAt w u A) (hb : CellsAt w v B) (hd : CellsAt w y D) : ∀ (i : Nat) x l, [u, v, y][i]? = some x → [A, B, D][i]? = some l → CellsAt w x l
  | 0, x, l, h1, h2 => by simp at h1 h2; rw [← h1, ← h2]; exact ha
  | 1, x, l, h1, h2 => by simp at h1 h2; rw [← h1, ← h2]; exact hb
  | 2, x, l, h1, h2 => by simp at h1 h2; rw [← h1, ← h2]; exact hd
  | i + 3, x, l, h1, h2 => by simp at h1
theorem node_back {w W3 w4 w5 : World} {g : Nat} {v : Value} {L : List Cl} (hB : Below w.heap.size w W3) (hg : w.heap.size ≤ g) (hg3 : g < W3.heap.size) (hB4 : Below W3.heap.size W3 w4) (hown : OwnCells w4 W3.heap.size v L) (hO : Only g w4 w5) : OwnCells w5 w.heap.size v L ∧ Below w.heap.size w w5 :=
  ⟨(own_only hown hO hg3).mono hB.size, Only.fresh (below_new hB hB4) hO hg⟩
set_option maxRecDepth 8000 in
set_option maxHeartbeats 1000000 in
theorem join_any {w : World} {la lb : Bool} {va vb : Value} {A B : List Cl} (ha : CellsAt w va A) (hb : CellsAt w vb B) (hA : A.length ≤ 100000) (hB : B.length ≤ 100000) :
    Calls Try.prog 31 #[nodeV la va, nodeV lb vb] w fun e w' => ∃ v, e = .returned (nodeV la v) ∧ OwnCells w' w.heap.size v (A ++ B) ∧ Below w.heap.size w w' := by
  unfold nodeV
  obtain ⟨W0, g0, hW0, hg0, hB0, hb0, c0, c1⟩ := box_node w la va
  obtain ⟨W1, g1, hW1, hg1, hB1, hb1, d0, d1⟩ := box_node W0 lb vb
  obtain ⟨W2, g2, hW2, hg2, hB2, hb2, _, _⟩ := box_node W1 false (.slice none 0 0)
  have hB02 := below_new hB0 (below_new hB1 hB2)
  have c0' := keep_cell (below_new hB1 hB2) c0
  have c1' := keep_cell (below_new hB1 hB2) c1
  have d1' := keep_cell hB2 d1
  obtain ⟨pa, ca, rfl⟩ := ha.shape
  obtain ⟨pb, cb, rfl⟩ := hb.shape
  obtain ⟨W3, g3, hW3, hg3, hB3, hh3⟩ := box_rows W2 [.slice pa A.length ca, .slice pb B.length cb]
  have hm := made_any (leaf := la) hh3 (ls := [A, B]) rfl (two_rows (ha.below (below_new hB02 hB3)) (hb.below (below_new hB02 hB3))) (by simp; omega) (by simp)
  have HT : Hid (Holds W3 g2 24 #[.bool false, .slice none 0 0] ∧ Below w.heap.size w W3 ∧ w.heap.size ≤ g2 ∧ g2 < W3.heap.size ∧ w.heap.size = g0) := ⟨below_holds hB3 hb2, below_new hB02 hB3, by have := hB0.size; have := hB1.size; omega, (below_holds hB3 hb2).lt, hg0⟩
  have e2 : ([A, B] : List (List Cl)).flatten = A ++ B := by simp
  rw [e2] at hm
  simp only [List.length_cons, List.length_nil] at hm
  clear hB0 hB1 hB2 hB3 hb0 hb1 hb2 hB02 ha hb hh3 e2 c0 c1 d0 d1
  generalize A.length = na at *
  generalize B.length = nb at *
  go_enter Try.func31, Try.ntmps31
  go_wp2_with (first
    | (go_at_call 44; refine hm.mono ?_; rintro e w4 ⟨v4, rfl, hown, hB4⟩; obtain ⟨p4, c4, rfl⟩ := hown.at.shape; have hb4 := below_holds hB4 HT.out.1; have HO : Hid (OwnCells w4 W3.heap.size (.slice p4 (A ++ B).length c4) (A ++ B)) := hown; have HB4 : Hid (Below W3.heap.size W3 w4) := hB4; clear hown hB4; unfold nodeV; generalize (A ++ B).length = m1 at *)
    | ((with_reducible show wpList _ _ _ (Oper.mk _ (Op.store _ _ _) _ _ _ _ :: _) _ _); go_must (refine wpList_storeH rfl 24 _ _ rfl g2 #[.bool la, .slice p4 m1 c4] rfl rfl 24 #[.bool false, .slice none 0 0] hb4 infoNode2 rfl (by simp [Value.oneCell']) ?_; intro w5 hH hO hs5)))
  refine bodyPost_ret (results_cellH (p := 4) rfl _ w5 g2 24 _ _ rfl hH Try.underlying24 rfl infoNode2) rfl ?_
  exact ⟨_, rfl, node_back HT.out.2.1 HT.out.2.2.1 HT.out.2.2.2.1 HB4.out HO.out hO⟩
theorem fits_C {w w' : World} {g0 : Nat} {leaf : Bool} {v : Value} (h : Below w.heap.size w w') (c : w.cell? ⟨g0, 0, none⟩ = some (.bool leaf) ∧ w.cell? ⟨g0, 1, none⟩ = some v) : w'.cell? ⟨g0, 0, none⟩ = some (.bool leaf) ∧ w'.cell? ⟨g0, 1, none⟩ = some v := ⟨keep_cell h c.1, keep_cell h c.2⟩
theorem only_cell {w w' : World} {a : Addr} {v : Value} {g : Nat} (ho : Only g w w') (h : w.cell? a = some v) (hg : a.block ≠ g) : w'.cell? a = some v := by
  have hl := World.block_lt_of_cell? w _ h
  have := ho.block a.block hl hg
  rw [← h]
  unfold World.cell?
  rw [this]
set_option maxRecDepth 8000 in
set_option maxHeartbeats 1000000 in
theorem drop_any {w : World} {leaf : Bool} {v : Value} {L : List Cl} (hv : CellsAt w v L) (hl : L.length ≤ 100000) (i : Int) :
    Calls Try.prog 23 #[nodeV leaf v, .int .i64 i] w fun e w' => ∃ u, e = .returned (nodeV leaf u) ∧ OwnCells w' w.heap.size u (dropL L i) ∧ Below w.heap.size w w' := by
  unfold nodeV
  obtain ⟨W0, g0, hW0, hg0, hB0, hb0, c0, c1⟩ := box_node w leaf v
  obtain ⟨W1, g1, hW1, hg1, hB1, hb1, d0, d1⟩ := box_node W0 false (.slice none 0 0)
  have hB01 := below_new hB0 hB1
  have c0' := keep_cell hB1 c0
  have c1' := keep_cell hB1 c1
  obtain ⟨p, c, rfl⟩ := hv.shape
  have hcap := hv.cap.2
  have hgg : g0 ≠ g1 := by have := hb0.lt; omega
  have HK : Hid (w.heap.size = g0 ∧ w.heap.size ≤ g1 ∧ Holds W1 g1 24 #[.bool false, .slice none 0 0] ∧ Below w.heap.size w W1) := ⟨hg0, by have := hB0.size; omega, hb1, hB01⟩
  by_cases hin : 0 ≤ i ∧ i < (L.length : Int)
  · obtain ⟨k, rfl⟩ : ∃ k : Nat, i = (k : Int) := ⟨i.toNat, by omega⟩
    have hkn : k < L.length := by omega
    have HD : Hid (dropL L (k : Int) = [L.take k, L.drop (k + 1)].flatten) := by show _ = _; unfold dropL; rw [if_pos hin]; simp
    obtain ⟨pa, ca, hsa, hca⟩ := sl_part p (n := L.length) (c := c) 0 k (Nat.zero_le _) (by omega) hcap
    obtain ⟨pb, cb, hsb, hcb⟩ := sl_part p (n := L.length) (c := c) (k + 1) L.length (by omega) (Nat.le_refl _) hcap
    have hpa := fun w => part_any (w := w) (leaf := leaf) hsa
    have hpb := fun w => part_any (w := w) (leaf := leaf) hsb
    have HA : Hid (∀ W, Below w.heap.size w W → CellsAt W (.slice pa (k - 0) ca) (L.take k) ∧ CellsAt W (.slice pb (L.length - (k + 1)) cb) (L.drop (k + 1))) := fun W hW => by
      refine ⟨?_, ?_⟩
      · have := hca W L (hv.below hW)
        simpa using this
      · have := hcb W L (hv.below hW)
        rw [List.take_of_length_le (by rw [List.length_drop]; exact Nat.le_refl _)] at this
        exact this
    have hki : (k : Int) < L.length := by omega
    have hli : (L.length : Int) ≤ 100000 := by omega
    have hwr : IntKind.i64.wrap ((k : Int) + 1) = (k : Int) + 1 := by rw [IntKind.wrap_i64]; omega
    have HSm : Hid ([L.take k, L.drop (k + 1)].flatten.length ≤ 1000000) := by show _ ≤ _; simp; omega
    unfold nodeV at hpa hpb
    clear hsa hsb hca hcb hB0 hB1 hb0 hb1 d0 d1 c0 c1 hin
    obtain ⟨n, hn⟩ : ∃ n, L.length = n := ⟨_, rfl⟩
    rw [hn] at hki hli hpa hpb hW0 c1' ⊢
    generalize (k - 0) = ka at hpa HA
    rw [hn] at HA
    generalize (n - (k + 1)) = kb at hpb HA
    clear hn hkn hl hcap hv
    go_enter Try.func23, Try.ntmps23
    go_wp2_with fail
    refine wp_region_tree (fun W => Below w.heap.size w W ∧ W.cell? ⟨g0, 0, none⟩ = some (.bool leaf) ∧ W.cell? ⟨g0, 1, none⟩ = some (.slice p n c)) [0, 1, 2, 3, 5, 6, 7, 8, 9, 10] (.one 4 (.one 11 (.one 12 (.one 13 (.one 14 .nil))))) mixedP (by kernel_rfl) rfl (by kernel_rfl) (fun _ _ _ d _ h => by cases d <;> exact h) ⟨HK.out.2.2.2.drew, c0', c1'⟩ ?_
    refine tk_val (some 20) rfl rfl rfl (.pointer (some ⟨g0, 0, none⟩)) (fun _ => by go_simp) ?_
    go_frame
    refine tk_ld (some 21) rfl rfl rfl _ _ rfl rfl (fun W hW => ldBool hW.2.1) ?_
    go_frame
    refine tk_ld (some 22) rfl rfl rfl _ _ rfl rfl (fun W hW => ldNode hW.2.1 hW.2.2) ?_
    go_frame
    refine tk_val (some 23) rfl rfl rfl (.int .i64 (k : Nat)) (fun _ => by go_simp) ?_
    go_frame
    refine tk_ld (some 25) rfl rfl rfl _ _ rfl rfl (fun W hW => ldNode hW.2.1 hW.2.2) ?_
    go_frame
    refine tk_val (some 26) rfl rfl rfl (.int .i64 (k : Nat)) (fun _ => by go_simp) ?_
    go_frame
    refine tk_val (some 27) rfl rfl rfl (.int .i64 ((k + 1 : Nat) : Int)) (fun _ => by go_simp) ?_
    go_frame
    refine tk_val (some 28) rfl rfl rfl (.pointer (some ⟨g0, 1, none⟩)) (fun _ => by go_simp) ?_
    go_frame
    refine tk_ld (some 29) rfl rfl rfl _ _ rfl rfl (fun W hW => ldRow hW.2.2) ?_
    go_frame
    refine tk_val (some 30) rfl rfl rfl (.int .i64 (n : Nat)) (fun _ => by go_simp) ?_
    go_frame
    refine tk_nil ?_
    unfold nodeV
    refine op_call (some 24) rfl rfl rfl (f := 45) (vs := #[.agg #[.bool leaf, .slice p n c], .int .i64 ((0 : Nat) : Int), .int .i64 (k : Int)]) (by go_simp) ?_
    refine (hpa _).mono ?_
    rintro e w2 ⟨rfl, hB2⟩
    have hB2' : Below W1.heap.size W1 w2 := below_drewL hB2
    refine ⟨_, rfl, ⟨below_new HK.out.2.2.2 hB2', keep_cell hB2' c0', keep_cell hB2' c1'⟩, ?_⟩
    go_frame
    refine op_call (some 31) rfl rfl rfl (f := 45) (vs := #[.agg #[.bool leaf, .slice p n c], .int .i64 ((k + 1 : Nat) : Int), .int .i64 (n : Int)]) (by go_simp) ?_
    refine (hpb _).mono ?_
    rintro e w3 ⟨rfl, hB3⟩
    have hB3' := below_new hB2' hB3
    refine ⟨_, rfl, ⟨below_new HK.out.2.2.2 hB3', keep_cell hB3' c0', keep_cell hB3' c1'⟩, ?_⟩
    go_frame
    obtain ⟨W4, g4, hW4, hg4, hB4, hh4⟩ := box_rows w3 [.slice pa ka ca, .slice pb kb cb]
    have hB4' := below_new hB3' hB4
    have hBw4 := below_new HK.out.2.2.2 hB4'
    refine op_val (some 32) rfl rfl rfl (v := .slice (some ⟨g4, 0, none⟩) 2 2) (w' := W4) (by go_simp) ?_
    refine ⟨⟨hBw4, keep_cell hB4' c0', keep_cell hB4' c1'⟩, ?_⟩
    go_frame
    have hm := made_any (leaf := leaf) hh4 (ls := [L.take k, L.drop (k + 1)]) rfl (two_rows (HA.out W4 hBw4).1 (HA.out W4 hBw4).2) HSm.out (by simp)
    refine op_call (some 33) rfl rfl rfl (f := 44) (vs := #[.bool leaf, .slice (some ⟨g4, 0, none⟩) 2 2]) (by go_simp) ?_
    refine hm.mono ?_
    rintro e w5 ⟨v5, rfl, hown, hB5⟩
    have hB5' := below_new hB4' hB5
    obtain ⟨p5, c5, rfl⟩ := hown.at.shape
    refine ⟨_, rfl, ⟨below_new hBw4 hB5, keep_cell hB5' c0', keep_cell hB5' c1'⟩, ?_⟩
    unfold nodeV
    go_frame
    refine op_storeH none rfl rfl rfl 24 _ _ rfl g1 _ rfl rfl 24 _ (below_holds hB5' HK.out.2.2.1) infoNode2 rfl (by simp [Value.oneCell']) ?_
    intro w6 hH hO hs6
    have hC6 := node_back hBw4 HK.out.2.1 (below_holds hB4' HK.out.2.2.1).lt hB5 hown hO
    refine ⟨⟨hC6.2, only_cell hO (keep_cell hB5' c0') hgg, only_cell hO (keep_cell hB5' c1') hgg⟩, ?_⟩
    go_frame
    refine then_normalE ?_
    go_at_K
    go_wp2_with fail
    refine bodyPost_ret (results_cellH (p := 4) rfl _ w6 g1 24 _ _ rfl hH Try.underlying24 rfl infoNode2) rfl ?_
    rw [HD.out]
    exact ⟨_, rfl, hC6⟩
  · have HD : Hid (dropL L i = [L].flatten) := by show _ = _; unfold dropL; rw [if_neg hin]; simp
    have hne : ((decide (i < 0)) || decide ((L.length : Int) ≤ i)) = true := by
      rw [Bool.or_eq_true, decide_eq_true_eq, decide_eq_true_eq]; omega
    obtain ⟨W3, g3, hW3, hg3, hB3, hh3⟩ := box_rows W1 [.slice p L.length c]
    have hm := made_any (leaf := leaf) hh3 (ls := [L]) rfl (one_rows (hv.below (below_new hB01 hB3))) (by simp; omega) (by simp)
    have HT : Hid (Holds W3 g1 24 #[.bool false, .slice none 0 0] ∧ Below w.heap.size w W3 ∧ w.heap.size ≤ g1 ∧ g1 < W3.heap.size) := ⟨below_holds hB3 hb1, below_new hB01 hB3, HK.out.2.1, (below_holds hB3 hb1).lt⟩
    simp only [List.length_cons, List.length_nil] at hm
    clear hB0 hB1 hb0 hb1 hB01 hv hh3 c0 c1 d0 d1 hB3
    obtain ⟨n, hn⟩ : ∃ n, L.length = n := ⟨_, rfl⟩
    rw [hn] at hne hin hW0 hW3 c1' ⊢
    clear hn hcap hl
    rcases Int.lt_or_le i 0 with hi | hi
    · go_enter Try.func23, Try.ntmps23
      go_wp2_with (first
        | (go_at_call 44; refine hm.mono ?_; rintro e w4 ⟨v4, rfl, hown, hB4⟩; obtain ⟨p4, c4, rfl⟩ := hown.at.shape; have hb4 := below_holds hB4 HT.out.1; have HO : Hid (OwnCells w4 W3.heap.size (.slice p4 ([L].flatten).length c4) [L].flatten) := hown; have HB4 : Hid (Below W3.heap.size W3 w4) := hB4; clear hown hB4; unfold nodeV; generalize ([L].flatten).length = m1 at *)
        | ((with_reducible show wpList _ _ _ (Oper.mk _ (Op.store _ _ _) _ _ _ _ :: _) _ _); go_must (refine wpList_storeH rfl 24 _ _ rfl g1 #[.bool leaf, .slice p4 m1 c4] rfl rfl 24 #[.bool false, .slice none 0 0] hb4 infoNode2 rfl (by simp [Value.oneCell']) ?_; intro w5 hH hO hs5)))
      refine bodyPost_ret (results_cellH (p := 4) rfl _ w5 g1 24 _ _ rfl hH Try.underlying24 rfl infoNode2) rfl ?_
      rw [HD.out]
      exact ⟨_, rfl, node_back HT.out.2.1 HT.out.2.2.1 HT.out.2.2.2 HB4.out HO.out hO⟩
    · have hi2 : ¬ i < 0 := by omega
      have hi3 : (n : Int) ≤ i := by omega
      go_enter Try.func23, Try.ntmps23
      go_wp2_with (first
        | (go_at_call 44; refine hm.mono ?_; rintro e w4 ⟨v4, rfl, hown, hB4⟩; obtain ⟨p4, c4, rfl⟩ := hown.at.shape; have hb4 := below_holds hB4 HT.out.1; have HO : Hid (OwnCells w4 W3.heap.size (.slice p4 ([L].flatten).length c4) [L].flatten) := hown; have HB4 : Hid (Below W3.heap.size W3 w4) := hB4; clear hown hB4; unfold nodeV; generalize ([L].flatten).length = m1 at *)
        | ((with_reducible show wpList _ _ _ (Oper.mk _ (Op.store _ _ _) _ _ _ _ :: _) _ _); go_must (refine wpList_storeH rfl 24 _ _ rfl g1 #[.bool leaf, .slice p4 m1 c4] rfl rfl 24 #[.bool false, .slice none 0 0] hb4 infoNode2 rfl (by simp [Value.oneCell']) ?_; intro w5 hH hO hs5)))
      refine bodyPost_ret (results_cellH (p := 4) rfl _ w5 g1 24 _ _ rfl hH Try.underlying24 rfl infoNode2) rfl ?_
      rw [HD.out]
      exact ⟨_, rfl, node_back HT.out.2.1 HT.out.2.2.1 HT.out.2.2.2 HB4.out HO.out hO⟩
end Go.Proofs.Ytdgfjaidnedaiaa
