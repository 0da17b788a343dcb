/-
  The program's Split.
-/
import Derived.Test.YtdgfjaidnedaiaaEHalfW
namespace Go.Proofs.Ytdgfjaidnedaiaa
open Go Go.RowKit

/-- A list of nodes in memory. -/
def NodesAt (w : World) (v : Value) (leaf : Bool) (Ls : List (List Cl)) : Prop :=
  ∃ b, v = .slice (some ⟨b, 0, none⟩) Ls.length Ls.length ∧ ∀ (i : Nat) L, Ls[i]? = some L → ∃ p c, w.cell? ⟨b, i * 2, none⟩ = some (.bool leaf) ∧ w.cell? ⟨b, i * 2 + 1, none⟩ = some (.slice p L.length c) ∧ CellsAt w (.slice p L.length c) L
def splL (leaf : Bool) (L : List Cl) : List (List Cl) := if sizeL leaf L ≤ 1013 ∨ L.length < 2 then [L] else [L.take (halfN leaf L), L.drop (halfN leaf L)]
theorem NodesAt.below {w w' : World} {v : Value} {leaf : Bool} {Ls : List (List Cl)} (h : NodesAt w v leaf Ls) (hB : Below w.heap.size w w') : NodesAt w' v leaf Ls := by
  obtain ⟨b, h1, h2⟩ := h
  refine ⟨b, h1, fun i L hL => ?_⟩
  obtain ⟨p, c, q1, q2, q3⟩ := h2 i L hL
  exact ⟨p, c, keep_cell hB q1, keep_cell hB q2, q3.below hB⟩
theorem nodes_one {w : World} {g : Nat} {leaf : Bool} {p : Option Addr} {c : Nat} {L : List Cl} (h : Holds w g 24 #[.bool leaf, .slice p L.length c]) (hc : CellsAt w (.slice p L.length c) L) : NodesAt w (.slice (some ⟨g, 0, none⟩) 1 1) leaf [L] := by
  refine ⟨g, rfl, fun i K hK => ?_⟩
  cases i with
  | zero => simp at hK; subst hK; exact ⟨p, c, h.cell 0, h.cell 1, hc⟩
  | succ i => simp at hK
theorem nodes_two {w : World} {g : Nat} {leaf : Bool} {p p' : Option Addr} {c c' : Nat} {L K : List Cl} (h : Holds w g 24 #[.bool leaf, .slice p L.length c, .bool leaf, .slice p' K.length c']) (hc : CellsAt w (.slice p L.length c) L) (hk : CellsAt w (.slice p' K.length c') K) : NodesAt w (.slice (some ⟨g, 0, none⟩) 2 2) leaf [L, K] := by
  refine ⟨g, rfl, fun i M hM => ?_⟩
  match i with
  | 0 => simp at hM; subst hM; exact ⟨p, c, h.cell 0, h.cell 1, hc⟩
  | 1 => simp at hM; subst hM; exact ⟨p', c', h.cell 2, h.cell 3, hk⟩
  | i + 2 => simp at hM
theorem shape2 {w : World} {base : Nat} {v : Value} {L : List Cl} (h : OwnCells w base v L) : ∃ p m c, v = .slice p m c ∧ m = L.length ∧ CellsAt w (.slice p m c) L := by
  obtain ⟨p, c, rfl⟩ := h.at.shape
  exact ⟨p, _, c, rfl, rfl, h.at⟩
theorem box_nodes (w : World) (vs : Array Value) : ∃ W g, w.alloc (.cells vs 24) = W ∧ w.heap.size = g ∧ Below w.heap.size w W ∧ Holds W g 24 vs := ⟨_, _, rfl, rfl, below_new1 _ _, Holds.new _ _ _⟩
set_option maxRecDepth 8000 in
set_option maxHeartbeats 1000000 in
theorem split_any {w : World} {leaf : Bool} {v : Value} {L : List Cl} (hv : CellsAt w v L) (hl : L.length ≤ 100000) (hs : Short 10000 L) : Calls Try.prog 29 #[nodeV leaf v] w fun e w' => ∃ u, e = .returned u ∧ NodesAt w' u leaf (splL leaf L) ∧ Below w.heap.size w w' := by
  obtain ⟨p, c, rfl⟩ := hv.shape
  have hcap := hv.cap.2
  obtain ⟨W0, g, hW0, hg, hB0, hb0, c0, c1⟩ := box_node w leaf (.slice p L.length c)
  have hft := fits_any (leaf := leaf) (hv.below hB0) hl hs
  obtain ⟨R, hR⟩ : ∃ R, splL leaf L = R := ⟨_, rfl⟩
  rw [hR]
  have HK : Hid (Below w.heap.size w W0 ∧ w.heap.size = g) := ⟨hB0, hg⟩
  by_cases hc : sizeL leaf L ≤ 1013 ∨ L.length < 2
  · have HR : Hid (R = [L]) := by show _ = _; rw [← hR]; unfold splL; rw [if_pos hc]
    have hm : ∀ W1, Below W0.heap.size W0 W1 → ∃ W3 g3, W1.alloc (.cells #[.slice p L.length c] 22) = W3 ∧ W1.heap.size = g3 ∧ Hid (Below W0.heap.size W0 W3) ∧ Calls Try.prog 44 #[.bool leaf, .slice (some ⟨g3, 0, none⟩) 1 1] W3 fun e w' => ∃ v, e = .returned (nodeV leaf v) ∧ OwnCells w' W3.heap.size v L ∧ Below W3.heap.size W3 w' := fun W1 hB1 => by
      obtain ⟨W3, g3, h1, h2, h3, h4⟩ := box_rows W1 [.slice p L.length c]
      have := made_any (leaf := leaf) h4 (ls := [L]) rfl (one_rows (hv.below (below_new hB0 (below_new hB1 h3)))) (by simp; omega) (by simp)
      have e1 : ([L] : List (List Cl)).flatten = L := by simp
      rw [e1] at this
      exact ⟨W3, g3, h1, h2, below_new hB1 h3, this⟩
    obtain ⟨n, hn⟩ : ∃ n, L.length = n := ⟨_, rfl⟩
    have HN : Hid (L.length = n) := hn
    rw [hn] at hft hm c1 hW0 hc hl ⊢
    have hni : (n : Int) ≤ 100000 := by omega
    unfold nodeV at hft ⊢
    clear hv hb0 hR hcap hn hB0
    by_cases hf : sizeL leaf L ≤ 1013
    · rw [decide_eq_true hf] at hft
      clear hf hc
      go_enter Try.func29, Try.ntmps29
      go_wp2_with (first
        | (go_at_call 16; refine hft.mono ?_; rintro e W1 ⟨rfl, hB1⟩; replace c0 := keep_cell hB1 c0; replace c1 := keep_cell hB1 c1; obtain ⟨W3, g3, hW3, hg3, HB3, hm⟩ := hm W1 hB1; clear hB1)
        | (go_at_call 44; refine hm.mono ?_; rintro e w4 ⟨v4, rfl, hown, hB4⟩; obtain ⟨p4, c4, rfl⟩ := hown.at.shape; have HO : Hid (CellsAt w4 (.slice p4 L.length c4) L) := hown.at; have HB4 : Hid (Below W0.heap.size W0 w4) := below_new HB3.out hB4; clear hown hB4; unfold nodeV; obtain ⟨W5, g5, hW5, hg5, hB5, hh5⟩ := box_nodes w4 #[.bool leaf, .slice p4 L.length c4]; have HF : Hid (NodesAt W5 (.slice (some ⟨g5, 0, none⟩) 1 1) leaf [L] ∧ Below w.heap.size w W5) := ⟨nodes_one hh5 (HO.out.below hB5), below_new HK.out.1 (below_new HB4.out hB5)⟩; clear hB5 hh5; rw [HN.out] at hW5 ⊢))
      go_ret
      rw [HR.out]
      exact ⟨_, rfl, HF.out.1, HF.out.2⟩
    · have hn2 : n < 2 := by omega
      have hn2i : (n : Int) < 2 := by omega
      rw [decide_eq_false hf] at hft
      clear hf hc
      go_enter Try.func29, Try.ntmps29
      go_wp2_with (first
        | (go_at_call 16; refine hft.mono ?_; rintro e W1 ⟨rfl, hB1⟩; replace c0 := keep_cell hB1 c0; replace c1 := keep_cell hB1 c1; obtain ⟨W3, g3, hW3, hg3, HB3, hm⟩ := hm W1 hB1; clear hB1)
        | (go_at_call 44; refine hm.mono ?_; rintro e w4 ⟨v4, rfl, hown, hB4⟩; obtain ⟨p4, c4, rfl⟩ := hown.at.shape; have HO : Hid (CellsAt w4 (.slice p4 L.length c4) L) := hown.at; have HB4 : Hid (Below W0.heap.size W0 w4) := below_new HB3.out hB4; clear hown hB4; unfold nodeV; obtain ⟨W5, g5, hW5, hg5, hB5, hh5⟩ := box_nodes w4 #[.bool leaf, .slice p4 L.length c4]; have HF : Hid (NodesAt W5 (.slice (some ⟨g5, 0, none⟩) 1 1) leaf [L] ∧ Below w.heap.size w W5) := ⟨nodes_one hh5 (HO.out.below hB5), below_new HK.out.1 (below_new HB4.out hB5)⟩; clear hB5 hh5; rw [HN.out] at hW5 ⊢))
      go_ret
      rw [HR.out]
      exact ⟨_, rfl, HF.out.1, HF.out.2⟩
  · have HR : Hid (R = [L.take (halfN leaf L), L.drop (halfN leaf L)]) := by show _ = _; rw [← hR]; unfold splL; rw [if_neg hc]
    have hf : ¬ sizeL leaf L ≤ 1013 := fun h => hc (.inl h)
    have h2 : 2 ≤ L.length := by omega
    have hhf := fun W1 (hB1 : Below W0.heap.size W0 W1) => half_any (leaf := leaf) (hv.below (below_new hB0 hB1)) hl hs h2
    rw [decide_eq_false hf] at hft
    obtain ⟨⟨hk1, hk2⟩, _⟩ := halfN_spec (leaf := leaf) h2
    obtain ⟨K, hK⟩ : ∃ K, halfN leaf L = K := ⟨_, rfl⟩
    rw [hK] at HR hhf hk1 hk2
    obtain ⟨pa, ca, hsa, hca⟩ := sl_part p (n := L.length) (c := c) 0 K (Nat.zero_le _) (by omega) hcap
    obtain ⟨pb, cb, hsb, hcb⟩ := sl_part p (n := L.length) (c := c) K L.length (by omega) (Nat.le_refl _) hcap
    have hpa := fun w => part_any (w := w) (leaf := leaf) hsa
    have hpb := fun w => part_any (w := w) (leaf := leaf) hsb
    have HA : Hid (∀ W, Below w.heap.size w W → CellsAt W (.slice pa (K - 0) ca) (L.take K) ∧ CellsAt W (.slice pb (L.length - K) cb) (L.drop K)) := fun W hW => by
      refine ⟨?_, ?_⟩
      · have := hca W L (hv.below hW)
        simpa using this
      · have := hcb W L (hv.below hW)
        rw [List.take_of_length_le (by rw [List.length_drop]; exact Nat.le_refl _)] at this
        exact this
    have HSm : Hid ((L.take K).length ≤ 1000000 ∧ (L.drop K).length ≤ 1000000) := by refine ⟨?_, ?_⟩ <;> simp <;> omega
    unfold nodeV at hpa hpb hft hhf ⊢
    clear hsa hsb hca hcb hb0 hR hB0 hc hf hK
    obtain ⟨n, hn⟩ : ∃ n, L.length = n := ⟨_, rfl⟩
    rw [hn] at hpa hpb hft hhf hW0 c1 hl h2 hk2 ⊢
    generalize (K - 0) = ka at hpa HA
    rw [hn] at HA
    generalize (n - K) = kb at hpb HA
    clear hn hcap hv
    have hni : (n : Int) ≤ 100000 := by omega
    have hn2 : ¬ (n : Int) < 2 := by omega
    go_enter Try.func29, Try.ntmps29
    go_wp2_with (first
      | (go_at_call 16; refine hft.mono ?_; rintro e W1 ⟨rfl, hB1⟩; replace c0 := keep_cell hB1 c0; replace c1 := keep_cell hB1 c1; replace hhf := hhf W1 hB1; have HB1 : Hid (Below W0.heap.size W0 W1) := hB1; clear hB1)
      | (go_at_call 47; refine hhf.mono ?_; rintro e W2 ⟨rfl, hB2⟩; replace c0 := keep_cell hB2 c0; replace c1 := keep_cell hB2 c1; have HB2 : Hid (Below w.heap.size w W2) := below_new HK.out.1 (below_new HB1.out hB2); clear hB2))
    refine wp_region_tree (fun W => Below W2.heap.size W2 W) [0, 1, 2, 3, 7, 8, 9, 10, 11, 12, 13] (.one 4 (.one 5 (.one 6 (.one 14 (.one 15 (.one 16 (.one 17 (.one 18 .nil)))))))) mixedP (by kernel_rfl) rfl (by kernel_rfl) (fun _ _ _ d _ h => by cases d <;> exact h) (Below.refl _ _).drew ?_
    refine tk_val (some 21) rfl rfl rfl (.pointer (some ⟨g, 0, none⟩)) (fun _ => by go_simp) ?_
    go_frame
    refine tk_ld (some 22) rfl rfl rfl _ _ rfl rfl (fun W hW => ldBool (keep_cell hW c0)) ?_
    go_frame
    refine tk_ld (some 23) rfl rfl rfl _ _ rfl rfl (fun W hW => ldNode (keep_cell hW c0) (keep_cell hW c1)) ?_
    go_frame
    refine tk_val (some 24) rfl rfl rfl (.int .i64 (K : Nat)) (fun _ => by go_simp) ?_
    go_frame
    refine tk_val (some 28) rfl rfl rfl (.pointer (some ⟨g, 0, none⟩)) (fun _ => by go_simp) ?_
    go_frame
    refine tk_ld (some 29) rfl rfl rfl _ _ rfl rfl (fun W hW => ldBool (keep_cell hW c0)) ?_
    go_frame
    refine tk_ld (some 30) rfl rfl rfl _ _ rfl rfl (fun W hW => ldNode (keep_cell hW c0) (keep_cell hW c1)) ?_
    go_frame
    refine tk_val (some 31) rfl rfl rfl (.int .i64 (K : Nat)) (fun _ => by go_simp) ?_
    go_frame
    refine tk_val (some 32) rfl rfl rfl (.pointer (some ⟨g, 1, none⟩)) (fun _ => by go_simp) ?_
    go_frame
    refine tk_ld (some 33) rfl rfl rfl _ _ rfl rfl (fun W hW => ldRow (keep_cell hW c1)) ?_
    go_frame
    refine tk_val (some 34) rfl rfl rfl (.int .i64 (n : Nat)) (fun _ => by go_simp) ?_
    go_frame
    refine tk_nil ?_
    unfold nodeV
    refine op_call (some 25) rfl rfl rfl (f := 45) (vs := #[.agg #[.bool leaf, .slice p n c], .int .i64 ((0 : Nat) : Int), .int .i64 (K : Int)]) (by go_simp) ?_
    refine (hpa _).mono ?_
    rintro e w3 ⟨rfl, hB3⟩
    have hC3 : Below W2.heap.size W2 w3 := below_drewL hB3
    refine ⟨_, rfl, hC3, ?_⟩
    go_frame
    obtain ⟨W4, g4, hW4, hg4, hB4, hh4⟩ := box_rows w3 [.slice pa ka ca]
    have hC4 := below_new hC3 hB4
    refine op_val (some 26) rfl rfl rfl (v := .slice (some ⟨g4, 0, none⟩) 1 1) (w' := W4) (by go_simp) ?_
    refine ⟨hC4, ?_⟩
    go_frame
    have hm4 := made_any (leaf := leaf) hh4 (ls := [L.take K]) rfl (one_rows (HA.out W4 (below_new HB2.out hC4)).1) (by have := HSm.out.1; simpa using this) (by simp)
    refine op_call (some 27) rfl rfl rfl (f := 44) (vs := #[.bool leaf, .slice (some ⟨g4, 0, none⟩) 1 1]) (by go_simp) ?_
    refine hm4.mono ?_
    rintro e w5 ⟨v5, rfl, hown5, hB5⟩
    have hC5 := below_new hC4 hB5
    rw [show ([L.take K] : List (List Cl)).flatten = L.take K by simp] at hown5
    obtain ⟨p5, m5, c5, rfl, hm5, hat5⟩ := shape2 hown5
    refine ⟨_, rfl, hC5, ?_⟩
    unfold nodeV
    go_frame
    refine op_call (some 35) rfl rfl rfl (f := 45) (vs := #[.agg #[.bool leaf, .slice p n c], .int .i64 (K : Int), .int .i64 (n : Int)]) (by go_simp) ?_
    refine (hpb _).mono ?_
    rintro e w6 ⟨rfl, hB6⟩
    have hC6 := below_new hC5 hB6
    refine ⟨_, rfl, hC6, ?_⟩
    go_frame
    obtain ⟨W7, g7, hW7, hg7, hB7, hh7⟩ := box_rows w6 [.slice pb kb cb]
    have hC7 := below_new hC6 hB7
    refine op_val (some 36) rfl rfl rfl (v := .slice (some ⟨g7, 0, none⟩) 1 1) (w' := W7) (by go_simp) ?_
    refine ⟨hC7, ?_⟩
    go_frame
    have hm7 := made_any (leaf := leaf) hh7 (ls := [L.drop K]) rfl (one_rows (HA.out W7 (below_new HB2.out hC7)).2) (by have := HSm.out.2; simpa using this) (by simp)
    refine op_call (some 37) rfl rfl rfl (f := 44) (vs := #[.bool leaf, .slice (some ⟨g7, 0, none⟩) 1 1]) (by go_simp) ?_
    refine hm7.mono ?_
    rintro e w8 ⟨v8, rfl, hown8, hB8⟩
    have hC8 := below_new hC7 hB8
    rw [show ([L.drop K] : List (List Cl)).flatten = L.drop K by simp] at hown8
    obtain ⟨p8, m8, c8, rfl, hm8, hat8⟩ := shape2 hown8
    refine ⟨_, rfl, hC8, ?_⟩
    unfold nodeV
    go_frame
    obtain ⟨W9, g9, hW9, hg9, hB9, hh9⟩ := box_nodes w8 #[.bool leaf, .slice p5 m5 c5, .bool leaf, .slice p8 m8 c8]
    have hC9 := below_new hC8 hB9
    have HF : Hid (NodesAt W9 (.slice (some ⟨g9, 0, none⟩) 2 2) leaf [L.take K, L.drop K] ∧ Below w.heap.size w W9) := by
      refine ⟨?_, below_new HB2.out hC9⟩
      subst hm5 hm8
      exact nodes_two hh9 (hat5.below (below_new hB6 (below_new hB7 (below_new hB8 hB9)))) (hat8.below hB9)
    clear hm5 hm8
    refine op_val (some 38) rfl rfl rfl (v := .slice (some ⟨g9, 0, none⟩) 2 2) (w' := W9) (by go_simp) ?_
    refine ⟨hC9, ?_⟩
    go_frame
    refine op_val (some 2) rfl rfl rfl (v := .slice (some ⟨g9, 0, none⟩) 2 2) (w' := W9) (by go_simp) ?_
    refine ⟨hC9, ?_⟩
    go_frame
    refine then_normalE ?_
    go_at_K
    go_wp2_with fail
    go_ret
    rw [HR.out]
    exact ⟨_, rfl, HF.out.1, HF.out.2⟩
end Go.Proofs.Ytdgfjaidnedaiaa
