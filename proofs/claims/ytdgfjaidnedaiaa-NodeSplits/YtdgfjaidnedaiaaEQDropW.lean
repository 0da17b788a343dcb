/-
  The document's Drop.
-/
import Derived.Test.YtdgfjaidnedaiaaEBackW
namespace Go.Proofs.Ytdgfjaidnedaiaa
open Go Go.RowKit Go.Lib

theorem drop_step_ne {L : List Cl} {i : Nat} {x : Cl} {d : Int} (hx : L[i]? = some x) (hne : (i : Int) ≠ d) : dropL (L.take (i + 1)) d = dropL (L.take i) d ++ [x] := by
  have hl := (List.getElem?_eq_some_iff.1 hx).1
  have h1 : (L.take (i + 1)).length = i + 1 := by rw [List.length_take]; omega
  have h2 : (L.take i).length = i := by rw [List.length_take]; omega
  have h3 : L.take (i + 1) = L.take i ++ [x] := by rw [List.take_add_one, hx]; rfl
  unfold dropL
  rw [h1, h2]
  by_cases hd : 0 ≤ d ∧ d < (i : Int)
  · rw [if_pos ⟨hd.1, by omega⟩, if_pos hd, h3, List.take_append_of_le_length (by omega), List.drop_append_of_le_length (by omega), List.append_assoc]
  · rw [if_neg (by omega), if_neg hd, h3]
theorem drop_step_eq {L : List Cl} {i : Nat} {x : Cl} {d : Int} (hx : L[i]? = some x) (he : (i : Int) = d) : dropL (L.take (i + 1)) d = dropL (L.take i) d := by
  have hl := (List.getElem?_eq_some_iff.1 hx).1
  have h1 : (L.take (i + 1)).length = i + 1 := by rw [List.length_take]; omega
  have h2 : (L.take i).length = i := by rw [List.length_take]; omega
  have h3 : L.take (i + 1) = L.take i ++ [x] := by rw [List.take_add_one, hx]; rfl
  unfold dropL
  rw [h1, h2, if_pos ⟨by omega, by omega⟩, if_neg (by omega)]
  have h4 : d.toNat = i := by omega
  rw [h4, h3, List.take_append_of_le_length (by omega), List.drop_of_length_le (by rw [List.length_append, List.length_singleton, h2]; omega), List.append_nil, List.take_of_length_le (by omega)]
theorem dropL_le (L : List Cl) (d : Int) : (dropL L d).length ≤ L.length := by
  unfold dropL
  split
  · rw [List.length_append, List.length_take, List.length_drop]; omega
  · exact Nat.le_refl _
set_option maxRecDepth 8000 in
set_option maxHeartbeats 4000000 in
theorem qdrop_any {w : World} {leaf : Bool} {v : Value} {L : List Cl} (hv : CellsAt w v L) (hl : L.length ≤ 100000) (d : Int) : Calls Try.prog 24 #[nodeV leaf v, .int .i64 d] w fun e w' => ∃ u, e = .returned (nodeV leaf u) ∧ OwnCells w' w.heap.size u (dropL L d) ∧ Below w.heap.size w w' := by
  obtain ⟨W0, g2, hW0, hg2, hB0, hb0, a0, a1⟩ := box_node w leaf v
  obtain ⟨W1, g4, hW1, hg4, hB1, hb1, _, _⟩ := box_node W0 false (.slice none 0 0)
  replace a0 := keep_cell hB1 a0
  replace a1 := keep_cell hB1 a1
  obtain ⟨p, c, rfl⟩ := hv.shape
  obtain ⟨n, hn⟩ : ∃ n, L.length = n := ⟨_, rfl⟩
  have HN : Hid (L.length = n) := hn
  have HV : Hid (CellsAt w (.slice p L.length c) L) := hv
  have HK1 : Hid ((w.heap.size = g2 ∧ w.heap.size ≤ g4 ∧ g2 < W1.heap.size ∧ g4 < W1.heap.size) ∧ Holds W1 g4 24 #[.bool false, .slice none 0 0] ∧ Below w.heap.size w W1) := ⟨⟨hg2, by have := hB0.size; omega, by have := hb0.lt; have := hB1.size; omega, hb1.lt⟩, hb1, below_new hB0 hB1⟩
  rw [hn] at HV hl a1 hW0 ⊢
  have hni : (n : Int) ≤ 100000 := by omega
  unfold nodeV
  clear hn hv hB0 hB1 hb0 hb1
  go_enter Try.func24, Try.ntmps24
  go_wp2_with fail
  obtain ⟨W2, g5, hW2, hg5, hB2, hb2, b0, b1⟩ := box_node W1 leaf (.slice none 0 0)
  rw [hW2, hg5]
  replace a0 := keep_cell hB2 a0
  replace a1 := keep_cell hB2 a1
  have HK : Hid ((w.heap.size = g2 ∧ w.heap.size ≤ g4 ∧ w.heap.size ≤ g5 ∧ g4 < W2.heap.size ∧ g5 < W2.heap.size ∧ g2 ≠ g5 ∧ g4 ≠ g5) ∧ Holds W2 g4 24 #[.bool false, .slice none 0 0] ∧ Below w.heap.size w W2 ∧ Holds W2 g5 24 #[.bool leaf, .slice none 0 0]) := by
    have q1 := HK1.out.1
    have q2 := hB2.size
    have q3 := hb2.lt
    have q4 := HK1.out.2.2.size
    exact ⟨by omega, below_holds hB2 HK1.out.2.1, below_new HK1.out.2.2 hB2, hb2⟩
  have h25 : g2 ≠ g5 := HK.out.1.2.2.2.2.2.1
  have h55 : g5 < W2.heap.size := HK.out.1.2.2.2.2.1
  clear hW2 hg5 hB2 hb2 b0 b1 HK1 hW1 hg4 hW0 hg2
  have a1W := a1
  have hatW := HV.out.below HK.out.2.2.1
  go_loopw [6] (fun y wr => ∃ (i : Nat) (u : Value), y = .int .i64 (i : Nat) ∧ i ≤ n ∧ Only g5 W2 wr ∧ Holds wr g5 24 #[.bool leaf, u] ∧ OwnCells wr W2.heap.size u (dropL (L.take i) d)) (fun y _ => n - (intOf y).toNat)
  case atStart => exact ⟨0, _, rfl, Nat.zero_le _, Only.refl _ _, HK.out.2.2.2, by rw [List.take_zero]; unfold dropL; rw [if_neg (by simp)]; exact OwnCells.nil _ _⟩
  case round =>
    obtain ⟨i, u, rfl, hi, hO, hH, hown⟩ := hrel
    obtain ⟨pu, mu, cu, rfl, hmu, hat⟩ := shape2 hown
    have HI : Hid (Only g5 W2 wr ∧ Holds wr g5 24 #[.bool leaf, .slice pu mu cu] ∧ OwnCells wr W2.heap.size (.slice pu mu cu) (dropL (L.take i) d)) := ⟨hO, hH, hown⟩
    replace a0 := only_cell hO a0 h25
    replace a1 := only_cell hO a1 h25
    have hatn := cells_only HV.out HK.out.2.2.1 hO HK.out.1.2.2.1
    clear hH hown hmu hat
    by_cases hin : i < n
    · have hii : (i : Int) < n := by omega
      obtain ⟨x, hx⟩ : ∃ x, L[i]? = some x := ⟨_, List.getElem?_eq_getElem (by have := HN.out; omega)⟩
      by_cases hid : (i : Int) = d
      · have hne : ((i : Int) != d) = false := by simpa using hid
        have HS : Hid (dropL (L.take (i + 1)) d = dropL (L.take i) d) := drop_step_eq hx hid
        clear hid
        go_wp2_with fail
        exact ⟨⟨i + 1, _, by go_num, by omega, HI.out.1, HI.out.2.1, by rw [HS.out]; exact HI.out.2.2⟩, by simp [intOf]; omega⟩
      · have hne : ((i : Int) != d) = true := by simpa using hid
        have HS : Hid (dropL (L.take (i + 1)) d = dropL (L.take i) d ++ [x]) := drop_step_ne hx hid
        obtain ⟨b, o, rfl, hnn, hd⟩ := hatW.at hx
        have HBN : Hid (b ≠ g5) := by
          obtain ⟨b', o', e, _, h3⟩ := HV.out.at hx
          injection e with e
          injection e with e1 _
          have h4 := World.block_lt_of_cell? _ _ h3.1
          have h5 := HK.out.1.2.2.1
          simp only at h4
          show b ≠ g5
          omega
        have HLn : Hid ((dropL (L.take i) d).length + 1 ≤ 1000000000) := by
          have := dropL_le (L.take i) d
          rw [List.length_take] at this
          show _ ≤ _
          omega
        clear hid hnn hx
        go_wp2_with fail
        refine wp_region_tree (fun W => Only g5 W2 W) [0, 2, 3, 4, 5, 6] (.two 1 (.one 7 (.one 8 (.one 9 (.one 10 .nil)))) 7 (.one 1 (.one 8 (.one 9 (.one 10 .nil))))) mixedP (by kernel_rfl) rfl (by kernel_rfl) (fun _ _ _ d _ h => by cases d <;> exact h) HI.out.1.drew ?_
        refine tk_val (some 20) rfl rfl rfl (.pointer (some ⟨g5, 1, none⟩)) (fun _ => by go_simp) ?_
        go_frame
        refine tk_val (some 22) rfl rfl rfl (.pointer (some ⟨g2, 1, none⟩)) (fun _ => by go_simp) ?_
        go_frame
        refine tk_ld (some 23) rfl rfl rfl _ _ rfl rfl (fun W hW => ldRow (only_cell hW a1W h25)) ?_
        go_frame
        refine tk_val (some 24) rfl rfl rfl (.int .i64 (i : Nat)) (fun _ => by go_simp) ?_
        go_frame
        refine tk_val (some 25) rfl rfl rfl (.pointer (some ⟨b, o + i * 4, none⟩)) (fun _ => by go_simp) ?_
        go_frame
        refine tk_ld (some 26) rfl rfl rfl _ _ rfl rfl (fun W hW => ldCell (only_cellAt hW hd HBN.out)) ?_
        go_frame
        refine tk_nil ?_
        have c1 : wr.drew.cell? ⟨g5, 1, none⟩ = some (.slice pu mu cu) := HI.out.2.1.drew.cell 1
        obtain ⟨Y1, gy, hY1, hgy, hB1, hx1⟩ := box_cell wr.drew x
        have hO1 : Only g5 wr Y1 := (Only.refl g5 wr).drew.below hB1
        have c1' : Y1.cell? ⟨g5, 1, none⟩ = some (.slice pu mu cu) := keep_cell hB1 c1
        have hown1 : OwnCells Y1 W2.heap.size (.slice pu mu cu) (dropL (L.take i) d) := OwnCells.below0 (w := wr.drew) HI.out.2.2 hB1
        have hH1 := below_holds hB1 HI.out.2.1.drew
        have hO21 : Only g5 W2 Y1 := HI.out.1.trans hO1
        refine ⟨?_, ?_⟩
        · refine op_val (some 21) rfl rfl rfl (v := .slice pu mu cu) (w' := wr.drew) (by go_simp) ?_
          refine ⟨HI.out.1.drew, ?_⟩
          go_frame
          refine op_val (some 27) rfl rfl rfl (v := .slice (some ⟨gy, 0, none⟩) 1 1) (w' := Y1) (by unfold cla; go_simp <;> first | exact ⟨hgy, hY1⟩ | exact hY1) ?_
          refine ⟨hO21, ?_⟩
          go_frame
          refine op_append (some 28) rfl rfl rfl _ _ rfl rfl rfl hown1 (one_cl hx1) HLn.out hO21.size ?_
          intro v8 w8 hown8 hg8
          obtain ⟨hO8, hh8⟩ := grow_only hO21 hown1 hg8 hH1 h55
          refine ⟨hO8, ?_⟩
          go_frame
          refine op_val (some 29) rfl rfl rfl (v := .pointer (some ⟨g5, 1, none⟩)) (w' := w8) (by go_simp) ?_
          refine ⟨hO8, ?_⟩
          go_frame
          rw [← HS.out] at hown8
          obtain ⟨p8, m8, c8, rfl, hm8, hat8⟩ := shape2 hown8
          have s1 : w8.cell? ⟨g5, 1, none⟩ = some (.slice pu mu cu) := hh8.cell 1
          have s2 := hh8.frozen 1
          refine op_skip none rfl rfl rfl (w' := w8.setCell ⟨g5, 1, none⟩ (.slice p8 m8 c8)) (by go_simp) ?_
          have HF : Hid (Only g5 W2 (w8.setCell ⟨g5, 1, none⟩ (.slice p8 m8 c8)) ∧ Holds (w8.setCell ⟨g5, 1, none⟩ (.slice p8 m8 c8)) g5 24 #[.bool leaf, .slice p8 m8 c8] ∧ OwnCells (w8.setCell ⟨g5, 1, none⟩ (.slice p8 m8 c8)) W2.heap.size (.slice p8 m8 c8) (dropL (L.take (i + 1)) d)) := ⟨hO8.set 1 _, hh8.set 1 _, own_only hown8 ((Only.refl g5 w8).set 1 _) h55⟩
          refine ⟨HF.out.1, ?_⟩
          go_frame
          obtain ⟨Y9, hY9⟩ : ∃ Y9, w8.setCell ⟨g5, 1, none⟩ (.slice p8 m8 c8) = Y9 := ⟨_, rfl⟩
          rw [hY9] at HF ⊢
          clear hY9 s1 s2 hown8 hg8 hO8 hh8 hm8 hat8
          show Exit.inBlock 1 _ Exit.normal _ _
          simp only [Exit.inBlock, Exit.then]
          go_at_K
          go_wp2_with fail
          exact ⟨⟨i + 1, _, by go_num, by omega, HF.out⟩, by simp [intOf]; omega⟩
        · refine op_val (some 27) rfl rfl rfl (v := .slice (some ⟨gy, 0, none⟩) 1 1) (w' := Y1) (by unfold cla; go_simp <;> first | exact ⟨hgy, hY1⟩ | exact hY1) ?_
          refine ⟨hO21, ?_⟩
          go_frame
          refine op_val (some 21) rfl rfl rfl (v := .slice pu mu cu) (w' := Y1) (by go_simp) ?_
          refine ⟨hO21, ?_⟩
          go_frame
          refine op_append (some 28) rfl rfl rfl _ _ rfl rfl rfl hown1 (one_cl hx1) HLn.out hO21.size ?_
          intro v8 w8 hown8 hg8
          obtain ⟨hO8, hh8⟩ := grow_only hO21 hown1 hg8 hH1 h55
          refine ⟨hO8, ?_⟩
          go_frame
          refine op_val (some 29) rfl rfl rfl (v := .pointer (some ⟨g5, 1, none⟩)) (w' := w8) (by go_simp) ?_
          refine ⟨hO8, ?_⟩
          go_frame
          rw [← HS.out] at hown8
          obtain ⟨p8, m8, c8, rfl, hm8, hat8⟩ := shape2 hown8
          have s1 : w8.cell? ⟨g5, 1, none⟩ = some (.slice pu mu cu) := hh8.cell 1
          have s2 := hh8.frozen 1
          refine op_skip none rfl rfl rfl (w' := w8.setCell ⟨g5, 1, none⟩ (.slice p8 m8 c8)) (by go_simp) ?_
          have HF : Hid (Only g5 W2 (w8.setCell ⟨g5, 1, none⟩ (.slice p8 m8 c8)) ∧ Holds (w8.setCell ⟨g5, 1, none⟩ (.slice p8 m8 c8)) g5 24 #[.bool leaf, .slice p8 m8 c8] ∧ OwnCells (w8.setCell ⟨g5, 1, none⟩ (.slice p8 m8 c8)) W2.heap.size (.slice p8 m8 c8) (dropL (L.take (i + 1)) d)) := ⟨hO8.set 1 _, hh8.set 1 _, own_only hown8 ((Only.refl g5 w8).set 1 _) h55⟩
          refine ⟨HF.out.1, ?_⟩
          go_frame
          obtain ⟨Y9, hY9⟩ : ∃ Y9, w8.setCell ⟨g5, 1, none⟩ (.slice p8 m8 c8) = Y9 := ⟨_, rfl⟩
          rw [hY9] at HF ⊢
          clear hY9 s1 s2 hown8 hg8 hO8 hh8 hm8 hat8
          show Exit.inBlock 1 _ Exit.normal _ _
          simp only [Exit.inBlock, Exit.then]
          go_at_K
          go_wp2_with fail
          exact ⟨⟨i + 1, _, by go_num, by omega, HF.out⟩, by simp [intOf]; omega⟩
    · have hii : ¬ (i : Int) < n := by omega
      have HR : Hid (dropL L d = dropL (L.take i) d) := by show _ = _; rw [List.take_of_length_le (by have := HN.out; omega)]
      have hb9 : Holds wr g4 24 #[.bool false, .slice none 0 0] := HI.out.1.holds HK.out.2.1 HK.out.1.2.2.2.2.2.2
      have c0 : wr.cell? ⟨g5, 0, none⟩ = some (.bool leaf) := HI.out.2.1.cell 0
      have c1 : wr.cell? ⟨g5, 1, none⟩ = some (.slice pu mu cu) := HI.out.2.1.cell 1
      go_wp2_with ((with_reducible show wpList _ _ _ (Oper.mk _ (Op.store _ _ _) _ _ _ _ :: _) _ _); go_must (refine wpList_storeH rfl 24 _ _ rfl g4 #[.bool leaf, .slice pu mu cu] rfl rfl 24 #[.bool false, .slice none 0 0] hb9 infoNode2 rfl (by simp [Value.oneCell']) ?_; intro w10 hH10 hO10 hs10))
      refine bodyPost_ret (results_cellH (p := 4) rfl _ w10 g4 24 _ _ rfl hH10 Try.underlying24 rfl infoNode2) rfl ?_
      rw [HR.out]
      exact ⟨_, rfl, (own_only HI.out.2.2 hO10 HK.out.1.2.2.2.1).mono HK.out.2.2.1.size, Only.fresh (Only.fresh HK.out.2.2.1 HI.out.1 HK.out.1.2.2.1) hO10 HK.out.1.2.1⟩
end Go.Proofs.Ytdgfjaidnedaiaa
