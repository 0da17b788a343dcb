/-
  NodeBack's walk.
-/
import Derived.Test.YtdgfjaidnedaiaaEArgs
namespace Go.Proofs.Ytdgfjaidnedaiaa
open Go Go.RowKit Go.Lib

def HaltE (p : Prop) : Prop := p
theorem HaltE.out {p : Prop} (h : HaltE p) : p := h
theorem putL_nil (c : Cl) : putL [] c = [c] := by
  unfold putL
  have h1 : fndN [] c.k = 0 := rfl
  have h2 : isAt [] c.k = false := rfl
  rw [h1, h2]
  rfl
theorem madeL_one (leaf : Bool) (c : Cl) : madeL leaf [c] = if mayB leaf c = true then [c] else [] := by
  show madeStep leaf [] c = _
  unfold madeStep
  rw [putL_nil]
theorem box_ask (w : World) (key : ByteArray) (c : Cl) (at0 : Int) : ∃ W g, w.alloc (.cells #[.string key, .string c.k, .string c.v, .int .i64 c.p, .int .i64 c.s, .int .i64 at0] 39) = W ∧ w.heap.size = g ∧ Below w.heap.size w W ∧ CellAt W g 1 c ∧ W.cell? ⟨g, 0, none⟩ = some (.string key) ∧ W.cell? ⟨g, 5, none⟩ = some (.int .i64 at0) := by
  have h := Holds.new w 39 #[.string key, .string c.k, .string c.v, .int .i64 c.p, .int .i64 c.s, .int .i64 at0]
  exact ⟨_, _, rfl, rfl, below_new1 _ _, ⟨h.cell 1, h.cell 2, h.cell 3, h.cell 4⟩, h.cell 0, h.cell 5⟩
theorem cells_only {W3 W4 W6 : World} {v : Value} {L : List Cl} {g : Nat} (h : CellsAt W3 v L) (hB : Below W3.heap.size W3 W4) (hO : Only g W4 W6) (hg : W3.heap.size ≤ g) : CellsAt W6 v L := by
  rcases h with q | ⟨b, o, c, q1, q2, q3⟩
  · exact .inl q
  · refine .inr ⟨b, o, c, q1, q2, fun i y hy => only_cellAt hO ((q3 i y hy).below hB) ?_⟩
    have := World.block_lt_of_cell? _ _ (q3 i y hy).1
    simp only at this
    omega
set_option maxRecDepth 8000 in
set_option maxHeartbeats 4000000 in
theorem back_walk {w : World} {leaf : Bool} {v : Value} {l : List Cl} (hv : CellsAt w v l) (key : ByteArray) (cx : Cl) (at0 : Int) : Calls Try.prog 6 #[.bool leaf, v, askV key cx at0] w fun e w' => e = .returned (.bool true) ∧ Below w.heap.size w w' := by
  have hnot := run_notE
  obtain ⟨W0, g5, hW0, hg5, hB0, hq0, _, hat0⟩ := box_ask w key cx at0
  have haw := awake_any W0
  have hmd := fun W (hW : Below w.heap.size w W) => made9_any (leaf := leaf) (hv.below hW)
  obtain ⟨p0, c0, rfl⟩ := hv.shape
  generalize l.length = n0 at *
  obtain ⟨hok, hlen⟩ := madeL_ok leaf l
  obtain ⟨L, hL⟩ : ∃ L, madeL leaf l = L := ⟨_, rfl⟩
  rw [hL] at hmd hok hlen
  have HG : Hid (w.heap.size = g5) := hg5
  clear hL hv
  unfold askV
  go_enter Try.func6, Try.ntmps6
  go_wp2_with fail
  refine haw.mono ?_
  rintro e W1 ⟨rfl, hB1⟩
  have hBw1 := below_new hB0 hB1
  replace hq0 := hq0.below hB1
  replace hat0 := keep_cell hB1 hat0
  replace hmd := hmd W1 hBw1
  clear haw hB0 hB1
  go_wp2_with fail
  refine hmd.mono ?_
  rintro e W2 ⟨v2, rfl, hown2, hB2⟩
  obtain ⟨p, n, c, rfl, hn, hat2⟩ := shape2 hown2
  obtain ⟨W3, g8, hW3, hg8, hB3, hh3, a0, a1⟩ := box_node W2 leaf (.slice p n c)
  have hat3 := hat2.below hB3
  have HN : Hid (L.length = n) := hn.symm
  have hB13 := below_new hB2 hB3
  replace hq0 := hq0.below hB13
  replace hat0 := keep_cell hB13 hat0
  have hBw3 := below_new hBw1 hB13
  have hni : (n : Int) ≤ 60 := by omega
  unfold nodeV
  clear hmd hown2 hB2 hB3 hh3 hat2 hn hB13
  go_wp2_with ((with_reducible show wpList _ _ _ (Oper.mk (some 23) _ _ _ _ _ :: _) _ _); refine HaltE.out ?_)
  have hg8l := World.block_lt_of_cell? _ _ a0
  have hg5l := World.block_lt_of_cell? _ _ hat0
  obtain ⟨W4, g9, hW4, hg9, hB4, hh4, b0, b1⟩ := box_node W3 leaf (.slice none 0 0)
  rw [hW4, hg9]
  unfold HaltE
  replace a0 := keep_cell hB4 a0
  replace a1 := keep_cell hB4 a1
  replace hq0 := hq0.below hB4
  replace hat0 := keep_cell hB4 hat0
  have hat4 := hat3.below hB4
  have hg89 : g8 ≠ g9 := by simp only at hg8l; omega
  have hg59 : g5 ≠ g9 := by simp only at hg5l; omega
  have hszg : g9 < W4.heap.size := hh4.lt
  have HK4 : Hid (Below w.heap.size w W4 ∧ w.heap.size ≤ g9 ∧ W3.heap.size ≤ g9 ∧ Below W3.heap.size W3 W4 ∧ CellsAt W3 (.slice p n c) L) := ⟨below_new hBw3 hB4, by have := hBw3.size; omega, by omega, hB4, hat3⟩
  clear hBw3 hBw1 hB4 hat3 hW4 hg9 hg8l hg5l hg8 hW3
  go_wp2_with (at_builtin; refine wpList_append_cl rfl _ _ rfl rfl rfl (OwnCells.nil W4 W4.heap.size) hat4 (by have := HN.out; simp only [List.length_nil]; omega) (Nat.le_refl _) ?_; intro v5 w5 hown5 hg5'; obtain ⟨hO5, hh5⟩ := grow_only (Only.refl g9 W4) (OwnCells.nil W4 W4.heap.size) hg5' hh4 hszg; rw [List.nil_append] at hown5; obtain ⟨p5, m5, c5, rfl, hm5, hat5⟩ := shape2 hown5; have s1 : w5.cell? ⟨g9, 1, none⟩ = some (.slice none 0 0) := (hh5.cell 1); have s2 := hh5.frozen 1; have hO6 := hO5.set 1 (.slice p5 m5 c5); have hh6 := hh5.set 1 (.slice p5 m5 c5); have hat6 := (own_only hown5 ((Only.refl g9 w5).set 1 (.slice p5 m5 c5)) hszg).at; obtain ⟨W6, hW6⟩ : ∃ W6, w5.setCell ⟨g9, 1, none⟩ (.slice p5 m5 c5) = W6 := ⟨_, rfl⟩; rw [hW6] at hO6 hh6 hat6; replace a0 := only_cell hO6 a0 hg89; replace a1 := only_cell hO6 a1 hg89; replace hq0 := only_cellAt hO6 hq0 hg59; replace hat0 := only_cell hO6 hat0 hg59; have hatn := (cells_only HK4.out.2.2.2.2 HK4.out.2.2.2.1 hO6 HK4.out.2.2.1); have HB6 : Hid (Below w.heap.size w W6) := (Only.fresh HK4.out.1 hO6 HK4.out.2.1); have d0 : W6.cell? ⟨g9, 0, none⟩ = some (.bool leaf) := (hh6.cell 0); have d1 : W6.cell? ⟨g9, 1, none⟩ = some (.slice p5 m5 c5) := (hh6.cell 1); obtain ⟨x1, x2, x3, x4⟩ := hq0; obtain ⟨Wb, gb, hWb, hgb, hBb, hxb⟩ := box_cell W6 cx; have hmx := made9_any (leaf := leaf) (one_cl hxb); rw [madeL_one] at hmx; replace a0 := keep_cell hBb a0; replace a1 := keep_cell hBb a1; replace d0 := keep_cell hBb d0; replace d1 := keep_cell hBb d1; replace hat0 := keep_cell hBb hat0; replace hatn := hatn.below hBb; replace hat6 := hat6.below hBb; have HBb : Hid (Below w.heap.size w Wb) := (below_new HB6.out hBb); clear hown5 hg5' hO5 hh5 hm5 hat5 hO6 hh6 hBb hxb HB6 hat4 hh4)
  refine hmx.mono ?_
  rintro e V1 ⟨v1, rfl, hownx, hV1⟩
  obtain ⟨px, mx, cx1, rfl, hmx1, hatx⟩ := shape2 hownx
  obtain ⟨V2, g10, hV2, hg10, hBV2, hhV2, e0, e1⟩ := box_node V1 leaf (.slice px mx cx1)
  have hB02 := below_new hV1 hBV2
  replace a0 := keep_cell hB02 a0
  replace a1 := keep_cell hB02 a1
  replace d0 := keep_cell hB02 d0
  replace d1 := keep_cell hB02 d1
  replace hat0 := keep_cell hB02 hat0
  replace hatn := hatn.below hB02
  replace hat6 := hat6.below hB02
  have hatc := hatx.below hBV2
  have HBV2 : Hid (Below w.heap.size w V2) := below_new HBb.out hB02
  unfold nodeV
  clear hmx hownx hV1 hBV2 hhV2 hB02 hatx
  have hshL : Short 10000 L := hok.short.mono (by omega)
  by_cases hmay : mayB leaf cx = true
  · rw [if_pos hmay] at hatc hmx1
    have hmx2 : mx = 1 := hmx1
    subst hmx2
    clear hmay hmx1
    go_wp2_with fail
    obtain ⟨bx, ox, rfl, h1x, hdx⟩ := hatc.at (i := 0) (x := cx) rfl
    clear h1x
    refine wp_region_tree (fun W => Below V2.heap.size V2 W) [0, 1, 2, 3, 4] (.one 5 .nil) mixedP (by kernel_rfl) rfl (by kernel_rfl) (fun _ _ _ d _ h => by cases d <;> exact h) (Below.refl _ _).drew ?_
    refine tk_ld (some 38) rfl rfl rfl _ _ rfl rfl (fun W hW => ldNode (keep_cell hW a0) (keep_cell hW a1)) ?_
    go_frame
    refine tk_val (some 39) rfl rfl rfl (.pointer (some ⟨g10, 1, none⟩)) (fun _ => by go_simp) ?_
    go_frame
    refine tk_ld (some 40) rfl rfl rfl _ _ rfl rfl (fun W hW => ldRow (keep_cell hW e1)) ?_
    go_frame
    refine tk_val (some 41) rfl rfl rfl (.pointer (some ⟨bx, ox, none⟩)) (fun _ => by go_simp) ?_
    go_frame
    refine tk_ld (some 42) rfl rfl rfl _ _ rfl rfl (fun W hW => ldCell (hdx.below hW)) ?_
    go_frame
    refine tk_nil ?_
    have hpt := put_any (w := V2.drew) (leaf := leaf) (v := .slice p n c) (L := L) hatn hok.2 (by have := HN.out; omega) cx
    refine op_call (some 43) rfl rfl rfl (f := 27) (vs := #[nodeV leaf (.slice p n c), cla cx]) (by go_simp) ?_
    refine hpt.mono ?_
    rintro e V3 ⟨u3, rfl, _, hV3⟩
    have hV3' : Below V2.heap.size V2 V3 := below_drewL hV3
    refine ⟨_, rfl, hV3', ?_⟩
    unfold nodeV
    go_frame
    replace a0 := keep_cell hV3' a0
    replace a1 := keep_cell hV3' a1
    replace d0 := keep_cell hV3' d0
    replace d1 := keep_cell hV3' d1
    replace e0 := keep_cell hV3' e0
    replace e1 := keep_cell hV3' e1
    replace hat0 := keep_cell hV3' hat0
    replace hatn := hatn.below hV3'
    replace hat6 := hat6.below hV3'
    replace hatc := hatc.below hV3'
    have HBW : Hid (Below w.heap.size w V3) := below_new HBV2.out hV3'
    clear hpt hV3 hV3' hdx
    refine then_normalE ?_
    go_at_K
    have hdr := drop_any (leaf := leaf) hatn (by have := HN.out; omega) at0
    unfold nodeV at hdr
    go_wp2_with fail
    refine hdr.mono ?_
    rintro e V4 ⟨u4, rfl, _, hV4⟩
    replace a0 := keep_cell hV4 a0
    replace a1 := keep_cell hV4 a1
    replace d0 := keep_cell hV4 d0
    replace d1 := keep_cell hV4 d1
    replace e0 := keep_cell hV4 e0
    replace e1 := keep_cell hV4 e1
    replace hat0 := keep_cell hV4 hat0
    replace hatn := hatn.below hV4
    replace hat6 := hat6.below hV4
    replace hatc := hatc.below hV4
    have HB4 : Hid (Below w.heap.size w V4) := below_new HBW.out hV4
    have hsp := split_any (leaf := leaf) hatn (by have := HN.out; omega) hshL
    unfold nodeV at hsp
    clear hdr hV4
    go_wp2_with fail
    refine hsp.mono ?_
    rintro e V5 ⟨u5, rfl, _, hV5⟩
    replace a0 := keep_cell hV5 a0
    replace a1 := keep_cell hV5 a1
    replace d0 := keep_cell hV5 d0
    replace d1 := keep_cell hV5 d1
    replace e0 := keep_cell hV5 e0
    replace e1 := keep_cell hV5 e1
    replace hat0 := keep_cell hV5 hat0
    replace hatn := hatn.below hV5
    replace hat6 := hat6.below hV5
    replace hatc := hatc.below hV5
    have HB5 : Hid (Below w.heap.size w V5) := below_new HB4.out hV5
    have hjn := join_any (la := leaf) (lb := leaf) hatn hatc (by have := HN.out; omega) (by simp)
    unfold nodeV at hjn
    clear hsp hV5
    go_wp2_with fail
    refine hjn.mono ?_
    rintro e V6 ⟨u6, rfl, _, hV6⟩
    replace a0 := keep_cell hV6 a0
    replace a1 := keep_cell hV6 a1
    replace d0 := keep_cell hV6 d0
    replace d1 := keep_cell hV6 d1
    replace e0 := keep_cell hV6 e0
    replace e1 := keep_cell hV6 e1
    replace hat0 := keep_cell hV6 hat0
    replace hatn := hatn.below hV6
    replace hat6 := hat6.below hV6
    replace hatc := hatc.below hV6
    have HB6 : Hid (Below w.heap.size w V6) := below_new HB5.out hV6
    have hsm := qsame_eq (leaf := leaf) hatn hat6 (by have := HN.out; omega)
    unfold nodeV at hsm
    clear hjn hV6
    go_wp2_with fail
    refine hsm.mono ?_
    rintro e V7 ⟨rfl, hV7⟩
    replace a0 := keep_cell hV7 a0
    replace a1 := keep_cell hV7 a1
    replace d0 := keep_cell hV7 d0
    replace d1 := keep_cell hV7 d1
    replace e0 := keep_cell hV7 e0
    replace e1 := keep_cell hV7 e1
    replace hat0 := keep_cell hV7 hat0
    replace hatn := hatn.below hV7
    replace hat6 := hat6.below hV7
    replace hatc := hatc.below hV7
    have HB7 : Hid (Below w.heap.size w V7) := below_new HB6.out hV7
    have hby := bytes_any (leaf := leaf) hatn (by have := HN.out; omega) hshL
    unfold nodeV at hby
    clear hsm hV7
    by_cases hsz : sizeL leaf L ≤ 1013
    · have hbv : bytV leaf L = .tuple #[.string (txt (bytesL leaf L)), .int .i64 0] := by unfold bytV; rw [if_pos hok, if_pos hsz]; rfl
      rw [hbv] at hby
      have hIs : IsOf leaf (bytesL leaf L) L := ⟨hok, hsz, rfl⟩
      have hln : (bytesL leaf L).length = sizeL leaf L := bytesL_len leaf L
      obtain ⟨B, hB⟩ : ∃ B, bytesL leaf L = B := ⟨_, rfl⟩
      rw [hB] at hby hIs hln
      have htz : (txt B).size = sizeL leaf L := by rw [txt_size]; exact hln
      have hBl : B.length ≤ 2000 := by omega
      clear hbv hB
      go_wp2_with fail
      refine hby.mono ?_
      rintro e V8 ⟨rfl, hV8⟩
      replace a0 := keep_cell hV8 a0
      replace a1 := keep_cell hV8 a1
      replace d0 := keep_cell hV8 d0
      replace d1 := keep_cell hV8 d1
      replace e0 := keep_cell hV8 e0
      replace e1 := keep_cell hV8 e1
      replace hat0 := keep_cell hV8 hat0
      replace hatn := hatn.below hV8
      replace hat6 := hat6.below hV8
      replace hatc := hatc.below hV8
      have HB8 : Hid (Below w.heap.size w V8) := below_new HB7.out hV8
      have hrd := read_any leaf B hBl V8
      clear hby hV8
      go_wp2_with fail
      refine hrd.mono ?_
      rintro e V9 ⟨hA, hV9⟩
      rcases hA with ⟨K, v9, hIs', rfl, hown9⟩ | ⟨hno, _⟩
      · have hKL := hIs'.uniq hIs
        subst hKL
        obtain ⟨p9, m9, c9, rfl, hm9, hat9⟩ := shape2 hown9
        clear hm9
        obtain ⟨Va, ga, hVa, hga, hBa, hha, f0, f1⟩ := box_node V9 leaf (.slice p9 m9 c9)
        have hB9a := below_new hV9 hBa
        replace a0 := keep_cell hB9a a0
        replace a1 := keep_cell hB9a a1
        replace hatn := hatn.below hB9a
        replace hat9 := hat9.below hBa
        have HBa : Hid (Below w.heap.size w Va) := below_new HB8.out hB9a
        have hs2 := qsame_eq (leaf := leaf) hatn hat9 (by have := HN.out; omega)
        unfold nodeV at hs2 ⊢
        clear hrd hV9 hown9 hBa hha hB9a hIs' hIs
        go_wp2_with fail
        refine hs2.mono ?_
        rintro e Vb ⟨rfl, hVb⟩
        replace a0 := keep_cell hVb a0
        replace a1 := keep_cell hVb a1
        replace hatn := hatn.below hVb
        have HBb2 : Hid (Below w.heap.size w Vb) := below_new HBa.out hVb
        have hsi := size_any (leaf := leaf) hatn (by have := HN.out; omega) hshL
        unfold nodeV at hsi
        clear hs2 hVb
        generalize sizeL leaf K = z at *
        go_wp2_with fail
        refine hsi.mono ?_
        rintro e Vc ⟨rfl, hVc⟩
        go_wp2_with fail
        go_ret
        exact ⟨by simp, by first | exact below_new HBb2.out hVc | (rw [← HG.out]; exact below_new HBb2.out hVc)⟩
      · exact absurd ⟨_, hIs⟩ hno
    · have hbv : bytV leaf L = .tuple #[.string ⟨#[]⟩, .int .i64 11] := by unfold bytV; rw [if_pos hok, if_neg hsz]
      rw [hbv] at hby
      clear hbv
      go_wp2_with fail
      refine hby.mono ?_
      rintro e V8 ⟨rfl, hV8⟩
      replace a0 := keep_cell hV8 a0
      replace a1 := keep_cell hV8 a1
      replace d0 := keep_cell hV8 d0
      replace d1 := keep_cell hV8 d1
      replace e0 := keep_cell hV8 e0
      replace e1 := keep_cell hV8 e1
      replace hat0 := keep_cell hV8 hat0
      replace hatn := hatn.below hV8
      replace hat6 := hat6.below hV8
      replace hatc := hatc.below hV8
      have HB8 : Hid (Below w.heap.size w V8) := below_new HB7.out hV8
      have hft := fits_any (leaf := leaf) hatn (by have := HN.out; omega) hshL
      rw [decide_eq_false hsz] at hft
      unfold nodeV at hft
      clear hby hV8
      go_wp2_with fail
      refine hft.mono ?_
      rintro e V9 ⟨rfl, hV9⟩
      go_wp2_with fail
      go_ret
      exact ⟨rfl, by first | exact below_new HB8.out hV9 | (rw [← HG.out]; exact below_new HB8.out hV9)⟩
  · rw [if_neg hmay] at hatc hmx1
    have hmx2 : mx = 0 := hmx1
    subst hmx2
    clear hmay hmx1
    have HBW : Hid (Below w.heap.size w V2) := HBV2.out
    have hdr := drop_any (leaf := leaf) hatn (by have := HN.out; omega) at0
    unfold nodeV at hdr
    go_wp2_with fail
    refine hdr.mono ?_
    rintro e V4 ⟨u4, rfl, _, hV4⟩
    replace a0 := keep_cell hV4 a0
    replace a1 := keep_cell hV4 a1
    replace d0 := keep_cell hV4 d0
    replace d1 := keep_cell hV4 d1
    replace e0 := keep_cell hV4 e0
    replace e1 := keep_cell hV4 e1
    replace hat0 := keep_cell hV4 hat0
    replace hatn := hatn.below hV4
    replace hat6 := hat6.below hV4
    replace hatc := hatc.below hV4
    have HB4 : Hid (Below w.heap.size w V4) := below_new HBW.out hV4
    have hsp := split_any (leaf := leaf) hatn (by have := HN.out; omega) hshL
    unfold nodeV at hsp
    clear hdr hV4
    go_wp2_with fail
    refine hsp.mono ?_
    rintro e V5 ⟨u5, rfl, _, hV5⟩
    replace a0 := keep_cell hV5 a0
    replace a1 := keep_cell hV5 a1
    replace d0 := keep_cell hV5 d0
    replace d1 := keep_cell hV5 d1
    replace e0 := keep_cell hV5 e0
    replace e1 := keep_cell hV5 e1
    replace hat0 := keep_cell hV5 hat0
    replace hatn := hatn.below hV5
    replace hat6 := hat6.below hV5
    replace hatc := hatc.below hV5
    have HB5 : Hid (Below w.heap.size w V5) := below_new HB4.out hV5
    have hjn := join_any (la := leaf) (lb := leaf) hatn hatc (by have := HN.out; omega) (by simp)
    unfold nodeV at hjn
    clear hsp hV5
    go_wp2_with fail
    refine hjn.mono ?_
    rintro e V6 ⟨u6, rfl, _, hV6⟩
    replace a0 := keep_cell hV6 a0
    replace a1 := keep_cell hV6 a1
    replace d0 := keep_cell hV6 d0
    replace d1 := keep_cell hV6 d1
    replace e0 := keep_cell hV6 e0
    replace e1 := keep_cell hV6 e1
    replace hat0 := keep_cell hV6 hat0
    replace hatn := hatn.below hV6
    replace hat6 := hat6.below hV6
    replace hatc := hatc.below hV6
    have HB6 : Hid (Below w.heap.size w V6) := below_new HB5.out hV6
    have hsm := qsame_eq (leaf := leaf) hatn hat6 (by have := HN.out; omega)
    unfold nodeV at hsm
    clear hjn hV6
    go_wp2_with fail
    refine hsm.mono ?_
    rintro e V7 ⟨rfl, hV7⟩
    replace a0 := keep_cell hV7 a0
    replace a1 := keep_cell hV7 a1
    replace d0 := keep_cell hV7 d0
    replace d1 := keep_cell hV7 d1
    replace e0 := keep_cell hV7 e0
    replace e1 := keep_cell hV7 e1
    replace hat0 := keep_cell hV7 hat0
    replace hatn := hatn.below hV7
    replace hat6 := hat6.below hV7
    replace hatc := hatc.below hV7
    have HB7 : Hid (Below w.heap.size w V7) := below_new HB6.out hV7
    have hby := bytes_any (leaf := leaf) hatn (by have := HN.out; omega) hshL
    unfold nodeV at hby
    clear hsm hV7
    by_cases hsz : sizeL leaf L ≤ 1013
    · have hbv : bytV leaf L = .tuple #[.string (txt (bytesL leaf L)), .int .i64 0] := by unfold bytV; rw [if_pos hok, if_pos hsz]; rfl
      rw [hbv] at hby
      have hIs : IsOf leaf (bytesL leaf L) L := ⟨hok, hsz, rfl⟩
      have hln : (bytesL leaf L).length = sizeL leaf L := bytesL_len leaf L
      obtain ⟨B, hB⟩ : ∃ B, bytesL leaf L = B := ⟨_, rfl⟩
      rw [hB] at hby hIs hln
      have htz : (txt B).size = sizeL leaf L := by rw [txt_size]; exact hln
      have hBl : B.length ≤ 2000 := by omega
      clear hbv hB
      go_wp2_with fail
      refine hby.mono ?_
      rintro e V8 ⟨rfl, hV8⟩
      replace a0 := keep_cell hV8 a0
      replace a1 := keep_cell hV8 a1
      replace d0 := keep_cell hV8 d0
      replace d1 := keep_cell hV8 d1
      replace e0 := keep_cell hV8 e0
      replace e1 := keep_cell hV8 e1
      replace hat0 := keep_cell hV8 hat0
      replace hatn := hatn.below hV8
      replace hat6 := hat6.below hV8
      replace hatc := hatc.below hV8
      have HB8 : Hid (Below w.heap.size w V8) := below_new HB7.out hV8
      have hrd := read_any leaf B hBl V8
      clear hby hV8
      go_wp2_with fail
      refine hrd.mono ?_
      rintro e V9 ⟨hA, hV9⟩
      rcases hA with ⟨K, v9, hIs', rfl, hown9⟩ | ⟨hno, _⟩
      · have hKL := hIs'.uniq hIs
        subst hKL
        obtain ⟨p9, m9, c9, rfl, hm9, hat9⟩ := shape2 hown9
        clear hm9
        obtain ⟨Va, ga, hVa, hga, hBa, hha, f0, f1⟩ := box_node V9 leaf (.slice p9 m9 c9)
        have hB9a := below_new hV9 hBa
        replace a0 := keep_cell hB9a a0
        replace a1 := keep_cell hB9a a1
        replace hatn := hatn.below hB9a
        replace hat9 := hat9.below hBa
        have HBa : Hid (Below w.heap.size w Va) := below_new HB8.out hB9a
        have hs2 := qsame_eq (leaf := leaf) hatn hat9 (by have := HN.out; omega)
        unfold nodeV at hs2 ⊢
        clear hrd hV9 hown9 hBa hha hB9a hIs' hIs
        go_wp2_with fail
        refine hs2.mono ?_
        rintro e Vb ⟨rfl, hVb⟩
        replace a0 := keep_cell hVb a0
        replace a1 := keep_cell hVb a1
        replace hatn := hatn.below hVb
        have HBb2 : Hid (Below w.heap.size w Vb) := below_new HBa.out hVb
        have hsi := size_any (leaf := leaf) hatn (by have := HN.out; omega) hshL
        unfold nodeV at hsi
        clear hs2 hVb
        generalize sizeL leaf K = z at *
        go_wp2_with fail
        refine hsi.mono ?_
        rintro e Vc ⟨rfl, hVc⟩
        go_wp2_with fail
        go_ret
        exact ⟨by simp, by first | exact below_new HBb2.out hVc | (rw [← HG.out]; exact below_new HBb2.out hVc)⟩
      · exact absurd ⟨_, hIs⟩ hno
    · have hbv : bytV leaf L = .tuple #[.string ⟨#[]⟩, .int .i64 11] := by unfold bytV; rw [if_pos hok, if_neg hsz]
      rw [hbv] at hby
      clear hbv
      go_wp2_with fail
      refine hby.mono ?_
      rintro e V8 ⟨rfl, hV8⟩
      replace a0 := keep_cell hV8 a0
      replace a1 := keep_cell hV8 a1
      replace d0 := keep_cell hV8 d0
      replace d1 := keep_cell hV8 d1
      replace e0 := keep_cell hV8 e0
      replace e1 := keep_cell hV8 e1
      replace hat0 := keep_cell hV8 hat0
      replace hatn := hatn.below hV8
      replace hat6 := hat6.below hV8
      replace hatc := hatc.below hV8
      have HB8 : Hid (Below w.heap.size w V8) := below_new HB7.out hV8
      have hft := fits_any (leaf := leaf) hatn (by have := HN.out; omega) hshL
      rw [decide_eq_false hsz] at hft
      unfold nodeV at hft
      clear hby hV8
      go_wp2_with fail
      refine hft.mono ?_
      rintro e V9 ⟨rfl, hV9⟩
      go_wp2_with fail
      go_ret
      exact ⟨rfl, by first | exact below_new HB8.out hV9 | (rw [← HG.out]; exact below_new HB8.out hV9)⟩
end Go.Proofs.Ytdgfjaidnedaiaa
