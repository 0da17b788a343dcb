/-
  NodeChanges' walk.
-/
import Derived.Test.YthcdifkjkjfnlaaEOrderW
import Derived.Test.YthcdifkjkjfnlaaEChgP
namespace Go.Proofs.Ythcdifkjkjfnlaa
open Go Go.RowKit Go.Lib

set_option maxRecDepth 8000 in
set_option maxHeartbeats 4000000 in
theorem changes_walk {w : World} {leaf : Bool} {v : Value} {l : List Cl} (hv : CellsAt w v l) (key : ByteArray) (cx : Cl) (at0 : Int) : Calls Try.prog 4 #[.bool leaf, v, askV key cx at0] w fun e w' => e = .returned (.bool true) ∧ Below w.heap.size w w' := by
  have hnot := run_notE
  obtain ⟨W0, hW0⟩ : ∃ W0, w.alloc (.cells #[.string key, .string cx.k, .string cx.v, .int .i64 cx.p, .int .i64 cx.s, .int .i64 at0] 39) = W0 := ⟨_, rfl⟩
  obtain ⟨g5, hg5⟩ : ∃ g5, w.heap.size = g5 := ⟨_, rfl⟩
  have hA := Holds.new w 39 #[.string key, .string cx.k, .string cx.v, .int .i64 cx.p, .int .i64 cx.s, .int .i64 at0]
  have hB0 : Below w.heap.size w W0 := by rw [← hW0]; exact below_new1 _ _
  rw [hW0, hg5] at hA
  have haw := awake_any W0
  have hmd := fun W (hW : Below w.heap.size w W) => made9_any (leaf := leaf) (hv.below hW)
  obtain ⟨p0, c0, rfl⟩ := hv.shape
  generalize l.length = n0 at *
  obtain ⟨hok, hlen⟩ := madeL_ok leaf l
  obtain ⟨L, hL⟩ : ∃ L, madeL leaf l = L := ⟨_, rfl⟩
  rw [hL] at hmd hok hlen
  have HG : Hid (w.heap.size = g5) := hg5
  clear hL hv
  unfold askV
  go_enter Try.func4, Try.ntmps4
  go_wp2_with fail
  refine haw.mono ?_
  rintro e W1 ⟨rfl, hB1⟩
  have hBw1 := below_new hB0 hB1
  replace hA := below_holds hB1 hA
  have hg51 := hA.lt
  replace hmd := hmd W1 hBw1
  clear haw hB0 hB1
  go_wp2_with fail
  refine hmd.mono ?_
  rintro e W2 ⟨v2, rfl, hown2, hB2⟩
  obtain ⟨p, n, c, rfl, hn, hat2⟩ := shape2 hown2
  obtain ⟨W3, g8, hW3, hg8, hB3, hh3, a0, a1⟩ := box_node W2 leaf (.slice p n c)
  have hat3 := hat2.below hB3
  have HN : Hid (L.length = n) := hn.symm
  have hB13 := below_new hB2 hB3
  replace hA := below_holds hB13 hA
  have hBw3 := below_new hBw1 hB13
  have hni : (n : Int) ≤ 60 := by omega
  have h58 : g8 ≠ g5 := by have h3 := hB2.size; omega
  have HC3 : Hid (OwnCells W3 W1.heap.size (.slice p n c) L ∧ g5 < W1.heap.size) := ⟨hown2.below0 hB3, hg51⟩
  have k0 : W3.cell? ⟨g5, 0, none⟩ = some (.string key) := hA.cell 0
  have f1 := hA.frozen 0
  unfold nodeV
  clear hmd hown2 hB2 hB3 hh3 hat2 hn hB13 hat3 hg51
  by_cases hlong : 300 < (key.size : Int)
  · obtain ⟨key', hkey⟩ : ∃ k, key.extract 0 300 = k := ⟨_, rfl⟩
    obtain ⟨V, hV⟩ : ∃ V, W3.setCell ⟨g5, 0, none⟩ (.string key') = V := ⟨_, rfl⟩
    have hAV := hA.set 0 (.string key')
    have hO : Only g5 W3 V := by rw [← hV]; exact (Only.refl g5 W3).set 0 _
    rw [hV] at hAV
    replace hAV : Holds V g5 39 #[.string key', .string cx.k, .string cx.v, .int .i64 cx.p, .int .i64 cx.s, .int .i64 at0] := hAV
    replace a0 := only_cell hO a0 h58
    replace a1 := only_cell hO a1 h58
    have k0' : V.cell? ⟨g5, 0, none⟩ = some (.string key') := hAV.cell 0
    have hatn := (own_only HC3.out.1 hO HC3.out.2).at
    have HBV : Hid (Below w.heap.size w V) := Only.fresh hBw3 hO (Nat.le_of_eq HG.out)
    clear hA hO hBw1 hBw3
    have k5' : V.cell? ⟨g5, 5, none⟩ = some (.int .i64 at0) := hAV.cell 5
    have hx' : CellAt V g5 1 cx := ⟨hAV.cell 1, hAV.cell 2, hAV.cell 3, hAV.cell 4⟩
    have hf1 := find_any (leaf := leaf) hatn hok.2 (by omega) key'
    clear hAV
    obtain ⟨N, hN⟩ : ∃ N, fndN L key' = N := ⟨_, rfl⟩
    obtain ⟨A, hA⟩ : ∃ A, isAt L key' = A := ⟨_, rfl⟩
    have HF : Hid (fndN L key' = N ∧ isAt L key' = A) := ⟨hN, hA⟩
    rw [hN, hA] at hf1
    unfold nodeV at hf1
    clear hN hA
    go_wp2_with fail
    clear k0 f1
    refine hf1.mono ?_
    rintro e V1 ⟨rfl, hV1⟩
    replace a0 := keep_cell hV1 a0
    replace a1 := keep_cell hV1 a1
    replace k0' := keep_cell hV1 k0'
    replace k5' := keep_cell hV1 k5'
    replace hx' := hx'.below hV1
    replace hatn := hatn.below hV1
    have HBV1 : Hid (Below w.heap.size w V1) := below_new HBV.out hV1
    have hf2 := qfind_any (leaf := leaf) hatn (by omega) key'
    rw [HF.out.1, HF.out.2] at hf2
    unfold nodeV at hf2
    clear hf1 hV1 HC3 HBV
    go_wp2_with fail
    refine hf2.mono ?_
    rintro e V2 ⟨rfl, hV2⟩
    replace a0 := keep_cell hV2 a0
    replace a1 := keep_cell hV2 a1
    replace k0' := keep_cell hV2 k0'
    replace k5' := keep_cell hV2 k5'
    replace hx' := hx'.below hV2
    replace hatn := hatn.below hV2
    have HBV2 : Hid (Below w.heap.size w V2) := below_new HBV1.out hV2
    clear hf2 hV2 HBV1
    go_wp2_with fail
    refine wp_region_tree (fun W => Below V2.heap.size V2 W) [0, 1, 2, 4, 5, 6] (.one 3 (.one 7 (.one 8 (.one 9 .nil)))) mixedP (by kernel_rfl) rfl (by kernel_rfl) (fun _ _ _ d _ h => by cases d <;> exact h) (Below.refl _ _).drew ?_
    refine tk_ld (some 47) rfl rfl rfl _ _ rfl rfl (fun W hW => ldNode (keep_cell hW a0) (keep_cell hW a1)) ?_
    go_frame
    refine tk_val (some 48) rfl rfl rfl (.pointer (some ⟨g5, 5, none⟩)) (fun _ => by go_simp) ?_
    go_frame
    refine tk_ld (some 49) rfl rfl rfl _ _ rfl rfl (fun W hW => ldInt (keep_cell hW k5')) ?_
    go_frame
    refine tk_ld (some 51) rfl rfl rfl _ _ rfl rfl (fun W hW => ldNode (keep_cell hW a0) (keep_cell hW a1)) ?_
    go_frame
    refine tk_val (some 52) rfl rfl rfl (.pointer (some ⟨g5, 5, none⟩)) (fun _ => by go_simp) ?_
    go_frame
    refine tk_ld (some 53) rfl rfl rfl _ _ rfl rfl (fun W hW => ldInt (keep_cell hW k5')) ?_
    go_frame
    refine tk_nil ?_
    have hdr := drop_any (w := V2.drew) (leaf := leaf) (v := .slice p n c) (L := L) hatn (by omega) at0
    refine op_call (some 50) rfl rfl rfl (f := 23) (vs := #[nodeV leaf (.slice p n c), .int .i64 at0]) (by go_simp) ?_
    refine hdr.mono ?_
    rintro e Ya ⟨ud, rfl, hownd, hYa'⟩
    have hYa : Below V2.heap.size V2 Ya := below_drewL hYa'
    refine ⟨_, rfl, hYa, ?_⟩
    obtain ⟨pd, md, cd, rfl, hmd, hatd⟩ := shape2 hownd
    clear hdr hYa' hmd
    go_frame
    have hqd := qdrop_any (leaf := leaf) (hatn.below hYa) (by omega) at0
    refine op_call (some 54) rfl rfl rfl (f := 24) (vs := #[nodeV leaf (.slice p n c), .int .i64 at0]) (by go_simp) ?_
    refine hqd.mono ?_
    rintro e Yb ⟨ue, rfl, howne, hYb⟩
    have hYab : Below V2.heap.size V2 Yb := below_new hYa hYb
    refine ⟨_, rfl, hYab, ?_⟩
    obtain ⟨pe, me, ce, rfl, hme, hate⟩ := shape2 howne
    have hdl := dropL_le L at0
    have hsm := qsame_eq (leaf := leaf) (hatd.below hYb) hate (by omega)
    clear hqd hme howne hownd
    go_frame
    refine op_call (some 55) rfl rfl rfl (f := 19) (vs := #[nodeV leaf (.slice pd md cd), nodeV leaf (.slice pe me ce)]) (by go_simp) ?_
    refine hsm.mono ?_
    rintro e Yc ⟨rfl, hYc⟩
    have hYac : Below V2.heap.size V2 Yc := below_new hYab hYc
    refine ⟨_, rfl, hYac, ?_⟩
    unfold nodeV
    go_frame
    refine op_val (some 13) rfl rfl rfl (v := .bool true) (w' := Yc) (by go_simp) ?_
    refine ⟨hYac, ?_⟩
    go_frame
    replace a0 := keep_cell hYac a0
    replace a1 := keep_cell hYac a1
    replace k0' := keep_cell hYac k0'
    replace hx' := hx'.below hYac
    replace hatn := hatn.below hYac
    have HBc : Hid (Below w.heap.size w Yc) := below_new HBV2.out hYac
    clear hYac hYc hYab hYb hYa hsm hatd hate hdl k5' HBV2
    refine then_normalE ?_
    go_at_K
    have hc1 := fun W (hW : Below Yc.heap.size Yc W) => child_any (leaf := leaf) (hatn.below hW) hok.2 (by omega) key'
    have hc2 := fun W (hW : Below Yc.heap.size Yc W) => qchild_any (leaf := leaf) (hatn.below hW) hok.2 (by omega) key'
    obtain ⟨U, hU⟩ : ∃ U : Nat, upN L key' - 1 = U := ⟨_, rfl⟩
    rw [hU] at hc1 hc2
    have hNN : ((N : Int) != (N : Int)) = false := by simp
    have hUU : ((U : Int) != (U : Int)) = false := by simp
    have hAA : (A != A) = false := by simp
    clear hU
    go_wp2_with fail
    refine wp_region_class (fun W => Below Yc.heap.size Yc W) mixedP (by kernel_rfl) (Below.refl _ _).drew ?_
    go_big_quiet_step (exact fun _ => rfl)
    go_big_quiet_step (exact fun _ => rfl)
    refine wpQ_val rfl (.bool false) (fun _ => by go_simp) ?_
    go_frame
    go_big_quiet_step (exact fun _ => rfl)
    go_big_quiet_step (exact fun _ => rfl)
    go_big_quiet_step (exact fun _ => rfl)
    refine wpQ_val rfl (.bool false) (fun _ => by go_simp) ?_
    go_frame
    go_big_quiet_step (exact fun _ => rfl)
    go_big_quiet_step (exact fun _ => rfl)
    refine wpQ_ld rfl _ _ rfl rfl (fun W hW => ldNode (keep_cell hW a0) (keep_cell hW a1)) ?_
    go_frame
    go_big_quiet_step (exact fun _ => rfl)
    refine wpQ_ld rfl _ _ rfl rfl (fun W hW => ldStr (keep_cell hW k0')) ?_
    go_frame
    refine wpQ_call rfl 25 #[nodeV leaf (.slice p n c), .string key'] (fun _ => by go_simp) (.int .i64 (U : Nat)) (fun W hW => (hc1 W hW).mono fun e w' h => ⟨h.1, below_new hW h.2⟩) ?_
    go_frame
    refine wpQ_ld rfl _ _ rfl rfl (fun W hW => ldNode (keep_cell hW a0) (keep_cell hW a1)) ?_
    go_frame
    go_big_quiet_step (exact fun _ => rfl)
    refine wpQ_ld rfl _ _ rfl rfl (fun W hW => ldStr (keep_cell hW k0')) ?_
    go_frame
    refine wpQ_call rfl 26 #[nodeV leaf (.slice p n c), .string key'] (fun _ => by go_simp) (.int .i64 (U : Nat)) (fun W hW => (hc2 W hW).mono fun e w' h => ⟨h.1, below_new hW h.2⟩) ?_
    go_frame
    refine wpQ_val rfl (.bool false) (fun _ => by go_simp) ?_
    go_frame
    go_big_quiet_step (exact fun _ => rfl)
    go_big_quiet_step (exact fun _ => rfl)
    go_big_quiet_step (exact fun _ => rfl)
    refine wpQ_val rfl (.bool false) (fun _ => by go_simp) ?_
    go_frame
    go_big_quiet_step (exact fun _ => rfl)
    refine wpQuiet_nil ?_
    intro W6 hB6
    show Exit.then _ _ Exit.normal _ _
    simp only [Exit.then]
    go_at_K
    have HB6 : Hid (Below Yc.heap.size Yc W6) := hB6
    replace a0 := keep_cell hB6 a0
    replace a1 := keep_cell hB6 a1
    replace hx' := hx'.below hB6
    replace hatn := hatn.below hB6
    have HBd : Hid (Below w.heap.size w W6) := below_new HBc.out hB6
    clear hB6 hc1 hc2 hNN hUU hAA HBc k0' HB6
    obtain ⟨x1, x2, x3, x4⟩ := hx'
    obtain ⟨Wb, gb, hWb, hgb, hBb, hxb⟩ := box_cell W6 cx
    have hmx := made9_any (leaf := leaf) (one_cl hxb)
    rw [madeL_one] at hmx
    replace a0' := keep_cell hBb a0
    replace a1' := keep_cell hBb a1
    replace hatn := hatn.below hBb
    have HBb : Hid (Below w.heap.size w Wb) := below_new HBd.out hBb
    clear hBb hxb HBd
    go_wp2_with fail
    refine hmx.mono ?_
    rintro e V1 ⟨v1, rfl, hownx, hV1⟩
    obtain ⟨px, mx, cx1, rfl, hmx1, hatx⟩ := shape2 hownx
    obtain ⟨V2, g12, hV2, hg12, hBV2, hhV2, e0, e1⟩ := box_node V1 leaf (.slice px mx cx1)
    have hB02 := below_new hV1 hBV2
    replace a0 := keep_cell hB02 a0'
    replace a1 := keep_cell hB02 a1'
    replace hatn := hatn.below hB02
    have hatc := hatx.below hBV2
    have HBV2 : Hid (Below w.heap.size w V2) := below_new HBb.out hB02
    unfold nodeV
    clear hmx hownx hV1 hBV2 hhV2 hB02 hatx a0' a1' hWb hgb HBb x1 x2 x3 x4
    by_cases hmay : mayB leaf cx = true
    · rw [if_pos hmay] at hatc hmx1
      have hmx2 : mx = 1 := hmx1
      subst hmx2
      obtain ⟨bx, ox, rfl, h1x, hdx⟩ := hatc.at (i := 0) (x := cx) rfl
      have dk := hdx.1
      clear h1x hmx1 hatc
      obtain ⟨hfp, hip⟩ := fnd_put leaf (c := cx) hok hmay
      have hokP := putL_ok hok hmay
      have hpa := putL_at L cx
      have hle := putL_len L cx
      obtain ⟨P, hP⟩ : ∃ P, putL L cx = P := ⟨_, rfl⟩
      have hpt := fun (W : World) (hW : Below V2.heap.size V2 W) => put_any (leaf := leaf) (hatn.below hW) hok.2 (by have := HN.out; omega) cx
      have hqt := fun (W : World) (hW : Below V2.heap.size V2 W) => qput_any (leaf := leaf) (hatn.below hW) (by have := HN.out; omega) cx
      rw [hP] at hfp hip hokP hpa hpt hqt hle
      obtain ⟨M, hM⟩ : ∃ M, fndN L cx.k = M := ⟨_, rfl⟩
      rw [hM] at hfp hpa
      have HP : Hid ((fndN P cx.k = M ∧ isAt P cx.k = true) ∧ OkL leaf P ∧ P[M]? = some cx ∧ P.length ≤ 61) := ⟨⟨hfp, hip⟩, hokP, hpa, by omega⟩
      clear hfp hip hokP hpa hP hM hle hmay
      go_wp2_with fail
      refine wp_then_G (ι := Nat × Option Addr × Nat × Nat) (fun i a => ((((((((a.put (some 89) (.agg #[.bool leaf, .slice p n c])).put (some 90) (.pointer (some ⟨g12, 1, none⟩))).put (some 91) (.slice (some ⟨bx, ox, none⟩) 1 cx1)).put (some 92) (.pointer (some ⟨bx, ox, none⟩))).put (some 93) (cla cx)).put (some 94) (.agg #[.bool leaf, .slice i.2.1 i.2.2.1 i.2.2.2])).put (some 15) (.pointer (some ⟨i.1, 0, none⟩))))) (fun i W => Below V2.heap.size V2 W ∧ Holds W i.1 24 #[.bool leaf, .slice i.2.1 i.2.2.1 i.2.2.2] ∧ CellsAt W (.slice i.2.1 i.2.2.1 i.2.2.2) P) ?_ ?_
      · go_frame
        refine wp_region_tree (fun W => Below V2.heap.size V2 W) [0, 1, 2, 3, 4] (.two 5 (.one 6 (.one 7 .nil)) 6 (.one 5 (.one 7 .nil))) mixedP (by kernel_rfl) rfl (by kernel_rfl) (fun _ _ _ d _ h => by cases d <;> exact h) (Below.refl _ _).drew ?_
        refine tk_ld (some 89) rfl rfl rfl _ _ rfl rfl (fun W hW => ldNode (keep_cell hW a0) (keep_cell hW a1)) ?_
        go_frame
        refine tk_val (some 90) rfl rfl rfl (.pointer (some ⟨g12, 1, none⟩)) (fun _ => by go_simp) ?_
        go_frame
        refine tk_ld (some 91) rfl rfl rfl _ _ rfl rfl (fun W hW => ldRow (keep_cell hW e1)) ?_
        go_frame
        refine tk_val (some 92) rfl rfl rfl (.pointer (some ⟨bx, ox, none⟩)) (fun _ => by go_simp) ?_
        go_frame
        refine tk_ld (some 93) rfl rfl rfl _ _ rfl rfl (fun W hW => ldCell (hdx.below hW)) ?_
        go_frame
        refine tk_nil ?_
        refine ⟨?_, ?_⟩
        · refine op_call (some 94) rfl rfl rfl (f := 27) (vs := #[nodeV leaf (.slice p n c), cla cx]) (by go_simp) ?_
          refine (hpt V2.drew (Below.refl _ _).drew).mono ?_
          rintro e Y1 ⟨u1, rfl, hownu, hY1⟩
          have hY1' : Below V2.heap.size V2 Y1 := below_drewL hY1
          refine ⟨_, rfl, hY1', ?_⟩
          obtain ⟨p9, m9, c9, rfl, hm9, hat9⟩ := shape2 hownu
          unfold nodeV
          go_frame
          obtain ⟨Y2, gz, hY2, hgz, hB2, hh2, _, _⟩ := box_node Y1 false (.slice none 0 0)
          refine op_val (some 15) rfl rfl rfl (v := .pointer (some ⟨gz, 0, none⟩)) (w' := Y2) (by go_simp <;> first | exact ⟨hgz, hY2⟩ | exact hY2) ?_
          refine ⟨below_new hY1' hB2, ?_⟩
          go_frame
          refine op_storeH none rfl rfl rfl 24 _ _ rfl gz _ rfl rfl 24 _ hh2 infoNode2 rfl (by simp [Value.oneCell']) ?_
          intro Y3 hH3 hO3 hs3
          have hB3 : Below V2.heap.size V2 Y3 := Only.fresh (below_new hY1' hB2) hO3 (by rw [← hgz]; exact hY1'.size)
          refine ⟨hB3, ?_⟩
          go_frame
          exact ⟨(gz, p9, m9, c9), rfl, hB3, hH3, cells_only hat9 hB2 hO3 (by omega)⟩
        · obtain ⟨Y2, gz, hY2, hgz, hB2, hh2, _, _⟩ := box_node V2.drew false (.slice none 0 0)
          have hB2' : Below V2.heap.size V2 Y2 := below_drewL hB2
          refine op_val (some 15) rfl rfl rfl (v := .pointer (some ⟨gz, 0, none⟩)) (w' := Y2) (by go_simp <;> first | exact ⟨hgz, hY2⟩ | exact hY2) ?_
          refine ⟨hB2', ?_⟩
          go_frame
          refine op_call (some 94) rfl rfl rfl (f := 27) (vs := #[nodeV leaf (.slice p n c), cla cx]) (by go_simp) ?_
          refine (hpt Y2 hB2').mono ?_
          rintro e Y1 ⟨u1, rfl, hownu, hY1⟩
          refine ⟨_, rfl, below_new hB2' hY1, ?_⟩
          have hgzl := hh2.lt
          obtain ⟨p9, m9, c9, rfl, hm9, hat9⟩ := shape2 hownu
          unfold nodeV
          go_frame
          refine op_storeH none rfl rfl rfl 24 _ _ rfl gz _ rfl rfl 24 _ (below_holds hY1 hh2) infoNode2 rfl (by simp [Value.oneCell']) ?_
          intro Y3 hH3 hO3 hs3
          have hB3 : Below V2.heap.size V2 Y3 := Only.fresh (below_new hB2' hY1) hO3 (by rw [← hgz]; exact Nat.le_refl _)
          refine ⟨hB3, ?_⟩
          go_frame
          exact ⟨(gz, p9, m9, c9), rfl, hB3, hH3, (own_only hownu hO3 hgzl).at⟩
      · rintro ⟨gz, p9, m9, c9⟩ V7 ⟨hV7, hH7, hat7⟩
        dsimp only at hH7 hat7
        go_frame
        replace a0 := keep_cell hV7 a0
        replace a1 := keep_cell hV7 a1
        replace e1 := keep_cell hV7 e1
        replace hdx := hdx.below hV7
        replace dk := keep_cell hV7 dk
        have f0 : V7.cell? ⟨gz, 0, none⟩ = some (.bool leaf) := hH7.cell 0
        have f1 : V7.cell? ⟨gz, 1, none⟩ = some (.slice p9 m9 c9) := hH7.cell 1
        have HV7 : Hid (Below V2.heap.size V2 V7) := hV7
        have HBV7 : Hid (Below w.heap.size w V7) := below_new HBV2.out hV7
        replace hqt := fun W hW => hqt W (below_new HV7.out hW)
        clear hpt hH7 e0 hV7
        unfold cla
        go_at_K
        go_wp2_with fail
        refine wp_region_tree (fun W => Below V7.heap.size V7 W) [0, 1, 2, 3, 4, 5] (.one 6 (.one 7 (.one 8 .nil))) mixedP (by kernel_rfl) rfl (by kernel_rfl) (fun _ _ _ d _ h => by cases d <;> exact h) (Below.refl _ _).drew ?_
        refine tk_ld (some 95) rfl rfl rfl _ _ rfl rfl (fun W hW => ldNode (keep_cell hW f0) (keep_cell hW f1)) ?_
        go_frame
        refine tk_ld (some 96) rfl rfl rfl _ _ rfl rfl (fun W hW => ldNode (keep_cell hW a0) (keep_cell hW a1)) ?_
        go_frame
        refine tk_val (some 97) rfl rfl rfl (.pointer (some ⟨g12, 1, none⟩)) (fun _ => by go_simp) ?_
        go_frame
        refine tk_ld (some 98) rfl rfl rfl _ _ rfl rfl (fun W hW => ldRow (keep_cell hW e1)) ?_
        go_frame
        refine tk_val (some 99) rfl rfl rfl (.pointer (some ⟨bx, ox, none⟩)) (fun _ => by go_simp) ?_
        go_frame
        refine tk_ld (some 100) rfl rfl rfl _ _ rfl rfl (fun W hW => ldCell (hdx.below hW)) ?_
        go_frame
        refine tk_nil ?_
        refine op_call (some 101) rfl rfl rfl (f := 28) (vs := #[nodeV leaf (.slice p n c), cla cx]) (by go_simp) ?_
        refine (hqt V7.drew (Below.refl _ _).drew).mono ?_
        rintro e Ya ⟨ua, rfl, hownq, hYa'⟩
        have hYa : Below V7.heap.size V7 Ya := below_drewL hYa'
        refine ⟨_, rfl, hYa, ?_⟩
        obtain ⟨pq, mq, cq, rfl, hmq, hatq⟩ := shape2 hownq
        clear hYa' hmq hownq
        go_frame
        have hsm := qsame_eq (leaf := leaf) (hat7.below hYa) hatq (by have := HP.out.2.2.2; omega)
        refine op_call (some 102) rfl rfl rfl (f := 19) (vs := #[nodeV leaf (.slice p9 m9 c9), nodeV leaf (.slice pq mq cq)]) (by go_simp) ?_
        refine hsm.mono ?_
        rintro e V8 ⟨rfl, hYb⟩
        have hV8 : Below V7.heap.size V7 V8 := below_new hYa hYb
        refine ⟨_, rfl, hV8, ?_⟩
        unfold nodeV
        go_frame
        refine op_val (some 16) rfl rfl rfl (v := .bool true) (w' := V8) (by go_simp) ?_
        refine ⟨hV8, ?_⟩
        go_frame
        replace e1 := keep_cell hV8 e1
        replace dk := keep_cell hV8 dk
        replace f0 := keep_cell hV8 f0
        replace f1 := keep_cell hV8 f1
        replace hat7 := hat7.below hV8
        have HBV8 : Hid (Below w.heap.size w V8) := below_new HBV7.out hV8
        have hfd2 := fun W (hW : Below V8.heap.size V8 W) => find_any (leaf := leaf) (hat7.below hW) HP.out.2.1.2 (by have := HP.out.2.2.2; omega) cx.k
        rw [HP.out.1.1, HP.out.1.2] at hfd2
        clear hV8 hYa hYb hsm hatq hqt a0 a1 hdx HV7
        refine then_normalE ?_
        go_at_K
        go_wp2_with fail
        refine wp_region_class (fun W => Below V8.heap.size V8 W) mixedP (by kernel_rfl) (Below.refl _ _).drew ?_
        refine wpQ_ld rfl _ _ rfl rfl (fun W hW => ldNode (keep_cell hW f0) (keep_cell hW f1)) ?_
        go_frame
        go_big_quiet_step (exact fun _ => rfl)
        refine wpQ_ld rfl _ _ rfl rfl (fun W hW => ldRow (keep_cell hW e1)) ?_
        go_frame
        go_big_quiet_step (exact fun _ => rfl)
        go_big_quiet_step (exact fun _ => rfl)
        refine wpQ_ld rfl _ _ rfl rfl (fun W hW => ldStr (keep_cell hW dk)) ?_
        go_frame
        refine wpQ_call rfl 21 #[nodeV leaf (.slice p9 m9 c9), .string cx.k] (fun _ => by go_simp) (.tuple #[.int .i64 (M : Nat), .bool true]) (fun W hW => (hfd2 W hW).mono fun e w' h => ⟨h.1, below_new hW h.2⟩) ?_
        go_frame
        go_big_quiet_step (exact fun _ => rfl)
        go_big_quiet_step (exact fun _ => rfl)
        go_big_quiet_step (exact fun _ => rfl)
        go_big_quiet_step (exact fun _ => rfl)
        go_big_quiet_step (exact fun _ => rfl)
        refine wpQuiet_nil ?_
        intro V9 hB9
        show Exit.then _ _ Exit.normal _ _
        simp only [Exit.then]
        go_at_K
        replace e1 := keep_cell hB9 e1
        replace dk := keep_cell hB9 dk
        replace f0 := keep_cell hB9 f0
        replace f1 := keep_cell hB9 f1
        replace hat7 := hat7.below hB9
        have HBV9 : Hid (Below w.heap.size w V9) := below_new HBV8.out hB9
        clear hB9 hfd2
        go_wp2_with fail
        have hgone := drop_gone HP.out.2.1.2 HP.out.2.2.1
        have hrD := rises_dropL HP.out.2.1.2 (M : Nat)
        have hlD := dropL_le P (M : Nat)
        obtain ⟨D, hD⟩ : ∃ D, dropL P ((M : Nat) : Int) = D := ⟨_, rfl⟩
        rw [hD] at hgone hrD hlD
        obtain ⟨K, hK⟩ : ∃ K, fndN D cx.k = K := ⟨_, rfl⟩
        refine wp_then_G (ι := Option Addr × Nat × Nat) (fun i a => ((((((((((((((a.put (some 114) (.agg #[.bool leaf, .slice p9 m9 c9])).put (some 115) (.int .i64 (M : Nat))).put (some 117) (.pointer (some ⟨g12, 1, none⟩))).put (some 118) (.slice (some ⟨bx, ox, none⟩) 1 cx1)).put (some 119) (.pointer (some ⟨bx, ox, none⟩))).put (some 120) (.pointer (some ⟨bx, ox, none⟩))).put (some 121) (.string cx.k)).put (some 116) (.agg #[.bool leaf, .slice i.1 i.2.1 i.2.2])).put (some 122) (.tuple #[.int .i64 (K : Nat), .bool false])).put (some 113) (.tuple #[.int .i64 (K : Nat), .bool false])).put (some 123) (.int .i64 (K : Nat))).put (some 124) (.bool false)).put (some 19) (.int .i64 (K : Nat))).put (some 20) (.bool false))) (fun _ W => Below V9.heap.size V9 W) ?_ ?_
        · go_frame
          refine wp_region_tree (fun W => Below V9.heap.size V9 W) [0, 1, 3, 4, 5, 6, 7] (.one 2 (.one 8 (.one 9 (.two 10 (.two 11 (.one 12 (.one 13 .nil)) 12 (.one 11 (.one 13 .nil))) 11 (.one 10 (.one 12 (.one 13 .nil))))))) mixedP (by kernel_rfl) rfl (by kernel_rfl) (fun _ _ _ d _ h => by cases d <;> exact h) (Below.refl _ _).drew ?_
          refine tk_ld (some 114) rfl rfl rfl _ _ rfl rfl (fun W hW => ldNode (keep_cell hW f0) (keep_cell hW f1)) ?_
          go_frame
          refine tk_val (some 115) rfl rfl rfl (.int .i64 (M : Nat)) (fun _ => by go_simp) ?_
          go_frame
          refine tk_val (some 117) rfl rfl rfl (.pointer (some ⟨g12, 1, none⟩)) (fun _ => by go_simp) ?_
          go_frame
          refine tk_ld (some 118) rfl rfl rfl _ _ rfl rfl (fun W hW => ldRow (keep_cell hW e1)) ?_
          go_frame
          refine tk_val (some 119) rfl rfl rfl (.pointer (some ⟨bx, ox, none⟩)) (fun _ => by go_simp) ?_
          go_frame
          refine tk_val (some 120) rfl rfl rfl (.pointer (some ⟨bx, ox, none⟩)) (fun _ => by go_simp) ?_
          go_frame
          refine tk_ld (some 121) rfl rfl rfl _ _ rfl rfl (fun W hW => ldStr (keep_cell hW dk)) ?_
          go_frame
          refine tk_nil ?_
          have hdr := drop_any (w := V9.drew) (leaf := leaf) (v := .slice p9 m9 c9) (L := P) hat7 (by have := HP.out.2.2.2; omega) (M : Nat)
          rw [hD] at hdr
          refine op_call (some 116) rfl rfl rfl (f := 23) (vs := #[nodeV leaf (.slice p9 m9 c9), .int .i64 (M : Nat)]) (by go_simp) ?_
          refine hdr.mono ?_
          rintro e Ya ⟨ud, rfl, hownd, hYa'⟩
          have hYa : Below V9.heap.size V9 Ya := below_drewL hYa'
          refine ⟨_, rfl, hYa, ?_⟩
          obtain ⟨pd, md, cd, rfl, hmd, hatd⟩ := shape2 hownd
          clear hdr hYa' hmd hownd
          go_frame
          have hf3 := find_any (leaf := leaf) hatd hrD (by have := HP.out.2.2.2; omega) cx.k
          rw [hK, hgone] at hf3
          refine op_call (some 122) rfl rfl rfl (f := 21) (vs := #[nodeV leaf (.slice pd md cd), .string cx.k]) (by go_simp) ?_
          refine hf3.mono ?_
          rintro e Yb ⟨rfl, hYb⟩
          have hYab : Below V9.heap.size V9 Yb := below_new hYa hYb
          refine ⟨_, rfl, hYab, ?_⟩
          unfold nodeV
          go_frame
          refine op_val (some 113) rfl rfl rfl (v := .tuple #[.int .i64 (K : Nat), .bool false]) (w' := Yb) (by go_simp) ?_
          refine ⟨hYab, ?_⟩
          go_frame
          refine ⟨?_, ?_⟩
          · refine op_val (some 123) rfl rfl rfl (v := .int .i64 (K : Nat)) (w' := Yb) (by go_simp) ?_
            refine ⟨hYab, ?_⟩
            go_frame
            refine ⟨?_, ?_⟩
            · refine op_val (some 124) rfl rfl rfl (v := .bool false) (w' := Yb) (by go_simp) ?_
              refine ⟨hYab, ?_⟩
              go_frame
              refine op_val (some 19) rfl rfl rfl (v := .int .i64 (K : Nat)) (w' := Yb) (by go_simp) ?_
              refine ⟨hYab, ?_⟩
              go_frame
              refine op_val (some 20) rfl rfl rfl (v := .bool false) (w' := Yb) (by go_simp) ?_
              refine ⟨hYab, ?_⟩
              go_frame
              exact ⟨(pd, md, cd), rfl, hYab⟩
            · refine op_val (some 19) rfl rfl rfl (v := .int .i64 (K : Nat)) (w' := Yb) (by go_simp) ?_
              refine ⟨hYab, ?_⟩
              go_frame
              refine op_val (some 124) rfl rfl rfl (v := .bool false) (w' := Yb) (by go_simp) ?_
              refine ⟨hYab, ?_⟩
              go_frame
              refine op_val (some 20) rfl rfl rfl (v := .bool false) (w' := Yb) (by go_simp) ?_
              refine ⟨hYab, ?_⟩
              go_frame
              exact ⟨(pd, md, cd), rfl, hYab⟩
          · refine op_val (some 124) rfl rfl rfl (v := .bool false) (w' := Yb) (by go_simp) ?_
            refine ⟨hYab, ?_⟩
            go_frame
            refine op_val (some 123) rfl rfl rfl (v := .int .i64 (K : Nat)) (w' := Yb) (by go_simp) ?_
            refine ⟨hYab, ?_⟩
            go_frame
            refine op_val (some 19) rfl rfl rfl (v := .int .i64 (K : Nat)) (w' := Yb) (by go_simp) ?_
            refine ⟨hYab, ?_⟩
            go_frame
            refine op_val (some 20) rfl rfl rfl (v := .bool false) (w' := Yb) (by go_simp) ?_
            refine ⟨hYab, ?_⟩
            go_frame
            exact ⟨(pd, md, cd), rfl, hYab⟩
        · rintro ⟨pd, md, cd⟩ Vd hVd
          go_frame
          replace f0 := keep_cell hVd f0
          replace f1 := keep_cell hVd f1
          replace hat7 := hat7.below hVd
          have HBd : Hid (Below w.heap.size w Vd) := below_new HBV9.out hVd
          have hck := check_any (leaf := leaf) hat7 (by have := HP.out.2.2.2; omega)
          have hc0 : chkE leaf P = 0 := by unfold chkE; rw [if_pos HP.out.2.1]
          rw [hc0] at hck
          unfold nodeV at hck
          clear hVd hc0 hD hK
          go_at_K
          go_wp2_with fail
          refine hck.mono ?_
          rintro e Ve ⟨rfl, hVe⟩
          have HBe : Hid (Below w.heap.size w Ve) := below_new HBd.out hVe
          clear hVe
          go_wp2_with fail
          go_ret
          exact ⟨rfl, HBe.out⟩
    · rw [if_neg hmay] at hatc hmx1
      have hmx2 : mx = 0 := hmx1
      subst hmx2
      clear hatc hmx1 hmay
      go_wp2_with fail
      go_ret
      exact ⟨rfl, HBV2.out⟩
  · obtain ⟨key', hkey⟩ : ∃ k, k = key := ⟨_, rfl⟩
    obtain ⟨V, hV⟩ : ∃ V, V = W3 := ⟨_, rfl⟩
    subst hkey hV
    have hO : Only g5 V V := Only.refl g5 V
    have hAV := hA
    have k0' := k0
    have hatn := (own_only HC3.out.1 hO HC3.out.2).at
    have HBV : Hid (Below w.heap.size w V) := Only.fresh hBw3 hO (Nat.le_of_eq HG.out)
    clear hA hO hBw1 hBw3
    have k5' : V.cell? ⟨g5, 5, none⟩ = some (.int .i64 at0) := hAV.cell 5
    have hx' : CellAt V g5 1 cx := ⟨hAV.cell 1, hAV.cell 2, hAV.cell 3, hAV.cell 4⟩
    have hf1 := find_any (leaf := leaf) hatn hok.2 (by omega) key'
    clear hAV
    obtain ⟨N, hN⟩ : ∃ N, fndN L key' = N := ⟨_, rfl⟩
    obtain ⟨A, hA⟩ : ∃ A, isAt L key' = A := ⟨_, rfl⟩
    have HF : Hid (fndN L key' = N ∧ isAt L key' = A) := ⟨hN, hA⟩
    rw [hN, hA] at hf1
    unfold nodeV at hf1
    clear hN hA
    go_wp2_with fail
    clear k0 f1
    refine hf1.mono ?_
    rintro e V1 ⟨rfl, hV1⟩
    replace a0 := keep_cell hV1 a0
    replace a1 := keep_cell hV1 a1
    replace k0' := keep_cell hV1 k0'
    replace k5' := keep_cell hV1 k5'
    replace hx' := hx'.below hV1
    replace hatn := hatn.below hV1
    have HBV1 : Hid (Below w.heap.size w V1) := below_new HBV.out hV1
    have hf2 := qfind_any (leaf := leaf) hatn (by omega) key'
    rw [HF.out.1, HF.out.2] at hf2
    unfold nodeV at hf2
    clear hf1 hV1 HC3 HBV
    go_wp2_with fail
    refine hf2.mono ?_
    rintro e V2 ⟨rfl, hV2⟩
    replace a0 := keep_cell hV2 a0
    replace a1 := keep_cell hV2 a1
    replace k0' := keep_cell hV2 k0'
    replace k5' := keep_cell hV2 k5'
    replace hx' := hx'.below hV2
    replace hatn := hatn.below hV2
    have HBV2 : Hid (Below w.heap.size w V2) := below_new HBV1.out hV2
    clear hf2 hV2 HBV1
    go_wp2_with fail
    refine wp_region_tree (fun W => Below V2.heap.size V2 W) [0, 1, 2, 4, 5, 6] (.one 3 (.one 7 (.one 8 (.one 9 .nil)))) mixedP (by kernel_rfl) rfl (by kernel_rfl) (fun _ _ _ d _ h => by cases d <;> exact h) (Below.refl _ _).drew ?_
    refine tk_ld (some 47) rfl rfl rfl _ _ rfl rfl (fun W hW => ldNode (keep_cell hW a0) (keep_cell hW a1)) ?_
    go_frame
    refine tk_val (some 48) rfl rfl rfl (.pointer (some ⟨g5, 5, none⟩)) (fun _ => by go_simp) ?_
    go_frame
    refine tk_ld (some 49) rfl rfl rfl _ _ rfl rfl (fun W hW => ldInt (keep_cell hW k5')) ?_
    go_frame
    refine tk_ld (some 51) rfl rfl rfl _ _ rfl rfl (fun W hW => ldNode (keep_cell hW a0) (keep_cell hW a1)) ?_
    go_frame
    refine tk_val (some 52) rfl rfl rfl (.pointer (some ⟨g5, 5, none⟩)) (fun _ => by go_simp) ?_
    go_frame
    refine tk_ld (some 53) rfl rfl rfl _ _ rfl rfl (fun W hW => ldInt (keep_cell hW k5')) ?_
    go_frame
    refine tk_nil ?_
    have hdr := drop_any (w := V2.drew) (leaf := leaf) (v := .slice p n c) (L := L) hatn (by omega) at0
    refine op_call (some 50) rfl rfl rfl (f := 23) (vs := #[nodeV leaf (.slice p n c), .int .i64 at0]) (by go_simp) ?_
    refine hdr.mono ?_
    rintro e Ya ⟨ud, rfl, hownd, hYa'⟩
    have hYa : Below V2.heap.size V2 Ya := below_drewL hYa'
    refine ⟨_, rfl, hYa, ?_⟩
    obtain ⟨pd, md, cd, rfl, hmd, hatd⟩ := shape2 hownd
    clear hdr hYa' hmd
    go_frame
    have hqd := qdrop_any (leaf := leaf) (hatn.below hYa) (by omega) at0
    refine op_call (some 54) rfl rfl rfl (f := 24) (vs := #[nodeV leaf (.slice p n c), .int .i64 at0]) (by go_simp) ?_
    refine hqd.mono ?_
    rintro e Yb ⟨ue, rfl, howne, hYb⟩
    have hYab : Below V2.heap.size V2 Yb := below_new hYa hYb
    refine ⟨_, rfl, hYab, ?_⟩
    obtain ⟨pe, me, ce, rfl, hme, hate⟩ := shape2 howne
    have hdl := dropL_le L at0
    have hsm := qsame_eq (leaf := leaf) (hatd.below hYb) hate (by omega)
    clear hqd hme howne hownd
    go_frame
    refine op_call (some 55) rfl rfl rfl (f := 19) (vs := #[nodeV leaf (.slice pd md cd), nodeV leaf (.slice pe me ce)]) (by go_simp) ?_
    refine hsm.mono ?_
    rintro e Yc ⟨rfl, hYc⟩
    have hYac : Below V2.heap.size V2 Yc := below_new hYab hYc
    refine ⟨_, rfl, hYac, ?_⟩
    unfold nodeV
    go_frame
    refine op_val (some 13) rfl rfl rfl (v := .bool true) (w' := Yc) (by go_simp) ?_
    refine ⟨hYac, ?_⟩
    go_frame
    replace a0 := keep_cell hYac a0
    replace a1 := keep_cell hYac a1
    replace k0' := keep_cell hYac k0'
    replace hx' := hx'.below hYac
    replace hatn := hatn.below hYac
    have HBc : Hid (Below w.heap.size w Yc) := below_new HBV2.out hYac
    clear hYac hYc hYab hYb hYa hsm hatd hate hdl k5' HBV2
    refine then_normalE ?_
    go_at_K
    have hc1 := fun W (hW : Below Yc.heap.size Yc W) => child_any (leaf := leaf) (hatn.below hW) hok.2 (by omega) key'
    have hc2 := fun W (hW : Below Yc.heap.size Yc W) => qchild_any (leaf := leaf) (hatn.below hW) hok.2 (by omega) key'
    obtain ⟨U, hU⟩ : ∃ U : Nat, upN L key' - 1 = U := ⟨_, rfl⟩
    rw [hU] at hc1 hc2
    have hNN : ((N : Int) != (N : Int)) = false := by simp
    have hUU : ((U : Int) != (U : Int)) = false := by simp
    have hAA : (A != A) = false := by simp
    clear hU
    go_wp2_with fail
    refine wp_region_class (fun W => Below Yc.heap.size Yc W) mixedP (by kernel_rfl) (Below.refl _ _).drew ?_
    go_big_quiet_step (exact fun _ => rfl)
    go_big_quiet_step (exact fun _ => rfl)
    refine wpQ_val rfl (.bool false) (fun _ => by go_simp) ?_
    go_frame
    go_big_quiet_step (exact fun _ => rfl)
    go_big_quiet_step (exact fun _ => rfl)
    go_big_quiet_step (exact fun _ => rfl)
    refine wpQ_val rfl (.bool false) (fun _ => by go_simp) ?_
    go_frame
    go_big_quiet_step (exact fun _ => rfl)
    go_big_quiet_step (exact fun _ => rfl)
    refine wpQ_ld rfl _ _ rfl rfl (fun W hW => ldNode (keep_cell hW a0) (keep_cell hW a1)) ?_
    go_frame
    go_big_quiet_step (exact fun _ => rfl)
    refine wpQ_ld rfl _ _ rfl rfl (fun W hW => ldStr (keep_cell hW k0')) ?_
    go_frame
    refine wpQ_call rfl 25 #[nodeV leaf (.slice p n c), .string key'] (fun _ => by go_simp) (.int .i64 (U : Nat)) (fun W hW => (hc1 W hW).mono fun e w' h => ⟨h.1, below_new hW h.2⟩) ?_
    go_frame
    refine wpQ_ld rfl _ _ rfl rfl (fun W hW => ldNode (keep_cell hW a0) (keep_cell hW a1)) ?_
    go_frame
    go_big_quiet_step (exact fun _ => rfl)
    refine wpQ_ld rfl _ _ rfl rfl (fun W hW => ldStr (keep_cell hW k0')) ?_
    go_frame
    refine wpQ_call rfl 26 #[nodeV leaf (.slice p n c), .string key'] (fun _ => by go_simp) (.int .i64 (U : Nat)) (fun W hW => (hc2 W hW).mono fun e w' h => ⟨h.1, below_new hW h.2⟩) ?_
    go_frame
    refine wpQ_val rfl (.bool false) (fun _ => by go_simp) ?_
    go_frame
    go_big_quiet_step (exact fun _ => rfl)
    go_big_quiet_step (exact fun _ => rfl)
    go_big_quiet_step (exact fun _ => rfl)
    refine wpQ_val rfl (.bool false) (fun _ => by go_simp) ?_
    go_frame
    go_big_quiet_step (exact fun _ => rfl)
    refine wpQuiet_nil ?_
    intro W6 hB6
    show Exit.then _ _ Exit.normal _ _
    simp only [Exit.then]
    go_at_K
    have HB6 : Hid (Below Yc.heap.size Yc W6) := hB6
    replace a0 := keep_cell hB6 a0
    replace a1 := keep_cell hB6 a1
    replace hx' := hx'.below hB6
    replace hatn := hatn.below hB6
    have HBd : Hid (Below w.heap.size w W6) := below_new HBc.out hB6
    clear hB6 hc1 hc2 hNN hUU hAA HBc k0' HB6
    obtain ⟨x1, x2, x3, x4⟩ := hx'
    obtain ⟨Wb, gb, hWb, hgb, hBb, hxb⟩ := box_cell W6 cx
    have hmx := made9_any (leaf := leaf) (one_cl hxb)
    rw [madeL_one] at hmx
    replace a0' := keep_cell hBb a0
    replace a1' := keep_cell hBb a1
    replace hatn := hatn.below hBb
    have HBb : Hid (Below w.heap.size w Wb) := below_new HBd.out hBb
    clear hBb hxb HBd
    go_wp2_with fail
    refine hmx.mono ?_
    rintro e V1 ⟨v1, rfl, hownx, hV1⟩
    obtain ⟨px, mx, cx1, rfl, hmx1, hatx⟩ := shape2 hownx
    obtain ⟨V2, g12, hV2, hg12, hBV2, hhV2, e0, e1⟩ := box_node V1 leaf (.slice px mx cx1)
    have hB02 := below_new hV1 hBV2
    replace a0 := keep_cell hB02 a0'
    replace a1 := keep_cell hB02 a1'
    replace hatn := hatn.below hB02
    have hatc := hatx.below hBV2
    have HBV2 : Hid (Below w.heap.size w V2) := below_new HBb.out hB02
    unfold nodeV
    clear hmx hownx hV1 hBV2 hhV2 hB02 hatx a0' a1' hWb hgb HBb x1 x2 x3 x4
    by_cases hmay : mayB leaf cx = true
    · rw [if_pos hmay] at hatc hmx1
      have hmx2 : mx = 1 := hmx1
      subst hmx2
      obtain ⟨bx, ox, rfl, h1x, hdx⟩ := hatc.at (i := 0) (x := cx) rfl
      have dk := hdx.1
      clear h1x hmx1 hatc
      obtain ⟨hfp, hip⟩ := fnd_put leaf (c := cx) hok hmay
      have hokP := putL_ok hok hmay
      have hpa := putL_at L cx
      have hle := putL_len L cx
      obtain ⟨P, hP⟩ : ∃ P, putL L cx = P := ⟨_, rfl⟩
      have hpt := fun (W : World) (hW : Below V2.heap.size V2 W) => put_any (leaf := leaf) (hatn.below hW) hok.2 (by have := HN.out; omega) cx
      have hqt := fun (W : World) (hW : Below V2.heap.size V2 W) => qput_any (leaf := leaf) (hatn.below hW) (by have := HN.out; omega) cx
      rw [hP] at hfp hip hokP hpa hpt hqt hle
      obtain ⟨M, hM⟩ : ∃ M, fndN L cx.k = M := ⟨_, rfl⟩
      rw [hM] at hfp hpa
      have HP : Hid ((fndN P cx.k = M ∧ isAt P cx.k = true) ∧ OkL leaf P ∧ P[M]? = some cx ∧ P.length ≤ 61) := ⟨⟨hfp, hip⟩, hokP, hpa, by omega⟩
      clear hfp hip hokP hpa hP hM hle hmay
      go_wp2_with fail
      refine wp_then_G (ι := Nat × Option Addr × Nat × Nat) (fun i a => ((((((((a.put (some 89) (.agg #[.bool leaf, .slice p n c])).put (some 90) (.pointer (some ⟨g12, 1, none⟩))).put (some 91) (.slice (some ⟨bx, ox, none⟩) 1 cx1)).put (some 92) (.pointer (some ⟨bx, ox, none⟩))).put (some 93) (cla cx)).put (some 94) (.agg #[.bool leaf, .slice i.2.1 i.2.2.1 i.2.2.2])).put (some 15) (.pointer (some ⟨i.1, 0, none⟩))))) (fun i W => Below V2.heap.size V2 W ∧ Holds W i.1 24 #[.bool leaf, .slice i.2.1 i.2.2.1 i.2.2.2] ∧ CellsAt W (.slice i.2.1 i.2.2.1 i.2.2.2) P) ?_ ?_
      · go_frame
        refine wp_region_tree (fun W => Below V2.heap.size V2 W) [0, 1, 2, 3, 4] (.two 5 (.one 6 (.one 7 .nil)) 6 (.one 5 (.one 7 .nil))) mixedP (by kernel_rfl) rfl (by kernel_rfl) (fun _ _ _ d _ h => by cases d <;> exact h) (Below.refl _ _).drew ?_
        refine tk_ld (some 89) rfl rfl rfl _ _ rfl rfl (fun W hW => ldNode (keep_cell hW a0) (keep_cell hW a1)) ?_
        go_frame
        refine tk_val (some 90) rfl rfl rfl (.pointer (some ⟨g12, 1, none⟩)) (fun _ => by go_simp) ?_
        go_frame
        refine tk_ld (some 91) rfl rfl rfl _ _ rfl rfl (fun W hW => ldRow (keep_cell hW e1)) ?_
        go_frame
        refine tk_val (some 92) rfl rfl rfl (.pointer (some ⟨bx, ox, none⟩)) (fun _ => by go_simp) ?_
        go_frame
        refine tk_ld (some 93) rfl rfl rfl _ _ rfl rfl (fun W hW => ldCell (hdx.below hW)) ?_
        go_frame
        refine tk_nil ?_
        refine ⟨?_, ?_⟩
        · refine op_call (some 94) rfl rfl rfl (f := 27) (vs := #[nodeV leaf (.slice p n c), cla cx]) (by go_simp) ?_
          refine (hpt V2.drew (Below.refl _ _).drew).mono ?_
          rintro e Y1 ⟨u1, rfl, hownu, hY1⟩
          have hY1' : Below V2.heap.size V2 Y1 := below_drewL hY1
          refine ⟨_, rfl, hY1', ?_⟩
          obtain ⟨p9, m9, c9, rfl, hm9, hat9⟩ := shape2 hownu
          unfold nodeV
          go_frame
          obtain ⟨Y2, gz, hY2, hgz, hB2, hh2, _, _⟩ := box_node Y1 false (.slice none 0 0)
          refine op_val (some 15) rfl rfl rfl (v := .pointer (some ⟨gz, 0, none⟩)) (w' := Y2) (by go_simp <;> first | exact ⟨hgz, hY2⟩ | exact hY2) ?_
          refine ⟨below_new hY1' hB2, ?_⟩
          go_frame
          refine op_storeH none rfl rfl rfl 24 _ _ rfl gz _ rfl rfl 24 _ hh2 infoNode2 rfl (by simp [Value.oneCell']) ?_
          intro Y3 hH3 hO3 hs3
          have hB3 : Below V2.heap.size V2 Y3 := Only.fresh (below_new hY1' hB2) hO3 (by rw [← hgz]; exact hY1'.size)
          refine ⟨hB3, ?_⟩
          go_frame
          exact ⟨(gz, p9, m9, c9), rfl, hB3, hH3, cells_only hat9 hB2 hO3 (by omega)⟩
        · obtain ⟨Y2, gz, hY2, hgz, hB2, hh2, _, _⟩ := box_node V2.drew false (.slice none 0 0)
          have hB2' : Below V2.heap.size V2 Y2 := below_drewL hB2
          refine op_val (some 15) rfl rfl rfl (v := .pointer (some ⟨gz, 0, none⟩)) (w' := Y2) (by go_simp <;> first | exact ⟨hgz, hY2⟩ | exact hY2) ?_
          refine ⟨hB2', ?_⟩
          go_frame
          refine op_call (some 94) rfl rfl rfl (f := 27) (vs := #[nodeV leaf (.slice p n c), cla cx]) (by go_simp) ?_
          refine (hpt Y2 hB2').mono ?_
          rintro e Y1 ⟨u1, rfl, hownu, hY1⟩
          refine ⟨_, rfl, below_new hB2' hY1, ?_⟩
          have hgzl := hh2.lt
          obtain ⟨p9, m9, c9, rfl, hm9, hat9⟩ := shape2 hownu
          unfold nodeV
          go_frame
          refine op_storeH none rfl rfl rfl 24 _ _ rfl gz _ rfl rfl 24 _ (below_holds hY1 hh2) infoNode2 rfl (by simp [Value.oneCell']) ?_
          intro Y3 hH3 hO3 hs3
          have hB3 : Below V2.heap.size V2 Y3 := Only.fresh (below_new hB2' hY1) hO3 (by rw [← hgz]; exact Nat.le_refl _)
          refine ⟨hB3, ?_⟩
          go_frame
          exact ⟨(gz, p9, m9, c9), rfl, hB3, hH3, (own_only hownu hO3 hgzl).at⟩
      · rintro ⟨gz, p9, m9, c9⟩ V7 ⟨hV7, hH7, hat7⟩
        dsimp only at hH7 hat7
        go_frame
        replace a0 := keep_cell hV7 a0
        replace a1 := keep_cell hV7 a1
        replace e1 := keep_cell hV7 e1
        replace hdx := hdx.below hV7
        replace dk := keep_cell hV7 dk
        have f0 : V7.cell? ⟨gz, 0, none⟩ = some (.bool leaf) := hH7.cell 0
        have f1 : V7.cell? ⟨gz, 1, none⟩ = some (.slice p9 m9 c9) := hH7.cell 1
        have HV7 : Hid (Below V2.heap.size V2 V7) := hV7
        have HBV7 : Hid (Below w.heap.size w V7) := below_new HBV2.out hV7
        replace hqt := fun W hW => hqt W (below_new HV7.out hW)
        clear hpt hH7 e0 hV7
        unfold cla
        go_at_K
        go_wp2_with fail
        refine wp_region_tree (fun W => Below V7.heap.size V7 W) [0, 1, 2, 3, 4, 5] (.one 6 (.one 7 (.one 8 .nil))) mixedP (by kernel_rfl) rfl (by kernel_rfl) (fun _ _ _ d _ h => by cases d <;> exact h) (Below.refl _ _).drew ?_
        refine tk_ld (some 95) rfl rfl rfl _ _ rfl rfl (fun W hW => ldNode (keep_cell hW f0) (keep_cell hW f1)) ?_
        go_frame
        refine tk_ld (some 96) rfl rfl rfl _ _ rfl rfl (fun W hW => ldNode (keep_cell hW a0) (keep_cell hW a1)) ?_
        go_frame
        refine tk_val (some 97) rfl rfl rfl (.pointer (some ⟨g12, 1, none⟩)) (fun _ => by go_simp) ?_
        go_frame
        refine tk_ld (some 98) rfl rfl rfl _ _ rfl rfl (fun W hW => ldRow (keep_cell hW e1)) ?_
        go_frame
        refine tk_val (some 99) rfl rfl rfl (.pointer (some ⟨bx, ox, none⟩)) (fun _ => by go_simp) ?_
        go_frame
        refine tk_ld (some 100) rfl rfl rfl _ _ rfl rfl (fun W hW => ldCell (hdx.below hW)) ?_
        go_frame
        refine tk_nil ?_
        refine op_call (some 101) rfl rfl rfl (f := 28) (vs := #[nodeV leaf (.slice p n c), cla cx]) (by go_simp) ?_
        refine (hqt V7.drew (Below.refl _ _).drew).mono ?_
        rintro e Ya ⟨ua, rfl, hownq, hYa'⟩
        have hYa : Below V7.heap.size V7 Ya := below_drewL hYa'
        refine ⟨_, rfl, hYa, ?_⟩
        obtain ⟨pq, mq, cq, rfl, hmq, hatq⟩ := shape2 hownq
        clear hYa' hmq hownq
        go_frame
        have hsm := qsame_eq (leaf := leaf) (hat7.below hYa) hatq (by have := HP.out.2.2.2; omega)
        refine op_call (some 102) rfl rfl rfl (f := 19) (vs := #[nodeV leaf (.slice p9 m9 c9), nodeV leaf (.slice pq mq cq)]) (by go_simp) ?_
        refine hsm.mono ?_
        rintro e V8 ⟨rfl, hYb⟩
        have hV8 : Below V7.heap.size V7 V8 := below_new hYa hYb
        refine ⟨_, rfl, hV8, ?_⟩
        unfold nodeV
        go_frame
        refine op_val (some 16) rfl rfl rfl (v := .bool true) (w' := V8) (by go_simp) ?_
        refine ⟨hV8, ?_⟩
        go_frame
        replace e1 := keep_cell hV8 e1
        replace dk := keep_cell hV8 dk
        replace f0 := keep_cell hV8 f0
        replace f1 := keep_cell hV8 f1
        replace hat7 := hat7.below hV8
        have HBV8 : Hid (Below w.heap.size w V8) := below_new HBV7.out hV8
        have hfd2 := fun W (hW : Below V8.heap.size V8 W) => find_any (leaf := leaf) (hat7.below hW) HP.out.2.1.2 (by have := HP.out.2.2.2; omega) cx.k
        rw [HP.out.1.1, HP.out.1.2] at hfd2
        clear hV8 hYa hYb hsm hatq hqt a0 a1 hdx HV7
        refine then_normalE ?_
        go_at_K
        go_wp2_with fail
        refine wp_region_class (fun W => Below V8.heap.size V8 W) mixedP (by kernel_rfl) (Below.refl _ _).drew ?_
        refine wpQ_ld rfl _ _ rfl rfl (fun W hW => ldNode (keep_cell hW f0) (keep_cell hW f1)) ?_
        go_frame
        go_big_quiet_step (exact fun _ => rfl)
        refine wpQ_ld rfl _ _ rfl rfl (fun W hW => ldRow (keep_cell hW e1)) ?_
        go_frame
        go_big_quiet_step (exact fun _ => rfl)
        go_big_quiet_step (exact fun _ => rfl)
        refine wpQ_ld rfl _ _ rfl rfl (fun W hW => ldStr (keep_cell hW dk)) ?_
        go_frame
        refine wpQ_call rfl 21 #[nodeV leaf (.slice p9 m9 c9), .string cx.k] (fun _ => by go_simp) (.tuple #[.int .i64 (M : Nat), .bool true]) (fun W hW => (hfd2 W hW).mono fun e w' h => ⟨h.1, below_new hW h.2⟩) ?_
        go_frame
        go_big_quiet_step (exact fun _ => rfl)
        go_big_quiet_step (exact fun _ => rfl)
        go_big_quiet_step (exact fun _ => rfl)
        go_big_quiet_step (exact fun _ => rfl)
        go_big_quiet_step (exact fun _ => rfl)
        refine wpQuiet_nil ?_
        intro V9 hB9
        show Exit.then _ _ Exit.normal _ _
        simp only [Exit.then]
        go_at_K
        replace e1 := keep_cell hB9 e1
        replace dk := keep_cell hB9 dk
        replace f0 := keep_cell hB9 f0
        replace f1 := keep_cell hB9 f1
        replace hat7 := hat7.below hB9
        have HBV9 : Hid (Below w.heap.size w V9) := below_new HBV8.out hB9
        clear hB9 hfd2
        go_wp2_with fail
        have hgone := drop_gone HP.out.2.1.2 HP.out.2.2.1
        have hrD := rises_dropL HP.out.2.1.2 (M : Nat)
        have hlD := dropL_le P (M : Nat)
        obtain ⟨D, hD⟩ : ∃ D, dropL P ((M : Nat) : Int) = D := ⟨_, rfl⟩
        rw [hD] at hgone hrD hlD
        obtain ⟨K, hK⟩ : ∃ K, fndN D cx.k = K := ⟨_, rfl⟩
        refine wp_then_G (ι := Option Addr × Nat × Nat) (fun i a => ((((((((((((((a.put (some 114) (.agg #[.bool leaf, .slice p9 m9 c9])).put (some 115) (.int .i64 (M : Nat))).put (some 117) (.pointer (some ⟨g12, 1, none⟩))).put (some 118) (.slice (some ⟨bx, ox, none⟩) 1 cx1)).put (some 119) (.pointer (some ⟨bx, ox, none⟩))).put (some 120) (.pointer (some ⟨bx, ox, none⟩))).put (some 121) (.string cx.k)).put (some 116) (.agg #[.bool leaf, .slice i.1 i.2.1 i.2.2])).put (some 122) (.tuple #[.int .i64 (K : Nat), .bool false])).put (some 113) (.tuple #[.int .i64 (K : Nat), .bool false])).put (some 123) (.int .i64 (K : Nat))).put (some 124) (.bool false)).put (some 19) (.int .i64 (K : Nat))).put (some 20) (.bool false))) (fun _ W => Below V9.heap.size V9 W) ?_ ?_
        · go_frame
          refine wp_region_tree (fun W => Below V9.heap.size V9 W) [0, 1, 3, 4, 5, 6, 7] (.one 2 (.one 8 (.one 9 (.two 10 (.two 11 (.one 12 (.one 13 .nil)) 12 (.one 11 (.one 13 .nil))) 11 (.one 10 (.one 12 (.one 13 .nil))))))) mixedP (by kernel_rfl) rfl (by kernel_rfl) (fun _ _ _ d _ h => by cases d <;> exact h) (Below.refl _ _).drew ?_
          refine tk_ld (some 114) rfl rfl rfl _ _ rfl rfl (fun W hW => ldNode (keep_cell hW f0) (keep_cell hW f1)) ?_
          go_frame
          refine tk_val (some 115) rfl rfl rfl (.int .i64 (M : Nat)) (fun _ => by go_simp) ?_
          go_frame
          refine tk_val (some 117) rfl rfl rfl (.pointer (some ⟨g12, 1, none⟩)) (fun _ => by go_simp) ?_
          go_frame
          refine tk_ld (some 118) rfl rfl rfl _ _ rfl rfl (fun W hW => ldRow (keep_cell hW e1)) ?_
          go_frame
          refine tk_val (some 119) rfl rfl rfl (.pointer (some ⟨bx, ox, none⟩)) (fun _ => by go_simp) ?_
          go_frame
          refine tk_val (some 120) rfl rfl rfl (.pointer (some ⟨bx, ox, none⟩)) (fun _ => by go_simp) ?_
          go_frame
          refine tk_ld (some 121) rfl rfl rfl _ _ rfl rfl (fun W hW => ldStr (keep_cell hW dk)) ?_
          go_frame
          refine tk_nil ?_
          have hdr := drop_any (w := V9.drew) (leaf := leaf) (v := .slice p9 m9 c9) (L := P) hat7 (by have := HP.out.2.2.2; omega) (M : Nat)
          rw [hD] at hdr
          refine op_call (some 116) rfl rfl rfl (f := 23) (vs := #[nodeV leaf (.slice p9 m9 c9), .int .i64 (M : Nat)]) (by go_simp) ?_
          refine hdr.mono ?_
          rintro e Ya ⟨ud, rfl, hownd, hYa'⟩
          have hYa : Below V9.heap.size V9 Ya := below_drewL hYa'
          refine ⟨_, rfl, hYa, ?_⟩
          obtain ⟨pd, md, cd, rfl, hmd, hatd⟩ := shape2 hownd
          clear hdr hYa' hmd hownd
          go_frame
          have hf3 := find_any (leaf := leaf) hatd hrD (by have := HP.out.2.2.2; omega) cx.k
          rw [hK, hgone] at hf3
          refine op_call (some 122) rfl rfl rfl (f := 21) (vs := #[nodeV leaf (.slice pd md cd), .string cx.k]) (by go_simp) ?_
          refine hf3.mono ?_
          rintro e Yb ⟨rfl, hYb⟩
          have hYab : Below V9.heap.size V9 Yb := below_new hYa hYb
          refine ⟨_, rfl, hYab, ?_⟩
          unfold nodeV
          go_frame
          refine op_val (some 113) rfl rfl rfl (v := .tuple #[.int .i64 (K : Nat), .bool false]) (w' := Yb) (by go_simp) ?_
          refine ⟨hYab, ?_⟩
          go_frame
          refine ⟨?_, ?_⟩
          · refine op_val (some 123) rfl rfl rfl (v := .int .i64 (K : Nat)) (w' := Yb) (by go_simp) ?_
            refine ⟨hYab, ?_⟩
            go_frame
            refine ⟨?_, ?_⟩
            · refine op_val (some 124) rfl rfl rfl (v := .bool false) (w' := Yb) (by go_simp) ?_
              refine ⟨hYab, ?_⟩
              go_frame
              refine op_val (some 19) rfl rfl rfl (v := .int .i64 (K : Nat)) (w' := Yb) (by go_simp) ?_
              refine ⟨hYab, ?_⟩
              go_frame
              refine op_val (some 20) rfl rfl rfl (v := .bool false) (w' := Yb) (by go_simp) ?_
              refine ⟨hYab, ?_⟩
              go_frame
              exact ⟨(pd, md, cd), rfl, hYab⟩
            · refine op_val (some 19) rfl rfl rfl (v := .int .i64 (K : Nat)) (w' := Yb) (by go_simp) ?_
              refine ⟨hYab, ?_⟩
              go_frame
              refine op_val (some 124) rfl rfl rfl (v := .bool false) (w' := Yb) (by go_simp) ?_
              refine ⟨hYab, ?_⟩
              go_frame
              refine op_val (some 20) rfl rfl rfl (v := .bool false) (w' := Yb) (by go_simp) ?_
              refine ⟨hYab, ?_⟩
              go_frame
              exact ⟨(pd, md, cd), rfl, hYab⟩
          · refine op_val (some 124) rfl rfl rfl (v := .bool false) (w' := Yb) (by go_simp) ?_
            refine ⟨hYab, ?_⟩
            go_frame
            refine op_val (some 123) rfl rfl rfl (v := .int .i64 (K : Nat)) (w' := Yb) (by go_simp) ?_
            refine ⟨hYab, ?_⟩
            go_frame
            refine op_val (some 19) rfl rfl rfl (v := .int .i64 (K : Nat)) (w' := Yb) (by go_simp) ?_
            refine ⟨hYab, ?_⟩
            go_frame
            refine op_val (some 20) rfl rfl rfl (v := .bool false) (w' := Yb) (by go_simp) ?_
            refine ⟨hYab, ?_⟩
            go_frame
            exact ⟨(pd, md, cd), rfl, hYab⟩
        · rintro ⟨pd, md, cd⟩ Vd hVd
          go_frame
          replace f0 := keep_cell hVd f0
          replace f1 := keep_cell hVd f1
          replace hat7 := hat7.below hVd
          have HBd : Hid (Below w.heap.size w Vd) := below_new HBV9.out hVd
          have hck := check_any (leaf := leaf) hat7 (by have := HP.out.2.2.2; omega)
          have hc0 : chkE leaf P = 0 := by unfold chkE; rw [if_pos HP.out.2.1]
          rw [hc0] at hck
          unfold nodeV at hck
          clear hVd hc0 hD hK
          go_at_K
          go_wp2_with fail
          refine hck.mono ?_
          rintro e Ve ⟨rfl, hVe⟩
          have HBe : Hid (Below w.heap.size w Ve) := below_new HBd.out hVe
          clear hVe
          go_wp2_with fail
          go_ret
          exact ⟨rfl, HBe.out⟩
    · rw [if_neg hmay] at hatc hmx1
      have hmx2 : mx = 0 := hmx1
      subst hmx2
      clear hatc hmx1 hmay
      go_wp2_with fail
      go_ret
      exact ⟨rfl, HBV2.out⟩

end Go.Proofs.Ythcdifkjkjfnlaa
