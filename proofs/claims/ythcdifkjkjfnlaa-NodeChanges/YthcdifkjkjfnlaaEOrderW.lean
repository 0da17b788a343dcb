/-
  NodeOrder's walk.
-/
import Derived.Test.YthcdifkjkjfnlaaEBackW
namespace Go.Proofs.Ythcdifkjkjfnlaa
open Go Go.RowKit Go.Lib

/-- Put ahead of all. -/
theorem putL_front {L : List Cl} {c : Cl} (h : ∀ x ∈ L, kl c.k x.k = true) : putL L c = c :: L := by
  have h0 : fndN L c.k = 0 := tw_of (Nat.zero_le _) (fun i x hi => absurd hi (by omega)) (fun x hx => kl_asymm (h x (List.mem_of_getElem? hx)))
  have h1 : isAt L c.k = false := by
    cases hl : L[0]? with
    | none => exact isAt_none (by rw [h0]; exact hl)
    | some x =>
      rw [isAt_some (x := x) (by rw [h0]; exact hl)]
      exact decide_eq_false fun e => kl_ne (h x (List.mem_of_getElem? hl)) e.symm
  unfold putL
  rw [h0, h1]
  simp
theorem put_drop {L : List Cl} (hr : Rises L) {j : Nat} {x : Cl} (hx : L[j]? = some x) : putL (L.drop (j + 1)) x = L.drop j := by
  have hlt := (List.getElem?_eq_some_iff.1 hx).1
  rw [putL_front fun y hy => ?_]
  · rw [List.drop_eq_getElem_cons hlt, (List.getElem?_eq_some_iff.1 hx).2]
  · obtain ⟨i, hi, hyi⟩ := mem_drop_ge hy
    exact hr.lt (by omega) hx hyi
theorem fnd_put {L : List Cl} (leaf : Bool) {c : Cl} (h : OkL leaf L) (hc : mayB leaf c = true) : fndN (putL L c) c.k = fndN L c.k ∧ isAt (putL L c) c.k = true :=
  fndN_of (putL_ok h hc).2 (putL_at L c)
theorem putL_len2 (L : List Cl) (c : Cl) (h : isAt L c.k = false) : (putL L c).length = L.length + 1 := by
  have := fndN_le L c.k
  unfold putL
  rw [h]
  simp only [List.length_append, List.length_take, List.length_drop, List.length_singleton, Bool.false_eq_true, if_false]
  omega
theorem drop_put (L : List Cl) (c : Cl) (h : isAt L c.k = false) : dropL (putL L c) (fndN L c.k : Nat) = L := by
  have h1 := fndN_le L c.k
  have h2 := putL_len2 L c h
  unfold dropL
  rw [if_pos ⟨by omega, by rw [h2]; omega⟩, Int.toNat_natCast]
  unfold putL
  rw [h]
  simp only [Bool.false_eq_true, if_false, Nat.add_zero]
  generalize hN : fndN L c.k = N at *
  have e1 : (L.take N ++ ([c] ++ L.drop N)).take N = L.take N := by rw [List.take_append_of_le_length (by rw [List.length_take]; omega), List.take_take, Nat.min_self]
  have e2 : (L.take N ++ ([c] ++ L.drop N)).drop (N + 1) = L.drop N := by
    rw [← List.append_assoc, List.drop_append_of_le_length (by rw [List.length_append, List.length_take, List.length_singleton]; omega), List.drop_of_length_le (by rw [List.length_append, List.length_take, List.length_singleton]; omega), List.nil_append]
  rw [e1, e2, List.take_append_drop]
theorem putL_len3 (L : List Cl) (c : Cl) (h : isAt L c.k = true) : (putL L c).length = L.length := by
  have := isAt_lt h
  unfold putL
  rw [h]
  simp only [List.length_append, List.length_take, List.length_drop, List.length_singleton, if_true]
  omega
theorem dropL_len {L : List Cl} {k : Nat} (h : k < L.length) : (dropL L (k : Nat)).length + 1 = L.length := by
  unfold dropL
  rw [if_pos ⟨by omega, by omega⟩, Int.toNat_natCast, List.length_append, List.length_take, List.length_drop]
  omega
set_option maxRecDepth 8000 in
theorem qsame_len {w : World} {leaf : Bool} {v v' : Value} {L K : List Cl} (hv : CellsAt w v L) (hv' : CellsAt w v' K) (hne : L.length ≠ K.length) : Calls Try.prog 19 #[nodeV leaf v, nodeV leaf v'] w fun e w' => e = .returned (.bool false) ∧ Below w.heap.size w w' := by
  unfold nodeV
  obtain ⟨p, c, rfl⟩ := hv.shape
  obtain ⟨p', c', rfl⟩ := hv'.shape
  have hn2 : ((L.length : Int) != (K.length : Int)) = true := by simp; omega
  generalize L.length = n at *
  generalize K.length = m at *
  obtain ⟨W0, g0, hW0, hg0, hB0, hb0, c0, c1⟩ := box_node w leaf (.slice p n c)
  obtain ⟨W1, g1, hW1, hg1, hB1, hb1, d0, d1⟩ := box_node W0 leaf (.slice p' m c')
  replace c0 := keep_cell hB1 c0
  replace c1 := keep_cell hB1 c1
  have hgH : Hid (w.heap.size = g0) := hg0
  have HB : Hid (Below w.heap.size w W1) := below_new hB0 hB1
  clear hB0 hB1 hb0 hb1 hv hv' hne
  have hbb : (leaf != leaf) = false := by simp
  go_enter Try.func19, Try.ntmps19
  go_wp2_with fail
  go_ret
  rw [← hgH.out]
  exact ⟨rfl, HB.out⟩
theorem wp_then_G {ι : Type} {c : Code} {K : Act → World → Prop} {Q : Exit → Act → World → Prop} {a : Act} {w : World} (F : ι → Act → Act) (Inv : ι → World → Prop) (h1 : c.wp Try.prog (Exit.then (fun a' w' => ∃ i, a' = F i a ∧ Inv i w') Q) a w) (h2 : ∀ i w', Inv i w' → K (F i a) w') : c.wp Try.prog (Exit.then K Q) a w := by
  refine Code.wp_mono (fun e a' w' h => ?_) h1
  cases e with
  | normal =>
    obtain ⟨i, e1, e2⟩ : ∃ i, a' = F i a ∧ Inv i w' := h
    show K a' w'
    rw [e1]
    exact h2 i w' e2
  | _ => exact h
set_option maxRecDepth 8000 in
set_option maxHeartbeats 4000000 in
theorem order_walk {w : World} {leaf : Bool} {v : Value} {l : List Cl} (hv : CellsAt w v l) (key : ByteArray) (cx : Cl) (at0 : Int) : Calls Try.prog 8 #[.bool leaf, v, askV key cx at0] w fun e w' => e = .returned (.bool true) ∧ Below w.heap.size w w' := by
  have hnot := run_notE
  obtain ⟨W0, g5, hW0, hg5, hB0, hq0, _, hat0⟩ := box_ask w key cx at0
  have haw := awake_any W0
  have hmd := fun W (hW : Below w.heap.size w W) => made9_any (leaf := leaf) (hv.below hW)
  obtain ⟨p0, c0, rfl⟩ := hv.shape
  generalize l.length = n0 at *
  obtain ⟨hok, hlen⟩ := madeL_ok leaf l
  obtain ⟨L, hL⟩ : ∃ L, madeL leaf l = L := ⟨_, rfl⟩
  rw [hL] at hmd hok hlen
  have HG : Hid (w.heap.size = g5) := hg5
  clear hL hv
  unfold askV
  go_enter Try.func8, Try.ntmps8
  go_wp2_with fail
  refine haw.mono ?_
  rintro e W1 ⟨rfl, hB1⟩
  have hBw1 := below_new hB0 hB1
  replace hq0 := hq0.below hB1
  replace hmd := hmd W1 hBw1
  clear haw hB0 hB1 hat0
  go_wp2_with fail
  refine hmd.mono ?_
  rintro e W2 ⟨v2, rfl, hown2, hB2⟩
  obtain ⟨p, n, c, rfl, hn, hat2⟩ := shape2 hown2
  obtain ⟨W3, g8, hW3, hg8, hB3, hh3, a0, a1⟩ := box_node W2 leaf (.slice p n c)
  have hat3 := hat2.below hB3
  have HN : Hid (L.length = n) := hn.symm
  have hB13 := below_new hB2 hB3
  replace hq0 := hq0.below hB13
  have hBw3 := below_new hBw1 hB13
  have hni : (n : Int) ≤ 60 := by omega
  unfold nodeV
  clear hmd hown2 hB2 hB3 hh3 hat2 hn hB13
  go_wp2_with ((with_reducible show wpList _ _ _ (Oper.mk (some 25) _ _ _ _ _ :: _) _ _); refine HaltE.out ?_)
  have hg8l := World.block_lt_of_cell? _ _ a0
  have hg5l := World.block_lt_of_cell? _ _ hq0.1
  obtain ⟨W4, g9, hW4, hg9, hB4, hh4, b0, b1⟩ := box_node W3 leaf (.slice none 0 0)
  rw [hW4, hg9]
  unfold HaltE
  replace a0 := keep_cell hB4 a0
  replace a1 := keep_cell hB4 a1
  replace hq0 := hq0.below hB4
  have hg89 : g8 ≠ g9 := by simp only at hg8l; omega
  have hg59 : g5 ≠ g9 := by simp only at hg5l; omega
  have hszg : g9 < W4.heap.size := hh4.lt
  have HK4 : Hid (Below w.heap.size w W4 ∧ w.heap.size ≤ g9 ∧ W3.heap.size ≤ g9 ∧ Below W3.heap.size W3 W4 ∧ CellsAt W3 (.slice p n c) L ∧ Holds W4 g9 24 #[.bool leaf, .slice none 0 0]) := ⟨below_new hBw3 hB4, by have := hBw3.size; omega, by omega, hB4, hat3, hh4⟩
  clear hBw3 hBw1 hB4 hat3 hW4 hg9 hg8l hg5l hg8 hW3 hh4
  go_wp2_with fail
  go_loopw [10] (fun y wr => ∃ (j : Nat) (u : Value), y = .int .i64 ((j : Int) - 1) ∧ j ≤ n ∧ Only g9 W4 wr ∧ Holds wr g9 24 #[.bool leaf, u] ∧ OwnCells wr W4.heap.size u (L.drop j)) (fun y _ => (intOf y + 1).toNat)
  case atStart => exact ⟨n, _, rfl, Nat.le_refl _, Only.refl _ _, HK4.out.2.2.2.2.2, by rw [← HN.out, List.drop_length]; exact OwnCells.nil _ _⟩
  case round =>
    obtain ⟨j, u, hy, hj, hO, hH, hown⟩ := hrel
    obtain ⟨pu, mu, cu, rfl, hmu, hat⟩ := shape2 hown
    have HI : Hid (Only g9 W4 wr ∧ Holds wr g9 24 #[.bool leaf, .slice pu mu cu] ∧ OwnCells wr W4.heap.size (.slice pu mu cu) (L.drop j)) := ⟨hO, hH, hown⟩
    replace a0 := only_cell hO a0 hg89
    replace a1 := only_cell hO a1 hg89
    replace hq0 := only_cellAt hO hq0 hg59
    have c0 : wr.cell? ⟨g9, 0, none⟩ = some (.bool leaf) := hH.cell 0
    have c1 : wr.cell? ⟨g9, 1, none⟩ = some (.slice pu mu cu) := hH.cell 1
    have hatn := cells_only HK4.out.2.2.2.2.1 HK4.out.2.2.2.1 hO HK4.out.2.2.1
    clear hH hown hmu hat
    by_cases hj0 : 0 < j
    · obtain ⟨i, hi⟩ : ∃ i, j = i + 1 := ⟨j - 1, by omega⟩
      have hyi : (j : Int) - 1 = (i : Int) := by omega
      rw [hyi] at hy
      subst hy
      have hin : (i : Int) < n := by omega
      have hi0 : (0 : Int) ≤ i := by omega
      obtain ⟨x, hx⟩ : ∃ x, L[i]? = some x := ⟨_, List.getElem?_eq_getElem (by have := HN.out; omega)⟩
      obtain ⟨b, o, rfl, hnn, hd⟩ := hatn.at hx
      have HBN : Hid (b ≠ g9) := by
        obtain ⟨b', o', e, _, h3⟩ := HK4.out.2.2.2.2.1.at hx
        injection e with e
        injection e with e1 _
        have h4 := World.block_lt_of_cell? _ _ h3.1
        have h5 := HK4.out.2.2.1
        simp only at h4
        show b ≠ g9
        omega
      have HPD : Hid (putL (L.drop j) x = L.drop i) := by show _ = _; rw [hi]; exact put_drop hok.2 hx
      have HRD : Hid (Rises (L.drop j)) := hok.2.sublist (List.drop_sublist _ _)
      clear hnn hyi hx
      go_wp2_with fail
      refine wp_region_tree (fun W => Only g9 wr W) [1, 2, 3, 4, 5] (.one 0 (.one 6 (.one 7 .nil))) mixedP (by kernel_rfl) rfl (by kernel_rfl) (fun _ _ _ d _ h => by cases d <;> exact h) (Only.refl _ _).drew ?_
      refine tk_val (some 34) rfl rfl rfl (.pointer (some ⟨g8, 1, none⟩)) (fun _ => by go_simp) ?_
      go_frame
      refine tk_ld (some 35) rfl rfl rfl _ _ rfl rfl (fun W hW => ldRow (only_cell hW a1 hg89)) ?_
      go_frame
      refine tk_val (some 36) rfl rfl rfl (.int .i64 (i : Nat)) (fun _ => by go_simp) ?_
      go_frame
      refine tk_val (some 37) rfl rfl rfl (.pointer (some ⟨b, o + i * 4, none⟩)) (fun _ => by go_simp) ?_
      go_frame
      refine tk_ld (some 38) rfl rfl rfl _ _ rfl rfl (fun W hW => ldCell (only_cellAt hW hd HBN.out)) ?_
      go_frame
      refine tk_nil ?_
      refine op_val (some 33) rfl rfl rfl (v := nodeV leaf (.slice pu mu cu)) (w' := wr.drew) (by
        have c0d : wr.drew.cell? ⟨g9, 0, none⟩ = some (.bool leaf) := c0
        have c1d : wr.drew.cell? ⟨g9, 1, none⟩ = some (.slice pu mu cu) := c1
        go_simp
        rfl) ?_
      refine ⟨(Only.refl _ _).drew, ?_⟩
      go_frame
      have hpt := put_any (w := wr.drew) (leaf := leaf) (v := .slice pu mu cu) (L := L.drop j) HI.out.2.2.at HRD.out (by rw [List.length_drop]; omega) x
      refine op_call (some 39) rfl rfl rfl (f := 27) (vs := #[nodeV leaf (.slice pu mu cu), cla x]) (by go_simp) ?_
      refine hpt.mono ?_
      rintro e W9 ⟨v9, rfl, hown9, hB9⟩
      have hB9' : Below wr.heap.size wr W9 := below_drewL hB9
      have hO9 : Only g9 wr W9 := (Only.refl g9 wr).below hB9'
      refine ⟨_, rfl, hO9, ?_⟩
      rw [HPD.out] at hown9
      obtain ⟨p9, m9, c9, rfl, hm9, hat9⟩ := shape2 hown9
      unfold nodeV
      go_frame
      refine op_storeH none rfl rfl rfl 24 _ _ rfl g9 _ rfl rfl 24 _ (below_holds hB9' HI.out.2.1) infoNode2 rfl (by simp [Value.oneCell']) ?_
      intro w10 hH10 hO10 hs10
      refine ⟨hO9.trans hO10, ?_⟩
      go_frame
      have hown10 := own_only (hown9.mono (show W4.heap.size ≤ wr.drew.heap.size from HI.out.1.size)) hO10 hszg
      have HI10 : Hid (Only g9 W4 w10 ∧ Holds w10 g9 24 #[.bool leaf, .slice p9 m9 c9] ∧ OwnCells w10 W4.heap.size (.slice p9 m9 c9) (L.drop i)) := ⟨HI.out.1.trans (hO9.trans hO10), hH10, hown10⟩
      clear hown10 hH10 hO10 hO9 hB9 hB9' hown9 hat9 hm9 hpt
      show Exit.inBlock 1 _ Exit.normal _ _
      simp only [Exit.inBlock, Exit.then]
      go_at_K
      go_wp2_with fail
      exact ⟨⟨i, _, rfl, by omega, HI10.out⟩, by simp [intOf]⟩
    · have hyi : (j : Int) - 1 = -1 := by omega
      have HJ : Hid (j = 0) := by show _ = _; omega
      rw [hyi] at hy
      subst hy
      have HBr : Hid (Below w.heap.size w wr) := Only.fresh HK4.out.1 HI.out.1 HK4.out.2.1
      have hatm : CellsAt wr (.slice pu mu cu) L := by have := HI.out.2.2.at; rw [HJ.out] at this; exact this
      have hsm := qsame_eq (leaf := leaf) hatn hatm (by have := HN.out; omega)
      unfold nodeV at hsm
      clear hj hj0 hyi hO
      go_wp2_with fail
      refine hsm.mono ?_
      rintro e V0 ⟨rfl, hV0⟩
      replace a0 := keep_cell hV0 a0
      replace a1 := keep_cell hV0 a1
      replace hatn := hatn.below hV0
      obtain ⟨x1, x2, x3, x4⟩ := hq0.below hV0
      have HBV0 : Hid (Below w.heap.size w V0) := below_new HBr.out hV0
      obtain ⟨Wb, gb, hWb, hgb, hBb, hxb⟩ := box_cell V0 cx
      have hmx := made9_any (leaf := leaf) (one_cl hxb)
      rw [madeL_one] at hmx
      replace a0' := keep_cell hBb a0
      replace a1' := keep_cell hBb a1
      replace hatn := hatn.below hBb
      have HBb : Hid (Below w.heap.size w Wb) := below_new HBV0.out hBb
      clear hsm hV0 hBb hxb c0 c1 hatm
      go_wp2_with fail
      refine hmx.mono ?_
      rintro e V1 ⟨v1, rfl, hownx, hV1⟩
      obtain ⟨px, mx, cx1, rfl, hmx1, hatx⟩ := shape2 hownx
      obtain ⟨V2, g12, hV2, hg12, hBV2, hhV2, e0, e1⟩ := box_node V1 leaf (.slice px mx cx1)
      have hB02 := below_new hV1 hBV2
      replace a0 := keep_cell hB02 a0'
      replace a1 := keep_cell hB02 a1'
      replace hatn := hatn.below hB02
      have hatc := hatx.below hBV2
      have HBV2 : Hid (Below w.heap.size w V2) := below_new HBb.out hB02
      unfold nodeV
      clear hmx hownx hV1 hBV2 hhV2 hB02 hatx a0' a1' hWb hgb
      by_cases hmay : mayB leaf cx = true
      · rw [if_pos hmay] at hatc hmx1
        have hmx2 : mx = 1 := hmx1
        subst hmx2
        obtain ⟨bx, ox, rfl, h1x, hdx⟩ := hatc.at (i := 0) (x := cx) rfl
        have dk := hdx.1
        clear h1x hmx1 hatc
        have hfd := fun W (hW : Below V2.heap.size V2 W) => find_any (leaf := leaf) (hatn.below hW) hok.2 (by have := HN.out; omega) cx.k
        obtain ⟨hfp, hip⟩ := fnd_put leaf (c := cx) hok hmay
        have hokP := putL_ok hok hmay
        have hpa := putL_at L cx
        have hle := fndN_le L cx.k
        have hl2 := putL_len2 L cx
        have hl3 := putL_len3 L cx
        have hdp := drop_put L cx
        obtain ⟨P, hP⟩ : ∃ P, putL L cx = P := ⟨_, rfl⟩
        have hpt := fun (W : World) (hW : Below V2.heap.size V2 W) => put_any (leaf := leaf) (hatn.below hW) hok.2 (by have := HN.out; omega) cx
        rw [hP] at hfp hip hokP hpa hl2 hl3 hdp hpt
        obtain ⟨N, hN⟩ : ∃ N, fndN L cx.k = N := ⟨_, rfl⟩
        obtain ⟨A, hA⟩ : ∃ A, isAt L cx.k = A := ⟨_, rfl⟩
        rw [hN] at hfp hpa hle hdp
        rw [hA] at hl2 hl3 hdp
        rw [hN, hA] at hfd
        have HP : Hid ((fndN P cx.k = N ∧ isAt P cx.k = true) ∧ OkL leaf P ∧ P[N]? = some cx ∧ (A = false → P.length = L.length + 1) ∧ (A = true → P.length = L.length) ∧ (A = false → dropL P (N : Nat) = L)) := ⟨⟨hfp, hip⟩, hokP, hpa, hl2, hl3, hdp⟩
        have hNi : (N : Int) ≤ 60 := by have := HN.out; omega
        clear hfp hip hokP hpa hl2 hl3 hdp hP hN hA hle hmay
        go_wp2_with fail
        refine wp_region_class (fun W => Below V2.heap.size V2 W) mixedP (by kernel_rfl) (Below.refl _ _).drew ?_
        refine wpQ_ld rfl _ _ rfl rfl (fun W hW => ldNode (keep_cell hW a0) (keep_cell hW a1)) ?_
        go_frame
        go_big_quiet_step (exact fun _ => rfl)
        refine wpQ_ld rfl _ _ rfl rfl (fun W hW => ldRow (keep_cell hW e1)) ?_
        go_frame
        go_big_quiet_step (exact fun _ => rfl)
        go_big_quiet_step (exact fun _ => rfl)
        refine wpQ_ld rfl _ _ rfl rfl (fun W hW => ldStr (keep_cell hW dk)) ?_
        go_frame
        refine wpQ_call rfl 21 #[nodeV leaf (.slice p n c), .string cx.k] (fun _ => by go_simp) (.tuple #[.int .i64 (N : Nat), .bool A]) (fun W hW => (hfd W hW).mono fun e w' h => ⟨h.1, below_new hW h.2⟩) ?_
        go_frame
        go_big_quiet_step (exact fun _ => rfl)
        go_big_quiet_step (exact fun _ => rfl)
        go_big_quiet_step (exact fun _ => rfl)
        go_big_quiet_step (exact fun _ => rfl)
        go_big_quiet_step (exact fun _ => rfl)
        refine wpQuiet_nil ?_
        intro W6 hB6
        show Exit.then _ _ Exit.normal _ _
        simp only [Exit.then]
        go_at_K
        have HB6 : Hid (Below V2.heap.size V2 W6) := hB6
        replace a0 := keep_cell hB6 a0
        replace a1 := keep_cell hB6 a1
        replace e0 := keep_cell hB6 e0
        replace e1 := keep_cell hB6 e1
        replace hdx := hdx.below hB6
        replace hatn := hatn.below hB6
        replace dk := keep_cell hB6 dk
        replace hpt := fun W hW => hpt W (below_new HB6.out hW)
        clear hB6 hfd
        go_wp2_with fail
        refine wp_then_G (ι := Nat × Option Addr × Nat × Nat) (fun i a => ((((((((a.put (some 66) (.agg #[.bool leaf, .slice p n c])).put (some 67) (.pointer (some ⟨g12, 1, none⟩))).put (some 68) (.slice (some ⟨bx, ox, none⟩) 1 cx1)).put (some 69) (.pointer (some ⟨bx, ox, none⟩))).put (some 70) (cla cx)).put (some 71) (.agg #[.bool leaf, .slice i.2.1 i.2.2.1 i.2.2.2])).put (some 15) (.pointer (some ⟨i.1, 0, none⟩))))) (fun i W => Below W6.heap.size W6 W ∧ Holds W i.1 24 #[.bool leaf, .slice i.2.1 i.2.2.1 i.2.2.2] ∧ CellsAt W (.slice i.2.1 i.2.2.1 i.2.2.2) P) ?_ ?_
        · go_frame
          refine wp_region_tree (fun W => Below W6.heap.size W6 W) [0, 1, 2, 3, 4] (.two 5 (.one 6 (.one 7 .nil)) 6 (.one 5 (.one 7 .nil))) mixedP (by kernel_rfl) rfl (by kernel_rfl) (fun _ _ _ d _ h => by cases d <;> exact h) (Below.refl _ _).drew ?_
          refine tk_ld (some 66) rfl rfl rfl _ _ rfl rfl (fun W hW => ldNode (keep_cell hW a0) (keep_cell hW a1)) ?_
          go_frame
          refine tk_val (some 67) rfl rfl rfl (.pointer (some ⟨g12, 1, none⟩)) (fun _ => by go_simp) ?_
          go_frame
          refine tk_ld (some 68) rfl rfl rfl _ _ rfl rfl (fun W hW => ldRow (keep_cell hW e1)) ?_
          go_frame
          refine tk_val (some 69) rfl rfl rfl (.pointer (some ⟨bx, ox, none⟩)) (fun _ => by go_simp) ?_
          go_frame
          refine tk_ld (some 70) rfl rfl rfl _ _ rfl rfl (fun W hW => ldCell (hdx.below hW)) ?_
          go_frame
          refine tk_nil ?_
          refine ⟨?_, ?_⟩
          · refine op_call (some 71) rfl rfl rfl (f := 27) (vs := #[nodeV leaf (.slice p n c), cla cx]) (by go_simp) ?_
            refine (hpt W6.drew (Below.refl _ _).drew).mono ?_
            rintro e Y1 ⟨u1, rfl, hownu, hY1⟩
            have hY1' : Below W6.heap.size W6 Y1 := below_drewL hY1
            refine ⟨_, rfl, hY1', ?_⟩
            obtain ⟨p9, m9, c9, rfl, hm9, hat9⟩ := shape2 hownu
            unfold nodeV
            go_frame
            obtain ⟨Y2, gz, hY2, hgz, hB2, hh2, _, _⟩ := box_node Y1 false (.slice none 0 0)
            refine op_val (some 15) rfl rfl rfl (v := .pointer (some ⟨gz, 0, none⟩)) (w' := Y2) (by go_simp <;> first | exact ⟨hgz, hY2⟩ | exact hY2) ?_
            refine ⟨below_new hY1' hB2, ?_⟩
            go_frame
            refine op_storeH none rfl rfl rfl 24 _ _ rfl gz _ rfl rfl 24 _ hh2 infoNode2 rfl (by simp [Value.oneCell']) ?_
            intro Y3 hH3 hO3 hs3
            have hB3 : Below W6.heap.size W6 Y3 := Only.fresh (below_new hY1' hB2) hO3 (by rw [← hgz]; exact hY1'.size)
            refine ⟨hB3, ?_⟩
            go_frame
            exact ⟨(gz, p9, m9, c9), rfl, hB3, hH3, cells_only hat9 hB2 hO3 (by omega)⟩
          · obtain ⟨Y2, gz, hY2, hgz, hB2, hh2, _, _⟩ := box_node W6.drew false (.slice none 0 0)
            have hB2' : Below W6.heap.size W6 Y2 := below_drewL hB2
            refine op_val (some 15) rfl rfl rfl (v := .pointer (some ⟨gz, 0, none⟩)) (w' := Y2) (by go_simp <;> first | exact ⟨hgz, hY2⟩ | exact hY2) ?_
            refine ⟨hB2', ?_⟩
            go_frame
            refine op_call (some 71) rfl rfl rfl (f := 27) (vs := #[nodeV leaf (.slice p n c), cla cx]) (by go_simp) ?_
            refine (hpt Y2 hB2').mono ?_
            rintro e Y1 ⟨u1, rfl, hownu, hY1⟩
            refine ⟨_, rfl, below_new hB2' hY1, ?_⟩
            have hgzl := hh2.lt
            obtain ⟨p9, m9, c9, rfl, hm9, hat9⟩ := shape2 hownu
            unfold nodeV
            go_frame
            refine op_storeH none rfl rfl rfl 24 _ _ rfl gz _ rfl rfl 24 _ (below_holds hY1 hh2) infoNode2 rfl (by simp [Value.oneCell']) ?_
            intro Y3 hH3 hO3 hs3
            have hB3 : Below W6.heap.size W6 Y3 := Only.fresh (below_new hB2' hY1) hO3 (by rw [← hgz]; exact Nat.le_refl _)
            refine ⟨hB3, ?_⟩
            go_frame
            exact ⟨(gz, p9, m9, c9), rfl, hB3, hH3, (own_only hownu hO3 hgzl).at⟩
        · rintro ⟨gz, p9, m9, c9⟩ V7 ⟨hV7, hH7, hat7⟩
          dsimp only at hH7 hat7
          go_frame
          replace a0 := keep_cell hV7 a0
          replace a1 := keep_cell hV7 a1
          replace e1 := keep_cell hV7 e1
          replace hdx := hdx.below hV7
          replace dk := keep_cell hV7 dk
          replace hatn := hatn.below hV7
          have f0 : V7.cell? ⟨gz, 0, none⟩ = some (.bool leaf) := hH7.cell 0
          have f1 : V7.cell? ⟨gz, 1, none⟩ = some (.slice p9 m9 c9) := hH7.cell 1
          have HBV7 : Hid (Below w.heap.size w V7) := below_new HBV2.out (below_new HB6.out hV7)
          have hm9 : m9 = P.length := hat7.cap.1
          have hPl : P.length ≤ 61 := by
            have h1 := HP.out.2.2.2.1
            have h2 := HP.out.2.2.2.2.1
            have h3 := HN.out
            cases A with
            | true => have := h2 rfl; omega
            | false => have := h1 rfl; omega
          have hfd2 := fun W (hW : Below V7.heap.size V7 W) => find_any (leaf := leaf) (hat7.below hW) HP.out.2.1.2 (by omega) cx.k
          rw [HP.out.1.1, HP.out.1.2] at hfd2
          clear hpt hV7 hH7 e0
          obtain ⟨bp, op, hbp, h1p, hdp⟩ := hat7.at HP.out.2.2.1
          subst hbp
          have HM : Hid (m9 = P.length) := hm9
          have hNm : (N : Int) < m9 := by have := (List.getElem?_eq_some_iff.1 HP.out.2.2.1).1; omega
          clear h1p hm9
          unfold cla
          go_at_K
          go_wp2_with fail
          refine wp_region_class (fun W => Below V7.heap.size V7 W) mixedP (by kernel_rfl) (Below.refl _ _).drew ?_
          refine wpQ_ld rfl _ _ rfl rfl (fun W hW => ldNode (keep_cell hW f0) (keep_cell hW f1)) ?_
          go_frame
          go_big_quiet_step (exact fun _ => rfl)
          refine wpQ_ld rfl _ _ rfl rfl (fun W hW => ldRow (keep_cell hW e1)) ?_
          go_frame
          go_big_quiet_step (exact fun _ => rfl)
          go_big_quiet_step (exact fun _ => rfl)
          refine wpQ_ld rfl _ _ rfl rfl (fun W hW => ldStr (keep_cell hW dk)) ?_
          go_frame
          refine wpQ_call rfl 21 #[nodeV leaf (.slice (some ⟨bp, op, none⟩) m9 c9), .string cx.k] (fun _ => by go_simp) (.tuple #[.int .i64 (N : Nat), .bool true]) (fun W hW => (hfd2 W hW).mono fun e w' h => ⟨h.1, below_new hW h.2⟩) ?_
          go_frame
          go_big_quiet_step (exact fun _ => rfl)
          go_big_quiet_step (exact fun _ => rfl)
          go_big_quiet_step (exact fun _ => rfl)
          go_big_quiet_step (exact fun _ => rfl)
          go_big_quiet_step (exact fun _ => rfl)
          refine wpQuiet_nil ?_
          intro V8 hB8
          show Exit.then _ _ Exit.normal _ _
          simp only [Exit.then]
          go_at_K
          have HB8 : Hid (Below V7.heap.size V7 V8) := hB8
          replace a0 := keep_cell hB8 a0
          replace a1 := keep_cell hB8 a1
          replace e1 := keep_cell hB8 e1
          replace f0 := keep_cell hB8 f0
          replace f1 := keep_cell hB8 f1
          replace hdx := hdx.below hB8
          replace hdp := hdp.below hB8
          replace hatn := hatn.below hB8
          replace hat7 := hat7.below hB8
          have heq := fun w => eql_cl w cx
          have hgd := guardCl
          clear hB8 hfd2 dk
          go_wp2_with fail
          cases A with
          | false =>
            have hmn : m9 = n + 1 := by have h1 := HP.out.2.2.2.1 rfl; have h2 := HN.out; have h3 := HM.out; omega
            have hmni : ((m9 : Int) != (n : Int) + 1) = false := by rw [hmn]; simp
            have HDR : Hid (dropL P (N : Nat) = L) := HP.out.2.2.2.2.2 rfl
            have hwr : IntKind.i64.wrap ((n : Int) + 1) = (n : Int) + 1 := by rw [IntKind.wrap_i64]; omega
            clear hmn
            refine wp_region_class (fun W => Below V8.heap.size V8 W) mixedP (by kernel_rfl) (Below.refl _ _).drew ?_
            go_big_quiet_step (exact fun _ => rfl)
            refine wpQ_val rfl (.bool false) (fun _ => by go_simp) ?_
            go_frame
            go_big_quiet_step (exact fun _ => rfl)
            go_big_quiet_step (exact fun _ => rfl)
            refine wpQ_ld rfl _ _ rfl rfl (fun W hW => ldRow (keep_cell hW f1)) ?_
            go_frame
            go_big_quiet_step (exact fun _ => rfl)
            go_big_quiet_step (exact fun _ => rfl)
            refine wpQ_ld rfl _ _ rfl rfl (fun W hW => ldCell (hdp.below hW)) ?_
            go_frame
            go_big_quiet_step (exact fun _ => rfl)
            refine wpQ_ld rfl _ _ rfl rfl (fun W hW => ldRow (keep_cell hW e1)) ?_
            go_frame
            go_big_quiet_step (exact fun _ => rfl)
            refine wpQ_ld rfl _ _ rfl rfl (fun W hW => ldCell (hdx.below hW)) ?_
            go_frame
            refine wpQ_val rfl (.bool false) (fun _ => by unfold cla; go_simp) ?_
            go_frame
            go_big_quiet_step (exact fun _ => rfl)
            go_big_quiet_step (exact fun _ => rfl)
            go_big_quiet_step (exact fun _ => rfl)
            refine wpQ_ld rfl _ _ rfl rfl (fun W hW => ldRow (keep_cell hW f1)) ?_
            go_frame
            go_big_quiet_step (exact fun _ => rfl)
            go_big_quiet_step (exact fun _ => rfl)
            refine wpQ_ld rfl _ _ rfl rfl (fun W hW => ldRow (keep_cell hW a1)) ?_
            go_frame
            go_big_quiet_step (exact fun _ => rfl)
            refine wpQ_val rfl (.int .i64 ((n : Int) + 1)) (fun _ => by go_simp) ?_
            go_frame
            refine wpQ_val rfl (.bool false) (fun _ => by go_simp) ?_
            go_frame
            go_big_quiet_step (exact fun _ => rfl)
            go_big_quiet_step (fail)
            go_big_quiet_step (fail)
            go_big_quiet_step (exact fun _ => rfl)
            go_big_quiet_step (exact fun _ => rfl)
            refine wpQuiet_nil ?_
            intro V9 hB9
            show Exit.then _ _ Exit.normal _ _
            simp only [Exit.then]
            go_at_K
            have HB9 : Hid (Below V8.heap.size V8 V9) := hB9
            replace a0 := keep_cell hB9 a0
            replace a1 := keep_cell hB9 a1
            replace f0 := keep_cell hB9 f0
            replace f1 := keep_cell hB9 f1
            replace hatn := hatn.below hB9
            replace hat7 := hat7.below hB9
            have HBV9 : Hid (Below w.heap.size w V9) := below_new HBV7.out (below_new HB8.out hB9)
            clear hB9 heq
            go_wp2_with fail
            refine wp_region_tree (fun W => Below V9.heap.size V9 W) [0, 1, 3] (.one 2 (.one 4 (.one 5 .nil))) mixedP (by kernel_rfl) rfl (by kernel_rfl) (fun _ _ _ d _ h => by cases d <;> exact h) (Below.refl _ _).drew ?_
            refine tk_ld (some 110) rfl rfl rfl _ _ rfl rfl (fun W hW => ldNode (keep_cell hW f0) (keep_cell hW f1)) ?_
            go_frame
            refine tk_val (some 111) rfl rfl rfl (.int .i64 (N : Nat)) (fun _ => by go_simp) ?_
            go_frame
            refine tk_ld (some 113) rfl rfl rfl _ _ rfl rfl (fun W hW => ldNode (keep_cell hW a0) (keep_cell hW a1)) ?_
            go_frame
            refine tk_nil ?_
            have hdr := drop_any (w := V9.drew) (leaf := leaf) (v := .slice (some ⟨bp, op, none⟩) m9 c9) (L := P) hat7 (by omega) (N : Nat)
            refine op_call (some 112) rfl rfl rfl (f := 23) (vs := #[nodeV leaf (.slice (some ⟨bp, op, none⟩) m9 c9), .int .i64 (N : Nat)]) (by go_simp) ?_
            refine hdr.mono ?_
            rintro e Ya ⟨ud, rfl, hownd, hYa'⟩
            have hYa : Below V9.heap.size V9 Ya := below_drewL hYa'
            refine ⟨_, rfl, hYa, ?_⟩
            obtain ⟨pd, md, cd, rfl, hmd, hatd⟩ := shape2 hownd
            clear hdr hYa' hmd hatd
            go_frame
            have hsm2 := qsame_eq (leaf := leaf) (L := L) (by have := hownd.at; rw [HDR.out] at this; exact this) (hatn.below hYa) (by have := HN.out; omega)
            refine op_call (some 114) rfl rfl rfl (f := 19) (vs := #[nodeV leaf (.slice pd md cd), nodeV leaf (.slice p n c)]) (by go_simp) ?_
            refine hsm2.mono ?_
            rintro e Yb ⟨rfl, hYb⟩
            have hYab := below_new hYa hYb
            refine ⟨_, rfl, hYab, ?_⟩
            unfold nodeV
            go_frame
            refine op_val (some 18) rfl rfl rfl (v := .bool true) (w' := Yb) (by go_simp) ?_
            refine ⟨hYab, ?_⟩
            go_frame
            have HBe : Hid (Below w.heap.size w Yb) := below_new HBV9.out hYab
            clear hYab hYb hYa hownd hsm2
            refine then_normalE ?_
            go_at_K
            go_wp2_with fail
            go_ret
            exact ⟨rfl, HBe.out⟩
          | true =>
            have hmn : m9 = n := by have h1 := HP.out.2.2.2.2.1 rfl; have h2 := HN.out; have h3 := HM.out; omega
            have hmni : ((m9 : Int) != (n : Int) + 1) = true := by rw [hmn]; simp; omega
            have hwr : IntKind.i64.wrap ((n : Int) + 1) = (n : Int) + 1 := by rw [IntKind.wrap_i64]; omega
            have HMN : Hid (m9 = n) := hmn
            clear hmn
            refine wp_region_class (fun W => Below V8.heap.size V8 W) mixedP (by kernel_rfl) (Below.refl _ _).drew ?_
            go_big_quiet_step (exact fun _ => rfl)
            refine wpQ_val rfl (.bool false) (fun _ => by go_simp) ?_
            go_frame
            go_big_quiet_step (exact fun _ => rfl)
            go_big_quiet_step (exact fun _ => rfl)
            refine wpQ_ld rfl _ _ rfl rfl (fun W hW => ldRow (keep_cell hW f1)) ?_
            go_frame
            go_big_quiet_step (exact fun _ => rfl)
            go_big_quiet_step (exact fun _ => rfl)
            refine wpQ_ld rfl _ _ rfl rfl (fun W hW => ldCell (hdp.below hW)) ?_
            go_frame
            go_big_quiet_step (exact fun _ => rfl)
            refine wpQ_ld rfl _ _ rfl rfl (fun W hW => ldRow (keep_cell hW e1)) ?_
            go_frame
            go_big_quiet_step (exact fun _ => rfl)
            refine wpQ_ld rfl _ _ rfl rfl (fun W hW => ldCell (hdx.below hW)) ?_
            go_frame
            refine wpQ_val rfl (.bool false) (fun _ => by unfold cla; go_simp) ?_
            go_frame
            go_big_quiet_step (exact fun _ => rfl)
            go_big_quiet_step (exact fun _ => rfl)
            go_big_quiet_step (exact fun _ => rfl)
            refine wpQ_ld rfl _ _ rfl rfl (fun W hW => ldRow (keep_cell hW f1)) ?_
            go_frame
            go_big_quiet_step (exact fun _ => rfl)
            go_big_quiet_step (exact fun _ => rfl)
            refine wpQ_ld rfl _ _ rfl rfl (fun W hW => ldRow (keep_cell hW a1)) ?_
            go_frame
            go_big_quiet_step (exact fun _ => rfl)
            refine wpQ_val rfl (.int .i64 ((n : Int) + 1)) (fun _ => by go_simp) ?_
            go_frame
            refine wpQ_val rfl (.bool true) (fun _ => by go_simp) ?_
            go_frame
            go_big_quiet_step (exact fun _ => rfl)
            go_big_quiet_step (exact fun _ => rfl)
            refine wpQ_val rfl (.bool false) (fun _ => by go_simp) ?_
            go_frame
            go_big_quiet_step (exact fun _ => rfl)
            go_big_quiet_step (exact fun _ => rfl)
            refine wpQuiet_nil ?_
            intro V9 hB9
            show Exit.then _ _ Exit.normal _ _
            simp only [Exit.then]
            go_at_K
            have HB9 : Hid (Below V8.heap.size V8 V9) := hB9
            replace a0 := keep_cell hB9 a0
            replace a1 := keep_cell hB9 a1
            replace f0 := keep_cell hB9 f0
            replace f1 := keep_cell hB9 f1
            replace hatn := hatn.below hB9
            replace hat7 := hat7.below hB9
            have HBV9 : Hid (Below w.heap.size w V9) := below_new HBV7.out (below_new HB8.out hB9)
            clear hB9 heq
            go_wp2_with fail
            refine wp_region_tree (fun W => Below V9.heap.size V9 W) [0, 1, 3] (.one 2 (.one 4 (.one 5 .nil))) mixedP (by kernel_rfl) rfl (by kernel_rfl) (fun _ _ _ d _ h => by cases d <;> exact h) (Below.refl _ _).drew ?_
            refine tk_ld (some 110) rfl rfl rfl _ _ rfl rfl (fun W hW => ldNode (keep_cell hW f0) (keep_cell hW f1)) ?_
            go_frame
            refine tk_val (some 111) rfl rfl rfl (.int .i64 (N : Nat)) (fun _ => by go_simp) ?_
            go_frame
            refine tk_ld (some 113) rfl rfl rfl _ _ rfl rfl (fun W hW => ldNode (keep_cell hW a0) (keep_cell hW a1)) ?_
            go_frame
            refine tk_nil ?_
            have hdr := drop_any (w := V9.drew) (leaf := leaf) (v := .slice (some ⟨bp, op, none⟩) m9 c9) (L := P) hat7 (by omega) (N : Nat)
            refine op_call (some 112) rfl rfl rfl (f := 23) (vs := #[nodeV leaf (.slice (some ⟨bp, op, none⟩) m9 c9), .int .i64 (N : Nat)]) (by go_simp) ?_
            refine hdr.mono ?_
            rintro e Ya ⟨ud, rfl, hownd, hYa'⟩
            have hYa : Below V9.heap.size V9 Ya := below_drewL hYa'
            refine ⟨_, rfl, hYa, ?_⟩
            obtain ⟨pd, md, cd, rfl, hmd, hatd⟩ := shape2 hownd
            clear hdr hYa' hmd hatd
            go_frame
            have hsm2 := qsame_len (leaf := leaf) hownd.at (hatn.below hYa) (by have h1 := dropL_len (L := P) (k := N) (List.getElem?_eq_some_iff.1 HP.out.2.2.1).1; have h2 := HN.out; have h3 := HM.out; have h4 := HMN.out; omega)
            refine op_call (some 114) rfl rfl rfl (f := 19) (vs := #[nodeV leaf (.slice pd md cd), nodeV leaf (.slice p n c)]) (by go_simp) ?_
            refine hsm2.mono ?_
            rintro e Yb ⟨rfl, hYb⟩
            have hYab := below_new hYa hYb
            refine ⟨_, rfl, hYab, ?_⟩
            unfold nodeV
            go_frame
            refine op_val (some 18) rfl rfl rfl (v := .bool false) (w' := Yb) (by go_simp) ?_
            refine ⟨hYab, ?_⟩
            go_frame
            have HBe : Hid (Below w.heap.size w Yb) := below_new HBV9.out hYab
            clear hYab hYb hYa hownd hsm2
            refine then_normalE ?_
            go_at_K
            go_wp2_with fail
            go_ret
            exact ⟨rfl, HBe.out⟩
      · rw [if_neg hmay] at hatc hmx1
        have hmx2 : mx = 0 := hmx1
        subst hmx2
        clear hmay hmx1
        go_wp2_with fail
        go_ret
        exact ⟨rfl, HBV2.out⟩
end Go.Proofs.Ythcdifkjkjfnlaa
