/-
  NodeSplits' walk.
-/
import Derived.Test.YtdgfjaidnedaiaaEQSplW
namespace Go.Proofs.Ytdgfjaidnedaiaa
open Go Go.RowKit Go.Lib

theorem fieldN (leaf : Bool) (p : Option Addr) (n c : Nat) (w : World) : (Instr.field 24 (.agg #[.bool leaf, .slice p n c]) 1).run Try.prog w = .ok (.slice p n c) w := by
  simp [Instr.field, go_sem, asAgg]
theorem dropL_zero {L : List Cl} {k : Nat} (h : k < L.length) : dropL (L.drop k) 0 = L.drop (k + 1) := by
  unfold dropL
  rw [if_pos ⟨by omega, by rw [List.length_drop]; omega⟩]
  show List.take 0 _ ++ List.drop 1 _ = _
  rw [List.take_zero, List.nil_append, List.drop_drop]
theorem Short.drop {m : Nat} {L : List Cl} (h : Short m L) (k : Nat) : Short m (L.drop k) := fun c hc => h c (List.mem_of_mem_drop hc)
/-- How long the row of a node in memory is. -/
def lenC (w : World) (g : Nat) : Nat := match w.cell? ⟨g, 1, none⟩ with
  | some (.slice _ n _) => n
  | _ => 0
theorem lenC_of {w : World} {g n c : Nat} {p : Option Addr} (h : w.cell? ⟨g, 1, none⟩ = some (.slice p n c)) : lenC w g = n := by unfold lenC; rw [h]
/-- Nodes in a block. -/
def NodesB (w : World) (b : Nat) (leaf : Bool) (Ls : List (List Cl)) : Prop := ∀ (i : Nat) L, Ls[i]? = some L → ∃ p c, w.cell? ⟨b, i * 2, none⟩ = some (.bool leaf) ∧ w.cell? ⟨b, i * 2 + 1, none⟩ = some (.slice p L.length c) ∧ CellsAt w (.slice p L.length c) L
theorem NodesAt.shape {w : World} {v : Value} {leaf : Bool} {Ls : List (List Cl)} (h : NodesAt w v leaf Ls) : ∃ b, v = .slice (some ⟨b, 0, none⟩) Ls.length Ls.length ∧ NodesB w b leaf Ls := by
  obtain ⟨b, h1, h2⟩ := h
  exact ⟨b, h1, h2⟩
theorem NodesB.below {w w' : World} {b : Nat} {leaf : Bool} {Ls : List (List Cl)} (h : NodesB w b leaf Ls) (hB : Below w.heap.size w w') : NodesB w' b leaf Ls := fun i L hL => by
  obtain ⟨p, c, q1, q2, q3⟩ := h i L hL
  exact ⟨p, c, keep_cell hB q1, keep_cell hB q2, q3.below hB⟩
theorem sum_step {Ls : List (List Cl)} {i : Nat} {X : List Cl} (h : Ls[i]? = some X) : ((Ls.take (i + 1)).map List.length).sum = ((Ls.take i).map List.length).sum + X.length := by
  rw [List.take_add_one, h]; simp
set_option maxRecDepth 8000 in
set_option maxHeartbeats 4000000 in
theorem splits_walk {w : World} {leaf : Bool} {v : Value} {l : List Cl} (hv : CellsAt w v l) (cx : Cl) : Calls Try.prog 5 #[.bool leaf, v, cla cx] w fun e w' => e = .returned (.bool true) ∧ Below w.heap.size w w' := by
  have hnot := run_notE
  obtain ⟨W0, g5, hW0, hg5, hB0, hq0⟩ := box_cell w cx
  have haw := awake_any W0
  have hmd := fun W (hW : Below w.heap.size w W) => made9_any (leaf := leaf) (hv.below hW)
  obtain ⟨p0, c0, rfl⟩ := hv.shape
  generalize l.length = n0 at *
  obtain ⟨hok, hlen⟩ := madeL_ok leaf l
  obtain ⟨L, hL⟩ : ∃ L, madeL leaf l = L := ⟨_, rfl⟩
  rw [hL] at hmd hok hlen
  clear hL hv
  unfold cla
  go_enter Try.func5, Try.ntmps5
  go_wp2_with fail
  refine haw.mono ?_
  rintro e W1 ⟨rfl, hB1⟩
  have hBw1 := below_new hB0 hB1
  replace hq0 := hq0.below hB1
  replace hmd := hmd W1 hBw1
  clear haw hB0 hB1
  go_wp2_with fail
  refine hmd.mono ?_
  rintro e W2 ⟨v2, rfl, hown2, hB2⟩
  obtain ⟨p, n, c, rfl, hn, hat2⟩ := shape2 hown2
  obtain ⟨W3, g8, hW3, hg8, hB3, hh3, a0, a1⟩ := box_node W2 leaf (.slice p n c)
  have hat3 := hat2.below hB3
  have HN : Hid (L.length = n) := hn.symm
  have hq2 := hq0.below hB2
  have hB13 := below_new hB2 hB3
  replace hq0 := hq0.below hB13
  have HBw3 : Hid (Below w.heap.size w W3) := below_new hBw1 hB13
  have hni : (n : Int) ≤ 60 := by omega
  have HC8 : Hid (∀ W6, Only g8 W3 W6 → CellsAt W6 (.slice p n c) L) := fun W6 hO => cells_only hat2 hB3 hO (Nat.le_of_eq hg8)
  have HG : Hid (Holds W3 g8 24 #[.bool leaf, .slice p n c] ∧ g5 ≠ g8 ∧ w.heap.size ≤ g8 ∧ g8 < W3.heap.size) := ⟨hh3, by have := World.block_lt_of_cell? _ _ hq2.1; simp only at this; omega, by have := hBw1.size; have := hB2.size; omega, hh3.lt⟩
  have HO : Hid (OkL leaf L) := hok
  have hsp := split_any (leaf := leaf) hat3 (by omega) (hok.short.mono (by omega))
  unfold nodeV at hsp ⊢
  clear hmd hown2 hB2 hB3 hh3 hat2 hn hB13 hBw1 hq2 hok
  go_wp2_with fail
  refine hsp.mono ?_
  rintro e W4 ⟨u4, rfl, hPn, hB4⟩
  obtain ⟨bp, rfl, hP⟩ := hPn.shape
  clear hPn
  have hqs := qsplit_any (leaf := leaf) (hat3.below hB4) (by have := HN.out; omega) (HO.out.short.mono (by omega))
  replace a0 := keep_cell hB4 a0
  replace a1 := keep_cell hB4 a1
  unfold nodeV at hqs
  clear hsp
  go_wp2_with fail
  refine hqs.mono ?_
  rintro e W5 ⟨u5, rfl, hQn, hB5⟩
  obtain ⟨bq, rfl, hQ⟩ := hQn.shape
  clear hQn
  replace hP := hP.below hB5
  replace a0 := keep_cell hB5 a0
  replace a1 := keep_cell hB5 a1
  have HB5 : Hid (Below W3.heap.size W3 W5) := below_new hB4 hB5
  replace hq0 := hq0.below HB5.out
  replace hat3 := hat3.below HB5.out
  clear hqs hB4 hB5
  have hcs := splL_cases leaf L
  have htw := fun A B => splL_two (leaf := leaf) (P := L) (A := A) (B := B)
  obtain ⟨Ls, hLs⟩ : ∃ Ls, splL leaf L = Ls := ⟨_, rfl⟩
  rw [hLs] at hP hQ hcs htw ⊢
  have HL1 : Hid (∀ (i : Nat) X, Ls[i]? = some X → X.length ≤ 60) := fun i X hX => by
    rcases hcs with h1 | ⟨A, B, h2⟩
    · rw [h1] at hX
      match i with
      | 0 => simp at hX; subst hX; have := HN.out; omega
      | i + 1 => simp at hX
    · have h3 := (htw A B h2).1
      have h4 : A.length + B.length = n := by have := HN.out; rw [← this, ← h3, List.length_append]
      rw [h2] at hX
      match i with
      | 0 => simp at hX; subst hX; omega
      | 1 => simp at hX; subst hX; omega
      | i + 2 => simp at hX
  obtain ⟨N, hN⟩ : ∃ N, Ls.length = N := ⟨_, rfl⟩
  have HLs : Hid (Ls.length = N) := hN
  rw [hN]
  have hN2 : N ≤ 2 := by
    rw [← hN]
    rcases hcs with h1 | ⟨A, B, h2⟩
    · rw [h1]; simp
    · rw [h2]; simp
  have hNi : (N : Int) ≤ 2 := by omega
  have hNN : ((N : Int) != (N : Int)) = false := by simp
  have HCS : Hid ((Ls = [L] ∨ ∃ A B, Ls = [A, B]) ∧ ∀ A B, Ls = [A, B] → A ++ B = L ∧ 0 < A.length ∧ 0 < B.length) := ⟨hcs, htw⟩
  have HPQ : Hid (NodesB W5 bp leaf Ls ∧ NodesB W5 bq leaf Ls) := ⟨hP, hQ⟩
  clear hcs htw hN hLs hP hQ
  go_wp2_with fail
  clear hNN
  go_loopw [11] (fun y wr => ∃ i : Nat, y = .int .i64 (i : Nat) ∧ i ≤ N ∧ Below W5.heap.size W5 wr) (fun y _ => N - (intOf y).toNat)
  case atStart => exact ⟨0, rfl, Nat.zero_le _, Below.refl _ _⟩
  case round =>
    obtain ⟨i, rfl, hi, hB⟩ := hrel
    have HB : Hid (Below W5.heap.size W5 wr) := hB
    replace a0 := keep_cell hB a0
    replace a1 := keep_cell hB a1
    replace hq0 := hq0.below hB
    replace hat3 := hat3.below hB
    have HPw : Hid (NodesB wr bp leaf Ls ∧ NodesB wr bq leaf Ls) := ⟨HPQ.out.1.below hB, HPQ.out.2.below hB⟩
    clear hB
    by_cases hin : i < N
    · have hii : (i : Int) < N := by omega
      have hi0 : (0 : Int) ≤ i := by omega
      obtain ⟨X, hX⟩ : ∃ X, Ls[i]? = some X := ⟨_, List.getElem?_eq_getElem (by have := HLs.out; omega)⟩
      obtain ⟨pp, cp, f0, f1, hfp⟩ := HPw.out.1 i X hX
      obtain ⟨pq, cq, k0, k1, hfq⟩ := HPw.out.2 i X hX
      have hXl := HL1.out i X hX
      have hsm := fun W (hW : Below wr.heap.size wr W) => qsame_eq (leaf := leaf) (hfp.below hW) (hfq.below hW) (by omega)
      clear hX hfp hfq
      generalize X.length = nx at f1 k1 hsm hXl
      go_wp2_with fail
      refine wp_region_class (fun W => Below wr.heap.size wr W) mixedP (by kernel_rfl) (Below.refl _ _).drew ?_
      go_big_quiet_step (exact fun _ => rfl)
      go_big_quiet_step (exact fun _ => rfl)
      refine wpQ_val rfl (.pointer (some ⟨bp, i * 2, none⟩)) (fun _ => by go_simp) ?_
      go_frame
      refine wpQ_ld rfl _ _ rfl rfl (fun W hW => ldNode (keep_cell hW f0) (keep_cell hW f1)) ?_
      go_frame
      go_big_quiet_step (exact fun _ => rfl)
      go_big_quiet_step (exact fun _ => rfl)
      refine wpQ_val rfl (.pointer (some ⟨bq, i * 2, none⟩)) (fun _ => by go_simp) ?_
      go_frame
      refine wpQ_ld rfl _ _ rfl rfl (fun W hW => ldNode (keep_cell hW k0) (keep_cell hW k1)) ?_
      go_frame
      refine wpQ_call rfl 19 #[nodeV leaf (.slice pp nx cp), nodeV leaf (.slice pq nx cq)] (fun _ => by go_simp) (.bool true) (fun W hW => (hsm W hW).mono fun e w' h => ⟨h.1, below_new hW h.2⟩) ?_
      go_frame
      go_big_quiet_step (exact fun _ => rfl)
      refine wpQuiet_nil ?_
      intro W6 hB6
      show Exit.then _ _ Exit.normal _ _
      simp only [Exit.then]
      go_at_K
      go_wp2_with fail
      exact ⟨⟨i + 1, by go_num, by omega, below_new HB.out hB6⟩, by simp [intOf]; omega⟩
    · have hii : ¬ (i : Int) < N := by omega
      rcases HCS.out.1 with h1 | ⟨A, B, h2⟩
      · have hN1 : ((N : Int) == 2) = false := by
          have := HLs.out
          rw [h1] at this
          simp at this
          subst this
          rfl
        have HBt : Hid (Below W3.heap.size W3 wr) := below_new HB5.out HB.out
        clear hin h1 hi
        go_wp2_with fail
        clear hN1 a0 a1 hat3
        generalize wr = Wt at *
        have hhT := below_holds HBt.out HG.out.1
        go_loopw [] (fun wr => ∃ (k : Nat) (pu : Option Addr) (mu cu : Nat), mu + k = n ∧ Only g8 Wt wr ∧ Holds wr g8 24 #[.bool leaf, .slice pu mu cu] ∧ Hid (∀ W6, Only g8 wr W6 → CellsAt W6 (.slice pu mu cu) (L.drop k))) (fun wr => lenC wr g8)
        case atStart => exact ⟨0, p, n, c, rfl, Only.refl _ _, hhT, fun W6 hO => HC8.out W6 (((Only.refl g8 W3).below HBt.out).trans hO)⟩
        case round =>
          obtain ⟨k, pu, mu, cu, hmk, hO, hH, HC⟩ := hrel
          have HI : Hid (Only g8 Wt wr ∧ Holds wr g8 24 #[.bool leaf, .slice pu mu cu]) := ⟨hO, hH⟩
          have d0 : wr.cell? ⟨g8, 0, none⟩ = some (.bool leaf) := hH.cell 0
          have d1 : wr.cell? ⟨g8, 1, none⟩ = some (.slice pu mu cu) := hH.cell 1
          have hm60 : (mu : Int) ≤ 60 := by omega
          have hqz := qsize_any (leaf := leaf) (HC.out wr (Only.refl _ _)) (by rw [List.length_drop]; have := HN.out; omega) ((HO.out.short.mono (by omega)).drop k)
          have hqd := fun W (hW : Below wr.heap.size wr W) => qdrop_any (leaf := leaf) (HC.out W ((Only.refl _ _).below hW)) (by rw [List.length_drop]; have := HN.out; omega) 0
          obtain ⟨T, hT⟩ : ∃ T, sizeL leaf (L.drop k) = T := ⟨_, rfl⟩
          have HT : Hid (sizeL leaf (L.drop k) = T) := hT
          rw [hT] at hqz
          have hTb : T ≤ 100000 := by
            rw [← hT]
            have h2 := sizeL_short (leaf := leaf) (HO.out.short.drop k)
            rw [List.length_drop] at h2
            have : (L.length - k) * 410 ≤ 60 * 410 := Nat.mul_le_mul_right _ (by have := HN.out; omega)
            omega
          have hmw := lenC_of d1
          have HMW : Hid (lenC wr g8 = mu) := hmw
          unfold nodeV at hqz hqd
          clear hH hT hmw
          by_cases hz : 0 < mu
          · have hzi : (0 : Int) < mu := by omega
            by_cases hT1 : 1013 < T
            · have hTi : (1013 : Int) < T := by omega
              have HD : Hid (dropL (L.drop k) 0 = L.drop (k + 1)) := dropL_zero (by have := HN.out; omega)
              clear hT1 hTb
              go_wp2_with fail
              refine hqz.mono ?_
              rintro e Z1 ⟨rfl, hZ1⟩
              replace d0 := keep_cell hZ1 d0
              replace d1 := keep_cell hZ1 d1
              replace hqd := hqd Z1 hZ1
              rw [HD.out] at hqd
              clear hqz
              go_wp2_with fail
              refine hqd.mono ?_
              rintro e Z2 ⟨u9, rfl, hown9, hZ2⟩
              obtain ⟨p9, m9, c9, rfl, hm9, hat9⟩ := shape2 hown9
              have hH2 := below_holds (below_new hZ1 hZ2) HI.out.2
              have HZ : Hid (Only g8 Wt Z2 ∧ OwnCells Z2 Z1.heap.size (.slice p9 m9 c9) (L.drop (k + 1)) ∧ g8 < Z1.heap.size ∧ m9 + (k + 1) = n ∧ m9 < mu) := ⟨HI.out.1.below (below_new hZ1 hZ2), hown9, by have := HI.out.2.lt; have := hZ1.size; omega, by rw [hm9, List.length_drop]; have := HN.out; omega, by rw [hm9, List.length_drop]; have := HN.out; omega⟩
              clear hqd hown9 hm9 hat9 hZ1 hZ2 d0 d1
              go_wp2_with ((with_reducible show wpList _ _ _ (Oper.mk _ (Op.store _ _ _) _ _ _ _ :: _) _ _); go_must (refine wpList_storeH rfl 24 _ _ rfl g8 #[.bool leaf, .slice p9 m9 c9] rfl rfl 24 #[.bool leaf, .slice pu mu cu] hH2 infoNode2 rfl (by simp [Value.oneCell']) ?_; intro w10 hH10 hO10 hs10))
              have hms : lenC w10 g8 < lenC wr g8 := by
                rw [HMW.out, lenC_of (hH10.cell 1)]
                exact HZ.out.2.2.2.2
              exact ⟨⟨_, _, _, _, _, _, _, _, _, _, _, ⟨k + 1, p9, m9, c9, HZ.out.2.2.2.1, HZ.out.1.trans hO10, hH10, fun W6 hO6 => (own_only (own_only HZ.out.2.1 hO10 HZ.out.2.2.1) hO6 HZ.out.2.2.1).at⟩, rfl⟩, hms⟩
            · have hTi : ¬ (1013 : Int) < T := by omega
              have HFT : Hid (sizeL leaf (L.drop k) ≤ 1013) := by show _ ≤ _; rw [HT.out]; omega
              clear hT1 hqd
              go_wp2_with fail
              refine hqz.mono ?_
              rintro e Z1 ⟨rfl, hZ1⟩
              replace d0 := keep_cell hZ1 d0
              replace d1 := keep_cell hZ1 d1
              have HZ : Hid (Only g8 Wt Z1 ∧ CellsAt Z1 (.slice pu mu cu) (L.drop k)) := ⟨HI.out.1.below hZ1, HC.out Z1 ((Only.refl _ _).below hZ1)⟩
              clear hqz hZ1 HI HC hTb
              generalize Z1 = Zt at *
              clear HMW HT
              obtain ⟨M, hM⟩ : ∃ M, L.drop k = M := ⟨_, rfl⟩
              have HM : Hid (OkL leaf M ∧ sizeL leaf M ≤ 1013 ∧ M.length ≤ 60) := by
                rw [← hM]
                exact ⟨HO.out.drop k, HFT.out, by rw [List.length_drop]; have := HN.out; omega⟩
              have hatM := HZ.out.2
              rw [hM] at hatM
              have HBz : Hid (Below w.heap.size w Zt) := Only.fresh (below_new HBw3.out HBt.out) HZ.out.1 HG.out.2.2.1
              obtain ⟨x1, x2, x3, x4⟩ := only_cellAt HZ.out.1 hq0 HG.out.2.1
              obtain ⟨Wb, gb, hWb, hgb, hBb, hxb⟩ := box_cell Zt cx
              have hmx := made9_any (leaf := leaf) (one_cl hxb)
              rw [madeL_one] at hmx
              have d0' := keep_cell hBb d0
              have d1' := keep_cell hBb d1
              replace hatM := hatM.below hBb
              have HBb : Hid (Below w.heap.size w Wb) := below_new HBz.out hBb
              clear hBb hxb HBz HZ HFT hM
              go_wp2_with fail
              refine hmx.mono ?_
              rintro e V1 ⟨v1, rfl, hownx, hV1⟩
              obtain ⟨px, mx, cx1, rfl, hmx1, hatx⟩ := shape2 hownx
              obtain ⟨V2, g12, hV2, hg12, hBV2, hhV2, e0, e1⟩ := box_node V1 leaf (.slice px mx cx1)
              have hB02 := below_new hV1 hBV2
              replace d0 := keep_cell hB02 d0'
              replace d1 := keep_cell hB02 d1'
              replace hatM := hatM.below hB02
              have hatc := hatx.below hBV2
              have HBV2 : Hid (Below w.heap.size w V2) := below_new HBb.out hB02
              unfold nodeV
              clear hmx hownx hV1 hBV2 hhV2 hB02 hatx d0' d1' hWb hgb HBb x1 x2 x3 x4
              by_cases hmay : mayB leaf cx = true
              · rw [if_pos hmay] at hatc hmx1
                have hmx2 : mx = 1 := hmx1
                subst hmx2
                obtain ⟨bx, ox, rfl, h1x, hdx⟩ := hatc.at (i := 0) (x := cx) rfl
                clear h1x hmx1 hatc
                have hput := fun (W : World) (hW : Below V2.heap.size V2 W) => put_any (leaf := leaf) (hatM.below hW) HM.out.1.2 (by have := HM.out.2.2; omega) cx
                have hqpt := fun (W : World) (hW : Below V2.heap.size V2 W) => qput_any (leaf := leaf) (hatM.below hW) (by have := HM.out.2.2; omega) cx
                have hpf := parts_fit HM.out.1 HM.out.2.1 hmay
                have hpl := splL_len leaf (putL M cx)
                have hpo := putL_ok HM.out.1 hmay
                have hle := putL_len M cx
                obtain ⟨P, hP⟩ : ∃ P, putL M cx = P := ⟨_, rfl⟩
                rw [hP] at hput hqpt hpf hpl hpo hle
                have hP61 : P.length ≤ 61 := by have := HM.out.2.2; omega
                obtain ⟨Ks, hKs⟩ : ∃ Ks, splL leaf P = Ks := ⟨_, rfl⟩
                have HPF : Hid ((∀ X ∈ Ks, sizeL leaf X ≤ 1013 ∧ OkL leaf X) ∧ (Ks.map List.length).sum = P.length) := by rw [← hKs]; exact ⟨hpf, hpl⟩
                have HPO : Hid (OkL leaf P ∧ P.length ≤ 61 ∧ splL leaf P = Ks) := ⟨hpo, hP61, hKs⟩
                clear hP hpf hpl hpo hle hKs hP61 hmay
                go_wp2_with fail
                refine wp_region_tree (fun W => Below V2.heap.size V2 W) [0, 1, 2, 3, 4] (.one 5 (.one 6 (.one 7 .nil))) mixedP (by kernel_rfl) rfl (by kernel_rfl) (fun _ _ _ d _ h => by cases d <;> exact h) (Below.refl _ _).drew ?_
                refine tk_ld (some 98) rfl rfl rfl _ _ rfl rfl (fun W hW => ldNode (keep_cell hW d0) (keep_cell hW d1)) ?_
                go_frame
                refine tk_val (some 99) rfl rfl rfl (.pointer (some ⟨g12, 1, none⟩)) (fun _ => by go_simp) ?_
                go_frame
                refine tk_ld (some 100) rfl rfl rfl _ _ rfl rfl (fun W hW => ldRow (keep_cell hW e1)) ?_
                go_frame
                refine tk_val (some 101) rfl rfl rfl (.pointer (some ⟨bx, ox, none⟩)) (fun _ => by go_simp) ?_
                go_frame
                refine tk_ld (some 102) rfl rfl rfl _ _ rfl rfl (fun W hW => ldCell (hdx.below hW)) ?_
                go_frame
                refine tk_nil ?_
                refine op_call (some 103) rfl rfl rfl (f := 27) (vs := #[nodeV leaf (.slice pu mu cu), cla cx]) (by go_simp) ?_
                refine (hput V2.drew (Below.refl _ _).drew).mono ?_
                rintro e Y1 ⟨u1, rfl, hownu, hY1'⟩
                have hY1 : Below V2.heap.size V2 Y1 := below_drewL hY1'
                refine ⟨_, rfl, hY1, ?_⟩
                obtain ⟨p9, m9, c9, rfl, hm9, hat9⟩ := shape2 hownu
                have hspl := split_any (leaf := leaf) hat9 (by have := HPO.out.2.1; omega) (HPO.out.1.short.mono (by omega))
                clear hm9 hownu hY1' hput
                go_frame
                refine op_call (some 104) rfl rfl rfl (f := 29) (vs := #[nodeV leaf (.slice p9 m9 c9)]) (by go_simp) ?_
                refine hspl.mono ?_
                rintro e Y2 ⟨u2, rfl, hNd, hY2⟩
                rw [HPO.out.2.2] at hNd
                obtain ⟨bz, rfl, hNb⟩ := hNd.shape
                have hY12 : Below V2.heap.size V2 Y2 := below_new hY1 hY2
                refine ⟨_, rfl, hY12, ?_⟩
                obtain ⟨N2, hN2e⟩ : ∃ N2, Ks.length = N2 := ⟨_, rfl⟩
                have HN2 : Hid (Ks.length = N2) := hN2e
                rw [hN2e]
                unfold nodeV cla
                go_frame
                refine op_val (some 15) rfl rfl rfl (v := .slice (some ⟨bz, 0, none⟩) N2 N2) (w' := Y2) (by go_simp) ?_
                refine ⟨hY12, ?_⟩
                go_frame
                have hN2b : N2 ≤ 2 := by
                  rw [← hN2e, ← HPO.out.2.2]
                  rcases splL_cases leaf P with h1 | ⟨A', B', h2⟩
                  · rw [h1]; simp
                  · rw [h2]; simp
                have hN2i : (N2 : Int) ≤ 2 := by omega
                have HY : Hid (Below V2.heap.size V2 Y2 ∧ NodesB Y2 bz leaf Ks) := ⟨hY12, hNb⟩
                clear hY12 hY2 hY1 hspl hat9 hNb hN2e
                refine then_normalE ?_
                go_at_K
                go_wp2_with fail
                go_loopw [16, 17] (fun x y wr => ∃ i : Nat, y = .int .i64 (i : Nat) ∧ i ≤ N2 ∧ x = .int .i64 ((((Ks.take i).map List.length).sum : Nat) : Int) ∧ Below Y2.heap.size Y2 wr) (fun _ y _ => N2 - (intOf y).toNat)
                case atStart => exact ⟨0, rfl, Nat.zero_le _, rfl, Below.refl _ _⟩
                case round =>
                  obtain ⟨j, rfl, hj, rfl, hB⟩ := hrel
                  have HBj : Hid (Below Y2.heap.size Y2 wr) := hB
                  have HBV : Hid (Below V2.heap.size V2 wr) := below_new HY.out.1 hB
                  clear hB
                  replace d0 := keep_cell HBV.out d0
                  replace d1 := keep_cell HBV.out d1
                  replace e1 := keep_cell HBV.out e1
                  replace hdx := hdx.below HBV.out
                  by_cases hjn : j < N2
                  · have hji : (j : Int) < N2 := by omega
                    have hj0 : (0 : Int) ≤ j := by omega
                    obtain ⟨X, hX⟩ : ∃ X, Ks[j]? = some X := ⟨_, List.getElem?_eq_getElem (by have := HN2.out; omega)⟩
                    obtain ⟨pz, cz, f0, f1, hfz⟩ := HY.out.2.below HBj.out j X hX
                    obtain ⟨hXs, hXo⟩ := HPF.out.1 X (List.mem_of_getElem? hX)
                    have hstep := sum_step hX
                    have hXl := ok_small hXs
                    have hft := fits_any (leaf := leaf) hfz (by omega) (hXo.short.mono (by omega))
                    rw [decide_eq_true hXs] at hft
                    have hck := fun W (hW : Below wr.heap.size wr W) => check_any (leaf := leaf) (hfz.below hW) (by omega)
                    rw [chkE_ok hXo] at hck
                    have hsb : ((Ks.take (j + 1)).map List.length).sum ≤ 61 := by
                      have h1 : ((Ks.take (j + 1)).map List.length).sum + ((Ks.drop (j + 1)).map List.length).sum = (Ks.map List.length).sum := by
                        rw [← List.sum_append, ← List.map_append, List.take_append_drop]
                      rw [HPF.out.2] at h1
                      have := HPO.out.2.1
                      omega
                    obtain ⟨s1, hs1⟩ : ∃ s1, ((Ks.take (j + 1)).map List.length).sum = s1 := ⟨_, rfl⟩
                    obtain ⟨s0, hs0⟩ : ∃ s0, ((Ks.take j).map List.length).sum = s0 := ⟨_, rfl⟩
                    rw [hs1, hs0] at hstep
                    rw [hs1] at hsb
                    rw [hs0]
                    obtain ⟨nx, hnx⟩ : ∃ nx, X.length = nx := ⟨_, rfl⟩
                    rw [hnx] at hstep f1 hft hck
                    have HS : Hid (((Ks.take (j + 1)).map List.length).sum = s0 + nx) := hs1.trans hstep
                    have hsi : (s0 : Int) + nx ≤ 61 := by omega
                    unfold nodeV at hft hck
                    clear hX hfz hXs hXo hXl hs1 hs0 hnx hstep hsb
                    go_wp2_with fail
                    refine hft.mono ?_
                    rintro e Z3 ⟨rfl, hZ3⟩
                    replace f0 := keep_cell hZ3 f0
                    replace f1 := keep_cell hZ3 f1
                    replace hck := hck Z3 hZ3
                    have HZ3 : Hid (Below Y2.heap.size Y2 Z3) := below_new HBj.out hZ3
                    clear hZ3 hft
                    go_wp2_with fail
                    refine hck.mono ?_
                    rintro e Z4 ⟨rfl, hZ4⟩
                    have hZ5 : Below Y2.heap.size Y2 Z4 := below_new HZ3.out hZ4
                    clear hck hZ4
                    go_wp2_with fail
                    exact ⟨⟨j + 1, by go_num, by omega, by rw [HS.out]; go_num, hZ5⟩, by simp [intOf]; omega⟩
                  · have hji : ¬ (j : Int) < N2 := by omega
                    have hjs : ((Ks.take j).map List.length).sum = P.length := by rw [List.take_of_length_le (by have := HN2.out; omega)]; exact HPF.out.2
                    rw [hjs]
                    have HBe : Hid (Below w.heap.size w wr) := below_new HBV2.out HBV.out
                    replace hqpt := hqpt wr.drew HBV.out.drew
                    obtain ⟨nP, hnP⟩ : ∃ nP, P.length = nP := ⟨_, rfl⟩
                    have HnP : Hid (P.length = nP) := hnP
                    rw [hnP]
                    have hnn : ((nP : Int) == (nP : Int)) = true := by simp
                    clear hjs hnP hjn
                    go_wp2_with fail
                    refine wp_region_tree (fun W => Below wr.heap.size wr W) [0, 1, 2, 3, 4, 5, 6, 7] (.one 8 (.one 9 (.one 10 (.one 11 (.one 12 (.one 13 .nil)))))) mixedP (by kernel_rfl) rfl (by kernel_rfl) (fun _ _ _ d _ h => by cases d <;> exact h) (Below.refl _ _).drew ?_
                    refine tk_val (some 133) rfl rfl rfl (.bool true) (fun _ => by go_simp) ?_
                    go_frame
                    refine tk_val (some 134) rfl rfl rfl (.bool true) (fun _ => by go_simp) ?_
                    go_frame
                    refine tk_val (some 135) rfl rfl rfl (.int .i64 (nP : Nat)) (fun _ => by go_simp) ?_
                    go_frame
                    refine tk_ld (some 136) rfl rfl rfl _ _ rfl rfl (fun W hW => ldNode (keep_cell hW d0) (keep_cell hW d1)) ?_
                    go_frame
                    refine tk_val (some 137) rfl rfl rfl (.pointer (some ⟨g12, 1, none⟩)) (fun _ => by go_simp) ?_
                    go_frame
                    refine tk_ld (some 138) rfl rfl rfl _ _ rfl rfl (fun W hW => ldRow (keep_cell hW e1)) ?_
                    go_frame
                    refine tk_val (some 139) rfl rfl rfl (.pointer (some ⟨bx, ox, none⟩)) (fun _ => by go_simp) ?_
                    go_frame
                    refine tk_ld (some 140) rfl rfl rfl _ _ rfl rfl (fun W hW => ldCell (hdx.below hW)) ?_
                    go_frame
                    refine tk_nil ?_
                    refine op_call (some 141) rfl rfl rfl (f := 28) (vs := #[nodeV leaf (.slice pu mu cu), cla cx]) (by go_simp) ?_
                    refine hqpt.mono ?_
                    rintro e Z3 ⟨u3, rfl, hown3, hZ3'⟩
                    have hZ3 : Below wr.heap.size wr Z3 := below_drewL hZ3'
                    obtain ⟨pf, mf, cf, rfl, hmf, hatf⟩ := shape2 hown3
                    rw [HnP.out] at hmf
                    subst hmf
                    refine ⟨_, rfl, hZ3, ?_⟩
                    clear hown3 hatf hZ3' hqpt
                    unfold nodeV cla
                    go_frame
                    refine op_val (some 142) rfl rfl rfl (v := .slice pf mf cf) (w' := Z3) (by have hfd := fieldN leaf pf mf cf Z3; go_simp) ?_
                    refine ⟨hZ3, ?_⟩
                    go_frame
                    refine op_val (some 143) rfl rfl rfl (v := .int .i64 (mf : Nat)) (w' := Z3) (by go_simp) ?_
                    refine ⟨hZ3, ?_⟩
                    go_frame
                    refine op_val (some 144) rfl rfl rfl (v := .bool true) (w' := Z3) (by go_simp) ?_
                    refine ⟨hZ3, ?_⟩
                    go_frame
                    refine op_val (some 145) rfl rfl rfl (v := .bool true) (w' := Z3) (by go_simp) ?_
                    refine ⟨hZ3, ?_⟩
                    go_frame
                    refine op_val (some 6) rfl rfl rfl (v := .bool true) (w' := Z3) (by go_simp) ?_
                    refine ⟨hZ3, ?_⟩
                    go_frame
                    have HF9 : Hid (Below w.heap.size w Z3) := below_new HBe.out hZ3
                    clear hZ3
                    refine then_normalE ?_
                    go_at_K
                    go_wp2_with fail
                    go_ret
                    exact ⟨rfl, HF9.out⟩
              · rw [if_neg hmay] at hatc hmx1
                have hmx2 : mx = 0 := hmx1
                subst hmx2
                clear hatc hmx1 hmay
                go_wp2_with fail
                go_ret
                exact ⟨rfl, HBV2.out⟩
          · have hzi : ¬ (0 : Int) < mu := by omega
            have HFT : Hid (sizeL leaf (L.drop k) ≤ 1013) := by
              show _ ≤ _
              rw [List.drop_of_length_le (by have := HN.out; omega)]
              show 2 ≤ 1013
              omega
            have HZ : Hid (Only g8 Wt wr ∧ CellsAt wr (.slice pu mu cu) (L.drop k)) := ⟨HI.out.1, HC.out wr (Only.refl _ _)⟩
            clear hqz hqd HI HC hTb hO hz HMW HT
            generalize wr = Zt at *
            obtain ⟨M, hM⟩ : ∃ M, L.drop k = M := ⟨_, rfl⟩
            have HM : Hid (OkL leaf M ∧ sizeL leaf M ≤ 1013 ∧ M.length ≤ 60) := by
              rw [← hM]
              exact ⟨HO.out.drop k, HFT.out, by rw [List.length_drop]; have := HN.out; omega⟩
            have hatM := HZ.out.2
            rw [hM] at hatM
            have HBz : Hid (Below w.heap.size w Zt) := Only.fresh (below_new HBw3.out HBt.out) HZ.out.1 HG.out.2.2.1
            obtain ⟨x1, x2, x3, x4⟩ := only_cellAt HZ.out.1 hq0 HG.out.2.1
            obtain ⟨Wb, gb, hWb, hgb, hBb, hxb⟩ := box_cell Zt cx
            have hmx := made9_any (leaf := leaf) (one_cl hxb)
            rw [madeL_one] at hmx
            have d0' := keep_cell hBb d0
            have d1' := keep_cell hBb d1
            replace hatM := hatM.below hBb
            have HBb : Hid (Below w.heap.size w Wb) := below_new HBz.out hBb
            clear hBb hxb HBz HZ HFT hM
            go_wp2_with fail
            refine hmx.mono ?_
            rintro e V1 ⟨v1, rfl, hownx, hV1⟩
            obtain ⟨px, mx, cx1, rfl, hmx1, hatx⟩ := shape2 hownx
            obtain ⟨V2, g12, hV2, hg12, hBV2, hhV2, e0, e1⟩ := box_node V1 leaf (.slice px mx cx1)
            have hB02 := below_new hV1 hBV2
            replace d0 := keep_cell hB02 d0'
            replace d1 := keep_cell hB02 d1'
            replace hatM := hatM.below hB02
            have hatc := hatx.below hBV2
            have HBV2 : Hid (Below w.heap.size w V2) := below_new HBb.out hB02
            unfold nodeV
            clear hmx hownx hV1 hBV2 hhV2 hB02 hatx d0' d1' hWb hgb HBb x1 x2 x3 x4
            by_cases hmay : mayB leaf cx = true
            · rw [if_pos hmay] at hatc hmx1
              have hmx2 : mx = 1 := hmx1
              subst hmx2
              obtain ⟨bx, ox, rfl, h1x, hdx⟩ := hatc.at (i := 0) (x := cx) rfl
              clear h1x hmx1 hatc
              have hput := fun (W : World) (hW : Below V2.heap.size V2 W) => put_any (leaf := leaf) (hatM.below hW) HM.out.1.2 (by have := HM.out.2.2; omega) cx
              have hqpt := fun (W : World) (hW : Below V2.heap.size V2 W) => qput_any (leaf := leaf) (hatM.below hW) (by have := HM.out.2.2; omega) cx
              have hpf := parts_fit HM.out.1 HM.out.2.1 hmay
              have hpl := splL_len leaf (putL M cx)
              have hpo := putL_ok HM.out.1 hmay
              have hle := putL_len M cx
              obtain ⟨P, hP⟩ : ∃ P, putL M cx = P := ⟨_, rfl⟩
              rw [hP] at hput hqpt hpf hpl hpo hle
              have hP61 : P.length ≤ 61 := by have := HM.out.2.2; omega
              obtain ⟨Ks, hKs⟩ : ∃ Ks, splL leaf P = Ks := ⟨_, rfl⟩
              have HPF : Hid ((∀ X ∈ Ks, sizeL leaf X ≤ 1013 ∧ OkL leaf X) ∧ (Ks.map List.length).sum = P.length) := by rw [← hKs]; exact ⟨hpf, hpl⟩
              have HPO : Hid (OkL leaf P ∧ P.length ≤ 61 ∧ splL leaf P = Ks) := ⟨hpo, hP61, hKs⟩
              clear hP hpf hpl hpo hle hKs hP61 hmay
              go_wp2_with fail
              refine wp_region_tree (fun W => Below V2.heap.size V2 W) [0, 1, 2, 3, 4] (.one 5 (.one 6 (.one 7 .nil))) mixedP (by kernel_rfl) rfl (by kernel_rfl) (fun _ _ _ d _ h => by cases d <;> exact h) (Below.refl _ _).drew ?_
              refine tk_ld (some 98) rfl rfl rfl _ _ rfl rfl (fun W hW => ldNode (keep_cell hW d0) (keep_cell hW d1)) ?_
              go_frame
              refine tk_val (some 99) rfl rfl rfl (.pointer (some ⟨g12, 1, none⟩)) (fun _ => by go_simp) ?_
              go_frame
              refine tk_ld (some 100) rfl rfl rfl _ _ rfl rfl (fun W hW => ldRow (keep_cell hW e1)) ?_
              go_frame
              refine tk_val (some 101) rfl rfl rfl (.pointer (some ⟨bx, ox, none⟩)) (fun _ => by go_simp) ?_
              go_frame
              refine tk_ld (some 102) rfl rfl rfl _ _ rfl rfl (fun W hW => ldCell (hdx.below hW)) ?_
              go_frame
              refine tk_nil ?_
              refine op_call (some 103) rfl rfl rfl (f := 27) (vs := #[nodeV leaf (.slice pu mu cu), cla cx]) (by go_simp) ?_
              refine (hput V2.drew (Below.refl _ _).drew).mono ?_
              rintro e Y1 ⟨u1, rfl, hownu, hY1'⟩
              have hY1 : Below V2.heap.size V2 Y1 := below_drewL hY1'
              refine ⟨_, rfl, hY1, ?_⟩
              obtain ⟨p9, m9, c9, rfl, hm9, hat9⟩ := shape2 hownu
              have hspl := split_any (leaf := leaf) hat9 (by have := HPO.out.2.1; omega) (HPO.out.1.short.mono (by omega))
              clear hm9 hownu hY1' hput
              go_frame
              refine op_call (some 104) rfl rfl rfl (f := 29) (vs := #[nodeV leaf (.slice p9 m9 c9)]) (by go_simp) ?_
              refine hspl.mono ?_
              rintro e Y2 ⟨u2, rfl, hNd, hY2⟩
              rw [HPO.out.2.2] at hNd
              obtain ⟨bz, rfl, hNb⟩ := hNd.shape
              have hY12 : Below V2.heap.size V2 Y2 := below_new hY1 hY2
              refine ⟨_, rfl, hY12, ?_⟩
              obtain ⟨N2, hN2e⟩ : ∃ N2, Ks.length = N2 := ⟨_, rfl⟩
              have HN2 : Hid (Ks.length = N2) := hN2e
              rw [hN2e]
              unfold nodeV cla
              go_frame
              refine op_val (some 15) rfl rfl rfl (v := .slice (some ⟨bz, 0, none⟩) N2 N2) (w' := Y2) (by go_simp) ?_
              refine ⟨hY12, ?_⟩
              go_frame
              have hN2b : N2 ≤ 2 := by
                rw [← hN2e, ← HPO.out.2.2]
                rcases splL_cases leaf P with h1 | ⟨A', B', h2⟩
                · rw [h1]; simp
                · rw [h2]; simp
              have hN2i : (N2 : Int) ≤ 2 := by omega
              have HY : Hid (Below V2.heap.size V2 Y2 ∧ NodesB Y2 bz leaf Ks) := ⟨hY12, hNb⟩
              clear hY12 hY2 hY1 hspl hat9 hNb hN2e
              refine then_normalE ?_
              go_at_K
              go_wp2_with fail
              go_loopw [16, 17] (fun x y wr => ∃ i : Nat, y = .int .i64 (i : Nat) ∧ i ≤ N2 ∧ x = .int .i64 ((((Ks.take i).map List.length).sum : Nat) : Int) ∧ Below Y2.heap.size Y2 wr) (fun _ y _ => N2 - (intOf y).toNat)
              case atStart => exact ⟨0, rfl, Nat.zero_le _, rfl, Below.refl _ _⟩
              case round =>
                obtain ⟨j, rfl, hj, rfl, hB⟩ := hrel
                have HBj : Hid (Below Y2.heap.size Y2 wr) := hB
                have HBV : Hid (Below V2.heap.size V2 wr) := below_new HY.out.1 hB
                clear hB
                replace d0 := keep_cell HBV.out d0
                replace d1 := keep_cell HBV.out d1
                replace e1 := keep_cell HBV.out e1
                replace hdx := hdx.below HBV.out
                by_cases hjn : j < N2
                · have hji : (j : Int) < N2 := by omega
                  have hj0 : (0 : Int) ≤ j := by omega
                  obtain ⟨X, hX⟩ : ∃ X, Ks[j]? = some X := ⟨_, List.getElem?_eq_getElem (by have := HN2.out; omega)⟩
                  obtain ⟨pz, cz, f0, f1, hfz⟩ := HY.out.2.below HBj.out j X hX
                  obtain ⟨hXs, hXo⟩ := HPF.out.1 X (List.mem_of_getElem? hX)
                  have hstep := sum_step hX
                  have hXl := ok_small hXs
                  have hft := fits_any (leaf := leaf) hfz (by omega) (hXo.short.mono (by omega))
                  rw [decide_eq_true hXs] at hft
                  have hck := fun W (hW : Below wr.heap.size wr W) => check_any (leaf := leaf) (hfz.below hW) (by omega)
                  rw [chkE_ok hXo] at hck
                  have hsb : ((Ks.take (j + 1)).map List.length).sum ≤ 61 := by
                    have h1 : ((Ks.take (j + 1)).map List.length).sum + ((Ks.drop (j + 1)).map List.length).sum = (Ks.map List.length).sum := by
                      rw [← List.sum_append, ← List.map_append, List.take_append_drop]
                    rw [HPF.out.2] at h1
                    have := HPO.out.2.1
                    omega
                  obtain ⟨s1, hs1⟩ : ∃ s1, ((Ks.take (j + 1)).map List.length).sum = s1 := ⟨_, rfl⟩
                  obtain ⟨s0, hs0⟩ : ∃ s0, ((Ks.take j).map List.length).sum = s0 := ⟨_, rfl⟩
                  rw [hs1, hs0] at hstep
                  rw [hs1] at hsb
                  rw [hs0]
                  obtain ⟨nx, hnx⟩ : ∃ nx, X.length = nx := ⟨_, rfl⟩
                  rw [hnx] at hstep f1 hft hck
                  have HS : Hid (((Ks.take (j + 1)).map List.length).sum = s0 + nx) := hs1.trans hstep
                  have hsi : (s0 : Int) + nx ≤ 61 := by omega
                  unfold nodeV at hft hck
                  clear hX hfz hXs hXo hXl hs1 hs0 hnx hstep hsb
                  go_wp2_with fail
                  refine hft.mono ?_
                  rintro e Z3 ⟨rfl, hZ3⟩
                  replace f0 := keep_cell hZ3 f0
                  replace f1 := keep_cell hZ3 f1
                  replace hck := hck Z3 hZ3
                  have HZ3 : Hid (Below Y2.heap.size Y2 Z3) := below_new HBj.out hZ3
                  clear hZ3 hft
                  go_wp2_with fail
                  refine hck.mono ?_
                  rintro e Z4 ⟨rfl, hZ4⟩
                  have hZ5 : Below Y2.heap.size Y2 Z4 := below_new HZ3.out hZ4
                  clear hck hZ4
                  go_wp2_with fail
                  exact ⟨⟨j + 1, by go_num, by omega, by rw [HS.out]; go_num, hZ5⟩, by simp [intOf]; omega⟩
                · have hji : ¬ (j : Int) < N2 := by omega
                  have hjs : ((Ks.take j).map List.length).sum = P.length := by rw [List.take_of_length_le (by have := HN2.out; omega)]; exact HPF.out.2
                  rw [hjs]
                  have HBe : Hid (Below w.heap.size w wr) := below_new HBV2.out HBV.out
                  replace hqpt := hqpt wr.drew HBV.out.drew
                  obtain ⟨nP, hnP⟩ : ∃ nP, P.length = nP := ⟨_, rfl⟩
                  have HnP : Hid (P.length = nP) := hnP
                  rw [hnP]
                  have hnn : ((nP : Int) == (nP : Int)) = true := by simp
                  clear hjs hnP hjn
                  go_wp2_with fail
                  refine wp_region_tree (fun W => Below wr.heap.size wr W) [0, 1, 2, 3, 4, 5, 6, 7] (.one 8 (.one 9 (.one 10 (.one 11 (.one 12 (.one 13 .nil)))))) mixedP (by kernel_rfl) rfl (by kernel_rfl) (fun _ _ _ d _ h => by cases d <;> exact h) (Below.refl _ _).drew ?_
                  refine tk_val (some 133) rfl rfl rfl (.bool true) (fun _ => by go_simp) ?_
                  go_frame
                  refine tk_val (some 134) rfl rfl rfl (.bool true) (fun _ => by go_simp) ?_
                  go_frame
                  refine tk_val (some 135) rfl rfl rfl (.int .i64 (nP : Nat)) (fun _ => by go_simp) ?_
                  go_frame
                  refine tk_ld (some 136) rfl rfl rfl _ _ rfl rfl (fun W hW => ldNode (keep_cell hW d0) (keep_cell hW d1)) ?_
                  go_frame
                  refine tk_val (some 137) rfl rfl rfl (.pointer (some ⟨g12, 1, none⟩)) (fun _ => by go_simp) ?_
                  go_frame
                  refine tk_ld (some 138) rfl rfl rfl _ _ rfl rfl (fun W hW => ldRow (keep_cell hW e1)) ?_
                  go_frame
                  refine tk_val (some 139) rfl rfl rfl (.pointer (some ⟨bx, ox, none⟩)) (fun _ => by go_simp) ?_
                  go_frame
                  refine tk_ld (some 140) rfl rfl rfl _ _ rfl rfl (fun W hW => ldCell (hdx.below hW)) ?_
                  go_frame
                  refine tk_nil ?_
                  refine op_call (some 141) rfl rfl rfl (f := 28) (vs := #[nodeV leaf (.slice pu mu cu), cla cx]) (by go_simp) ?_
                  refine hqpt.mono ?_
                  rintro e Z3 ⟨u3, rfl, hown3, hZ3'⟩
                  have hZ3 : Below wr.heap.size wr Z3 := below_drewL hZ3'
                  obtain ⟨pf, mf, cf, rfl, hmf, hatf⟩ := shape2 hown3
                  rw [HnP.out] at hmf
                  subst hmf
                  refine ⟨_, rfl, hZ3, ?_⟩
                  clear hown3 hatf hZ3' hqpt
                  unfold nodeV cla
                  go_frame
                  refine op_val (some 142) rfl rfl rfl (v := .slice pf mf cf) (w' := Z3) (by have hfd := fieldN leaf pf mf cf Z3; go_simp) ?_
                  refine ⟨hZ3, ?_⟩
                  go_frame
                  refine op_val (some 143) rfl rfl rfl (v := .int .i64 (mf : Nat)) (w' := Z3) (by go_simp) ?_
                  refine ⟨hZ3, ?_⟩
                  go_frame
                  refine op_val (some 144) rfl rfl rfl (v := .bool true) (w' := Z3) (by go_simp) ?_
                  refine ⟨hZ3, ?_⟩
                  go_frame
                  refine op_val (some 145) rfl rfl rfl (v := .bool true) (w' := Z3) (by go_simp) ?_
                  refine ⟨hZ3, ?_⟩
                  go_frame
                  refine op_val (some 6) rfl rfl rfl (v := .bool true) (w' := Z3) (by go_simp) ?_
                  refine ⟨hZ3, ?_⟩
                  go_frame
                  have HF9 : Hid (Below w.heap.size w Z3) := below_new HBe.out hZ3
                  clear hZ3
                  refine then_normalE ?_
                  go_at_K
                  go_wp2_with fail
                  go_ret
                  exact ⟨rfl, HF9.out⟩
            · rw [if_neg hmay] at hatc hmx1
              have hmx2 : mx = 0 := hmx1
              subst hmx2
              clear hatc hmx1 hmay
              go_wp2_with fail
              go_ret
              exact ⟨rfl, HBV2.out⟩
      · have hNe : N = 2 := by
          have := HLs.out
          rw [h2] at this
          simp at this
          omega
        subst hNe
        obtain ⟨hAB, hA0, hB0⟩ := HCS.out.2 A B h2
        obtain ⟨pA, cA, f0, f1, hfA⟩ := HPw.out.1 0 A (by rw [h2]; rfl)
        obtain ⟨pB, cB, k0, k1, hfB⟩ := HPw.out.1 1 B (by rw [h2]; rfl)
        simp at f0 f1 k0 k1
        have hlA := HL1.out 0 A (by rw [h2]; rfl)
        have hlB := HL1.out 1 B (by rw [h2]; rfl)
        have hjn := fun W (hW : Below wr.heap.size wr W) => join_any (la := leaf) (lb := leaf) (hfA.below hW) (hfB.below hW) (by omega) (by omega)
        rw [hAB] at hjn
        clear hAB hfA hfB h2
        obtain ⟨na, hna⟩ : ∃ na, A.length = na := ⟨_, rfl⟩
        obtain ⟨nb, hnb⟩ : ∃ nb, B.length = nb := ⟨_, rfl⟩
        rw [hna] at f1 hjn hlA hA0
        rw [hnb] at k1 hjn hlB hB0
        have hA1 : ((na : Int) == 0) = false := by simp; omega
        have hB1 : ((nb : Int) == 0) = false := by simp; omega
        clear hna hnb hin hi hA0 hB0
        go_wp2_with fail
        refine wp_region_tree (fun W => Below wr.heap.size wr W) [0, 1, 2, 3, 4, 5, 7] (.one 6 (.one 8 (.one 9 .nil))) mixedP (by kernel_rfl) rfl (by kernel_rfl) (fun _ _ _ d _ h => by cases d <;> exact h) (Below.refl _ _).drew ?_
        refine tk_val (some 51) rfl rfl rfl (.slice (some ⟨bp, 0, none⟩) 2 2) (fun _ => by go_simp) ?_
        go_frame
        refine tk_val (some 52) rfl rfl rfl (.pointer (some ⟨bp, 0, none⟩)) (fun _ => by go_simp) ?_
        go_frame
        refine tk_ld (some 53) rfl rfl rfl _ _ rfl rfl (fun W hW => ldNode (keep_cell hW f0) (keep_cell hW f1)) ?_
        go_frame
        refine tk_val (some 54) rfl rfl rfl (.slice (some ⟨bp, 0, none⟩) 2 2) (fun _ => by go_simp) ?_
        go_frame
        refine tk_val (some 55) rfl rfl rfl (.pointer (some ⟨bp, 2, none⟩)) (fun _ => by go_simp) ?_
        go_frame
        refine tk_ld (some 56) rfl rfl rfl _ _ rfl rfl (fun W hW => ldNode (keep_cell hW k0) (keep_cell hW k1)) ?_
        go_frame
        refine tk_ld (some 58) rfl rfl rfl _ _ rfl rfl (fun W hW => ldNode (keep_cell hW a0) (keep_cell hW a1)) ?_
        go_frame
        refine tk_nil ?_
        refine op_call (some 57) rfl rfl rfl (f := 31) (vs := #[nodeV leaf (.slice pA na cA), nodeV leaf (.slice pB nb cB)]) (by go_simp) ?_
        refine (hjn wr.drew (Below.refl _ _).drew).mono ?_
        rintro e Y1 ⟨u1, rfl, hown1, hY1'⟩
        have hY1 : Below wr.heap.size wr Y1 := below_drewL hY1'
        refine ⟨_, rfl, hY1, ?_⟩
        obtain ⟨p9, m9, c9, rfl, hm9, hat9⟩ := shape2 hown1
        clear hm9 hown1 hY1'
        go_frame
        have hsm := qsame_eq (leaf := leaf) hat9 (hat3.below hY1) (by have := HN.out; omega)
        refine op_call (some 59) rfl rfl rfl (f := 19) (vs := #[nodeV leaf (.slice p9 m9 c9), nodeV leaf (.slice p n c)]) (by go_simp) ?_
        refine hsm.mono ?_
        rintro e Y2 ⟨rfl, hY2⟩
        have hY12 : Below wr.heap.size wr Y2 := below_new hY1 hY2
        refine ⟨_, rfl, hY12, ?_⟩
        unfold nodeV
        go_frame
        refine op_val (some 13) rfl rfl rfl (v := .bool true) (w' := Y2) (by go_simp) ?_
        refine ⟨hY12, ?_⟩
        go_frame
        replace hq0 := hq0.below hY12
        replace f1 := keep_cell hY12 f1
        replace k1 := keep_cell hY12 k1
        have HBt : Hid (Below W3.heap.size W3 Y2) := below_new HB5.out (below_new HB.out hY12)
        clear hY12 hY2 hY1 hsm hat9 hjn f0 k0 a0 a1 hat3
        refine then_normalE ?_
        go_at_K
        go_wp2_with fail
        clear hA1 hB1 f1 k1 HPw HB hii
        generalize Y2 = Wt at *
        have hhT := below_holds HBt.out HG.out.1
        go_loopw [] (fun wr => ∃ (k : Nat) (pu : Option Addr) (mu cu : Nat), mu + k = n ∧ Only g8 Wt wr ∧ Holds wr g8 24 #[.bool leaf, .slice pu mu cu] ∧ Hid (∀ W6, Only g8 wr W6 → CellsAt W6 (.slice pu mu cu) (L.drop k))) (fun wr => lenC wr g8)
        case atStart => exact ⟨0, p, n, c, rfl, Only.refl _ _, hhT, fun W6 hO => HC8.out W6 (((Only.refl g8 W3).below HBt.out).trans hO)⟩
        case round =>
          obtain ⟨k, pu, mu, cu, hmk, hO, hH, HC⟩ := hrel
          have HI : Hid (Only g8 Wt wr ∧ Holds wr g8 24 #[.bool leaf, .slice pu mu cu]) := ⟨hO, hH⟩
          have d0 : wr.cell? ⟨g8, 0, none⟩ = some (.bool leaf) := hH.cell 0
          have d1 : wr.cell? ⟨g8, 1, none⟩ = some (.slice pu mu cu) := hH.cell 1
          have hm60 : (mu : Int) ≤ 60 := by omega
          have hqz := qsize_any (leaf := leaf) (HC.out wr (Only.refl _ _)) (by rw [List.length_drop]; have := HN.out; omega) ((HO.out.short.mono (by omega)).drop k)
          have hqd := fun W (hW : Below wr.heap.size wr W) => qdrop_any (leaf := leaf) (HC.out W ((Only.refl _ _).below hW)) (by rw [List.length_drop]; have := HN.out; omega) 0
          obtain ⟨T, hT⟩ : ∃ T, sizeL leaf (L.drop k) = T := ⟨_, rfl⟩
          have HT : Hid (sizeL leaf (L.drop k) = T) := hT
          rw [hT] at hqz
          have hTb : T ≤ 100000 := by
            rw [← hT]
            have h2 := sizeL_short (leaf := leaf) (HO.out.short.drop k)
            rw [List.length_drop] at h2
            have : (L.length - k) * 410 ≤ 60 * 410 := Nat.mul_le_mul_right _ (by have := HN.out; omega)
            omega
          have hmw := lenC_of d1
          have HMW : Hid (lenC wr g8 = mu) := hmw
          unfold nodeV at hqz hqd
          clear hH hT hmw
          by_cases hz : 0 < mu
          · have hzi : (0 : Int) < mu := by omega
            by_cases hT1 : 1013 < T
            · have hTi : (1013 : Int) < T := by omega
              have HD : Hid (dropL (L.drop k) 0 = L.drop (k + 1)) := dropL_zero (by have := HN.out; omega)
              clear hT1 hTb
              go_wp2_with fail
              refine hqz.mono ?_
              rintro e Z1 ⟨rfl, hZ1⟩
              replace d0 := keep_cell hZ1 d0
              replace d1 := keep_cell hZ1 d1
              replace hqd := hqd Z1 hZ1
              rw [HD.out] at hqd
              clear hqz
              go_wp2_with fail
              refine hqd.mono ?_
              rintro e Z2 ⟨u9, rfl, hown9, hZ2⟩
              obtain ⟨p9, m9, c9, rfl, hm9, hat9⟩ := shape2 hown9
              have hH2 := below_holds (below_new hZ1 hZ2) HI.out.2
              have HZ : Hid (Only g8 Wt Z2 ∧ OwnCells Z2 Z1.heap.size (.slice p9 m9 c9) (L.drop (k + 1)) ∧ g8 < Z1.heap.size ∧ m9 + (k + 1) = n ∧ m9 < mu) := ⟨HI.out.1.below (below_new hZ1 hZ2), hown9, by have := HI.out.2.lt; have := hZ1.size; omega, by rw [hm9, List.length_drop]; have := HN.out; omega, by rw [hm9, List.length_drop]; have := HN.out; omega⟩
              clear hqd hown9 hm9 hat9 hZ1 hZ2 d0 d1
              go_wp2_with ((with_reducible show wpList _ _ _ (Oper.mk _ (Op.store _ _ _) _ _ _ _ :: _) _ _); go_must (refine wpList_storeH rfl 24 _ _ rfl g8 #[.bool leaf, .slice p9 m9 c9] rfl rfl 24 #[.bool leaf, .slice pu mu cu] hH2 infoNode2 rfl (by simp [Value.oneCell']) ?_; intro w10 hH10 hO10 hs10))
              have hms : lenC w10 g8 < lenC wr g8 := by
                rw [HMW.out, lenC_of (hH10.cell 1)]
                exact HZ.out.2.2.2.2
              exact ⟨⟨_, _, _, _, _, _, _, _, _, _, _, ⟨k + 1, p9, m9, c9, HZ.out.2.2.2.1, HZ.out.1.trans hO10, hH10, fun W6 hO6 => (own_only (own_only HZ.out.2.1 hO10 HZ.out.2.2.1) hO6 HZ.out.2.2.1).at⟩, rfl⟩, hms⟩
            · have hTi : ¬ (1013 : Int) < T := by omega
              have HFT : Hid (sizeL leaf (L.drop k) ≤ 1013) := by show _ ≤ _; rw [HT.out]; omega
              clear hT1 hqd
              go_wp2_with fail
              refine hqz.mono ?_
              rintro e Z1 ⟨rfl, hZ1⟩
              replace d0 := keep_cell hZ1 d0
              replace d1 := keep_cell hZ1 d1
              have HZ : Hid (Only g8 Wt Z1 ∧ CellsAt Z1 (.slice pu mu cu) (L.drop k)) := ⟨HI.out.1.below hZ1, HC.out Z1 ((Only.refl _ _).below hZ1)⟩
              clear hqz hZ1 HI HC hTb
              generalize Z1 = Zt at *
              clear HMW HT
              obtain ⟨M, hM⟩ : ∃ M, L.drop k = M := ⟨_, rfl⟩
              have HM : Hid (OkL leaf M ∧ sizeL leaf M ≤ 1013 ∧ M.length ≤ 60) := by
                rw [← hM]
                exact ⟨HO.out.drop k, HFT.out, by rw [List.length_drop]; have := HN.out; omega⟩
              have hatM := HZ.out.2
              rw [hM] at hatM
              have HBz : Hid (Below w.heap.size w Zt) := Only.fresh (below_new HBw3.out HBt.out) HZ.out.1 HG.out.2.2.1
              obtain ⟨x1, x2, x3, x4⟩ := only_cellAt HZ.out.1 hq0 HG.out.2.1
              obtain ⟨Wb, gb, hWb, hgb, hBb, hxb⟩ := box_cell Zt cx
              have hmx := made9_any (leaf := leaf) (one_cl hxb)
              rw [madeL_one] at hmx
              have d0' := keep_cell hBb d0
              have d1' := keep_cell hBb d1
              replace hatM := hatM.below hBb
              have HBb : Hid (Below w.heap.size w Wb) := below_new HBz.out hBb
              clear hBb hxb HBz HZ HFT hM
              go_wp2_with fail
              refine hmx.mono ?_
              rintro e V1 ⟨v1, rfl, hownx, hV1⟩
              obtain ⟨px, mx, cx1, rfl, hmx1, hatx⟩ := shape2 hownx
              obtain ⟨V2, g12, hV2, hg12, hBV2, hhV2, e0, e1⟩ := box_node V1 leaf (.slice px mx cx1)
              have hB02 := below_new hV1 hBV2
              replace d0 := keep_cell hB02 d0'
              replace d1 := keep_cell hB02 d1'
              replace hatM := hatM.below hB02
              have hatc := hatx.below hBV2
              have HBV2 : Hid (Below w.heap.size w V2) := below_new HBb.out hB02
              unfold nodeV
              clear hmx hownx hV1 hBV2 hhV2 hB02 hatx d0' d1' hWb hgb HBb x1 x2 x3 x4
              by_cases hmay : mayB leaf cx = true
              · rw [if_pos hmay] at hatc hmx1
                have hmx2 : mx = 1 := hmx1
                subst hmx2
                obtain ⟨bx, ox, rfl, h1x, hdx⟩ := hatc.at (i := 0) (x := cx) rfl
                clear h1x hmx1 hatc
                have hput := fun (W : World) (hW : Below V2.heap.size V2 W) => put_any (leaf := leaf) (hatM.below hW) HM.out.1.2 (by have := HM.out.2.2; omega) cx
                have hqpt := fun (W : World) (hW : Below V2.heap.size V2 W) => qput_any (leaf := leaf) (hatM.below hW) (by have := HM.out.2.2; omega) cx
                have hpf := parts_fit HM.out.1 HM.out.2.1 hmay
                have hpl := splL_len leaf (putL M cx)
                have hpo := putL_ok HM.out.1 hmay
                have hle := putL_len M cx
                obtain ⟨P, hP⟩ : ∃ P, putL M cx = P := ⟨_, rfl⟩
                rw [hP] at hput hqpt hpf hpl hpo hle
                have hP61 : P.length ≤ 61 := by have := HM.out.2.2; omega
                obtain ⟨Ks, hKs⟩ : ∃ Ks, splL leaf P = Ks := ⟨_, rfl⟩
                have HPF : Hid ((∀ X ∈ Ks, sizeL leaf X ≤ 1013 ∧ OkL leaf X) ∧ (Ks.map List.length).sum = P.length) := by rw [← hKs]; exact ⟨hpf, hpl⟩
                have HPO : Hid (OkL leaf P ∧ P.length ≤ 61 ∧ splL leaf P = Ks) := ⟨hpo, hP61, hKs⟩
                clear hP hpf hpl hpo hle hKs hP61 hmay
                go_wp2_with fail
                refine wp_region_tree (fun W => Below V2.heap.size V2 W) [0, 1, 2, 3, 4] (.one 5 (.one 6 (.one 7 .nil))) mixedP (by kernel_rfl) rfl (by kernel_rfl) (fun _ _ _ d _ h => by cases d <;> exact h) (Below.refl _ _).drew ?_
                refine tk_ld (some 98) rfl rfl rfl _ _ rfl rfl (fun W hW => ldNode (keep_cell hW d0) (keep_cell hW d1)) ?_
                go_frame
                refine tk_val (some 99) rfl rfl rfl (.pointer (some ⟨g12, 1, none⟩)) (fun _ => by go_simp) ?_
                go_frame
                refine tk_ld (some 100) rfl rfl rfl _ _ rfl rfl (fun W hW => ldRow (keep_cell hW e1)) ?_
                go_frame
                refine tk_val (some 101) rfl rfl rfl (.pointer (some ⟨bx, ox, none⟩)) (fun _ => by go_simp) ?_
                go_frame
                refine tk_ld (some 102) rfl rfl rfl _ _ rfl rfl (fun W hW => ldCell (hdx.below hW)) ?_
                go_frame
                refine tk_nil ?_
                refine op_call (some 103) rfl rfl rfl (f := 27) (vs := #[nodeV leaf (.slice pu mu cu), cla cx]) (by go_simp) ?_
                refine (hput V2.drew (Below.refl _ _).drew).mono ?_
                rintro e Y1 ⟨u1, rfl, hownu, hY1'⟩
                have hY1 : Below V2.heap.size V2 Y1 := below_drewL hY1'
                refine ⟨_, rfl, hY1, ?_⟩
                obtain ⟨p9, m9, c9, rfl, hm9, hat9⟩ := shape2 hownu
                have hspl := split_any (leaf := leaf) hat9 (by have := HPO.out.2.1; omega) (HPO.out.1.short.mono (by omega))
                clear hm9 hownu hY1' hput
                go_frame
                refine op_call (some 104) rfl rfl rfl (f := 29) (vs := #[nodeV leaf (.slice p9 m9 c9)]) (by go_simp) ?_
                refine hspl.mono ?_
                rintro e Y2 ⟨u2, rfl, hNd, hY2⟩
                rw [HPO.out.2.2] at hNd
                obtain ⟨bz, rfl, hNb⟩ := hNd.shape
                have hY12 : Below V2.heap.size V2 Y2 := below_new hY1 hY2
                refine ⟨_, rfl, hY12, ?_⟩
                obtain ⟨N2, hN2e⟩ : ∃ N2, Ks.length = N2 := ⟨_, rfl⟩
                have HN2 : Hid (Ks.length = N2) := hN2e
                rw [hN2e]
                unfold nodeV cla
                go_frame
                refine op_val (some 15) rfl rfl rfl (v := .slice (some ⟨bz, 0, none⟩) N2 N2) (w' := Y2) (by go_simp) ?_
                refine ⟨hY12, ?_⟩
                go_frame
                have hN2b : N2 ≤ 2 := by
                  rw [← hN2e, ← HPO.out.2.2]
                  rcases splL_cases leaf P with h1 | ⟨A', B', h2⟩
                  · rw [h1]; simp
                  · rw [h2]; simp
                have hN2i : (N2 : Int) ≤ 2 := by omega
                have HY : Hid (Below V2.heap.size V2 Y2 ∧ NodesB Y2 bz leaf Ks) := ⟨hY12, hNb⟩
                clear hY12 hY2 hY1 hspl hat9 hNb hN2e
                refine then_normalE ?_
                go_at_K
                go_wp2_with fail
                go_loopw [16, 17] (fun x y wr => ∃ i : Nat, y = .int .i64 (i : Nat) ∧ i ≤ N2 ∧ x = .int .i64 ((((Ks.take i).map List.length).sum : Nat) : Int) ∧ Below Y2.heap.size Y2 wr) (fun _ y _ => N2 - (intOf y).toNat)
                case atStart => exact ⟨0, rfl, Nat.zero_le _, rfl, Below.refl _ _⟩
                case round =>
                  obtain ⟨j, rfl, hj, rfl, hB⟩ := hrel
                  have HBj : Hid (Below Y2.heap.size Y2 wr) := hB
                  have HBV : Hid (Below V2.heap.size V2 wr) := below_new HY.out.1 hB
                  clear hB
                  replace d0 := keep_cell HBV.out d0
                  replace d1 := keep_cell HBV.out d1
                  replace e1 := keep_cell HBV.out e1
                  replace hdx := hdx.below HBV.out
                  by_cases hjn : j < N2
                  · have hji : (j : Int) < N2 := by omega
                    have hj0 : (0 : Int) ≤ j := by omega
                    obtain ⟨X, hX⟩ : ∃ X, Ks[j]? = some X := ⟨_, List.getElem?_eq_getElem (by have := HN2.out; omega)⟩
                    obtain ⟨pz, cz, f0, f1, hfz⟩ := HY.out.2.below HBj.out j X hX
                    obtain ⟨hXs, hXo⟩ := HPF.out.1 X (List.mem_of_getElem? hX)
                    have hstep := sum_step hX
                    have hXl := ok_small hXs
                    have hft := fits_any (leaf := leaf) hfz (by omega) (hXo.short.mono (by omega))
                    rw [decide_eq_true hXs] at hft
                    have hck := fun W (hW : Below wr.heap.size wr W) => check_any (leaf := leaf) (hfz.below hW) (by omega)
                    rw [chkE_ok hXo] at hck
                    have hsb : ((Ks.take (j + 1)).map List.length).sum ≤ 61 := by
                      have h1 : ((Ks.take (j + 1)).map List.length).sum + ((Ks.drop (j + 1)).map List.length).sum = (Ks.map List.length).sum := by
                        rw [← List.sum_append, ← List.map_append, List.take_append_drop]
                      rw [HPF.out.2] at h1
                      have := HPO.out.2.1
                      omega
                    obtain ⟨s1, hs1⟩ : ∃ s1, ((Ks.take (j + 1)).map List.length).sum = s1 := ⟨_, rfl⟩
                    obtain ⟨s0, hs0⟩ : ∃ s0, ((Ks.take j).map List.length).sum = s0 := ⟨_, rfl⟩
                    rw [hs1, hs0] at hstep
                    rw [hs1] at hsb
                    rw [hs0]
                    obtain ⟨nx, hnx⟩ : ∃ nx, X.length = nx := ⟨_, rfl⟩
                    rw [hnx] at hstep f1 hft hck
                    have HS : Hid (((Ks.take (j + 1)).map List.length).sum = s0 + nx) := hs1.trans hstep
                    have hsi : (s0 : Int) + nx ≤ 61 := by omega
                    unfold nodeV at hft hck
                    clear hX hfz hXs hXo hXl hs1 hs0 hnx hstep hsb
                    go_wp2_with fail
                    refine hft.mono ?_
                    rintro e Z3 ⟨rfl, hZ3⟩
                    replace f0 := keep_cell hZ3 f0
                    replace f1 := keep_cell hZ3 f1
                    replace hck := hck Z3 hZ3
                    have HZ3 : Hid (Below Y2.heap.size Y2 Z3) := below_new HBj.out hZ3
                    clear hZ3 hft
                    go_wp2_with fail
                    refine hck.mono ?_
                    rintro e Z4 ⟨rfl, hZ4⟩
                    have hZ5 : Below Y2.heap.size Y2 Z4 := below_new HZ3.out hZ4
                    clear hck hZ4
                    go_wp2_with fail
                    exact ⟨⟨j + 1, by go_num, by omega, by rw [HS.out]; go_num, hZ5⟩, by simp [intOf]; omega⟩
                  · have hji : ¬ (j : Int) < N2 := by omega
                    have hjs : ((Ks.take j).map List.length).sum = P.length := by rw [List.take_of_length_le (by have := HN2.out; omega)]; exact HPF.out.2
                    rw [hjs]
                    have HBe : Hid (Below w.heap.size w wr) := below_new HBV2.out HBV.out
                    replace hqpt := hqpt wr.drew HBV.out.drew
                    obtain ⟨nP, hnP⟩ : ∃ nP, P.length = nP := ⟨_, rfl⟩
                    have HnP : Hid (P.length = nP) := hnP
                    rw [hnP]
                    have hnn : ((nP : Int) == (nP : Int)) = true := by simp
                    clear hjs hnP hjn
                    go_wp2_with fail
                    refine wp_region_tree (fun W => Below wr.heap.size wr W) [0, 1, 2, 3, 4, 5, 6, 7] (.one 8 (.one 9 (.one 10 (.one 11 (.one 12 (.one 13 .nil)))))) mixedP (by kernel_rfl) rfl (by kernel_rfl) (fun _ _ _ d _ h => by cases d <;> exact h) (Below.refl _ _).drew ?_
                    refine tk_val (some 133) rfl rfl rfl (.bool true) (fun _ => by go_simp) ?_
                    go_frame
                    refine tk_val (some 134) rfl rfl rfl (.bool true) (fun _ => by go_simp) ?_
                    go_frame
                    refine tk_val (some 135) rfl rfl rfl (.int .i64 (nP : Nat)) (fun _ => by go_simp) ?_
                    go_frame
                    refine tk_ld (some 136) rfl rfl rfl _ _ rfl rfl (fun W hW => ldNode (keep_cell hW d0) (keep_cell hW d1)) ?_
                    go_frame
                    refine tk_val (some 137) rfl rfl rfl (.pointer (some ⟨g12, 1, none⟩)) (fun _ => by go_simp) ?_
                    go_frame
                    refine tk_ld (some 138) rfl rfl rfl _ _ rfl rfl (fun W hW => ldRow (keep_cell hW e1)) ?_
                    go_frame
                    refine tk_val (some 139) rfl rfl rfl (.pointer (some ⟨bx, ox, none⟩)) (fun _ => by go_simp) ?_
                    go_frame
                    refine tk_ld (some 140) rfl rfl rfl _ _ rfl rfl (fun W hW => ldCell (hdx.below hW)) ?_
                    go_frame
                    refine tk_nil ?_
                    refine op_call (some 141) rfl rfl rfl (f := 28) (vs := #[nodeV leaf (.slice pu mu cu), cla cx]) (by go_simp) ?_
                    refine hqpt.mono ?_
                    rintro e Z3 ⟨u3, rfl, hown3, hZ3'⟩
                    have hZ3 : Below wr.heap.size wr Z3 := below_drewL hZ3'
                    obtain ⟨pf, mf, cf, rfl, hmf, hatf⟩ := shape2 hown3
                    rw [HnP.out] at hmf
                    subst hmf
                    refine ⟨_, rfl, hZ3, ?_⟩
                    clear hown3 hatf hZ3' hqpt
                    unfold nodeV cla
                    go_frame
                    refine op_val (some 142) rfl rfl rfl (v := .slice pf mf cf) (w' := Z3) (by have hfd := fieldN leaf pf mf cf Z3; go_simp) ?_
                    refine ⟨hZ3, ?_⟩
                    go_frame
                    refine op_val (some 143) rfl rfl rfl (v := .int .i64 (mf : Nat)) (w' := Z3) (by go_simp) ?_
                    refine ⟨hZ3, ?_⟩
                    go_frame
                    refine op_val (some 144) rfl rfl rfl (v := .bool true) (w' := Z3) (by go_simp) ?_
                    refine ⟨hZ3, ?_⟩
                    go_frame
                    refine op_val (some 145) rfl rfl rfl (v := .bool true) (w' := Z3) (by go_simp) ?_
                    refine ⟨hZ3, ?_⟩
                    go_frame
                    refine op_val (some 6) rfl rfl rfl (v := .bool true) (w' := Z3) (by go_simp) ?_
                    refine ⟨hZ3, ?_⟩
                    go_frame
                    have HF9 : Hid (Below w.heap.size w Z3) := below_new HBe.out hZ3
                    clear hZ3
                    refine then_normalE ?_
                    go_at_K
                    go_wp2_with fail
                    go_ret
                    exact ⟨rfl, HF9.out⟩
              · rw [if_neg hmay] at hatc hmx1
                have hmx2 : mx = 0 := hmx1
                subst hmx2
                clear hatc hmx1 hmay
                go_wp2_with fail
                go_ret
                exact ⟨rfl, HBV2.out⟩
          · have hzi : ¬ (0 : Int) < mu := by omega
            have HFT : Hid (sizeL leaf (L.drop k) ≤ 1013) := by
              show _ ≤ _
              rw [List.drop_of_length_le (by have := HN.out; omega)]
              show 2 ≤ 1013
              omega
            have HZ : Hid (Only g8 Wt wr ∧ CellsAt wr (.slice pu mu cu) (L.drop k)) := ⟨HI.out.1, HC.out wr (Only.refl _ _)⟩
            clear hqz hqd HI HC hTb hO hz HMW HT
            generalize wr = Zt at *
            obtain ⟨M, hM⟩ : ∃ M, L.drop k = M := ⟨_, rfl⟩
            have HM : Hid (OkL leaf M ∧ sizeL leaf M ≤ 1013 ∧ M.length ≤ 60) := by
              rw [← hM]
              exact ⟨HO.out.drop k, HFT.out, by rw [List.length_drop]; have := HN.out; omega⟩
            have hatM := HZ.out.2
            rw [hM] at hatM
            have HBz : Hid (Below w.heap.size w Zt) := Only.fresh (below_new HBw3.out HBt.out) HZ.out.1 HG.out.2.2.1
            obtain ⟨x1, x2, x3, x4⟩ := only_cellAt HZ.out.1 hq0 HG.out.2.1
            obtain ⟨Wb, gb, hWb, hgb, hBb, hxb⟩ := box_cell Zt cx
            have hmx := made9_any (leaf := leaf) (one_cl hxb)
            rw [madeL_one] at hmx
            have d0' := keep_cell hBb d0
            have d1' := keep_cell hBb d1
            replace hatM := hatM.below hBb
            have HBb : Hid (Below w.heap.size w Wb) := below_new HBz.out hBb
            clear hBb hxb HBz HZ HFT hM
            go_wp2_with fail
            refine hmx.mono ?_
            rintro e V1 ⟨v1, rfl, hownx, hV1⟩
            obtain ⟨px, mx, cx1, rfl, hmx1, hatx⟩ := shape2 hownx
            obtain ⟨V2, g12, hV2, hg12, hBV2, hhV2, e0, e1⟩ := box_node V1 leaf (.slice px mx cx1)
            have hB02 := below_new hV1 hBV2
            replace d0 := keep_cell hB02 d0'
            replace d1 := keep_cell hB02 d1'
            replace hatM := hatM.below hB02
            have hatc := hatx.below hBV2
            have HBV2 : Hid (Below w.heap.size w V2) := below_new HBb.out hB02
            unfold nodeV
            clear hmx hownx hV1 hBV2 hhV2 hB02 hatx d0' d1' hWb hgb HBb x1 x2 x3 x4
            by_cases hmay : mayB leaf cx = true
            · rw [if_pos hmay] at hatc hmx1
              have hmx2 : mx = 1 := hmx1
              subst hmx2
              obtain ⟨bx, ox, rfl, h1x, hdx⟩ := hatc.at (i := 0) (x := cx) rfl
              clear h1x hmx1 hatc
              have hput := fun (W : World) (hW : Below V2.heap.size V2 W) => put_any (leaf := leaf) (hatM.below hW) HM.out.1.2 (by have := HM.out.2.2; omega) cx
              have hqpt := fun (W : World) (hW : Below V2.heap.size V2 W) => qput_any (leaf := leaf) (hatM.below hW) (by have := HM.out.2.2; omega) cx
              have hpf := parts_fit HM.out.1 HM.out.2.1 hmay
              have hpl := splL_len leaf (putL M cx)
              have hpo := putL_ok HM.out.1 hmay
              have hle := putL_len M cx
              obtain ⟨P, hP⟩ : ∃ P, putL M cx = P := ⟨_, rfl⟩
              rw [hP] at hput hqpt hpf hpl hpo hle
              have hP61 : P.length ≤ 61 := by have := HM.out.2.2; omega
              obtain ⟨Ks, hKs⟩ : ∃ Ks, splL leaf P = Ks := ⟨_, rfl⟩
              have HPF : Hid ((∀ X ∈ Ks, sizeL leaf X ≤ 1013 ∧ OkL leaf X) ∧ (Ks.map List.length).sum = P.length) := by rw [← hKs]; exact ⟨hpf, hpl⟩
              have HPO : Hid (OkL leaf P ∧ P.length ≤ 61 ∧ splL leaf P = Ks) := ⟨hpo, hP61, hKs⟩
              clear hP hpf hpl hpo hle hKs hP61 hmay
              go_wp2_with fail
              refine wp_region_tree (fun W => Below V2.heap.size V2 W) [0, 1, 2, 3, 4] (.one 5 (.one 6 (.one 7 .nil))) mixedP (by kernel_rfl) rfl (by kernel_rfl) (fun _ _ _ d _ h => by cases d <;> exact h) (Below.refl _ _).drew ?_
              refine tk_ld (some 98) rfl rfl rfl _ _ rfl rfl (fun W hW => ldNode (keep_cell hW d0) (keep_cell hW d1)) ?_
              go_frame
              refine tk_val (some 99) rfl rfl rfl (.pointer (some ⟨g12, 1, none⟩)) (fun _ => by go_simp) ?_
              go_frame
              refine tk_ld (some 100) rfl rfl rfl _ _ rfl rfl (fun W hW => ldRow (keep_cell hW e1)) ?_
              go_frame
              refine tk_val (some 101) rfl rfl rfl (.pointer (some ⟨bx, ox, none⟩)) (fun _ => by go_simp) ?_
              go_frame
              refine tk_ld (some 102) rfl rfl rfl _ _ rfl rfl (fun W hW => ldCell (hdx.below hW)) ?_
              go_frame
              refine tk_nil ?_
              refine op_call (some 103) rfl rfl rfl (f := 27) (vs := #[nodeV leaf (.slice pu mu cu), cla cx]) (by go_simp) ?_
              refine (hput V2.drew (Below.refl _ _).drew).mono ?_
              rintro e Y1 ⟨u1, rfl, hownu, hY1'⟩
              have hY1 : Below V2.heap.size V2 Y1 := below_drewL hY1'
              refine ⟨_, rfl, hY1, ?_⟩
              obtain ⟨p9, m9, c9, rfl, hm9, hat9⟩ := shape2 hownu
              have hspl := split_any (leaf := leaf) hat9 (by have := HPO.out.2.1; omega) (HPO.out.1.short.mono (by omega))
              clear hm9 hownu hY1' hput
              go_frame
              refine op_call (some 104) rfl rfl rfl (f := 29) (vs := #[nodeV leaf (.slice p9 m9 c9)]) (by go_simp) ?_
              refine hspl.mono ?_
              rintro e Y2 ⟨u2, rfl, hNd, hY2⟩
              rw [HPO.out.2.2] at hNd
              obtain ⟨bz, rfl, hNb⟩ := hNd.shape
              have hY12 : Below V2.heap.size V2 Y2 := below_new hY1 hY2
              refine ⟨_, rfl, hY12, ?_⟩
              obtain ⟨N2, hN2e⟩ : ∃ N2, Ks.length = N2 := ⟨_, rfl⟩
              have HN2 : Hid (Ks.length = N2) := hN2e
              rw [hN2e]
              unfold nodeV cla
              go_frame
              refine op_val (some 15) rfl rfl rfl (v := .slice (some ⟨bz, 0, none⟩) N2 N2) (w' := Y2) (by go_simp) ?_
              refine ⟨hY12, ?_⟩
              go_frame
              have hN2b : N2 ≤ 2 := by
                rw [← hN2e, ← HPO.out.2.2]
                rcases splL_cases leaf P with h1 | ⟨A', B', h2⟩
                · rw [h1]; simp
                · rw [h2]; simp
              have hN2i : (N2 : Int) ≤ 2 := by omega
              have HY : Hid (Below V2.heap.size V2 Y2 ∧ NodesB Y2 bz leaf Ks) := ⟨hY12, hNb⟩
              clear hY12 hY2 hY1 hspl hat9 hNb hN2e
              refine then_normalE ?_
              go_at_K
              go_wp2_with fail
              go_loopw [16, 17] (fun x y wr => ∃ i : Nat, y = .int .i64 (i : Nat) ∧ i ≤ N2 ∧ x = .int .i64 ((((Ks.take i).map List.length).sum : Nat) : Int) ∧ Below Y2.heap.size Y2 wr) (fun _ y _ => N2 - (intOf y).toNat)
              case atStart => exact ⟨0, rfl, Nat.zero_le _, rfl, Below.refl _ _⟩
              case round =>
                obtain ⟨j, rfl, hj, rfl, hB⟩ := hrel
                have HBj : Hid (Below Y2.heap.size Y2 wr) := hB
                have HBV : Hid (Below V2.heap.size V2 wr) := below_new HY.out.1 hB
                clear hB
                replace d0 := keep_cell HBV.out d0
                replace d1 := keep_cell HBV.out d1
                replace e1 := keep_cell HBV.out e1
                replace hdx := hdx.below HBV.out
                by_cases hjn : j < N2
                · have hji : (j : Int) < N2 := by omega
                  have hj0 : (0 : Int) ≤ j := by omega
                  obtain ⟨X, hX⟩ : ∃ X, Ks[j]? = some X := ⟨_, List.getElem?_eq_getElem (by have := HN2.out; omega)⟩
                  obtain ⟨pz, cz, f0, f1, hfz⟩ := HY.out.2.below HBj.out j X hX
                  obtain ⟨hXs, hXo⟩ := HPF.out.1 X (List.mem_of_getElem? hX)
                  have hstep := sum_step hX
                  have hXl := ok_small hXs
                  have hft := fits_any (leaf := leaf) hfz (by omega) (hXo.short.mono (by omega))
                  rw [decide_eq_true hXs] at hft
                  have hck := fun W (hW : Below wr.heap.size wr W) => check_any (leaf := leaf) (hfz.below hW) (by omega)
                  rw [chkE_ok hXo] at hck
                  have hsb : ((Ks.take (j + 1)).map List.length).sum ≤ 61 := by
                    have h1 : ((Ks.take (j + 1)).map List.length).sum + ((Ks.drop (j + 1)).map List.length).sum = (Ks.map List.length).sum := by
                      rw [← List.sum_append, ← List.map_append, List.take_append_drop]
                    rw [HPF.out.2] at h1
                    have := HPO.out.2.1
                    omega
                  obtain ⟨s1, hs1⟩ : ∃ s1, ((Ks.take (j + 1)).map List.length).sum = s1 := ⟨_, rfl⟩
                  obtain ⟨s0, hs0⟩ : ∃ s0, ((Ks.take j).map List.length).sum = s0 := ⟨_, rfl⟩
                  rw [hs1, hs0] at hstep
                  rw [hs1] at hsb
                  rw [hs0]
                  obtain ⟨nx, hnx⟩ : ∃ nx, X.length = nx := ⟨_, rfl⟩
                  rw [hnx] at hstep f1 hft hck
                  have HS : Hid (((Ks.take (j + 1)).map List.length).sum = s0 + nx) := hs1.trans hstep
                  have hsi : (s0 : Int) + nx ≤ 61 := by omega
                  unfold nodeV at hft hck
                  clear hX hfz hXs hXo hXl hs1 hs0 hnx hstep hsb
                  go_wp2_with fail
                  refine hft.mono ?_
                  rintro e Z3 ⟨rfl, hZ3⟩
                  replace f0 := keep_cell hZ3 f0
                  replace f1 := keep_cell hZ3 f1
                  replace hck := hck Z3 hZ3
                  have HZ3 : Hid (Below Y2.heap.size Y2 Z3) := below_new HBj.out hZ3
                  clear hZ3 hft
                  go_wp2_with fail
                  refine hck.mono ?_
                  rintro e Z4 ⟨rfl, hZ4⟩
                  have hZ5 : Below Y2.heap.size Y2 Z4 := below_new HZ3.out hZ4
                  clear hck hZ4
                  go_wp2_with fail
                  exact ⟨⟨j + 1, by go_num, by omega, by rw [HS.out]; go_num, hZ5⟩, by simp [intOf]; omega⟩
                · have hji : ¬ (j : Int) < N2 := by omega
                  have hjs : ((Ks.take j).map List.length).sum = P.length := by rw [List.take_of_length_le (by have := HN2.out; omega)]; exact HPF.out.2
                  rw [hjs]
                  have HBe : Hid (Below w.heap.size w wr) := below_new HBV2.out HBV.out
                  replace hqpt := hqpt wr.drew HBV.out.drew
                  obtain ⟨nP, hnP⟩ : ∃ nP, P.length = nP := ⟨_, rfl⟩
                  have HnP : Hid (P.length = nP) := hnP
                  rw [hnP]
                  have hnn : ((nP : Int) == (nP : Int)) = true := by simp
                  clear hjs hnP hjn
                  go_wp2_with fail
                  refine wp_region_tree (fun W => Below wr.heap.size wr W) [0, 1, 2, 3, 4, 5, 6, 7] (.one 8 (.one 9 (.one 10 (.one 11 (.one 12 (.one 13 .nil)))))) mixedP (by kernel_rfl) rfl (by kernel_rfl) (fun _ _ _ d _ h => by cases d <;> exact h) (Below.refl _ _).drew ?_
                  refine tk_val (some 133) rfl rfl rfl (.bool true) (fun _ => by go_simp) ?_
                  go_frame
                  refine tk_val (some 134) rfl rfl rfl (.bool true) (fun _ => by go_simp) ?_
                  go_frame
                  refine tk_val (some 135) rfl rfl rfl (.int .i64 (nP : Nat)) (fun _ => by go_simp) ?_
                  go_frame
                  refine tk_ld (some 136) rfl rfl rfl _ _ rfl rfl (fun W hW => ldNode (keep_cell hW d0) (keep_cell hW d1)) ?_
                  go_frame
                  refine tk_val (some 137) rfl rfl rfl (.pointer (some ⟨g12, 1, none⟩)) (fun _ => by go_simp) ?_
                  go_frame
                  refine tk_ld (some 138) rfl rfl rfl _ _ rfl rfl (fun W hW => ldRow (keep_cell hW e1)) ?_
                  go_frame
                  refine tk_val (some 139) rfl rfl rfl (.pointer (some ⟨bx, ox, none⟩)) (fun _ => by go_simp) ?_
                  go_frame
                  refine tk_ld (some 140) rfl rfl rfl _ _ rfl rfl (fun W hW => ldCell (hdx.below hW)) ?_
                  go_frame
                  refine tk_nil ?_
                  refine op_call (some 141) rfl rfl rfl (f := 28) (vs := #[nodeV leaf (.slice pu mu cu), cla cx]) (by go_simp) ?_
                  refine hqpt.mono ?_
                  rintro e Z3 ⟨u3, rfl, hown3, hZ3'⟩
                  have hZ3 : Below wr.heap.size wr Z3 := below_drewL hZ3'
                  obtain ⟨pf, mf, cf, rfl, hmf, hatf⟩ := shape2 hown3
                  rw [HnP.out] at hmf
                  subst hmf
                  refine ⟨_, rfl, hZ3, ?_⟩
                  clear hown3 hatf hZ3' hqpt
                  unfold nodeV cla
                  go_frame
                  refine op_val (some 142) rfl rfl rfl (v := .slice pf mf cf) (w' := Z3) (by have hfd := fieldN leaf pf mf cf Z3; go_simp) ?_
                  refine ⟨hZ3, ?_⟩
                  go_frame
                  refine op_val (some 143) rfl rfl rfl (v := .int .i64 (mf : Nat)) (w' := Z3) (by go_simp) ?_
                  refine ⟨hZ3, ?_⟩
                  go_frame
                  refine op_val (some 144) rfl rfl rfl (v := .bool true) (w' := Z3) (by go_simp) ?_
                  refine ⟨hZ3, ?_⟩
                  go_frame
                  refine op_val (some 145) rfl rfl rfl (v := .bool true) (w' := Z3) (by go_simp) ?_
                  refine ⟨hZ3, ?_⟩
                  go_frame
                  refine op_val (some 6) rfl rfl rfl (v := .bool true) (w' := Z3) (by go_simp) ?_
                  refine ⟨hZ3, ?_⟩
                  go_frame
                  have HF9 : Hid (Below w.heap.size w Z3) := below_new HBe.out hZ3
                  clear hZ3
                  refine then_normalE ?_
                  go_at_K
                  go_wp2_with fail
                  go_ret
                  exact ⟨rfl, HF9.out⟩
            · rw [if_neg hmay] at hatc hmx1
              have hmx2 : mx = 0 := hmx1
              subst hmx2
              clear hatc hmx1 hmay
              go_wp2_with fail
              go_ret
              exact ⟨rfl, HBV2.out⟩
end Go.Proofs.Ytdgfjaidnedaiaa
