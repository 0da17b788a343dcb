/-
  The document's Put.
-/
import Derived.Test.YtdgfjaidnedaiaaEPut2W
import Derived.Test.YtdgfjaidnedaiaaESplitW
namespace Go.Proofs.Ytdgfjaidnedaiaa
open Go Go.RowKit

theorem grow_only {W3 w w' : World} {g : Nat} {v : Value} {K : List Cl} {t : TypeId} {cs : Array Value} (ho : Only g W3 w) (hown : OwnCells w W3.heap.size v K) (hg : w.grownBy w' v.ownBlock) (hh : Holds w g t cs) (hgl : g < W3.heap.size) : Only g W3 w' ∧ Holds w' g t cs := by
  have hn := hown.new
  refine ⟨⟨hg.os.trans ho.os, hg.tape.trans ho.tape, hg.output.trans ho.output, Nat.le_trans ho.size hg.size, fun k hk hkg => (hg.block k (Nat.lt_of_lt_of_le hk ho.size) fun e => ?_).trans (ho.block k hk hkg)⟩, ?_⟩
  · have := hn k e.symm; omega
  · have hlt := hh.lt
    unfold Holds at *
    rw [hg.block g hlt fun e => ?_]
    · exact hh
    · have := hn g e.symm; omega
section
variable {ops : Array Oper} {Q : Exit → Act → World → Prop} {Kt : Act → World → Prop} {k : Nat} {op : Oper} {a : Act} {w : World} {v : Value} {K L : List Cl} {base : Nat}
theorem op_append (d : Option Tmp) (hdd : op.dst = d) (hk : ops[k]? = some op) (hw : Region.wanted op (yielded ops a.tmps) = true) (s x : Operand)
    (ho : op.op = .call { callee := .builtin .append, args := #[s, x], argTypes := #[22, 22] }) {y : Value} (hs : a.eval s = v) (hx : a.eval x = y) (hown : OwnCells w base v K) (hy : CellsAt w y L) (hl : K.length + L.length ≤ 1000000000) (hbase : base ≤ w.heap.size)
    (h : ∀ v' w', OwnCells w' base v' (K ++ L) → w.grownBy w' v.ownBlock → Kt (a.put d v') w') : wpOp Try.prog ops Q k Kt a w := by
  obtain ⟨v', w', hr, h2, h3⟩ := run_append_cl op.type hown hy hl hbase
  refine op_val d hdd hk hw (v := v') (w' := w') ?_ (h v' w' h2 h3)
  unfold execOp
  simp only [ho, resolve, invoke, builtin, Sem.run_bind, Sem.run_pure, Result.andThen_ok, List.map_toArray, List.map_cons, List.map_nil, hs, hx, hr]
end
set_option maxRecDepth 8000 in
set_option maxHeartbeats 4000000 in
theorem qput_any {w : World} {leaf : Bool} {v : Value} {L : List Cl} (hv : CellsAt w v L) (hl : L.length ≤ 100000) (x : Cl) :
    Calls Try.prog 28 #[nodeV leaf v, cla x] w fun e w' => ∃ u, e = .returned (nodeV leaf u) ∧ OwnCells w' w.heap.size u (putL L x) ∧ Below w.heap.size w w' := by
  obtain ⟨W0, g0, hW0, hg0, hB0, hb0, c0, c1⟩ := box_node w leaf v
  obtain ⟨Wx, g1, hWx, hg1, hBx, hx0⟩ := box_cell W0 x
  obtain ⟨W1, g2, hW1, hg2, hB1, hb1, d0, d1⟩ := box_node Wx false (.slice none 0 0)
  have hB01 := below_new hB0 (below_new hBx hB1)
  replace c0 := keep_cell (below_new hBx hB1) c0
  replace c1 := keep_cell (below_new hBx hB1) c1
  replace hx0 := hx0.below hB1
  obtain ⟨p, c, rfl⟩ := hv.shape
  have hcap := hv.cap.2
  have HK1 : Hid (w.heap.size = g0 ∧ (w.heap.size ≤ g2 ∧ g0 < W1.heap.size ∧ g1 < W1.heap.size ∧ g2 < W1.heap.size ∧ g0 ≠ g2 ∧ g1 ≠ g2) ∧ Holds W1 g2 24 #[.bool false, .slice none 0 0] ∧ Below w.heap.size w W1) := by
    have q1 := hb0.lt
    have q2 := hBx.size
    have q3 := World.block_lt_of_cell? _ _ hx0.1
    have q4 : Wx.heap.size = W0.heap.size + 1 := by rw [← hWx]; simp
    have q5 := hb1.lt
    have q6 := hB1.size
    have q7 := hB0.size
    simp only at q3
    exact ⟨hg0, by omega, hb1, hB01⟩
  have hf := qfind_any (w := W1) (leaf := leaf) (hv.below hB01) hl x.k
  obtain ⟨N, hN⟩ : ∃ N, fndN L x.k = N := ⟨_, rfl⟩
  obtain ⟨M, hM⟩ : ∃ M, fndN L x.k + (if isAt L x.k = true then 1 else 0) = M := ⟨_, rfl⟩
  obtain ⟨R, hR⟩ : ∃ R, putL L x = R := ⟨_, rfl⟩
  rw [hR]
  have HD : Hid (R = L.take N ++ [x] ++ L.drop M) := by show _ = _; rw [← hR]; unfold putL; rw [hM, hN]; simp
  clear hR
  have hNn : N ≤ L.length := by rw [← hN]; exact fndN_le _ _
  have hMn : M ≤ L.length := by
    rw [← hM]
    by_cases h : isAt L x.k = true
    · rw [if_pos h]; exact isAt_lt h
    · rw [if_neg h]; exact fndN_le _ _
  have HM : Hid (M = N + (if isAt L x.k = true then 1 else 0)) := by show _ = _; rw [← hM, hN]
  obtain ⟨pa, ca, hsa, hca⟩ := sl_to p (n := L.length) (c := c) N hNn hcap
  obtain ⟨pb, cb, hsb, hcb⟩ := sl_from p (n := L.length) (c := c) M hMn hcap
  have HA : Hid (∀ W, CellsAt W (.slice p L.length c) L → CellsAt W (.slice pa N ca) (L.take N) ∧ CellsAt W (.slice pb (L.length - M) cb) (L.drop M)) := fun W hW => ⟨hca W L hW, hcb W L hW⟩
  have HSm : Hid ((L.take N).length ≤ 100000 ∧ (L.drop M).length ≤ 100000 ∧ (L.take N ++ [x]).length ≤ 100001) := by refine ⟨?_, ?_, ?_⟩ <;> simp <;> omega
  unfold nodeV at hf ⊢
  rw [hN] at hf
  clear hca hcb hB0 hB1 hb0 hb1 d0 d1 hB01 hM hN hBx
  obtain ⟨n, hn⟩ : ∃ n, L.length = n := ⟨_, rfl⟩
  rw [hn] at hsa hsb hf hW0 c1 hNn hMn hl HA hv ⊢
  generalize (n - M) = kb at hsb HA
  clear hn hcap
  have HV : Hid (CellsAt w (.slice p n c) L) := hv
  clear hv
  have hni : (n : Int) ≤ 100000 := by omega
  have hNi : (N : Int) ≤ 100000 := by omega
  have x0 := hx0.1
  obtain ⟨xk, xv, xp, xs⟩ := x
  unfold cla
  dsimp only at hW0 hWx hf x0 HM ⊢
  generalize isAt L xk = at0 at hf HM
  go_enter Try.func28, Try.ntmps28
  go_wp2_with (go_at_call 22; refine hf.mono ?_; rintro e W2 ⟨rfl, hB2⟩; replace c0 := keep_cell hB2 c0)
  obtain ⟨W3, g3, hW3, hg3, hB3, hb3, e0, e1⟩ := box_node W2 leaf (.slice none 0 0)
  rw [hW3, hg3]
  replace c0 := keep_cell hB3 c0
  replace c1 := keep_cell (below_new hB2 hB3) c1
  replace hx0 := hx0.below (below_new hB2 hB3)
  have HK : Hid ((w.heap.size ≤ g2 ∧ w.heap.size ≤ g3 ∧ g2 < W3.heap.size ∧ g3 < W3.heap.size ∧ g0 ≠ g3 ∧ g1 ≠ g3 ∧ g2 ≠ g3 ∧ g0 ≠ g2 ∧ g1 ≠ g2) ∧ Holds W3 g2 24 #[.bool false, .slice none 0 0] ∧ Below w.heap.size w W3 ∧ Holds W3 g3 24 #[.bool leaf, .slice none 0 0]) := by
    have q1 := hB2.size
    have q2 := hB3.size
    have q3 := HK1.out.2.1
    have q4 := hb3.lt
    have q5 := HK1.out.2.2.2.size
    exact ⟨by omega, below_holds (below_new hB2 hB3) HK1.out.2.2.1, below_new HK1.out.2.2.2 (below_new hB2 hB3), hb3⟩
  have h03 : g0 ≠ g3 := HK.out.1.2.2.2.2.1
  have h13 : g1 ≠ g3 := HK.out.1.2.2.2.2.2.1
  have h33 : g3 < W3.heap.size := HK.out.1.2.2.2.1
  clear hW3 hg3 hB2 hf hB3 hb3 HK1 e0 e1 hW1 hWx hW0 hg0 hg1 hg2 x0
  have hxc : ∀ W, Only g3 W3 W → CellsAt W (.slice pa N ca) (L.take N) ∧ CellsAt W (.slice pb kb cb) (L.drop M) := fun W hO => by
    refine HA.out W ?_
    rcases HV.out with q | ⟨b, o, c', q1, q2, q3⟩
    · exact .inl q
    · refine .inr ⟨b, o, c', q1, q2, fun i y hy => only_cellAt hO ((q3 i y hy).below HK.out.2.2.1) ?_⟩
      have := World.block_lt_of_cell? _ _ (q3 i y hy).1
      have := HK.out.1.2.1
      simp only at *
      omega
  refine wp_region_tree (fun W => Only g3 W3 W) [0, 2, 3, 4, 5] (.one 1 (.one 6 (.one 7 (.one 8 .nil)))) mixedP (by kernel_rfl) rfl (by kernel_rfl) (fun _ _ _ d _ h => by cases d <;> exact h) (Only.refl _ _).drew ?_
  refine tk_val (some 18) rfl rfl rfl (.pointer (some ⟨g3, 1, none⟩)) (fun _ => by go_simp) ?_
  go_frame
  refine tk_val (some 20) rfl rfl rfl (.pointer (some ⟨g0, 1, none⟩)) (fun _ => by go_simp) ?_
  go_frame
  refine tk_ld (some 21) rfl rfl rfl _ _ rfl rfl (fun W hW => ldRow (only_cell hW c1 h03)) ?_
  go_frame
  refine tk_val (some 22) rfl rfl rfl (.int .i64 (N : Nat)) (fun _ => by go_simp) ?_
  go_frame
  refine tk_val (some 23) rfl rfl rfl (.slice pa N ca) (fun _ => by go_simp) ?_
  go_frame
  refine tk_nil ?_
  have r1 : W3.drew.cell? ⟨g3, 1, none⟩ = some (.slice none 0 0) := (HK.out.2.2.2.drew).cell 1
  refine op_val (some 19) rfl rfl rfl (v := .slice none 0 0) (w' := W3.drew) (by go_simp) ?_
  refine ⟨(Only.refl _ _).drew, ?_⟩
  go_frame
  refine op_append (some 24) rfl rfl rfl _ _ rfl rfl rfl (OwnCells.nil W3.drew W3.heap.size) (hxc _ (Only.refl _ _).drew).1 (by have := HSm.out.1; simp only [List.length_nil]; omega) (Nat.le_refl _) ?_
  intro v4 w4 hown4 hg4
  obtain ⟨hO4, hh4⟩ := grow_only ((Only.refl g3 W3).drew) (OwnCells.nil W3.drew W3.heap.size) hg4 HK.out.2.2.2.drew h33
  rw [List.nil_append] at hown4
  refine ⟨hO4, ?_⟩
  go_frame
  refine op_val (some 25) rfl rfl rfl (v := .pointer (some ⟨g3, 1, none⟩)) (w' := w4) (by go_simp) ?_
  refine ⟨hO4, ?_⟩
  go_frame
  obtain ⟨p4, m4, c4, rfl, hm4, hat4⟩ := shape2 hown4
  have s1 : w4.cell? ⟨g3, 1, none⟩ = some (.slice none 0 0) := hh4.cell 1
  have s2 := hh4.frozen 1
  refine op_skip none rfl rfl rfl (w' := w4.setCell ⟨g3, 1, none⟩ (.slice p4 m4 c4)) (by go_simp) ?_
  have hO5 := hO4.set 1 (.slice p4 m4 c4)
  have hh5 := hh4.set 1 (.slice p4 m4 c4)
  have hown5 := own_only hown4 ((Only.refl g3 w4).set 1 (.slice p4 m4 c4)) h33
  refine ⟨hO5, ?_⟩
  go_frame
  refine then_normalE ?_
  go_at_K
  obtain ⟨W5, hW5⟩ : ∃ W5, w4.setCell ⟨g3, 1, none⟩ (.slice p4 m4 c4) = W5 := ⟨_, rfl⟩
  rw [hW5] at hO5 hh5 hown5 ⊢
  clear hW5 hO4 hh4 hat4 hown4 hg4 s1 s2 r1
  have HM4 : Hid (m4 = (L.take N).length) := hm4
  clear hm4
  obtain ⟨Wb, gb, hWb, hgb, hBb, hxb⟩ := box_cell W5 ⟨xk, xv, xp, xs⟩
  have hOb := hO5.below hBb
  have hhb := below_holds hBb hh5
  have hownb := hown5.below0 hBb
  have hone := one_cl hxb
  have u1 : W5.cell? ⟨g3, 1, none⟩ = some (.slice p4 m4 c4) := hh5.cell 1
  obtain ⟨y0, y1, y2, y3⟩ := only_cellAt hO5 hx0 h13
  dsimp only at y0 y1 y2 y3 hWb
  have hszb := hOb.size
  have HL1 : Hid ((L.take N).length + [(⟨xk, xv, xp, xs⟩ : Cl)].length ≤ 1000000000) := by show _ ≤ _; have := HSm.out.1; simp only [List.length_singleton]; omega
  clear hBb hxb hh5 hO5 hown5
  cases at0 with
  | true =>
    have hMi : (N : Int) + 1 = (M : Int) := by have := HM.out; simp at this; omega
    clear HM
    go_wp2_with (at_builtin; refine wpList_append_cl rfl _ _ rfl rfl rfl hownb hone HL1.out hszb ?_; intro v6 w6 hown6 hg6; obtain ⟨hO6, hh6⟩ := grow_only hOb hownb hg6 hhb h33; obtain ⟨p6, m6, c6, rfl, hm6, hat6⟩ := shape2 hown6; have s1 : w6.cell? ⟨g3, 1, none⟩ = some (.slice p4 m4 c4) := (hh6.cell 1); have s2 := hh6.frozen 1; have HM6 : Hid (m6 = _) := hm6; clear hm6 hg6 hat6)
    have hO7 := hO6.set 1 (.slice p6 m6 c6)
    have hh7 := hh6.set 1 (.slice p6 m6 c6)
    have hown7 := own_only hown6 ((Only.refl g3 w6).set 1 (.slice p6 m6 c6)) h33
    obtain ⟨W7, hW7⟩ : ∃ W7, w6.setCell ⟨g3, 1, none⟩ (.slice p6 m6 c6) = W7 := ⟨_, rfl⟩
    rw [hW7] at hO7 hh7 hown7 ⊢
    clear hW7 s1 s2 hO6 hh6 hown6 hWb hgb
    refine wp_region_tree (fun W => Only g3 W3 W) [0, 2, 3, 4, 5] (.one 1 (.one 6 (.one 7 (.one 8 .nil)))) mixedP (by kernel_rfl) rfl (by kernel_rfl) (fun _ _ _ d _ h => by cases d <;> exact h) hO7.drew ?_
    refine tk_val (some 35) rfl rfl rfl (.pointer (some ⟨g3, 1, none⟩)) (fun _ => by go_simp) ?_
    go_frame
    refine tk_val (some 37) rfl rfl rfl (.pointer (some ⟨g0, 1, none⟩)) (fun _ => by go_simp) ?_
    go_frame
    refine tk_ld (some 38) rfl rfl rfl _ _ rfl rfl (fun W hW => ldRow (only_cell hW c1 h03)) ?_
    go_frame
    refine tk_val (some 39) rfl rfl rfl (.int .i64 (M : Nat)) (fun _ => by go_simp) ?_
    go_frame
    refine tk_val (some 40) rfl rfl rfl (.slice pb kb cb) (fun _ => by go_simp) ?_
    go_frame
    refine tk_nil ?_
    have r1 : W7.drew.cell? ⟨g3, 1, none⟩ = some (.slice p6 m6 c6) := hh7.drew.cell 1
    refine op_val (some 36) rfl rfl rfl (v := .slice p6 m6 c6) (w' := W7.drew) (by go_simp) ?_
    refine ⟨hO7.drew, ?_⟩
    go_frame
    have hown7d : OwnCells W7.drew W3.heap.size (.slice p6 m6 c6) (L.take N ++ [⟨xk, xv, xp, xs⟩]) := hown7
    refine op_append (some 41) rfl rfl rfl _ _ rfl rfl rfl hown7d (hxc _ hO7.drew).2 (by have := HSm.out.2.1; have := HSm.out.2.2; omega) hO7.size ?_
    intro v8 w8 hown8 hg8
    obtain ⟨hO8, hh8⟩ := grow_only hO7.drew hown7d hg8 hh7.drew h33
    refine ⟨hO8, ?_⟩
    go_frame
    refine op_val (some 42) rfl rfl rfl (v := .pointer (some ⟨g3, 1, none⟩)) (w' := w8) (by go_simp) ?_
    refine ⟨hO8, ?_⟩
    go_frame
    rw [← HD.out] at hown8
    obtain ⟨p8, m8, c8, rfl, hm8, hat8⟩ := shape2 hown8
    have s1 : w8.cell? ⟨g3, 1, none⟩ = some (.slice p6 m6 c6) := hh8.cell 1
    have s2 := hh8.frozen 1
    refine op_skip none rfl rfl rfl (w' := w8.setCell ⟨g3, 1, none⟩ (.slice p8 m8 c8)) (by go_simp) ?_
    have hO9 := hO8.set 1 (.slice p8 m8 c8)
    have hh9 := hh8.set 1 (.slice p8 m8 c8)
    have hown9 := own_only hown8 ((Only.refl g3 w8).set 1 (.slice p8 m8 c8)) h33
    refine ⟨hO9, ?_⟩
    go_frame
    refine then_normalE ?_
    go_at_K
    obtain ⟨W9, hW9⟩ : ∃ W9, w8.setCell ⟨g3, 1, none⟩ (.slice p8 m8 c8) = W9 := ⟨_, rfl⟩
    rw [hW9] at hO9 hh9 hown9 ⊢
    have z0 : W9.cell? ⟨g3, 0, none⟩ = some (.bool leaf) := hh9.cell 0
    have z1 : W9.cell? ⟨g3, 1, none⟩ = some (.slice p8 m8 c8) := hh9.cell 1
    have hb9 : Holds W9 g2 24 #[.bool false, .slice none 0 0] := hO9.holds HK.out.2.1 HK.out.1.2.2.2.2.2.2.1
    have HF : Hid (OwnCells W9 W3.heap.size (.slice p8 m8 c8) R ∧ Only g3 W3 W9) := ⟨hown9, hO9⟩
    clear hW9 s1 s2 hO8 hh8 hown8 hg8 hm8 hat8 hO7 hh7 hown7 hown7d r1 hO9 hh9 hown9
    go_wp2_with ((with_reducible show wpList _ _ _ (Oper.mk _ (Op.store _ _ _) _ _ _ _ :: _) _ _); go_must (refine wpList_storeH rfl 24 _ _ rfl g2 #[.bool leaf, .slice p8 m8 c8] rfl rfl 24 #[.bool false, .slice none 0 0] hb9 infoNode2 rfl (by simp [Value.oneCell']) ?_; intro w10 hH hO hs10))
    refine bodyPost_ret (results_cellH (p := 4) rfl _ w10 g2 24 _ _ rfl hH Try.underlying24 rfl infoNode2) rfl ?_
    refine ⟨_, rfl, (own_only HF.out.1 hO HK.out.1.2.2.1).mono HK.out.2.2.1.size, ?_⟩
    exact Only.fresh (Only.fresh HK.out.2.2.1 HF.out.2 HK.out.1.2.1) hO HK.out.1.1
  | false =>
    have hMi : (N : Int) = (M : Int) := by have := HM.out; simp at this; omega
    clear HM
    go_wp2_with (at_builtin; refine wpList_append_cl rfl _ _ rfl rfl rfl hownb hone HL1.out hszb ?_; intro v6 w6 hown6 hg6; obtain ⟨hO6, hh6⟩ := grow_only hOb hownb hg6 hhb h33; obtain ⟨p6, m6, c6, rfl, hm6, hat6⟩ := shape2 hown6; have s1 : w6.cell? ⟨g3, 1, none⟩ = some (.slice p4 m4 c4) := (hh6.cell 1); have s2 := hh6.frozen 1; have HM6 : Hid (m6 = _) := hm6; clear hm6 hg6 hat6)
    have hO7 := hO6.set 1 (.slice p6 m6 c6)
    have hh7 := hh6.set 1 (.slice p6 m6 c6)
    have hown7 := own_only hown6 ((Only.refl g3 w6).set 1 (.slice p6 m6 c6)) h33
    obtain ⟨W7, hW7⟩ : ∃ W7, w6.setCell ⟨g3, 1, none⟩ (.slice p6 m6 c6) = W7 := ⟨_, rfl⟩
    rw [hW7] at hO7 hh7 hown7 ⊢
    clear hW7 s1 s2 hO6 hh6 hown6 hWb hgb
    refine wp_region_tree (fun W => Only g3 W3 W) [0, 2, 3, 4, 5] (.one 1 (.one 6 (.one 7 (.one 8 .nil)))) mixedP (by kernel_rfl) rfl (by kernel_rfl) (fun _ _ _ d _ h => by cases d <;> exact h) hO7.drew ?_
    refine tk_val (some 35) rfl rfl rfl (.pointer (some ⟨g3, 1, none⟩)) (fun _ => by go_simp) ?_
    go_frame
    refine tk_val (some 37) rfl rfl rfl (.pointer (some ⟨g0, 1, none⟩)) (fun _ => by go_simp) ?_
    go_frame
    refine tk_ld (some 38) rfl rfl rfl _ _ rfl rfl (fun W hW => ldRow (only_cell hW c1 h03)) ?_
    go_frame
    refine tk_val (some 39) rfl rfl rfl (.int .i64 (M : Nat)) (fun _ => by go_simp) ?_
    go_frame
    refine tk_val (some 40) rfl rfl rfl (.slice pb kb cb) (fun _ => by go_simp) ?_
    go_frame
    refine tk_nil ?_
    have r1 : W7.drew.cell? ⟨g3, 1, none⟩ = some (.slice p6 m6 c6) := hh7.drew.cell 1
    refine op_val (some 36) rfl rfl rfl (v := .slice p6 m6 c6) (w' := W7.drew) (by go_simp) ?_
    refine ⟨hO7.drew, ?_⟩
    go_frame
    have hown7d : OwnCells W7.drew W3.heap.size (.slice p6 m6 c6) (L.take N ++ [⟨xk, xv, xp, xs⟩]) := hown7
    refine op_append (some 41) rfl rfl rfl _ _ rfl rfl rfl hown7d (hxc _ hO7.drew).2 (by have := HSm.out.2.1; have := HSm.out.2.2; omega) hO7.size ?_
    intro v8 w8 hown8 hg8
    obtain ⟨hO8, hh8⟩ := grow_only hO7.drew hown7d hg8 hh7.drew h33
    refine ⟨hO8, ?_⟩
    go_frame
    refine op_val (some 42) rfl rfl rfl (v := .pointer (some ⟨g3, 1, none⟩)) (w' := w8) (by go_simp) ?_
    refine ⟨hO8, ?_⟩
    go_frame
    rw [← HD.out] at hown8
    obtain ⟨p8, m8, c8, rfl, hm8, hat8⟩ := shape2 hown8
    have s1 : w8.cell? ⟨g3, 1, none⟩ = some (.slice p6 m6 c6) := hh8.cell 1
    have s2 := hh8.frozen 1
    refine op_skip none rfl rfl rfl (w' := w8.setCell ⟨g3, 1, none⟩ (.slice p8 m8 c8)) (by go_simp) ?_
    have hO9 := hO8.set 1 (.slice p8 m8 c8)
    have hh9 := hh8.set 1 (.slice p8 m8 c8)
    have hown9 := own_only hown8 ((Only.refl g3 w8).set 1 (.slice p8 m8 c8)) h33
    refine ⟨hO9, ?_⟩
    go_frame
    refine then_normalE ?_
    go_at_K
    obtain ⟨W9, hW9⟩ : ∃ W9, w8.setCell ⟨g3, 1, none⟩ (.slice p8 m8 c8) = W9 := ⟨_, rfl⟩
    rw [hW9] at hO9 hh9 hown9 ⊢
    have z0 : W9.cell? ⟨g3, 0, none⟩ = some (.bool leaf) := hh9.cell 0
    have z1 : W9.cell? ⟨g3, 1, none⟩ = some (.slice p8 m8 c8) := hh9.cell 1
    have hb9 : Holds W9 g2 24 #[.bool false, .slice none 0 0] := hO9.holds HK.out.2.1 HK.out.1.2.2.2.2.2.2.1
    have HF : Hid (OwnCells W9 W3.heap.size (.slice p8 m8 c8) R ∧ Only g3 W3 W9) := ⟨hown9, hO9⟩
    clear hW9 s1 s2 hO8 hh8 hown8 hg8 hm8 hat8 hO7 hh7 hown7 hown7d r1 hO9 hh9 hown9
    go_wp2_with ((with_reducible show wpList _ _ _ (Oper.mk _ (Op.store _ _ _) _ _ _ _ :: _) _ _); go_must (refine wpList_storeH rfl 24 _ _ rfl g2 #[.bool leaf, .slice p8 m8 c8] rfl rfl 24 #[.bool false, .slice none 0 0] hb9 infoNode2 rfl (by simp [Value.oneCell']) ?_; intro w10 hH hO hs10))
    refine bodyPost_ret (results_cellH (p := 4) rfl _ w10 g2 24 _ _ rfl hH Try.underlying24 rfl infoNode2) rfl ?_
    refine ⟨_, rfl, (own_only HF.out.1 hO HK.out.1.2.2.1).mono HK.out.2.2.1.size, ?_⟩
    exact Only.fresh (Only.fresh HK.out.2.2.1 HF.out.2 HK.out.1.2.1) hO HK.out.1.1
end Go.Proofs.Ytdgfjaidnedaiaa
