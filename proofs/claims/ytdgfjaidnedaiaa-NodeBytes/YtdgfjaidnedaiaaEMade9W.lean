/-
  The law's made: a node of those cells that may be.
-/
import Derived.Test.YtdgfjaidnedaiaaEQSameW
namespace Go.Proofs.Ytdgfjaidnedaiaa
open Go Go.RowKit

def madeStep (leaf : Bool) (acc : List Cl) (c : Cl) : List Cl := if mayB leaf c = true then putL acc c else acc
def madeL (leaf : Bool) (l : List Cl) : List Cl := (l.take 60).foldl (madeStep leaf) []
theorem madeStep_ok {leaf : Bool} {acc : List Cl} {c : Cl} (h : OkL leaf acc) : OkL leaf (madeStep leaf acc c) := by
  unfold madeStep
  by_cases hm : mayB leaf c = true
  · rw [if_pos hm]; exact putL_ok h hm
  · rw [if_neg hm]; exact h
theorem madeStep_len (leaf : Bool) (acc : List Cl) (c : Cl) : (madeStep leaf acc c).length ≤ acc.length + 1 := by
  unfold madeStep
  by_cases hm : mayB leaf c = true
  · rw [if_pos hm]; exact putL_len _ _
  · rw [if_neg hm]; omega
theorem foldl_made (leaf : Bool) : ∀ (l acc : List Cl), OkL leaf acc → OkL leaf (l.foldl (madeStep leaf) acc) ∧ (l.foldl (madeStep leaf) acc).length ≤ acc.length + l.length
  | [], acc, h => ⟨h, by simp⟩
  | c :: l, acc, h => by
    obtain ⟨q1, q2⟩ := foldl_made leaf l (madeStep leaf acc c) (madeStep_ok h)
    refine ⟨q1, ?_⟩
    have := madeStep_len leaf acc c
    rw [List.foldl_cons, List.length_cons]
    omega
theorem madeL_ok (leaf : Bool) (l : List Cl) : OkL leaf (madeL leaf l) ∧ (madeL leaf l).length ≤ 60 := by
  obtain ⟨q1, q2⟩ := foldl_made leaf (l.take 60) [] (OkL.nil _)
  refine ⟨q1, Nat.le_trans q2 ?_⟩
  rw [List.length_nil, List.length_take]
  omega
theorem mayB_short {leaf : Bool} {c : Cl} (h : mayB leaf c = true) : c.k.size ≤ 128 ∧ c.v.size ≤ 200 := by
  unfold mayB at h
  rw [Bool.and_eq_true] at h
  refine ⟨of_decide_eq_true h.1, ?_⟩
  have h2 := h.2
  by_cases hc : leaf = true ∧ c.p = 0
  · rw [if_pos hc] at h2
    exact (of_decide_eq_true h2).1
  · rw [if_neg hc, Bool.and_eq_true] at h2
    have := (of_decide_eq_true h2.1).2.2
    omega
theorem OkL.short {leaf : Bool} {L : List Cl} (h : OkL leaf L) : Short 200 L := fun c hc => by
  have := mayB_short (h.1 c hc)
  omega
theorem Short.mono {m m' : Nat} {L : List Cl} (h : Short m L) (hm : m ≤ m') : Short m' L := fun c hc => by have := h c hc; omega
theorem ok_one (leaf : Bool) (c : Cl) : OkL leaf [c] ↔ mayB leaf c = true := by
  constructor
  · exact fun h => h.1 c (List.mem_singleton.2 rfl)
  · exact fun h => ⟨fun x hx => by rw [List.mem_singleton.1 hx]; exact h, List.pairwise_singleton _ _⟩
theorem chk_one (leaf : Bool) (c : Cl) : chkE leaf [c] = if mayB leaf c = true then 0 else 1 := by
  by_cases h : mayB leaf c = true
  · rw [if_pos h, chkE_ok ((ok_one leaf c).2 h)]
  · rw [if_neg h, chkE_no fun q => h ((ok_one leaf c).1 q)]
theorem made_next (leaf : Bool) {l : List Cl} {k : Nat} {x : Cl} (hx : l[k]? = some x) : (l.take (k + 1)).foldl (madeStep leaf) [] = madeStep leaf ((l.take k).foldl (madeStep leaf) []) x := by
  rw [List.take_add_one, hx, List.foldl_append]
  rfl
set_option maxRecDepth 8000 in
set_option maxHeartbeats 4000000 in
theorem made9_any {w : World} {leaf : Bool} {v : Value} {l : List Cl} (hv : CellsAt w v l) :
    Calls Try.prog 20 #[.bool leaf, v] w fun e w' => ∃ u, e = .returned (nodeV leaf u) ∧ OwnCells w' w.heap.size u (madeL leaf l) ∧ Below w.heap.size w w' := by
  obtain ⟨p, c, rfl⟩ := hv.shape
  obtain ⟨n, hn⟩ : ∃ n, l.length = n := ⟨_, rfl⟩
  have HN : Hid (l.length = n) := hn
  have HV : Hid (CellsAt w (.slice p l.length c) l) := hv
  obtain ⟨R, hR⟩ : ∃ R, madeL leaf l = R := ⟨_, rfl⟩
  have HR : Hid (madeL leaf l = R) := hR
  rw [hn, hR]
  rw [hn] at HV
  clear hv hn hR
  obtain ⟨W0, g0, hW0, hg0, hB0, hb0, a0, a1⟩ := box_node w false (.slice none 0 0)
  obtain ⟨W1, g1, hW1, hg1, hB1, hb1, b0, b1⟩ := box_node W0 leaf (.slice none 0 0)
  have HK : Hid ((w.heap.size ≤ g0 ∧ w.heap.size ≤ g1 ∧ g0 < W1.heap.size ∧ g1 < W1.heap.size ∧ g0 ≠ g1) ∧ Holds W1 g0 24 #[.bool false, .slice none 0 0] ∧ Below w.heap.size w W1 ∧ Holds W1 g1 24 #[.bool leaf, .slice none 0 0]) := by
    have q1 := hb0.lt
    have q2 := hb1.lt
    have q3 := hB0.size
    have q4 := hB1.size
    exact ⟨by omega, below_holds hB1 hb0, below_new hB0 hB1, hb1⟩
  have HW1 : Hid (W0.alloc (.cells #[.bool leaf, .slice none 0 0] 24) = W1) := hW1
  have HG1 : Hid (W0.heap.size = g1) := hg1
  have HG0 : Hid (w.heap.size = g0) := hg0
  clear hW1 hg1 hB0 hB1 hb0 hb1 a0 a1 b0 b1
  go_enter Try.func20, Try.ntmps20
  go_wp2_with fail
  rw [HW1.out, HG1.out]
  go_loopw [6] (fun y wr => ∃ k : Nat, y = .int .i64 (k : Nat) ∧ k ≤ n ∧ k ≤ 60 ∧ ∃ acc u, Hid (acc = (l.take k).foldl (madeStep leaf) []) ∧ Only g1 W1 wr ∧ Holds wr g1 24 #[.bool leaf, u] ∧ OwnCells wr W1.heap.size u acc) (fun y _ => 60 - (intOf y).toNat)
  case atStart => exact ⟨0, rfl, Nat.zero_le _, Nat.zero_le _, [], _, rfl, Only.refl _ _, HK.out.2.2.2, OwnCells.nil _ _⟩
  case round =>
    obtain ⟨k, rfl, hkn, hk6, acc, u, HA, hO, hH, hown⟩ := hrel
    have HI : Hid (Only g1 W1 wr ∧ Holds wr g1 24 #[.bool leaf, u] ∧ OwnCells wr W1.heap.size u acc) := ⟨hO, hH, hown⟩
    obtain ⟨pu, mu, cu, rfl, hmu, hat⟩ := shape2 hown
    have HMU : Hid (mu = acc.length) := hmu
    have hVr : CellsAt wr (.slice p n c) l := by
      rcases HV.out with q | ⟨b, o, c', q1, q2, q3⟩
      · exact .inl q
      · refine .inr ⟨b, o, c', q1, q2, fun i y hy => only_cellAt hO ((q3 i y hy).below HK.out.2.2.1) ?_⟩
        have h1 := World.block_lt_of_cell? _ _ (q3 i y hy).1
        have h2 := HK.out.1.2.1
        simp only at h1
        omega
    have f1 : Hid (wr.cell? ⟨g1, 0, none⟩ = some (.bool leaf) ∧ wr.cell? ⟨g1, 1, none⟩ = some (.slice pu mu cu)) := ⟨hH.cell 0, hH.cell 1⟩
    clear hO hH hown hmu hat
    by_cases hlt : k < n ∧ k < 60
    · have hki : (k : Int) < n := by omega
      have hk60 : (k : Int) < 60 := by omega
      obtain ⟨x, hx⟩ : ∃ x, l[k]? = some x := ⟨_, List.getElem?_eq_getElem (by have := HN.out; omega)⟩
      obtain ⟨b, o, rfl, hnn, hd⟩ := hVr.at hx
      clear hnn hVr
      have HBN : Hid (b < w.heap.size) := by
        obtain ⟨b', o', e, _, h3⟩ := HV.out.at hx
        injection e with e
        injection e with e1 _
        have := World.block_lt_of_cell? _ _ h3.1
        simp only at this
        show b < w.heap.size
        omega
      obtain ⟨Wb, gb, hWb, hgb, hBb, hxb⟩ := box_cell wr x
      obtain ⟨W7, g7, hW7, hg7, hB7, hb7, z0, z1⟩ := box_node Wb leaf (.slice (some ⟨gb, 0, none⟩) 1 1)
      have hck := qcheck_any (w := W7) (leaf := leaf) ((one_cl hxb).below hB7) (by simp)
      have hBr := below_new hBb hB7
      obtain ⟨d0, d1, d2, d3⟩ := hd
      have k0 := keep_cell hBr d0
      have k1 := keep_cell hBr d1
      have HX : Hid (CellAt W7 b (o + k * 4) x) := (⟨k0, k1, keep_cell hBr d2, keep_cell hBr d3⟩)
      have HB7 : Hid (Below wr.heap.size wr W7) := hBr
      have HNX := made_next leaf hx
      rw [← HA.out] at HNX
      rw [chk_one] at hck
      have HSK : ∀ W, Below wr.heap.size wr W → Hid (Only g1 W1 W ∧ Holds W g1 24 #[.bool leaf, .slice pu mu cu] ∧ OwnCells W W1.heap.size (.slice pu mu cu) acc) := fun W hW => ⟨HI.out.1.below hW, below_holds hW HI.out.2.1, HI.out.2.2.below0 hW⟩
      have HSM : Hid (acc.length ≤ 100000 ∧ mayB leaf x = mayB leaf x) := ⟨by
        have := (foldl_made leaf (l.take k) [] (OkL.nil _)).2
        rw [← HA.out, List.length_nil, List.length_take] at this
        omega, rfl⟩
      have hns : mayB leaf x = true → x.k.size ≤ 128 ∧ x.v.size ≤ 200 := mayB_short
      clear hx hBb hB7 hb7 hxb hBr
      have hcl : cla x = .agg #[.string x.k, .string x.v, .int .i64 x.p, .int .i64 x.s] := rfl
      unfold nodeV at hck
      by_cases hkk : x.k.size ≤ 128
      · have hkki : (x.k.size : Int) ≤ 128 := by omega
        by_cases hvv : x.v.size ≤ 200
        · have hvvi : (x.v.size : Int) ≤ 200 := by omega
          by_cases hm : mayB leaf x = true
          · have HNX2 : Hid (putL acc x = (l.take (k + 1)).foldl (madeStep leaf) []) := by show _ = _; rw [HNX]; unfold madeStep; rw [if_pos hm]
            rw [if_pos hm] at hck
            clear HNX hns hm
            go_wp2_with (go_at_call 13; refine hck.mono ?_; rintro e W8 ⟨rfl, hB8⟩)
            have hBr8 := below_new HB7.out hB8
            have hI8 := (HSK W8 hBr8).out
            have c0 : W8.cell? ⟨g1, 0, none⟩ = some (.bool leaf) := hI8.2.1.cell 0
            have c1 : W8.cell? ⟨g1, 1, none⟩ = some (.slice pu mu cu) := hI8.2.1.cell 1
            have hx8 := HX.out.below hB8
            have hb1 : b ≠ g1 := by
              have h1 := HBN.out
              have h2 := HK.out.1.2.1
              omega
            refine wp_region_tree (fun W => Only g1 W8 W) [1, 2, 3, 4] (.one 0 (.one 5 (.one 6 .nil))) mixedP (by kernel_rfl) rfl (by kernel_rfl) (fun _ _ _ d _ h => by cases d <;> exact h) (Only.refl _ _).drew ?_
            refine tk_val (some 49) rfl rfl rfl (.slice (some ⟨b, o, none⟩) n c) (fun _ => by go_simp) ?_
            go_frame
            refine tk_val (some 50) rfl rfl rfl (.int .i64 (k : Nat)) (fun _ => by go_simp) ?_
            go_frame
            refine tk_val (some 51) rfl rfl rfl (.pointer (some ⟨b, o + k * 4, none⟩)) (fun _ => by go_simp) ?_
            go_frame
            refine tk_ld (some 52) rfl rfl rfl _ _ rfl rfl (fun W hW => ldCell (only_cellAt hW hx8 hb1)) ?_
            go_frame
            refine tk_nil ?_
            refine op_val (some 48) rfl rfl rfl (v := nodeV leaf (.slice pu mu cu)) (w' := W8.drew) (by
              have c0d : W8.drew.cell? ⟨g1, 0, none⟩ = some (.bool leaf) := c0
              have c1d : W8.drew.cell? ⟨g1, 1, none⟩ = some (.slice pu mu cu) := c1
              go_simp
              rfl) ?_
            refine ⟨(Only.refl _ _).drew, ?_⟩
            go_frame
            refine op_call (some 53) rfl rfl rfl (f := 28) (vs := #[nodeV leaf (.slice pu mu cu), cla x]) (by go_simp) ?_
            have hpt := qput_any (w := W8.drew) (leaf := leaf) (v := .slice pu mu cu) (L := acc) hI8.2.2.at HSM.out.1 x
            refine hpt.mono ?_
            rintro e W9 ⟨v9, rfl, hown9, hB9⟩
            have hB9' : Below W8.heap.size W8 W9 := below_drewL hB9
            have hO9 : Only g1 W8 W9 := (Only.refl g1 W8).below hB9'
            refine ⟨_, rfl, hO9, ?_⟩
            obtain ⟨p9, m9, c9, rfl, hm9, hat9⟩ := shape2 hown9
            unfold nodeV
            go_frame
            refine op_storeH none rfl rfl rfl 24 _ _ rfl g1 _ rfl rfl 24 _ (below_holds hB9' hI8.2.1) infoNode2 rfl (by simp [Value.oneCell']) ?_
            intro w10 hH10 hO10 hs10
            refine ⟨hO9.trans hO10, ?_⟩
            go_frame
            have hsz8 := hI8.1.size
            have hown10 := own_only (hown9.mono (show W1.heap.size ≤ W8.drew.heap.size from hsz8)) hO10 HK.out.1.2.2.2.1
            have HI10 : Hid (Only g1 W1 w10 ∧ Holds w10 g1 24 #[.bool leaf, .slice p9 m9 c9] ∧ OwnCells w10 W1.heap.size (.slice p9 m9 c9) (putL acc x)) := ⟨hI8.1.trans (hO9.trans hO10), hH10, hown10⟩
            clear hown10 hH10 hO10 hO9 hB9 hB9' hown9 hat9 hm9
            show Exit.inBlock 1 _ Exit.normal _ _
            simp only [Exit.inBlock, Exit.then]
            go_at_K
            go_wp2_with fail
            exact ⟨⟨k + 1, by go_num, by omega, by omega, putL acc x, _, HNX2, HI10.out⟩, by simp [intOf]; omega⟩
          · have HA2 : Hid (acc = (l.take (k + 1)).foldl (madeStep leaf) []) := by show _ = _; rw [HNX]; unfold madeStep; rw [if_neg hm]
            rw [if_neg hm] at hck
            clear HNX hns hm
            go_wp2_with (go_at_call 13; refine hck.mono ?_; rintro e W8 ⟨rfl, hB8⟩)
            have hI8 := (HSK W8 (below_new HB7.out hB8)).out
            exact ⟨⟨k + 1, by go_num, by omega, by omega, acc, _, HA2, hI8⟩, by simp [intOf]; omega⟩
        · have hvvi : ¬ (x.v.size : Int) ≤ 200 := by omega
          have hm : ¬ mayB leaf x = true := fun h => hvv (hns h).2
          have HA2 : Hid (acc = (l.take (k + 1)).foldl (madeStep leaf) []) := by show _ = _; rw [HNX]; unfold madeStep; rw [if_neg hm]
          clear HNX hns hm hck
          go_wp2_with fail
          have hI8 := (HSK W7 HB7.out).out
          exact ⟨⟨k + 1, by go_num, by omega, by omega, acc, _, HA2, hI8⟩, by simp [intOf]; omega⟩
      · have hkki : ¬ (x.k.size : Int) ≤ 128 := by omega
        have hm : ¬ mayB leaf x = true := fun h => hkk (hns h).1
        have HA2 : Hid (acc = (l.take (k + 1)).foldl (madeStep leaf) []) := by show _ = _; rw [HNX]; unfold madeStep; rw [if_neg hm]
        clear HNX hns hm hck
        go_wp2_with fail
        have hI8 := (HSK W7 HB7.out).out
        exact ⟨⟨k + 1, by go_num, by omega, by omega, acc, _, HA2, hI8⟩, by simp [intOf]; omega⟩
    · have HRe : Hid (R = acc) := by
        show _ = _
        rw [← HR.out, HA.out]
        unfold madeL
        by_cases h6 : k < 60
        · have : l.length ≤ k := by have := HN.out; omega
          rw [List.take_of_length_le this, List.take_of_length_le (by omega)]
        · rw [show k = 60 by omega]
      have hb9 : Holds wr g0 24 #[.bool false, .slice none 0 0] := HI.out.1.holds HK.out.2.1 HK.out.1.2.2.2.2
      obtain ⟨c0, c1⟩ := f1.out
      clear hVr
      rcases Nat.lt_or_ge k n with hk | hk
      · have hki : (k : Int) < n := by omega
        have hk60 : ¬ (k : Int) < 60 := by omega
        clear hlt
        go_wp2_with ((with_reducible show wpList _ _ _ (Oper.mk _ (Op.store _ _ _) _ _ _ _ :: _) _ _); go_must (refine wpList_storeH rfl 24 _ _ rfl g0 #[.bool leaf, .slice pu mu cu] rfl rfl 24 #[.bool false, .slice none 0 0] hb9 infoNode2 rfl (by simp [Value.oneCell']) ?_; intro w10 hH hO hs10))
        refine bodyPost_ret (results_cellH (p := 4) rfl _ w10 g0 24 _ _ rfl hH Try.underlying24 rfl infoNode2) rfl ?_
        rw [HRe.out, ← HG0.out]
        exact ⟨_, rfl, (own_only HI.out.2.2 hO HK.out.1.2.2.1).mono HK.out.2.2.1.size, Only.fresh (Only.fresh HK.out.2.2.1 HI.out.1 HK.out.1.2.1) hO HK.out.1.1⟩
      · have hki : ¬ (k : Int) < n := by omega
        clear hlt
        go_wp2_with ((with_reducible show wpList _ _ _ (Oper.mk _ (Op.store _ _ _) _ _ _ _ :: _) _ _); go_must (refine wpList_storeH rfl 24 _ _ rfl g0 #[.bool leaf, .slice pu mu cu] rfl rfl 24 #[.bool false, .slice none 0 0] hb9 infoNode2 rfl (by simp [Value.oneCell']) ?_; intro w10 hH hO hs10))
        refine bodyPost_ret (results_cellH (p := 4) rfl _ w10 g0 24 _ _ rfl hH Try.underlying24 rfl infoNode2) rfl ?_
        rw [HRe.out, ← HG0.out]
        exact ⟨_, rfl, (own_only HI.out.2.2 hO HK.out.1.2.2.1).mono HK.out.2.2.1.size, Only.fresh (Only.fresh HK.out.2.2.1 HI.out.1 HK.out.1.2.1) hO HK.out.1.1⟩
end Go.Proofs.Ytdgfjaidnedaiaa
