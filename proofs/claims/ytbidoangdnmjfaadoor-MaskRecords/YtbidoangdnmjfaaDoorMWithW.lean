/-
  The program's With.
-/
import Derived.Test.YtbidoangdnmjfaaDoorMWithP
namespace Go.Proofs.YtbidoangdnmjfaaDoor
open Go Go.RowKit

theorem box_zero (w : World) : ∃ W0 g, w.alloc (.cells #[.int .u16 0, .int .u16 0, .int .u16 0, .slice none 0 0] 25) = W0 ∧ w.heap.size = g ∧ Below w.heap.size w W0 ∧ Holds W0 g 25 (brC 0 0 0 (.slice none 0 0)) := ⟨_, _, rfl, rfl, below_new1 _ _, Holds.new w 25 (brC 0 0 0 (.slice none 0 0))⟩
theorem lbM (x : ByteArray) : x.toList = x.data.toList := ByteArray.toList_eq x
theorem emp_eq (r : ByteArray) : r.toList.isEmpty = !(r.size != 0) := by
  rw [lbM]
  cases hd : r.data.toList with
  | nil =>
    have : r.size = 0 := by show r.data.toList.length = 0; rw [hd]; rfl
    rw [this]; rfl
  | cons a l =>
    have : r.size ≠ 0 := by show r.data.toList.length ≠ 0; rw [hd]; simp
    simp [this]
theorem own_pos (r : ByteArray) : decide (0 < (ownL r).length) = isH r := by
  unfold ownL
  cases isH r <;> rfl
theorem own_le (r : ByteArray) : (ownL r).length ≤ 1 := by
  unfold ownL
  cases isH r <;> simp
theorem HashAt.ne {w : World} {b o g : Nat} {x : H32} {ty : TypeId} {s t h : Nat} {p : Option Addr} {n c : Nat} (hh : HashAt w b o x) (hg : Holds w g ty (brC s t h (.slice p n c))) : b ≠ g := by
  rintro rfl
  have h0 := hh 0 (by decide)
  rw [Nat.add_zero, hg.cell o] at h0
  obtain ⟨z, hz⟩ : ∃ z, (hcl x)[0]? = some (.int .u8 z) := by
    have hl : 0 < x.1.length := by rw [x.2]; decide
    refine ⟨((x.1[0]'hl).toNat : Int), ?_⟩
    unfold hcl
    rw [List.getElem?_map, List.getElem?_eq_getElem hl]
    rfl
  rw [hz] at h0
  match o with
  | 0 => simp [brC] at h0
  | 1 => simp [brC] at h0
  | 2 => simp [brC] at h0
  | 3 => simp [brC] at h0
  | k + 4 => simp [brC] at h0
/-- A row of hashes stays where a branch's block alone turns. -/
theorem HashesAt.only {w w' : World} {v : Value} {L : List H32} {g : Nat} {ty : TypeId} {s t h : Nat} {p : Option Addr} {n c : Nat} (hh : HashesAt w v L) (hO : Only g w w') (hg : Holds w g ty (brC s t h (.slice p n c))) : HashesAt w' v L := by
  rcases hh with q | ⟨b, o, c', h1, h2, h3⟩
  · exact .inl q
  · refine .inr ⟨b, o, c', h1, h2, fun i x hx j hj => ?_⟩
    have ha := h3 i x hx
    have hne := ha.ne hg
    have hb := hO.block b ha.lt hne
    have := ha j hj
    unfold World.cell? at this ⊢
    simp only [hb]
    exact this
/-- A branch in a block. -/
theorem brC_sets (s t h : Nat) (v : Value) (x : Nat) (u : Value) :
    (brC s t h v).setIfInBounds 0 (.int .u16 (x : Nat)) = brC x t h v ∧ (brC s t h v).setIfInBounds 1 (.int .u16 (x : Nat)) = brC s x h v ∧ (brC s t h v).setIfInBounds 2 (.int .u16 (x : Nat)) = brC s t x v ∧ (brC s t h v).setIfInBounds 3 u = brC s t h u := ⟨rfl, rfl, rfl, rfl⟩
theorem infoBrC (s t h : Nat) (v : Value) : (Tryd.prog.info? 25).map (·.size) = some (brC s t h v).size := infoBr
theorem pow_or (m k : Nat) : (if (true : Bool) then m ||| 2 ^ k else andN m (2 ^ k)) = setM m k true := rfl
theorem mark_set (m k : Nat) (is : Bool) : (if is then m ||| 2 ^ k else andN m (2 ^ k)) = setM m k is := rfl
set_option maxRecDepth 8000 in
set_option maxHeartbeats 2000000 in
theorem mwith_any {w : World} {b : Br} {k : Nat} {v : Value} (hb : b.fits) (hk : k < 16) (hv : HashesAt w v b.L) (tree : Bool) (r : ByteArray) (hT : DbAt w) :
    Calls Tryd.prog 25 #[brV b.s b.t b.h v, .int .i64 (k : Nat), .bool tree, .string r] w fun e w' => ∃ v', e = .returned (brV (withB b k tree r).s (withB b k tree r).t (withB b k tree r).h v') ∧ HashesAt w' v' (withB b k tree r).L ∧ Below w.heap.size w w' := by
  obtain ⟨s, t, h, L⟩ := b
  obtain ⟨hs, ht, hh, hL⟩ := hb
  dsimp only at hs ht hh hL hv ⊢
  unfold withB
  dsimp only
  obtain ⟨p, c, rfl⟩ := hv.shape
  obtain ⟨m, hm⟩ : ∃ m, L.length = m := ⟨_, rfl⟩
  have HM : Hid (L.length = m ∧ m = cntM h) := ⟨hm, hm ▸ hL⟩
  rw [hm] at hv ⊢
  clear hm hL
  have hm16 : m ≤ 16 := by rw [HM.out.2]; exact cntM_le h
  have hki : (k : Int) < 16 := by omega
  have HO : Hid (ofM [(k : Int)] = 2 ^ k) := by
    show ofM _ = _
    rw [ofM_one (by omega) (by omega), Int.toNat_natCast]
  have hp := pow_lt16 hk
  have hp1 : 1 ≤ 2 ^ k := Nat.one_le_two_pow
  obtain ⟨e1, he1⟩ : ∃ e1, (r.size != 0) = e1 := ⟨_, rfl⟩
  obtain ⟨e3, he3⟩ : ∃ e3, isH r = e3 := ⟨_, rfl⟩
  have hm1 := fun W => marked_any (m := s) (one := 2 ^ k) e1 hs hp W
  have hm2 := fun W => marked_any (m := t) (one := 2 ^ k) (e1 && tree) ht hp W
  have hm3 := fun W => marked_any (m := h) (one := 2 ^ k) e3 hh hp W
  rw [he1, he3]
  simp only [mark_set] at hm1 hm2 hm3
  have HE1 : Hid ((r.size != 0) = e1) := he1
  have HE3 : Hid (isH r = e3) := he3
  have hs1 := setM_lt hs hk e1
  have ht1 := setM_lt ht hk (e1 && tree)
  have hh1 := setM_lt hh hk e3
  generalize setM s k e1 = s1 at hm1 hs1 ⊢
  generalize setM t k (e1 && tree) = t1 at hm2 ht1 ⊢
  generalize setM h k e3 = h1 at hm3 hh1 ⊢
  generalize 2 ^ k = q at HO hp hp1 hm1 hm2 hm3
  have hq0 : ((q : Int) == 0) = false := by simp; omega
  clear he1 he3
  obtain ⟨W0, g, hW0, hg, hB0, hb0, _, _, _, _⟩ := box_br w s t h (.slice p m c)
  obtain ⟨W1, g1, hW1, hg1, hB1, hb1⟩ := box_zero W0
  have hgl : g < g1 := by rw [← hg1]; exact hb0.lt
  have HG : Hid (w.heap.size = g) := hg
  have HW : Hid (Below w.heap.size w W1 ∧ DbAt W1 ∧ HashesAt W1 (.slice p m c) L ∧ Holds W1 g 25 (brC s t h (.slice p m c)) ∧ Holds W1 g1 25 (brC 0 0 0 (.slice none 0 0))) := ⟨below_new hB0 hB1, (hT.below hB0).below hB1, (hv.below hB0).below hB1, below_holds hB1 hb0, hb1⟩
  clear hB0 hB1 hb0 hb1 hT hv
  cases e1
  all_goals
    first | rw [Bool.true_and] at hm2 | rw [Bool.false_and] at hm2
    unfold brV
    go_enter Tryd.func25, Tryd.ntmps25
    go_wp2_with fail
    have ho := of_any (IntsM.one (Holds.new W1 3 #[.int .i64 (k : Int)])) (by simp)
    rw [HO.out] at ho
    refine ho.mono ?_
    rintro e w2 ⟨rfl, hw2⟩
    have hB2 : Below W1.heap.size W1 w2 := by rw [hw2]; exact below_new1 _ _
    have H2 : Hid (Below w.heap.size w w2 ∧ DbAt w2 ∧ HashesAt w2 (.slice p m c) L ∧ Holds w2 g 25 (brC s t h (.slice p m c)) ∧ Holds w2 g1 25 (brC 0 0 0 (.slice none 0 0))) := ⟨below_new HW.out.1 hB2, HW.out.2.1.below hB2, HW.out.2.2.1.below hB2, below_holds hB2 HW.out.2.2.2.1, below_holds hB2 HW.out.2.2.2.2⟩
    have c0 : w2.cell? ⟨g, 0, none⟩ = some (.int .u16 (s : Nat)) := H2.out.2.2.2.1.cell 0
    have c1 : w2.cell? ⟨g, 1, none⟩ = some (.int .u16 (t : Nat)) := H2.out.2.2.2.1.cell 1
    have c2 : w2.cell? ⟨g, 2, none⟩ = some (.int .u16 (h : Nat)) := H2.out.2.2.2.1.cell 2
    have c3 : w2.cell? ⟨g, 3, none⟩ = some (.slice p m c) := H2.out.2.2.2.1.cell 3
    clear ho hw2 hB2 HW HO hW0 hW1
    go_wp2_with fail
    have har := around_any (s := s) (t := t) hh hk H2.out.2.2.1 (HM.out.1.trans HM.out.2) H2.out.2.1
    unfold brV at har
    refine har.mono ?_
    rintro e w3 ⟨va, vb, rfl, hva, hvb, hB3⟩
    obtain ⟨pa, ca, rfl⟩ := hva.shape
    obtain ⟨pb, cb, rfl⟩ := hvb.shape
    obtain ⟨na, hna⟩ : ∃ na, (L.take (cntTo h k)).length = na := ⟨_, rfl⟩
    obtain ⟨nb, hnb⟩ : ∃ nb, (L.drop (cntTo h k + bit1 h k)).length = nb := ⟨_, rfl⟩
    rw [hna] at hva ⊢
    rw [hnb] at hvb ⊢
    clear hna hnb
    have H3 : Hid (Below w.heap.size w w3 ∧ Holds w3 g 25 (brC s t h (.slice p m c)) ∧ Holds w3 g1 25 (brC 0 0 0 (.slice none 0 0)) ∧ HashesAt w3 (.slice pa na ca) (L.take (cntTo h k)) ∧ HashesAt w3 (.slice pb nb cb) (L.drop (cntTo h k + bit1 h k))) := ⟨below_new H2.out.1 hB3, below_holds hB3 H2.out.2.2.2.1, below_holds hB3 H2.out.2.2.2.2, hva, hvb⟩
    clear har c0 c1 c2 c3 hB3 hva hvb
    go_wp2_with fail
    have hof := hashesOf_any (w := w3) r
    refine hof.mono ?_
    rintro e w4 ⟨vo, rfl, hvo, hB4⟩
    have H4 : Hid (Below w.heap.size w w4 ∧ Holds w4 g 25 (brC s t h (.slice p m c)) ∧ Holds w4 g1 25 (brC 0 0 0 (.slice none 0 0)) ∧ HashesAt w4 (.slice pa na ca) (L.take (cntTo h k)) ∧ HashesAt w4 (.slice pb nb cb) (L.drop (cntTo h k + bit1 h k)) ∧ HashesAt w4 vo (ownL r)) := ⟨below_new H3.out.1 hB4, below_holds hB4 H3.out.2.1, below_holds hB4 H3.out.2.2.1, H3.out.2.2.2.1.below hB4, H3.out.2.2.2.2.below hB4, hvo⟩
    clear hof hB4
    have c0 : w4.cell? ⟨g, 0, none⟩ = some (.int .u16 (s : Nat)) := H4.out.2.1.cell 0
    have f0 := H4.out.2.1.frozen 0
    obtain ⟨po, co, rfl⟩ := hvo.shape
    clear hvo
    have hemp := emp_eq r
    rw [HE1.out] at hemp
    obtain ⟨nl, hnl⟩ : ∃ nl, (ownL r).length = nl := ⟨_, rfl⟩
    have hgt := own_pos r
    rw [hnl, HE3.out] at hgt
    have HNL : Hid ((ownL r).length = nl) := hnl
    have hnl1 : (nl : Int) ≤ 1 := by have := own_le r; omega
    rw [hnl]
    rw [hnl] at H4
    clear hnl
    obtain ⟨W5, hW5⟩ : ∃ W5, w4.setCell ⟨g, 0, none⟩ (.int .u16 (s1 : Nat)) = W5 := ⟨_, rfl⟩
    have h5 : Holds W5 g 25 (brC s1 t h (.slice p m c)) := by rw [← hW5]; exact H4.out.2.1.set 0 _
    have hO5 : Only g w4 W5 := by rw [← hW5]; exact (Only.refl g w4).set 0 _
    obtain ⟨W6, hW6⟩ : ∃ W6, W5.setCell ⟨g, 1, none⟩ (.int .u16 (t1 : Nat)) = W6 := ⟨_, rfl⟩
    have h6 : Holds W6 g 25 (brC s1 t1 h (.slice p m c)) := by rw [← hW6]; exact h5.set 1 _
    have hO6 : Only g W5 W6 := by rw [← hW6]; exact (Only.refl g W5).set 1 _
    obtain ⟨W7, hW7⟩ : ∃ W7, W6.setCell ⟨g, 2, none⟩ (.int .u16 (h1 : Nat)) = W7 := ⟨_, rfl⟩
    have h7 : Holds W7 g 25 (brC s1 t1 h1 (.slice p m c)) := by rw [← hW7]; exact h6.set 2 _
    have hO7 : Only g W6 W7 := by rw [← hW7]; exact (Only.refl g W6).set 2 _
    have hO47 : Only g w4 W7 := (hO5.trans hO6).trans hO7
    have d1 : W5.cell? ⟨g, 1, none⟩ = some (.int .u16 (t : Nat)) := h5.cell 1
    have e1' := h5.frozen 1
    have d2 : W6.cell? ⟨g, 2, none⟩ = some (.int .u16 (h : Nat)) := h6.cell 2
    have e2' := h6.frozen 2
    have H7 : Hid (Below w.heap.size w W7 ∧ Holds W7 g 25 (brC s1 t1 h1 (.slice p m c)) ∧ Holds W7 g1 25 (brC 0 0 0 (.slice none 0 0)) ∧ HashesAt W7 (.slice pa na ca) (L.take (cntTo h k)) ∧ HashesAt W7 (.slice pb nb cb) (L.drop (cntTo h k + bit1 h k)) ∧ HashesAt W7 (.slice po nl co) (ownL r)) :=
      ⟨Only.fresh H4.out.1 hO47 (by rw [HG.out]; omega), h7, hO47.holds H4.out.2.2.1 (by omega), H4.out.2.2.2.1.only hO47 H4.out.2.1, H4.out.2.2.2.2.1.only hO47 H4.out.2.1, H4.out.2.2.2.2.2.only hO47 H4.out.2.1⟩
    clear h5 h6 h7 hO5 hO6 hO7 hO47
    go_wp2_with fail
    refine (hm1 w4).mono ?_
    rintro e w5 ⟨rfl, hw5⟩
    have hw5' := hw5.symm
    subst hw5'
    clear hm1 hw5
    go_wp2_with fail
    refine (hm2 W5).mono ?_
    rintro e w6 ⟨rfl, hw6⟩
    have hw6' := hw6.symm
    subst hw6'
    clear hm2 hw6
    go_wp2_with fail
    refine (hm3 W6).mono ?_
    rintro e w7 ⟨rfl, hw7⟩
    have hw7' := hw7.symm
    subst hw7'
    clear hm3 hw7
    have hcc : Calls Tryd.prog 35 #[.slice (some ⟨W7.heap.size, 0, none⟩) 3 3] (W7.alloc (.cells #[.slice pa na ca, .slice po nl co, .slice pb nb cb] 23)) fun e w' => ∃ v, e = .returned v ∧ OwnH w' (W7.alloc (.cells #[.slice pa na ca, .slice po nl co, .slice pb nb cb] 23)).heap.size v [L.take (cntTo h k), ownL r, L.drop (cntTo h k + bit1 h k)].flatten ∧ Below (W7.alloc (.cells #[.slice pa na ca, .slice po nl co, .slice pb nb cb] 23)).heap.size (W7.alloc (.cells #[.slice pa na ca, .slice po nl co, .slice pb nb cb] 23)) w' := concat_any (w := W7.alloc (.cells #[.slice pa na ca, .slice po nl co, .slice pb nb cb] 23)) (q := W7.heap.size) (vs := [.slice pa na ca, .slice po nl co, .slice pb nb cb]) (ls := [L.take (cntTo h k), ownL r, L.drop (cntTo h k + bit1 h k)]) (Holds.new _ _ _) rfl ?vs ?sum (by simp)
    case vs =>
      intro i x l hx hl
      have hB := below_new1 W7 (.cells #[.slice pa na ca, .slice po nl co, .slice pb nb cb] 23)
      match i with
      | 0 => simp at hx hl; rw [← hx, ← hl]; exact H7.out.2.2.2.1.below hB
      | 1 => simp at hx hl; rw [← hx, ← hl]; exact H7.out.2.2.2.2.2.below hB
      | 2 => simp at hx hl; rw [← hx, ← hl]; exact H7.out.2.2.2.2.1.below hB
      | j + 3 => simp at hx
    case sum =>
      simp only [List.flatten_cons, List.flatten_nil, List.append_nil, List.length_append, List.length_take, List.length_drop]
      have h1 : (ownL r).length ≤ 1 := by unfold ownL; cases isH r <;> simp
      have := HM.out.1
      omega
    have HFL : Hid ([L.take (cntTo h k), ownL r, L.drop (cntTo h k + bit1 h k)].flatten = withL h k L (ownL r)) := by
      show _ = _
      unfold withL
      simp
    rw [HFL.out] at hcc
    go_wp2_with fail
    refine hcc.mono ?_
    rintro e w8 ⟨v8, rfl, hv8, hB8⟩
    have hB78 : Below W7.heap.size W7 w8 := below_new (below_new1 _ _) hB8
    have h8 := below_holds hB78 H7.out.2.1
    have c8 := h8.cell 3
    have f8 := h8.frozen 3
    have hv8' : HashesAt w8 v8 (withL h k L (ownL r)) := hv8.at
    obtain ⟨W9, hW9⟩ : ∃ W9, w8.setCell ⟨g, 3, none⟩ v8 = W9 := ⟨_, rfl⟩
    have h9 : Holds W9 g 25 (brC s1 t1 h1 v8) := by rw [← hW9]; exact h8.set 3 _
    have hO9 : Only g w8 W9 := by rw [← hW9]; exact (Only.refl g w8).set 3 _
    have hz9 : Holds W9 g1 25 (brC 0 0 0 (.slice none 0 0)) := hO9.holds (below_holds hB78 H7.out.2.2.1) (by omega)
    have HB9 : Hid (Below w.heap.size w W9) := Only.fresh (below_new H7.out.1 hB78) hO9 (by rw [HG.out]; omega)
    have HV9 : Hid (HashesAt W9 v8 (withL h k L (ownL r))) := hv8'.only hO9 h8
    obtain ⟨p8, c8', rfl⟩ := hv8'.shape
    clear hcc hB8 hB78 h8 hO9 hv8 hv8'
    go_wp2_with (first
      | (refine wpList_loadH rfl 25 _ rfl _ rfl _ _ _ h9 Tryd.underlying25 rfl infoBr ?_)
      | (refine wpList_storeH rfl 25 _ _ rfl _ _ rfl rfl _ _ hz9 infoBr rfl (by simp [brC, Value.oneCell']) ?_; intro W10 h10 hO10 hs10))
    refine bodyPost_ret (results_cellH rfl _ _ _ _ _ _ rfl h10 Tryd.underlying25 rfl infoBr) rfl ?_
    refine ⟨_, rfl, HV9.out.only hO10 hz9, Only.fresh HB9.out hO10 (by rw [HG.out]; omega)⟩
end Go.Proofs.YtbidoangdnmjfaaDoor
