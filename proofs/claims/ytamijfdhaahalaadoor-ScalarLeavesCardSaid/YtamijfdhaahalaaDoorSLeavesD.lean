/-
  ScalarLeaves walked.
-/
import Derived.Test.YtamijfdhaahalaaDoorSLeavesB
namespace Go.Proofs.YtamijfdhaahalaaDoor
open Go Go.RowKit

set_option maxRecDepth 16000 in
set_option maxHeartbeats 40000000 in
theorem leaves_yd (n m : Nat) (b b' c c' : ByteArray) (z z' : Int) (R Q : Nat → UInt8) (w : World) (hT : K.Tabs w) (hn : n < 18446744073709551616) (hm : m < 18446744073709551616) (h : okA b.data.toList c.data.toList z = true) (h' : okA b'.data.toList c'.data.toList z' = true) (h0 : ¬ c.size = 0) : LeavesGoal n m b b' c c' z z' R Q w := by
  unfold LeavesGoal
  obtain ⟨A, hA⟩ : ∃ A, acct n b c z = A := ⟨_, rfl⟩
  obtain ⟨B, hB⟩ : ∃ B, acct m b' c' z' = B := ⟨_, rfl⟩
  obtain ⟨ra, hra⟩ : ∃ ra, K.bytesA 32 R = ra := ⟨_, rfl⟩
  obtain ⟨qa, hqa⟩ : ∃ qa, K.bytesA 32 Q = qa := ⟨_, rfl⟩
  obtain ⟨tw, htw⟩ : ∃ tw, twoA R Q = tw := ⟨_, rfl⟩
  have hAs : A.size = 4 := by rw [← hA]; rfl
  have hBs : B.size = 4 := by rw [← hB]; rfl
  have hrs : ra.size = 32 := by rw [← hra]; exact K.bytesA_size 32 R
  have hqs : qa.size = 32 := by rw [← hqa]; exact K.bytesA_size 32 Q
  have hts : tw.size = 64 := by rw [← htw]; exact K.bytesA_size 64 _
  obtain ⟨S, hS⟩ : ∃ S, leafT n b c z R = S := ⟨_, rfl⟩
  obtain ⟨T, hTT⟩ : ∃ T, leafT m b' c' z' Q = T := ⟨_, rfl⟩
  have hla := fun w hT => leaf_any n b c z R w hT hn
  have hlb := fun w hT => leaf_any m b' c' z' Q w hT hm
  rw [chk_ok h] at hla
  rw [chk_ok h'] at hlb
  obtain ⟨o1, o2, _, _⟩ := (okA_iff b c z).1 h
  obtain ⟨r, hr⟩ : ∃ r, rootS R = r := ⟨_, rfl⟩
  obtain ⟨k, hk⟩ : ∃ k, codeS c = k := ⟨_, rfl⟩
  have hrz : r.size = 32 := by rw [← hr]; exact rootS_size R
  have hkz : k.size = 32 := by rw [← hk]; exact codeS_size o2
  have hrp : 0 < r.size := by omega
  have hr0 : r[0] = R 0 := by subst hr; exact root_zero R hrp
  have HD : Hid (∀ w, Calls Tryd.prog 30 #[.string S] w fun e w' => ItemAns w w' (some (.item true [] (row4 (num n) b.data.toList r.data.toList k.data.toList) .nil)) e ∧ Below w.heap.size w w') := fun w => by
    have q := decode_any S w (by rw [← hS]; exact leafT_size n b c z R)
    have hl : S.data.toList = leafL n b c R := by rw [← hS]; unfold leafT; rw [if_pos h]
    rw [hl, decode_leaf h, hk] at q
    rw [← hr]
    exact q
  have hkc : k = c := by rw [← hk]; unfold codeS; rw [if_neg h0]
  clear o1 o2 hk hr
  have he : c.toList.isEmpty = false := notEmpty c h0
  have hkl : (k.toList == c.toList) = true := by rw [hkc]; exact beq_self_eq_true _
  clear hkc

  rw [hA, hS, hra] at hla
  rw [hB, hTT, hqa] at hlb
  have HLA : Hid (∀ w, K.Tabs w → Calls Tryd.prog 26 #[.agg A, .agg ra] w fun e w' => e = .returned (.tuple #[.string S, .int .i64 0]) ∧ Below w.heap.size w w') := hla
  have HLB : Hid (∀ w, K.Tabs w → Calls Tryd.prog 26 #[.agg B, .agg qa] w fun e w' => e = .returned (.tuple #[.string T, .int .i64 0]) ∧ Below w.heap.size w w') := hlb
  rw [hA, hB, htw]
  obtain ⟨g, hg⟩ : ∃ g, g = w.heap.size := ⟨_, rfl⟩
  have hH1 := (((Holds.new w 33 A).alloc (.cells B 33)).alloc (.cells tw 42))
  have hH2 := (Holds.new (w.alloc (.cells A 33)) 33 B).alloc (.cells tw 42)
  have hH3 := (Holds.new ((w.alloc (.cells A 33)).alloc (.cells B 33)) 42 tw)
  rw [World.size_alloc] at hH2
  rw [World.size_alloc, World.size_alloc, Nat.add_assoc] at hH3
  rw [← hg] at hH1 hH2 hH3
  have HH : Hid (Holds _ g 33 _ ∧ Holds _ (g + 1) 33 _ ∧ Holds _ (g + 2) 42 _) := ⟨hH1, hH2, hH3⟩
  have HG : Hid (g = w.heap.size) := hg
  have hB0 : Below w.heap.size w (((w.alloc (.cells A 33)).alloc (.cells B 33)).alloc (.cells tw 42)) := (((Below.refl _ _).alloc (Nat.le_refl _) _).alloc (by rw [World.size_alloc]; omega) _).alloc (by rw [World.size_alloc, World.size_alloc]; omega) _
  have hiA : (Tryd.prog.info? 33).map (·.size) = some A.size := by rw [hAs]; exact infoAcct
  have hiB : (Tryd.prog.info? 33).map (·.size) = some B.size := by rw [hBs]; exact infoAcct
  have hir : (Tryd.prog.info? 34).map (·.size) = some ra.size := by rw [hrs]; exact infoSum
  have hiq : (Tryd.prog.info? 34).map (·.size) = some qa.size := by rw [hqs]; exact infoSum
  have HI : Hid ((Tryd.prog.info? 33).map (·.size) = some A.size ∧ (Tryd.prog.info? 33).map (·.size) = some B.size ∧ (Tryd.prog.info? 34).map (·.size) = some ra.size ∧ (Tryd.prog.info? 34).map (·.size) = some qa.size) := ⟨hiA, hiB, hir, hiq⟩
  have HAB : Hid (acct n b c z = A ∧ acct m b' c' z' = B ∧ K.bytesA 32 R = ra ∧ K.bytesA 32 Q = qa ∧ twoA R Q = tw) := ⟨hA, hB, hra, hqa, htw⟩
  have HST : Hid (leafT n b c z R = S ∧ leafT m b' c' z' Q = T) := ⟨hS, hTT⟩
  clear hH1 hH2 hH3 hg hla hlb hS hTT hA hB hra hqa htw hiA hiB hir hiq hAs hBs hrs hqs
  go_enter Tryd.func8, Tryd.ntmps8
  go_wp2_with fail
  rw [← HG.out]
  refine (awake_any _).mono ?_
  rintro e w1 ⟨rfl, hB1⟩
  have h1 := below_holds hB1 HH.out.1
  have h2 := below_holds hB1 HH.out.2.1
  have h3 := below_holds hB1 HH.out.2.2
  have hB := hB0.trans (hB1.mono hB0.size)
  have hT1 : K.Tabs w1 := hT.below hB
  have r1 : w1.rangeAt (g + 2) 0 ra.toList := by have q := h3; rw [← HAB.out.2.2.2.2] at q; rw [← HAB.out.2.2.1]; exact two_first q
  clear hB0 hB1 HH hT hts
  go_wp2_with (first
    | (refine wpList_loadH rfl 33 _ rfl g rfl 33 _ _ h1 Tryd.underlying33 rfl HI.out.1 ?_)
    | (refine wpList_midG rfl 34 _ rfl (g + 2) 0 rfl ra _ r1 Tryd.underlying34 rfl HI.out.2.2.1 ?_)
    | fail)
  refine (HLA.out _ hT1).mono ?_
  rintro e w2 ⟨rfl, hB2⟩
  replace h1 := below_holds hB2 h1
  replace h2 := below_holds hB2 h2
  replace h3 := below_holds hB2 h3
  replace hB := hB.trans (hB2.mono hB.size)
  replace hT1 := hT1.below hB2
  have r2 : w2.rangeAt (g + 2) 32 qa.toList := by have q := h3; rw [← HAB.out.2.2.2.2] at q; rw [← HAB.out.2.2.2.1]; exact two_second q
  clear hB2 r1
  go_wp2_with (first
    | (refine wpList_loadH rfl 33 _ rfl (g + 1) rfl 33 _ _ h2 Tryd.underlying33 rfl HI.out.2.1 ?_)
    | (refine wpList_midG rfl 34 _ rfl (g + 2) 32 rfl qa _ r2 Tryd.underlying34 rfl HI.out.2.2.2 ?_)
    | fail)
  refine (HLB.out _ hT1).mono ?_
  rintro e w3 ⟨rfl, hB2⟩
  replace h1 := below_holds hB2 h1
  replace h2 := below_holds hB2 h2
  replace h3 := below_holds hB2 h3
  replace hB := hB.trans (hB2.mono hB.size)
  clear hB2 r2 hT1 HLA HLB
  have cA : w3.cell? ⟨g + 2, 0, none⟩ = some (.int .u8 ((r[0]).toNat : Int)) := by
    rw [h3.cell, ← HAB.out.2.2.2.2]
    unfold twoA
    rw [K.bytesA_get 64 _ 0 (by omega), hr0]
    rfl
  have ca1 : w3.cell? ⟨g, 1, none⟩ = some (.string b) := by rw [h1.cell, ← HAB.out.1]; rfl
  have ca2 : w3.cell? ⟨g, 2, none⟩ = some (.string c) := by rw [h1.cell, ← HAB.out.1]; rfl
  clear hr0
  go_wp2_with fail
  refine (HD.out _).mono ?_
  rintro e w4 ⟨⟨sa, sc, rfl, _, _, hl⟩, hB2⟩
  obtain ⟨bk, o, _, _, rfl, hS0, _, _, _, _, _, _, hl1⟩ := hl
  obtain ⟨bk1, o1, _, _, e1, _, _, d1, _, _, _, _, hl2⟩ := hl1
  cases e1
  obtain ⟨bk1, o1, _, _, e1, _, _, d2, _, _, _, _, hl3⟩ := hl2
  cases e1
  obtain ⟨bk1, o1, _, _, e1, _, _, d3, _, _, _, _, _⟩ := hl3
  cases e1
  rw [show (row4 (num n) b.data.toList r.data.toList k.data.toList).len = 4 from rfl]
  rw [show (⟨b.data.toList.toArray⟩ : ByteArray) = b by simp] at d1
  rw [show (⟨r.data.toList.toArray⟩ : ByteArray) = r by simp, show o + 3 + 3 + 1 = o + 6 + 1 by omega] at d2
  rw [show (⟨k.data.toList.toArray⟩ : ByteArray) = k by simp, show o + 3 + 3 + 3 + 1 = o + 9 + 1 by omega] at d3
  have hbk : bk < w4.heap.size := hS0.2
  have hgb : g + 2 < w3.heap.size := h3.lt
  replace h1 := below_holds hB2 h1
  replace h2 := below_holds hB2 h2
  replace h3 := below_holds hB2 h3
  have hwz := hB2.size
  replace cA : w4.cell? ⟨g + 2, 0, none⟩ = some (.int .u8 ((r[0]).toNat : Int)) := by rw [hB2.cell (p := ⟨g + 2, 0, none⟩) hgb]; exact cA
  replace ca1 : w4.cell? ⟨g, 1, none⟩ = some (.string b) := by rw [hB2.cell (p := ⟨g, 1, none⟩) (by show g < _; omega)]; exact ca1
  replace ca2 : w4.cell? ⟨g, 2, none⟩ = some (.string c) := by rw [hB2.cell (p := ⟨g, 2, none⟩) (by show g < _; omega)]; exact ca2
  replace hB := hB.trans (hB2.mono hB.size)
  clear hB2 hS0
  have hBa := hB.alloc hB.size (.cells #[.bool false, .string ⟨#[]⟩, .slice none 0 0] 45)
  have hle := hB.size
  have HAL : Hid (Below w4.heap.size w4 (w4.alloc (.cells #[.bool false, .string ⟨#[]⟩, .slice none 0 0] 45))) := (Below.refl _ _).alloc (Nat.le_refl _) _
  have HNW : Hid (Holds (w4.alloc (.cells #[.bool false, .string ⟨#[]⟩, .slice none 0 0] 45)) w4.heap.size 45 #[.bool false, .string ⟨#[]⟩, .slice none 0 0]) := Holds.new _ _ _
  have HOLD : Hid (Holds w4 g 33 A ∧ Holds w4 (g + 1) 33 B ∧ Holds w4 (g + 2) 42 tw) := ⟨h1, h2, h3⟩
  have HCEL : Hid (w4.cell? ⟨g + 2, 0, none⟩ = some (.int .u8 ((r[0]).toNat : Int)) ∧ w4.cell? ⟨g, 1, none⟩ = some (.string b) ∧ w4.cell? ⟨g, 2, none⟩ = some (.string c) ∧ w4.cell? ⟨bk, o + 3 + 1, none⟩ = some (.string b) ∧ w4.cell? ⟨bk, o + 6 + 1, none⟩ = some (.string r) ∧ w4.cell? ⟨bk, o + 9 + 1, none⟩ = some (.string k)) := ⟨cA, ca1, ca2, d1, d2, d3⟩
  clear hB h1 h2 h3 cA ca1 ca2 d1 d2 d3
  go_wp2_with (first
    | (refine wpList_storeH rfl 45 _ _ rfl w4.heap.size #[.bool true, .string ⟨#[]⟩, .slice (some ⟨bk, o, none⟩) 4 sc] rfl rfl 45 _ HNW.out infoItem4 rfl (item_one _ _ _ _ _) ?_
       intro w6 h6 o6 z6
       have hB := Only.fresh hBa o6 hle
       have hk6 : ∀ q j, q < w4.heap.size → w6.cell? ⟨q, j, none⟩ = w4.cell? ⟨q, j, none⟩ := fun q j hq => by
         have e1 : w6.heap[q]? = w4.heap[q]? := by
           rw [o6.block q (by rw [World.size_alloc]; omega) (by omega)]
           exact HAL.out.block q hq
         exact World.cell?_of_block e1
       have hz6 : w4.heap.size + 1 = w6.heap.size := by rw [z6, World.size_alloc]
       have cA : w6.cell? ⟨g + 2, 0, none⟩ = some (.int .u8 ((r[0]).toNat : Int)) := (hk6 _ _ HOLD.out.2.2.lt).trans HCEL.out.1
       have ca1 : w6.cell? ⟨g, 1, none⟩ = some (.string b) := (hk6 _ _ HOLD.out.1.lt).trans HCEL.out.2.1
       have ca2 : w6.cell? ⟨g, 2, none⟩ = some (.string c) := (hk6 _ _ HOLD.out.1.lt).trans HCEL.out.2.2.1
       have d1 : w6.cell? ⟨bk, o + 3 + 1, none⟩ = some (.string b) := (hk6 _ _ hbk).trans HCEL.out.2.2.2.1
       have d2 : w6.cell? ⟨bk, o + 6 + 1, none⟩ = some (.string r) := (hk6 _ _ hbk).trans HCEL.out.2.2.2.2.1
       have d3 : w6.cell? ⟨bk, o + 9 + 1, none⟩ = some (.string k) := (hk6 _ _ hbk).trans HCEL.out.2.2.2.2.2
       have x0 : w6.cell? ⟨w4.heap.size, 0, none⟩ = some (.bool true) := h6.cell 0
       have x2 : w6.cell? ⟨w4.heap.size, 2, none⟩ = some (.slice (some ⟨bk, o, none⟩) 4 sc) := h6.cell 2
       have HH6 : Hid (Holds w6 g 33 A ∧ Holds w6 (g + 1) 33 B ∧ Holds w6 (g + 2) 42 tw) :=
         ⟨o6.holds (HOLD.out.1.alloc _) (Nat.ne_of_lt HOLD.out.1.lt), o6.holds (HOLD.out.2.1.alloc _) (Nat.ne_of_lt HOLD.out.2.1.lt), o6.holds (HOLD.out.2.2.alloc _) (Nat.ne_of_lt HOLD.out.2.2.lt)⟩
       clear o6 z6 hBa hle h6 hk6 hz6 HAL HNW HCEL HOLD)
    | fail)
  obtain ⟨xb, hxb⟩ : ∃ xb, xb = w4.heap.size := ⟨_, rfl⟩
  rw [← hxb] at x0 x2 ⊢
  clear hxb
  have hrz' : (r.size : Int) = 32 := by omega
  have hkz' : (k.size : Int) = 32 := by omega
  have hrpi : (0 : Int) < r.size := by omega
  have hcl : ∀ w5, Below w6.heap.size w6 w5 → w5.cell? ⟨xb, 0, none⟩ = some (.bool true) ∧ w5.cell? ⟨xb, 2, none⟩ = some (.slice (some ⟨bk, o, none⟩) 4 sc) ∧ w5.cell? ⟨bk, o + 3 + 1, none⟩ = some (.string b) ∧ w5.cell? ⟨bk, o + 6 + 1, none⟩ = some (.string r) ∧ w5.cell? ⟨bk, o + 9 + 1, none⟩ = some (.string k) ∧
      w5.cell? ⟨g, 1, none⟩ = some (.string b) ∧ w5.cell? ⟨g, 2, none⟩ = some (.string c) ∧ w5.cell? ⟨g + 2, 0, none⟩ = some (.int .u8 ((r[0]).toNat : Int)) := fun w5 h5 => by
    have q : ∀ e j v, w6.cell? ⟨e, j, none⟩ = some v → w5.cell? ⟨e, j, none⟩ = some v := fun e j v hv => by
      rw [h5.cell (p := ⟨e, j, none⟩) (World.block_lt_of_cell? w6 ⟨e, j, none⟩ hv)]; exact hv
    exact ⟨q _ _ _ x0, q _ _ _ x2, q _ _ _ d1, q _ _ _ d2, q _ _ _ d3, q _ _ _ ca1, q _ _ _ ca2, q _ _ _ cA⟩
  have HCL : Hid (∀ w5, Below w6.heap.size w6 w5 → w5.cell? ⟨xb, 0, none⟩ = some (.bool true) ∧ w5.cell? ⟨xb, 2, none⟩ = some (.slice (some ⟨bk, o, none⟩) 4 sc) ∧ w5.cell? ⟨bk, o + 3 + 1, none⟩ = some (.string b) ∧ w5.cell? ⟨bk, o + 6 + 1, none⟩ = some (.string r) ∧ w5.cell? ⟨bk, o + 9 + 1, none⟩ = some (.string k) ∧
      w5.cell? ⟨g, 1, none⟩ = some (.string b) ∧ w5.cell? ⟨g, 2, none⟩ = some (.string c) ∧ w5.cell? ⟨g + 2, 0, none⟩ = some (.int .u8 ((r[0]).toNat : Int))) := hcl
  clear hcl x0 x2 d1 d2 d3 ca1 ca2 cA
  refine wp_region_cls (fun w' => Below w6.heap.size w6 w') mixedP (by kernel_rfl) (below_drew1 _) ?_
  simp only [List.append_eq, List.cons_append, List.nil_append]
  refine cq_val rfl (.int .i64 0) (fun w5 h5 => by go_simp) ?_
  simp only [Act.put, List.setIfInBounds_toArray, List.set_cons_succ, List.set_cons_zero]
  refine cq_val rfl (.bool false) (fun w5 h5 => by go_simp) ?_
  simp only [Act.put, List.setIfInBounds_toArray, List.set_cons_succ, List.set_cons_zero]
  refine cq_val rfl (.bool false) (fun w5 h5 => by go_simp) ?_
  simp only [Act.put, List.setIfInBounds_toArray, List.set_cons_succ, List.set_cons_zero]
  refine cq_val rfl (.pointer (some ⟨xb, 0, none⟩)) (fun w5 h5 => by go_simp) ?_
  simp only [Act.put, List.setIfInBounds_toArray, List.set_cons_succ, List.set_cons_zero]
  refine cq_val rfl (.bool true) (fun w5 h5 => by have hc := (HCL.out w5 h5).1; go_simp) ?_
  simp only [Act.put, List.setIfInBounds_toArray, List.set_cons_succ, List.set_cons_zero]
  refine cq_val rfl (.bool false) (fun w5 h5 => by go_simp) ?_
  simp only [Act.put, List.setIfInBounds_toArray, List.set_cons_succ, List.set_cons_zero]
  refine cq_val rfl (.bool false) (fun w5 h5 => by go_simp) ?_
  simp only [Act.put, List.setIfInBounds_toArray, List.set_cons_succ, List.set_cons_zero]
  refine cq_val rfl (.bool false) (fun w5 h5 => by go_simp) ?_
  simp only [Act.put, List.setIfInBounds_toArray, List.set_cons_succ, List.set_cons_zero]
  refine cq_val rfl (.pointer (some ⟨xb, 2, none⟩)) (fun w5 h5 => by go_simp) ?_
  simp only [Act.put, List.setIfInBounds_toArray, List.set_cons_succ, List.set_cons_zero]
  refine cq_val rfl (.slice (some ⟨bk, o, none⟩) 4 sc) (fun w5 h5 => by have hc := (HCL.out w5 h5).2.1; go_simp) ?_
  simp only [Act.put, List.setIfInBounds_toArray, List.set_cons_succ, List.set_cons_zero]
  refine cq_val rfl (.int .i64 4) (fun w5 h5 => by go_simp) ?_
  simp only [Act.put, List.setIfInBounds_toArray, List.set_cons_succ, List.set_cons_zero]
  refine cq_val rfl (.bool false) (fun w5 h5 => by go_simp) ?_
  simp only [Act.put, List.setIfInBounds_toArray, List.set_cons_succ, List.set_cons_zero]
  refine cq_val rfl (.bool false) (fun w5 h5 => by go_simp) ?_
  simp only [Act.put, List.setIfInBounds_toArray, List.set_cons_succ, List.set_cons_zero]
  refine cq_val rfl (.bool false) (fun w5 h5 => by go_simp) ?_
  simp only [Act.put, List.setIfInBounds_toArray, List.set_cons_succ, List.set_cons_zero]
  refine cq_val rfl (.pointer (some ⟨xb, 2, none⟩)) (fun w5 h5 => by go_simp) ?_
  simp only [Act.put, List.setIfInBounds_toArray, List.set_cons_succ, List.set_cons_zero]
  refine cq_val rfl (.slice (some ⟨bk, o, none⟩) 4 sc) (fun w5 h5 => by have hc := (HCL.out w5 h5).2.1; go_simp) ?_
  simp only [Act.put, List.setIfInBounds_toArray, List.set_cons_succ, List.set_cons_zero]
  refine cq_val rfl (.pointer (some ⟨bk, o + 3, none⟩)) (fun w5 h5 => by go_simp) ?_
  simp only [Act.put, List.setIfInBounds_toArray, List.set_cons_succ, List.set_cons_zero]
  refine cq_val rfl (.pointer (some ⟨bk, o + 3 + 1, none⟩)) (fun w5 h5 => by go_simp) ?_
  simp only [Act.put, List.setIfInBounds_toArray, List.set_cons_succ, List.set_cons_zero]
  refine cq_val rfl (.string b) (fun w5 h5 => by have hc := (HCL.out w5 h5).2.2.1; go_simp) ?_
  simp only [Act.put, List.setIfInBounds_toArray, List.set_cons_succ, List.set_cons_zero]
  refine cq_val rfl (.pointer (some ⟨g, 1, none⟩)) (fun w5 h5 => by go_simp) ?_
  simp only [Act.put, List.setIfInBounds_toArray, List.set_cons_succ, List.set_cons_zero]
  refine cq_val rfl (.string b) (fun w5 h5 => by have hc := (HCL.out w5 h5).2.2.2.2.2.1; go_simp) ?_
  simp only [Act.put, List.setIfInBounds_toArray, List.set_cons_succ, List.set_cons_zero]
  refine cq_val rfl (.bool false) (fun w5 h5 => by go_simp) ?_
  simp only [Act.put, List.setIfInBounds_toArray, List.set_cons_succ, List.set_cons_zero]
  refine cq_val rfl (.bool false) (fun w5 h5 => by go_simp) ?_
  simp only [Act.put, List.setIfInBounds_toArray, List.set_cons_succ, List.set_cons_zero]
  refine cq_val rfl (.bool false) (fun w5 h5 => by go_simp) ?_
  simp only [Act.put, List.setIfInBounds_toArray, List.set_cons_succ, List.set_cons_zero]
  refine cq_val rfl (.pointer (some ⟨xb, 2, none⟩)) (fun w5 h5 => by go_simp) ?_
  simp only [Act.put, List.setIfInBounds_toArray, List.set_cons_succ, List.set_cons_zero]
  refine cq_val rfl (.slice (some ⟨bk, o, none⟩) 4 sc) (fun w5 h5 => by have hc := (HCL.out w5 h5).2.1; go_simp) ?_
  simp only [Act.put, List.setIfInBounds_toArray, List.set_cons_succ, List.set_cons_zero]
  refine cq_val rfl (.pointer (some ⟨bk, o + 6, none⟩)) (fun w5 h5 => by go_simp) ?_
  simp only [Act.put, List.setIfInBounds_toArray, List.set_cons_succ, List.set_cons_zero]
  refine cq_val rfl (.pointer (some ⟨bk, o + 6 + 1, none⟩)) (fun w5 h5 => by go_simp) ?_
  simp only [Act.put, List.setIfInBounds_toArray, List.set_cons_succ, List.set_cons_zero]
  refine cq_val rfl (.string r) (fun w5 h5 => by have hc := (HCL.out w5 h5).2.2.2.1; go_simp) ?_
  simp only [Act.put, List.setIfInBounds_toArray, List.set_cons_succ, List.set_cons_zero]
  refine cq_val rfl (.int .i64 32) (fun w5 h5 => by go_simp) ?_
  simp only [Act.put, List.setIfInBounds_toArray, List.set_cons_succ, List.set_cons_zero]
  refine cq_val rfl (.bool false) (fun w5 h5 => by go_simp) ?_
  simp only [Act.put, List.setIfInBounds_toArray, List.set_cons_succ, List.set_cons_zero]
  refine cq_val rfl (.bool false) (fun w5 h5 => by go_simp) ?_
  simp only [Act.put, List.setIfInBounds_toArray, List.set_cons_succ, List.set_cons_zero]
  refine cq_val rfl (.bool false) (fun w5 h5 => by go_simp) ?_
  simp only [Act.put, List.setIfInBounds_toArray, List.set_cons_succ, List.set_cons_zero]
  refine cq_val rfl (.pointer (some ⟨xb, 2, none⟩)) (fun w5 h5 => by go_simp) ?_
  simp only [Act.put, List.setIfInBounds_toArray, List.set_cons_succ, List.set_cons_zero]
  refine cq_val rfl (.slice (some ⟨bk, o, none⟩) 4 sc) (fun w5 h5 => by have hc := (HCL.out w5 h5).2.1; go_simp) ?_
  simp only [Act.put, List.setIfInBounds_toArray, List.set_cons_succ, List.set_cons_zero]
  refine cq_val rfl (.pointer (some ⟨bk, o + 6, none⟩)) (fun w5 h5 => by go_simp) ?_
  simp only [Act.put, List.setIfInBounds_toArray, List.set_cons_succ, List.set_cons_zero]
  refine cq_val rfl (.pointer (some ⟨bk, o + 6 + 1, none⟩)) (fun w5 h5 => by go_simp) ?_
  simp only [Act.put, List.setIfInBounds_toArray, List.set_cons_succ, List.set_cons_zero]
  refine cq_val rfl (.string r) (fun w5 h5 => by have hc := (HCL.out w5 h5).2.2.2.1; go_simp) ?_
  simp only [Act.put, List.setIfInBounds_toArray, List.set_cons_succ, List.set_cons_zero]
  refine cq_val rfl (.int .u8 ((r[0]).toNat : Int)) (fun w5 h5 => by go_simp) ?_
  simp only [Act.put, List.setIfInBounds_toArray, List.set_cons_succ, List.set_cons_zero]
  refine cq_val rfl (.pointer (some ⟨g + 2, 0, none⟩)) (fun w5 h5 => by go_simp) ?_
  simp only [Act.put, List.setIfInBounds_toArray, List.set_cons_succ, List.set_cons_zero]
  refine cq_val rfl (.pointer (some ⟨g + 2, 0, none⟩)) (fun w5 h5 => by go_simp) ?_
  simp only [Act.put, List.setIfInBounds_toArray, List.set_cons_succ, List.set_cons_zero]
  refine cq_val rfl (.int .u8 ((r[0]).toNat : Int)) (fun w5 h5 => by have hc := (HCL.out w5 h5).2.2.2.2.2.2.2; go_simp) ?_
  simp only [Act.put, List.setIfInBounds_toArray, List.set_cons_succ, List.set_cons_zero]
  refine cq_val rfl (.bool false) (fun w5 h5 => by go_simp) ?_
  simp only [Act.put, List.setIfInBounds_toArray, List.set_cons_succ, List.set_cons_zero]
  refine cq_val rfl (.bool false) (fun w5 h5 => by go_simp) ?_
  simp only [Act.put, List.setIfInBounds_toArray, List.set_cons_succ, List.set_cons_zero]
  refine cq_val rfl (.bool false) (fun w5 h5 => by go_simp) ?_
  simp only [Act.put, List.setIfInBounds_toArray, List.set_cons_succ, List.set_cons_zero]
  refine cq_val rfl (.pointer (some ⟨xb, 2, none⟩)) (fun w5 h5 => by go_simp) ?_
  simp only [Act.put, List.setIfInBounds_toArray, List.set_cons_succ, List.set_cons_zero]
  refine cq_val rfl (.slice (some ⟨bk, o, none⟩) 4 sc) (fun w5 h5 => by have hc := (HCL.out w5 h5).2.1; go_simp) ?_
  simp only [Act.put, List.setIfInBounds_toArray, List.set_cons_succ, List.set_cons_zero]
  refine cq_val rfl (.pointer (some ⟨bk, o + 9, none⟩)) (fun w5 h5 => by go_simp) ?_
  simp only [Act.put, List.setIfInBounds_toArray, List.set_cons_succ, List.set_cons_zero]
  refine cq_val rfl (.pointer (some ⟨bk, o + 9 + 1, none⟩)) (fun w5 h5 => by go_simp) ?_
  simp only [Act.put, List.setIfInBounds_toArray, List.set_cons_succ, List.set_cons_zero]
  refine cq_val rfl (.string k) (fun w5 h5 => by have hc := (HCL.out w5 h5).2.2.2.2.1; go_simp) ?_
  simp only [Act.put, List.setIfInBounds_toArray, List.set_cons_succ, List.set_cons_zero]
  refine cq_val rfl (.int .i64 32) (fun w5 h5 => by go_simp) ?_
  simp only [Act.put, List.setIfInBounds_toArray, List.set_cons_succ, List.set_cons_zero]
  refine cq_val rfl (.bool false) (fun w5 h5 => by go_simp) ?_
  simp only [Act.put, List.setIfInBounds_toArray, List.set_cons_succ, List.set_cons_zero]
  refine cq_val rfl (.bool false) (fun w5 h5 => by go_simp) ?_
  simp only [Act.put, List.setIfInBounds_toArray, List.set_cons_succ, List.set_cons_zero]
  refine cq_val rfl (.bool false) (fun w5 h5 => by go_simp) ?_
  simp only [Act.put, List.setIfInBounds_toArray, List.set_cons_succ, List.set_cons_zero]
  refine cq_val rfl (.pointer (some ⟨g, 2, none⟩)) (fun w5 h5 => by go_simp) ?_
  simp only [Act.put, List.setIfInBounds_toArray, List.set_cons_succ, List.set_cons_zero]
  refine cq_val rfl (.string c) (fun w5 h5 => by have hc := (HCL.out w5 h5).2.2.2.2.2.2.1; go_simp) ?_
  simp only [Act.put, List.setIfInBounds_toArray, List.set_cons_succ, List.set_cons_zero]
  refine cq_val rfl (.bool true) (fun w5 h5 => by go_simp) ?_
  simp only [Act.put, List.setIfInBounds_toArray, List.set_cons_succ, List.set_cons_zero]
  refine cq_val rfl (.bool true) (fun w5 h5 => by go_simp) ?_
  simp only [Act.put, List.setIfInBounds_toArray, List.set_cons_succ, List.set_cons_zero]
  refine cq_val rfl (.pointer (some ⟨xb, 2, none⟩)) (fun w5 h5 => by go_simp) ?_
  simp only [Act.put, List.setIfInBounds_toArray, List.set_cons_succ, List.set_cons_zero]
  refine cq_val rfl (.slice (some ⟨bk, o, none⟩) 4 sc) (fun w5 h5 => by have hc := (HCL.out w5 h5).2.1; go_simp) ?_
  simp only [Act.put, List.setIfInBounds_toArray, List.set_cons_succ, List.set_cons_zero]
  refine cq_val rfl (.pointer (some ⟨bk, o + 9, none⟩)) (fun w5 h5 => by go_simp) ?_
  simp only [Act.put, List.setIfInBounds_toArray, List.set_cons_succ, List.set_cons_zero]
  refine cq_val rfl (.pointer (some ⟨bk, o + 9 + 1, none⟩)) (fun w5 h5 => by go_simp) ?_
  simp only [Act.put, List.setIfInBounds_toArray, List.set_cons_succ, List.set_cons_zero]
  refine cq_val rfl (.string k) (fun w5 h5 => by have hc := (HCL.out w5 h5).2.2.2.2.1; go_simp) ?_
  simp only [Act.put, List.setIfInBounds_toArray, List.set_cons_succ, List.set_cons_zero]
  refine cq_val rfl (.pointer (some ⟨g, 2, none⟩)) (fun w5 h5 => by go_simp) ?_
  simp only [Act.put, List.setIfInBounds_toArray, List.set_cons_succ, List.set_cons_zero]
  refine cq_val rfl (.string c) (fun w5 h5 => by have hc := (HCL.out w5 h5).2.2.2.2.2.2.1; go_simp) ?_
  simp only [Act.put, List.setIfInBounds_toArray, List.set_cons_succ, List.set_cons_zero]
  refine cq_val rfl (.bool false) (fun w5 h5 => by go_simp) ?_
  simp only [Act.put, List.setIfInBounds_toArray, List.set_cons_succ, List.set_cons_zero]
  refine cq_val rfl (.bool false) (fun w5 h5 => by go_simp) ?_
  simp only [Act.put, List.setIfInBounds_toArray, List.set_cons_succ, List.set_cons_zero]
  refine cq_val rfl (.bool false) (fun w5 h5 => by go_simp) ?_
  simp only [Act.put, List.setIfInBounds_toArray, List.set_cons_succ, List.set_cons_zero]
  refine wpQuiet_nil ?_
  intro w7 h7
  have hB7 : Below w.heap.size w w7 := hB.trans (h7.mono hB.size)
  have g1 := below_holds h7 HH6.out.1
  have g2 := below_holds h7 HH6.out.2.1
  have g3 := below_holds h7 HH6.out.2.2
  have ya0 : w7.cell? ⟨g, 0, none⟩ = some (.int .u64 n) := by rw [g1.cell, ← HAB.out.1]; rfl
  have ya1 : w7.cell? ⟨g, 1, none⟩ = some (.string b) := by rw [g1.cell, ← HAB.out.1]; rfl
  have ya2 : w7.cell? ⟨g, 2, none⟩ = some (.string c) := by rw [g1.cell, ← HAB.out.1]; rfl
  have yb0 : w7.cell? ⟨g + 1, 0, none⟩ = some (.int .u64 m) := by rw [g2.cell, ← HAB.out.2.1]; rfl
  have yb1 : w7.cell? ⟨g + 1, 1, none⟩ = some (.string b') := by rw [g2.cell, ← HAB.out.2.1]; rfl
  have yb2 : w7.cell? ⟨g + 1, 2, none⟩ = some (.string c') := by rw [g2.cell, ← HAB.out.2.1]; rfl
  have R1 : Hid (w7.rangeAt (g + 2) 0 ra.toList) := by have q := g3; rw [← HAB.out.2.2.2.2] at q; unfold Hid; rw [← HAB.out.2.2.1]; exact two_first q
  have R2 : Hid (w7.rangeAt (g + 2) 32 qa.toList) := by have q := g3; rw [← HAB.out.2.2.2.2] at q; unfold Hid; rw [← HAB.out.2.2.2.1]; exact two_second q
  have HRT : Hid ((∀ i, i < 32 → R i = Q i) → ∀ w, (Op.equalIn 10000 34 (.agg ra) (.agg qa)).run Tryd.prog w = .ok true w) := fun q w => by rw [← HAB.out.2.2.1, ← HAB.out.2.2.2.1]; exact eql_roots w q
  have HRF : Hid ((¬ ∀ i, i < 32 → R i = Q i) → ∀ w, (Op.equalIn 10000 34 (.agg ra) (.agg qa)).run Tryd.prog w = .ok false w) := fun q w => by rw [← HAB.out.2.2.1, ← HAB.out.2.2.2.1]; exact neq_roots w q
  have HINJ : Hid (S = T → n = m ∧ b = b' ∧ ∀ i, i < 32 → R i = Q i) := fun q => leaf_inj hn hm h h' (by rw [HST.out.1, HST.out.2]; exact q)
  have HSAME : Hid (n = m → b = b' → c = c' → (∀ i, i < 32 → R i = Q i) → S = T) := fun q1 q2 q3 q4 => by
    rw [← HST.out.1, ← HST.out.2]
    exact leafT_same h h' q1 q2 q3 q4
  clear g1 g2 g3 h7 HH6 hB HCL HST HAB
  by_cases e1 : n = m
  · have hnm : ((n : Int) == m) = true := beq_iff_eq.2 (by omega)
    by_cases e2 : b = b'
    · have hbb : (b.toList == b'.toList) = true := by rw [e2]; exact beq_self_eq_true _
      by_cases e3 : c = c'
      · have hcc : (c.toList == c'.toList) = true := by rw [e3]; exact beq_self_eq_true _
        by_cases e4 : ∀ i, i < 32 → R i = Q i
        · have hst : (S.toList == T.toList) = true := by rw [HSAME.out e1 e2 e3 e4]; exact beq_self_eq_true _
          have HRQ : Hid (∀ w, (Op.equalIn 10000 34 (.agg ra) (.agg qa)).run Tryd.prog w = .ok true w) := HRT.out e4
          clear e1 e2 e3 e4
          go_wp2_with (first
            | (refine midG' 34 _ rfl (g + 2) 0 rfl rfl ra _ R1.out Tryd.underlying34 rfl HI.out.2.2.1 ?_)
            | (refine midG' 34 _ rfl (g + 2) 32 rfl rfl qa _ R2.out Tryd.underlying34 rfl HI.out.2.2.2 ?_)
            | (refine eqlS' 34 _ _ _ rfl ra qa rfl rfl rfl true guardSum4 (HRQ.out _) ?_)
            | fail)
          go_ret
          exact ⟨rfl, hB7⟩
        · have hst : (S.toList == T.toList) = false := list_ne (fun q => e4 (HINJ.out q).2.2)
          have HRQ : Hid (∀ w, (Op.equalIn 10000 34 (.agg ra) (.agg qa)).run Tryd.prog w = .ok false w) := HRF.out e4
          clear e1 e2 e3 e4
          go_wp2_with (first
            | (with_reducible (show wpList _ _ _ ({ dst := some 151, op := _, type := _, pos := _, after := _, guard := _ } :: _) _ _); refine midG' 34 _ rfl (g + 2) 0 rfl rfl ra _ R1.out Tryd.underlying34 rfl HI.out.2.2.1 ?_)
            | (with_reducible (show wpList _ _ _ ({ dst := some 153, op := _, type := _, pos := _, after := _, guard := _ } :: _) _ _); refine midG' 34 _ rfl (g + 2) 32 rfl rfl qa _ R2.out Tryd.underlying34 rfl HI.out.2.2.2 ?_)
            | (with_reducible (show wpList _ _ _ ({ dst := some 154, op := _, type := _, pos := _, after := _, guard := _ } :: _) _ _); refine eqlS' 34 _ _ _ rfl ra qa rfl rfl rfl false guardSum4 (HRQ.out _) ?_)
            | fail)
          go_ret
          exact ⟨rfl, hB7⟩
      · have hcc : (c.toList == c'.toList) = false := list_ne e3
        by_cases q : S = T
        · have hst : (S.toList == T.toList) = true := by rw [q]; exact beq_self_eq_true _
          have HRQ : Hid (∀ w, (Op.equalIn 10000 34 (.agg ra) (.agg qa)).run Tryd.prog w = .ok true w) := HRT.out (HINJ.out q).2.2
          clear e1 e2 e3 q
          go_wp2_with (first
            | (with_reducible (show wpList _ _ _ ({ dst := some 185, op := _, type := _, pos := _, after := _, guard := _ } :: _) _ _); refine midG' 34 _ rfl (g + 2) 0 rfl rfl ra _ R1.out Tryd.underlying34 rfl HI.out.2.2.1 ?_)
            | (with_reducible (show wpList _ _ _ ({ dst := some 187, op := _, type := _, pos := _, after := _, guard := _ } :: _) _ _); refine midG' 34 _ rfl (g + 2) 32 rfl rfl qa _ R2.out Tryd.underlying34 rfl HI.out.2.2.2 ?_)
            | (with_reducible (show wpList _ _ _ ({ dst := some 188, op := _, type := _, pos := _, after := _, guard := _ } :: _) _ _); refine eqlS' 34 _ _ _ rfl ra qa rfl rfl rfl true guardSum4 (HRQ.out _) ?_)
            | fail)
          go_ret
          exact ⟨rfl, hB7⟩
        · have hst : (S.toList == T.toList) = false := list_ne q
          clear e1 e2 e3 q
          go_wp2_with fail
          go_ret
          exact ⟨rfl, hB7⟩
    · have hbb : (b.toList == b'.toList) = false := list_ne e2
      have hst : (S.toList == T.toList) = false := list_ne (fun q => e2 (HINJ.out q).2.1)
      clear e1 e2
      go_wp2_with fail
      go_ret
      exact ⟨rfl, hB7⟩
  · have hnm : ((n : Int) == m) = false := beq_eq_false_iff_ne.2 (by omega)
    have hst : (S.toList == T.toList) = false := list_ne (fun q => e1 (HINJ.out q).1)
    clear e1
    go_wp2_with fail
    go_ret
    exact ⟨rfl, hB7⟩
end Go.Proofs.YtamijfdhaahalaaDoor
