/-
  ScalarLeaves walked.
-/
import Derived.Test.YtamijfdhaahalaaDoorAwake4
import Derived.Test.YtamijfdhaahalaaDoorSLeavesPure
namespace Go.Proofs.YtamijfdhaahalaaDoor
open Go Go.RowKit

/-- Two roots, one behind the other. -/
def twoF (R Q : Nat → UInt8) (i : Nat) : UInt8 := if i < 32 then R i else Q (i - 32)
def twoA (R Q : Nat → UInt8) : Array Value := K.bytesA 64 (twoF R Q)
def LeavesGoal (n m : Nat) (b b' c c' : ByteArray) (z z' : Int) (R Q : Nat → UInt8) (w : World) : Prop :=
    Calls Tryd.prog 8 #[.agg (acct n b c z), .agg (acct m b' c' z'), .agg (twoA R Q)] w fun e w' => e = .returned (.bool true) ∧ Below w.heap.size w w'
theorem list_ne {x y : ByteArray} (h : x ≠ y) : (x.toList == y.toList) = false := by
  rw [lb, lb]
  exact beq_eq_false_iff_ne.2 fun e => h (bytes_eq e)
theorem two_first {w : World} {g : Nat} {t : TypeId} {R Q : Nat → UInt8} (h : Holds w g t (twoA R Q)) : w.rangeAt g 0 (K.bytesA 32 R).toList := by
  intro j v hv
  rw [Array.getElem?_toList] at hv
  by_cases hj : j < 32
  · rw [K.bytesA_get 32 R j hj] at hv
    rw [Nat.zero_add, h.cell]
    unfold twoA
    rw [K.bytesA_get 64 _ j (by omega)]
    unfold twoF
    rw [if_pos hj]; exact hv
  · rw [Array.getElem?_eq_none (by rw [K.bytesA_size]; omega)] at hv; cases hv
theorem two_second {w : World} {g : Nat} {t : TypeId} {R Q : Nat → UInt8} (h : Holds w g t (twoA R Q)) : w.rangeAt g 32 (K.bytesA 32 Q).toList := by
  intro j v hv
  rw [Array.getElem?_toList] at hv
  by_cases hj : j < 32
  · rw [K.bytesA_get 32 Q j hj] at hv
    rw [h.cell]
    unfold twoA
    rw [K.bytesA_get 64 _ (32 + j) (by omega)]
    unfold twoF
    rw [if_neg (by omega), show 32 + j - 32 = j by omega]; exact hv
  · rw [Array.getElem?_eq_none (by rw [K.bytesA_size]; omega)] at hv; cases hv
theorem root_zero (R : Nat → UInt8) (hp : 0 < (rootS R).size) : (rootS R)[0] = R 0 := by
  rw [getB _ 0 hp]
  have := rootL_get R 0 (by omega)
  rw [List.getElem?_eq_getElem (by rw [rootL_len]; omega)] at this
  exact Option.some.inj this
theorem infoItem4 : (Tryd.prog.info? 45).map (·.size) = some 3 := by kernel_rfl

set_option maxRecDepth 16000 in
set_option maxHeartbeats 8000000 in
theorem leaves_nn (n m : Nat) (b b' c c' : ByteArray) (z z' : Int) (R Q : Nat → UInt8) (w : World) (hT : K.Tabs w) (hn : n < 18446744073709551616) (hm : m < 18446744073709551616) (h : okA b.data.toList c.data.toList z = false) (h' : okA b'.data.toList c'.data.toList z' = false)  : LeavesGoal n m b b' c c' z z' R Q w := by
  unfold LeavesGoal
  obtain ⟨A, hA⟩ : ∃ A, acct n b c z = A := ⟨_, rfl⟩
  obtain ⟨B, hB⟩ : ∃ B, acct m b' c' z' = B := ⟨_, rfl⟩
  obtain ⟨ra, hra⟩ : ∃ ra, K.bytesA 32 R = ra := ⟨_, rfl⟩
  obtain ⟨qa, hqa⟩ : ∃ qa, K.bytesA 32 Q = qa := ⟨_, rfl⟩
  obtain ⟨tw, htw⟩ : ∃ tw, twoA R Q = tw := ⟨_, rfl⟩
  have hAs : A.size = 4 := by rw [← hA]; rfl
  have hBs : B.size = 4 := by rw [← hB]; rfl
  have hrs : ra.size = 32 := by rw [← hra]; exact K.bytesA_size 32 R
  have hqs : qa.size = 32 := by rw [← hqa]; exact K.bytesA_size 32 Q
  have hts : tw.size = 64 := by rw [← htw]; exact K.bytesA_size 64 _
  obtain ⟨S, hS⟩ : ∃ S, leafT n b c z R = S := ⟨_, rfl⟩
  obtain ⟨T, hTT⟩ : ∃ T, leafT m b' c' z' Q = T := ⟨_, rfl⟩
  have hla := fun w hT => leaf_any n b c z R w hT hn
  have hlb := fun w hT => leaf_any m b' c' z' Q w hT hm
  rw [chk_no h] at hla
  rw [chk_no h'] at hlb
  have HCA : Hid (∀ w, Calls Tryd.prog 28 #[.agg A] w fun e w' => e = .returned (.int .i64 1) ∧ Below w.heap.size w w') := fun w => by
    have q := check_any n b c z w
    rw [chk_no h, hA] at q
    exact q
  have HCB : Hid (∀ w, Calls Tryd.prog 28 #[.agg B] w fun e w' => e = .returned (.int .i64 1) ∧ Below w.heap.size w w') := fun w => by
    have q := check_any m b' c' z' w
    rw [chk_no h', hB] at q
    exact q

  rw [hA, hS, hra] at hla
  rw [hB, hTT, hqa] at hlb
  have HLA : Hid (∀ w, K.Tabs w → Calls Tryd.prog 26 #[.agg A, .agg ra] w fun e w' => e = .returned (.tuple #[.string S, .int .i64 1]) ∧ Below w.heap.size w w') := hla
  have HLB : Hid (∀ w, K.Tabs w → Calls Tryd.prog 26 #[.agg B, .agg qa] w fun e w' => e = .returned (.tuple #[.string T, .int .i64 1]) ∧ Below w.heap.size w w') := hlb
  rw [hA, hB, htw]
  obtain ⟨g, hg⟩ : ∃ g, g = w.heap.size := ⟨_, rfl⟩
  have hH1 := (((Holds.new w 33 A).alloc (.cells B 33)).alloc (.cells tw 42))
  have hH2 := (Holds.new (w.alloc (.cells A 33)) 33 B).alloc (.cells tw 42)
  have hH3 := (Holds.new ((w.alloc (.cells A 33)).alloc (.cells B 33)) 42 tw)
  rw [World.size_alloc] at hH2
  rw [World.size_alloc, World.size_alloc, Nat.add_assoc] at hH3
  rw [← hg] at hH1 hH2 hH3
  have HH : Hid (Holds _ g 33 _ ∧ Holds _ (g + 1) 33 _ ∧ Holds _ (g + 2) 42 _) := ⟨hH1, hH2, hH3⟩
  have HG : Hid (g = w.heap.size) := hg
  have hB0 : Below w.heap.size w (((w.alloc (.cells A 33)).alloc (.cells B 33)).alloc (.cells tw 42)) := (((Below.refl _ _).alloc (Nat.le_refl _) _).alloc (by rw [World.size_alloc]; omega) _).alloc (by rw [World.size_alloc, World.size_alloc]; omega) _
  have hiA : (Tryd.prog.info? 33).map (·.size) = some A.size := by rw [hAs]; exact infoAcct
  have hiB : (Tryd.prog.info? 33).map (·.size) = some B.size := by rw [hBs]; exact infoAcct
  have hir : (Tryd.prog.info? 34).map (·.size) = some ra.size := by rw [hrs]; exact infoSum
  have hiq : (Tryd.prog.info? 34).map (·.size) = some qa.size := by rw [hqs]; exact infoSum
  have HI : Hid ((Tryd.prog.info? 33).map (·.size) = some A.size ∧ (Tryd.prog.info? 33).map (·.size) = some B.size ∧ (Tryd.prog.info? 34).map (·.size) = some ra.size ∧ (Tryd.prog.info? 34).map (·.size) = some qa.size) := ⟨hiA, hiB, hir, hiq⟩
  have HAB : Hid (acct n b c z = A ∧ acct m b' c' z' = B ∧ K.bytesA 32 R = ra ∧ K.bytesA 32 Q = qa ∧ twoA R Q = tw) := ⟨hA, hB, hra, hqa, htw⟩
  have HST : Hid (leafT n b c z R = S ∧ leafT m b' c' z' Q = T) := ⟨hS, hTT⟩
  clear hH1 hH2 hH3 hg hla hlb hS hTT hA hB hra hqa htw hiA hiB hir hiq hAs hBs hrs hqs
  go_enter Tryd.func8, Tryd.ntmps8
  go_wp2_with fail
  rw [← HG.out]
  refine (awake_any _).mono ?_
  rintro e w1 ⟨rfl, hB1⟩
  have h1 := below_holds hB1 HH.out.1
  have h2 := below_holds hB1 HH.out.2.1
  have h3 := below_holds hB1 HH.out.2.2
  have hB := hB0.trans (hB1.mono hB0.size)
  have hT1 : K.Tabs w1 := hT.below hB
  have r1 : w1.rangeAt (g + 2) 0 ra.toList := by have q := h3; rw [← HAB.out.2.2.2.2] at q; rw [← HAB.out.2.2.1]; exact two_first q
  clear hB0 hB1 HH hT hts
  go_wp2_with (first
    | (refine wpList_loadH rfl 33 _ rfl g rfl 33 _ _ h1 Tryd.underlying33 rfl HI.out.1 ?_)
    | (refine wpList_midG rfl 34 _ rfl (g + 2) 0 rfl ra _ r1 Tryd.underlying34 rfl HI.out.2.2.1 ?_)
    | fail)
  refine (HLA.out _ hT1).mono ?_
  rintro e w2 ⟨rfl, hB2⟩
  replace h1 := below_holds hB2 h1
  replace h2 := below_holds hB2 h2
  replace h3 := below_holds hB2 h3
  replace hB := hB.trans (hB2.mono hB.size)
  replace hT1 := hT1.below hB2
  have r2 : w2.rangeAt (g + 2) 32 qa.toList := by have q := h3; rw [← HAB.out.2.2.2.2] at q; rw [← HAB.out.2.2.2.1]; exact two_second q
  clear hB2 r1
  go_wp2_with (first
    | (refine wpList_loadH rfl 33 _ rfl (g + 1) rfl 33 _ _ h2 Tryd.underlying33 rfl HI.out.2.1 ?_)
    | (refine wpList_midG rfl 34 _ rfl (g + 2) 32 rfl qa _ r2 Tryd.underlying34 rfl HI.out.2.2.2 ?_)
    | fail)
  refine (HLB.out _ hT1).mono ?_
  rintro e w3 ⟨rfl, hB2⟩
  replace h1 := below_holds hB2 h1
  replace h2 := below_holds hB2 h2
  replace h3 := below_holds hB2 h3
  replace hB := hB.trans (hB2.mono hB.size)
  clear hB2 r2 hT1 HLA HLB
  go_wp2_with (first
    | (refine wpList_loadG rfl 33 _ rfl g rfl 33 _ _ h1 Tryd.underlying33 rfl HI.out.1 ?_)
    | fail)
  refine (HCA.out _).mono ?_
  rintro e w4 ⟨rfl, hB2⟩
  replace h1 := below_holds hB2 h1
  replace h2 := below_holds hB2 h2
  replace hB := hB.trans (hB2.mono hB.size)
  clear hB2
  go_wp2_with (first
    | (refine wpList_loadG rfl 33 _ rfl (g + 1) rfl 33 _ _ h2 Tryd.underlying33 rfl HI.out.2.1 ?_)
    | fail)
  refine (HCB.out _).mono ?_
  rintro e w4 ⟨rfl, hB2⟩
  replace h1 := below_holds hB2 h1
  replace h2 := below_holds hB2 h2
  replace hB := hB.trans (hB2.mono hB.size)
  clear hB2
  go_wp2_with fail
  go_ret
  exact ⟨rfl, hB⟩
set_option maxRecDepth 16000 in
set_option maxHeartbeats 8000000 in
theorem leaves_ny (n m : Nat) (b b' c c' : ByteArray) (z z' : Int) (R Q : Nat → UInt8) (w : World) (hT : K.Tabs w) (hn : n < 18446744073709551616) (hm : m < 18446744073709551616) (h : okA b.data.toList c.data.toList z = false) (h' : okA b'.data.toList c'.data.toList z' = true)  : LeavesGoal n m b b' c c' z z' R Q w := by
  unfold LeavesGoal
  obtain ⟨A, hA⟩ : ∃ A, acct n b c z = A := ⟨_, rfl⟩
  obtain ⟨B, hB⟩ : ∃ B, acct m b' c' z' = B := ⟨_, rfl⟩
  obtain ⟨ra, hra⟩ : ∃ ra, K.bytesA 32 R = ra := ⟨_, rfl⟩
  obtain ⟨qa, hqa⟩ : ∃ qa, K.bytesA 32 Q = qa := ⟨_, rfl⟩
  obtain ⟨tw, htw⟩ : ∃ tw, twoA R Q = tw := ⟨_, rfl⟩
  have hAs : A.size = 4 := by rw [← hA]; rfl
  have hBs : B.size = 4 := by rw [← hB]; rfl
  have hrs : ra.size = 32 := by rw [← hra]; exact K.bytesA_size 32 R
  have hqs : qa.size = 32 := by rw [← hqa]; exact K.bytesA_size 32 Q
  have hts : tw.size = 64 := by rw [← htw]; exact K.bytesA_size 64 _
  obtain ⟨S, hS⟩ : ∃ S, leafT n b c z R = S := ⟨_, rfl⟩
  obtain ⟨T, hTT⟩ : ∃ T, leafT m b' c' z' Q = T := ⟨_, rfl⟩
  have hla := fun w hT => leaf_any n b c z R w hT hn
  have hlb := fun w hT => leaf_any m b' c' z' Q w hT hm
  rw [chk_no h] at hla
  rw [chk_ok h'] at hlb
  have HCA : Hid (∀ w, Calls Tryd.prog 28 #[.agg A] w fun e w' => e = .returned (.int .i64 1) ∧ Below w.heap.size w w') := fun w => by
    have q := check_any n b c z w
    rw [chk_no h, hA] at q
    exact q

  rw [hA, hS, hra] at hla
  rw [hB, hTT, hqa] at hlb
  have HLA : Hid (∀ w, K.Tabs w → Calls Tryd.prog 26 #[.agg A, .agg ra] w fun e w' => e = .returned (.tuple #[.string S, .int .i64 1]) ∧ Below w.heap.size w w') := hla
  have HLB : Hid (∀ w, K.Tabs w → Calls Tryd.prog 26 #[.agg B, .agg qa] w fun e w' => e = .returned (.tuple #[.string T, .int .i64 0]) ∧ Below w.heap.size w w') := hlb
  rw [hA, hB, htw]
  obtain ⟨g, hg⟩ : ∃ g, g = w.heap.size := ⟨_, rfl⟩
  have hH1 := (((Holds.new w 33 A).alloc (.cells B 33)).alloc (.cells tw 42))
  have hH2 := (Holds.new (w.alloc (.cells A 33)) 33 B).alloc (.cells tw 42)
  have hH3 := (Holds.new ((w.alloc (.cells A 33)).alloc (.cells B 33)) 42 tw)
  rw [World.size_alloc] at hH2
  rw [World.size_alloc, World.size_alloc, Nat.add_assoc] at hH3
  rw [← hg] at hH1 hH2 hH3
  have HH : Hid (Holds _ g 33 _ ∧ Holds _ (g + 1) 33 _ ∧ Holds _ (g + 2) 42 _) := ⟨hH1, hH2, hH3⟩
  have HG : Hid (g = w.heap.size) := hg
  have hB0 : Below w.heap.size w (((w.alloc (.cells A 33)).alloc (.cells B 33)).alloc (.cells tw 42)) := (((Below.refl _ _).alloc (Nat.le_refl _) _).alloc (by rw [World.size_alloc]; omega) _).alloc (by rw [World.size_alloc, World.size_alloc]; omega) _
  have hiA : (Tryd.prog.info? 33).map (·.size) = some A.size := by rw [hAs]; exact infoAcct
  have hiB : (Tryd.prog.info? 33).map (·.size) = some B.size := by rw [hBs]; exact infoAcct
  have hir : (Tryd.prog.info? 34).map (·.size) = some ra.size := by rw [hrs]; exact infoSum
  have hiq : (Tryd.prog.info? 34).map (·.size) = some qa.size := by rw [hqs]; exact infoSum
  have HI : Hid ((Tryd.prog.info? 33).map (·.size) = some A.size ∧ (Tryd.prog.info? 33).map (·.size) = some B.size ∧ (Tryd.prog.info? 34).map (·.size) = some ra.size ∧ (Tryd.prog.info? 34).map (·.size) = some qa.size) := ⟨hiA, hiB, hir, hiq⟩
  have HAB : Hid (acct n b c z = A ∧ acct m b' c' z' = B ∧ K.bytesA 32 R = ra ∧ K.bytesA 32 Q = qa ∧ twoA R Q = tw) := ⟨hA, hB, hra, hqa, htw⟩
  have HST : Hid (leafT n b c z R = S ∧ leafT m b' c' z' Q = T) := ⟨hS, hTT⟩
  clear hH1 hH2 hH3 hg hla hlb hS hTT hA hB hra hqa htw hiA hiB hir hiq hAs hBs hrs hqs
  go_enter Tryd.func8, Tryd.ntmps8
  go_wp2_with fail
  rw [← HG.out]
  refine (awake_any _).mono ?_
  rintro e w1 ⟨rfl, hB1⟩
  have h1 := below_holds hB1 HH.out.1
  have h2 := below_holds hB1 HH.out.2.1
  have h3 := below_holds hB1 HH.out.2.2
  have hB := hB0.trans (hB1.mono hB0.size)
  have hT1 : K.Tabs w1 := hT.below hB
  have r1 : w1.rangeAt (g + 2) 0 ra.toList := by have q := h3; rw [← HAB.out.2.2.2.2] at q; rw [← HAB.out.2.2.1]; exact two_first q
  clear hB0 hB1 HH hT hts
  go_wp2_with (first
    | (refine wpList_loadH rfl 33 _ rfl g rfl 33 _ _ h1 Tryd.underlying33 rfl HI.out.1 ?_)
    | (refine wpList_midG rfl 34 _ rfl (g + 2) 0 rfl ra _ r1 Tryd.underlying34 rfl HI.out.2.2.1 ?_)
    | fail)
  refine (HLA.out _ hT1).mono ?_
  rintro e w2 ⟨rfl, hB2⟩
  replace h1 := below_holds hB2 h1
  replace h2 := below_holds hB2 h2
  replace h3 := below_holds hB2 h3
  replace hB := hB.trans (hB2.mono hB.size)
  replace hT1 := hT1.below hB2
  have r2 : w2.rangeAt (g + 2) 32 qa.toList := by have q := h3; rw [← HAB.out.2.2.2.2] at q; rw [← HAB.out.2.2.2.1]; exact two_second q
  clear hB2 r1
  go_wp2_with (first
    | (refine wpList_loadH rfl 33 _ rfl (g + 1) rfl 33 _ _ h2 Tryd.underlying33 rfl HI.out.2.1 ?_)
    | (refine wpList_midG rfl 34 _ rfl (g + 2) 32 rfl qa _ r2 Tryd.underlying34 rfl HI.out.2.2.2 ?_)
    | fail)
  refine (HLB.out _ hT1).mono ?_
  rintro e w3 ⟨rfl, hB2⟩
  replace h1 := below_holds hB2 h1
  replace h2 := below_holds hB2 h2
  replace h3 := below_holds hB2 h3
  replace hB := hB.trans (hB2.mono hB.size)
  clear hB2 r2 hT1 HLA HLB
  go_wp2_with (first
    | (refine wpList_loadG rfl 33 _ rfl g rfl 33 _ _ h1 Tryd.underlying33 rfl HI.out.1 ?_)
    | fail)
  refine (HCA.out _).mono ?_
  rintro e w4 ⟨rfl, hB2⟩
  replace h1 := below_holds hB2 h1
  replace h2 := below_holds hB2 h2
  replace hB := hB.trans (hB2.mono hB.size)
  clear hB2
  go_wp2_with fail
  go_ret
  exact ⟨rfl, hB⟩
set_option maxRecDepth 16000 in
set_option maxHeartbeats 8000000 in
theorem leaves_yn (n m : Nat) (b b' c c' : ByteArray) (z z' : Int) (R Q : Nat → UInt8) (w : World) (hT : K.Tabs w) (hn : n < 18446744073709551616) (hm : m < 18446744073709551616) (h : okA b.data.toList c.data.toList z = true) (h' : okA b'.data.toList c'.data.toList z' = false)  : LeavesGoal n m b b' c c' z z' R Q w := by
  unfold LeavesGoal
  obtain ⟨A, hA⟩ : ∃ A, acct n b c z = A := ⟨_, rfl⟩
  obtain ⟨B, hB⟩ : ∃ B, acct m b' c' z' = B := ⟨_, rfl⟩
  obtain ⟨ra, hra⟩ : ∃ ra, K.bytesA 32 R = ra := ⟨_, rfl⟩
  obtain ⟨qa, hqa⟩ : ∃ qa, K.bytesA 32 Q = qa := ⟨_, rfl⟩
  obtain ⟨tw, htw⟩ : ∃ tw, twoA R Q = tw := ⟨_, rfl⟩
  have hAs : A.size = 4 := by rw [← hA]; rfl
  have hBs : B.size = 4 := by rw [← hB]; rfl
  have hrs : ra.size = 32 := by rw [← hra]; exact K.bytesA_size 32 R
  have hqs : qa.size = 32 := by rw [← hqa]; exact K.bytesA_size 32 Q
  have hts : tw.size = 64 := by rw [← htw]; exact K.bytesA_size 64 _
  obtain ⟨S, hS⟩ : ∃ S, leafT n b c z R = S := ⟨_, rfl⟩
  obtain ⟨T, hTT⟩ : ∃ T, leafT m b' c' z' Q = T := ⟨_, rfl⟩
  have hla := fun w hT => leaf_any n b c z R w hT hn
  have hlb := fun w hT => leaf_any m b' c' z' Q w hT hm
  rw [chk_ok h] at hla
  rw [chk_no h'] at hlb
  have HCB : Hid (∀ w, Calls Tryd.prog 28 #[.agg B] w fun e w' => e = .returned (.int .i64 1) ∧ Below w.heap.size w w') := fun w => by
    have q := check_any m b' c' z' w
    rw [chk_no h', hB] at q
    exact q

  rw [hA, hS, hra] at hla
  rw [hB, hTT, hqa] at hlb
  have HLA : Hid (∀ w, K.Tabs w → Calls Tryd.prog 26 #[.agg A, .agg ra] w fun e w' => e = .returned (.tuple #[.string S, .int .i64 0]) ∧ Below w.heap.size w w') := hla
  have HLB : Hid (∀ w, K.Tabs w → Calls Tryd.prog 26 #[.agg B, .agg qa] w fun e w' => e = .returned (.tuple #[.string T, .int .i64 1]) ∧ Below w.heap.size w w') := hlb
  rw [hA, hB, htw]
  obtain ⟨g, hg⟩ : ∃ g, g = w.heap.size := ⟨_, rfl⟩
  have hH1 := (((Holds.new w 33 A).alloc (.cells B 33)).alloc (.cells tw 42))
  have hH2 := (Holds.new (w.alloc (.cells A 33)) 33 B).alloc (.cells tw 42)
  have hH3 := (Holds.new ((w.alloc (.cells A 33)).alloc (.cells B 33)) 42 tw)
  rw [World.size_alloc] at hH2
  rw [World.size_alloc, World.size_alloc, Nat.add_assoc] at hH3
  rw [← hg] at hH1 hH2 hH3
  have HH : Hid (Holds _ g 33 _ ∧ Holds _ (g + 1) 33 _ ∧ Holds _ (g + 2) 42 _) := ⟨hH1, hH2, hH3⟩
  have HG : Hid (g = w.heap.size) := hg
  have hB0 : Below w.heap.size w (((w.alloc (.cells A 33)).alloc (.cells B 33)).alloc (.cells tw 42)) := (((Below.refl _ _).alloc (Nat.le_refl _) _).alloc (by rw [World.size_alloc]; omega) _).alloc (by rw [World.size_alloc, World.size_alloc]; omega) _
  have hiA : (Tryd.prog.info? 33).map (·.size) = some A.size := by rw [hAs]; exact infoAcct
  have hiB : (Tryd.prog.info? 33).map (·.size) = some B.size := by rw [hBs]; exact infoAcct
  have hir : (Tryd.prog.info? 34).map (·.size) = some ra.size := by rw [hrs]; exact infoSum
  have hiq : (Tryd.prog.info? 34).map (·.size) = some qa.size := by rw [hqs]; exact infoSum
  have HI : Hid ((Tryd.prog.info? 33).map (·.size) = some A.size ∧ (Tryd.prog.info? 33).map (·.size) = some B.size ∧ (Tryd.prog.info? 34).map (·.size) = some ra.size ∧ (Tryd.prog.info? 34).map (·.size) = some qa.size) := ⟨hiA, hiB, hir, hiq⟩
  have HAB : Hid (acct n b c z = A ∧ acct m b' c' z' = B ∧ K.bytesA 32 R = ra ∧ K.bytesA 32 Q = qa ∧ twoA R Q = tw) := ⟨hA, hB, hra, hqa, htw⟩
  have HST : Hid (leafT n b c z R = S ∧ leafT m b' c' z' Q = T) := ⟨hS, hTT⟩
  clear hH1 hH2 hH3 hg hla hlb hS hTT hA hB hra hqa htw hiA hiB hir hiq hAs hBs hrs hqs
  go_enter Tryd.func8, Tryd.ntmps8
  go_wp2_with fail
  rw [← HG.out]
  refine (awake_any _).mono ?_
  rintro e w1 ⟨rfl, hB1⟩
  have h1 := below_holds hB1 HH.out.1
  have h2 := below_holds hB1 HH.out.2.1
  have h3 := below_holds hB1 HH.out.2.2
  have hB := hB0.trans (hB1.mono hB0.size)
  have hT1 : K.Tabs w1 := hT.below hB
  have r1 : w1.rangeAt (g + 2) 0 ra.toList := by have q := h3; rw [← HAB.out.2.2.2.2] at q; rw [← HAB.out.2.2.1]; exact two_first q
  clear hB0 hB1 HH hT hts
  go_wp2_with (first
    | (refine wpList_loadH rfl 33 _ rfl g rfl 33 _ _ h1 Tryd.underlying33 rfl HI.out.1 ?_)
    | (refine wpList_midG rfl 34 _ rfl (g + 2) 0 rfl ra _ r1 Tryd.underlying34 rfl HI.out.2.2.1 ?_)
    | fail)
  refine (HLA.out _ hT1).mono ?_
  rintro e w2 ⟨rfl, hB2⟩
  replace h1 := below_holds hB2 h1
  replace h2 := below_holds hB2 h2
  replace h3 := below_holds hB2 h3
  replace hB := hB.trans (hB2.mono hB.size)
  replace hT1 := hT1.below hB2
  have r2 : w2.rangeAt (g + 2) 32 qa.toList := by have q := h3; rw [← HAB.out.2.2.2.2] at q; rw [← HAB.out.2.2.2.1]; exact two_second q
  clear hB2 r1
  go_wp2_with (first
    | (refine wpList_loadH rfl 33 _ rfl (g + 1) rfl 33 _ _ h2 Tryd.underlying33 rfl HI.out.2.1 ?_)
    | (refine wpList_midG rfl 34 _ rfl (g + 2) 32 rfl qa _ r2 Tryd.underlying34 rfl HI.out.2.2.2 ?_)
    | fail)
  refine (HLB.out _ hT1).mono ?_
  rintro e w3 ⟨rfl, hB2⟩
  replace h1 := below_holds hB2 h1
  replace h2 := below_holds hB2 h2
  replace h3 := below_holds hB2 h3
  replace hB := hB.trans (hB2.mono hB.size)
  clear hB2 r2 hT1 HLA HLB
  go_wp2_with (first
    | (refine wpList_loadG rfl 33 _ rfl (g + 1) rfl 33 _ _ h2 Tryd.underlying33 rfl HI.out.2.1 ?_)
    | fail)
  refine (HCB.out _).mono ?_
  rintro e w4 ⟨rfl, hB2⟩
  replace h1 := below_holds hB2 h1
  replace h2 := below_holds hB2 h2
  replace hB := hB.trans (hB2.mono hB.size)
  clear hB2
  go_wp2_with fail
  go_ret
  exact ⟨rfl, hB⟩
end Go.Proofs.YtamijfdhaahalaaDoor
