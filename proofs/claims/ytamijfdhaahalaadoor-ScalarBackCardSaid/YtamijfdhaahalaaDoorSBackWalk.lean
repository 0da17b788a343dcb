/-
  ScalarBack walked.
-/
import Derived.Test.YtamijfdhaahalaaDoorAwake4
import Derived.Test.YtamijfdhaahalaaDoorSBackPure
import Derived.Test.YtamijfdhaahalaaDoorSEqLaws
namespace Go.Proofs.YtamijfdhaahalaaDoor
open Go Go.RowKit

def BackGoal (n m : Nat) (b b' c c' : ByteArray) (z z' : Int) (w : World) : Prop :=
    Calls Tryd.prog 6 #[.agg (acct n b c z), .agg (acct m b' c' z')] w fun e w' => e = .returned (.bool true) ∧ Below w.heap.size w w'
theorem eq_of_list {x y : ByteArray} (h : x.data.toList = y.data.toList) : x = y := by
  obtain ⟨⟨l⟩⟩ := x
  obtain ⟨⟨m⟩⟩ := y
  simp only at h
  rw [h]
theorem list_ne {x y : ByteArray} (h : x ≠ y) : (x.toList == y.toList) = false := by
  rw [lb, lb]
  refine beq_eq_false_iff_ne.2 fun e => h ?_
  exact eq_of_list e
theorem recT_ok {n : Nat} {b c : ByteArray} {z : Int} (h : okA b.data.toList c.data.toList z = true) : recT n b c z = ⟨(recL n b c z.toNat).toArray⟩ ∧ ((z.toNat : Nat) : Int) = z := by
  obtain ⟨_, _, o3, _⟩ := (okA_iff b c z).1 h
  exact ⟨by unfold recT; rw [if_pos h], by omega⟩
theorem listL_len (l : List UInt8) : (listL l).length ≤ l.length + 9 := by
  unfold listL
  have h1 := hd_len 192 l.length
  rw [List.length_append]; omega
theorem recT_size (n : Nat) (b c : ByteArray) (z : Int) : (recT n b c z).size < 4611686018427387904 := by
  unfold recT
  split
  · next h =>
    obtain ⟨o1, o2, _, _⟩ := (okA_iff b c z).1 h
    have hbs := right_size o1
    have h1 := num_size n
    have h2 := num_size z.toNat
    have hl := rowS_len 10000 [⟨(num n).toArray⟩, b, c, ⟨(num z.toNat).toArray⟩] (by
      intro x hx
      simp only [List.mem_cons, List.mem_nil_iff, or_false] at hx
      rcases hx with rfl | rfl | rfl | rfl <;> omega)
    have hm := listL_len (rowS [⟨(num n).toArray⟩, b, c, ⟨(num z.toNat).toArray⟩])
    show (recL n b c z.toNat).length < _
    unfold recL
    simp only [List.length_cons, List.length_nil] at hl
    omega
  · decide
theorem recT_read {n : Nat} {b c : ByteArray} {z : Int} (hn : n < 18446744073709551616) (h : okA b.data.toList c.data.toList z = true) : readV (readA (recT n b c z).data.toList) = .tuple #[.agg (acct n b c z), .int .i64 0] := by
  obtain ⟨e1, e2⟩ := recT_ok (n := n) h
  rw [e1]
  have := read_back (n := n) (k := z.toNat) (b := b) (c := c) hn (by rw [e2]; exact h)
  show readV (readA (recL n b c z.toNat)) = _
  rw [this]
  show Value.tuple #[.agg (acct n b c ((z.toNat : Nat) : Int)), .int .i64 0] = _
  rw [e2]
theorem recT_inj {n m : Nat} {b b' c c' : ByteArray} {z z' : Int} (hn : n < 18446744073709551616) (hm : m < 18446744073709551616) (h : okA b.data.toList c.data.toList z = true) (h' : okA b'.data.toList c'.data.toList z' = true)
    (q : recT n b c z = recT m b' c' z') : n = m ∧ b = b' ∧ c = c' ∧ z = z' := by
  obtain ⟨e1, e2⟩ := recT_ok (n := n) h
  obtain ⟨f1, f2⟩ := recT_ok (n := m) h'
  rw [e1, f1] at q
  have ql : recL n b c z.toNat = recL m b' c' z'.toNat := by
    have := congrArg (fun x : ByteArray => x.data.toList) q
    simpa using this
  obtain ⟨r1, r2, r3, r4⟩ := rec_inj hn hm (by rw [e2]; exact h) (by rw [f2]; exact h') ql
  exact ⟨r1, r2, r3, by omega⟩
theorem eql_same (w : World) (n : Nat) (b c : ByteArray) (z : Int) : (Op.equalIn 10000 33 (.agg (acct n b c z)) (.agg (acct n b c z))).run Tryd.prog w = .ok true w := by
  rw [eql_acct]
  simp
theorem eql_other (w : World) {n m : Nat} {b c b' c' : ByteArray} {z z' : Int} (h : ¬ (n = m ∧ b = b' ∧ c = c' ∧ z = z')) : (Op.equalIn 10000 33 (.agg (acct n b c z)) (.agg (acct m b' c' z'))).run Tryd.prog w = .ok false w := by
  rw [eql_acct]
  congr 1
  refine Bool.eq_false_iff.2 fun q => h ?_
  simp only [Bool.and_eq_true, beq_iff_eq] at q
  refine ⟨by omega, ?_, ?_, q.2⟩
  · have := q.1.1.2
    rw [lb, lb] at this
    exact eq_of_list this
  · have := q.1.2
    rw [lb, lb] at this
    exact eq_of_list this

set_option maxRecDepth 8000 in
set_option maxHeartbeats 4000000 in
theorem back_no (n m : Nat) (b b' c c' : ByteArray) (z z' : Int) (w : World) (hn : n < 18446744073709551616) (hm : m < 18446744073709551616) (h : okA b.data.toList c.data.toList z = false) : BackGoal n m b b' c c' z z' w := by
  unfold BackGoal
  obtain ⟨A, hA⟩ : ∃ A, acct n b c z = A := ⟨_, rfl⟩
  obtain ⟨B, hB⟩ : ∃ B, acct m b' c' z' = B := ⟨_, rfl⟩
  have hAs : A.size = 4 := by rw [← hA]; rfl
  have hBs : B.size = 4 := by rw [← hB]; rfl
  have hA1 : A.all (·.oneCell') = true := by rw [← hA]; exact acct_one _ _ _ _
  obtain ⟨S, hS⟩ : ∃ S, recT n b c z = S := ⟨_, rfl⟩
  obtain ⟨T, hT⟩ : ∃ T, recT m b' c' z' = T := ⟨_, rfl⟩
  obtain ⟨F, hF⟩ : ∃ F, chkE b'.data.toList c'.data.toList z' = F := ⟨_, rfl⟩
  have hra := fun w => record_any n b c z w hn
  have hrb := fun w => record_any m b' c' z' w hm
  rw [chk_no h] at hra
  rw [hA, hS] at hra
  rw [hB, hT, hF] at hrb
  have HRA : Hid (∀ w, Calls Tryd.prog 22 #[.agg A] w fun e w' => e = .returned (.tuple #[.string S, .int .i64 1]) ∧ Below w.heap.size w w') := hra
  have HRB : Hid (∀ w, Calls Tryd.prog 22 #[.agg B] w fun e w' => e = .returned (.tuple #[.string T, .int .i64 F]) ∧ Below w.heap.size w w') := hrb
  rw [hA, hB]
  obtain ⟨g, hg⟩ : ∃ g, g = w.heap.size := ⟨_, rfl⟩
  have hH1 := ((Holds.new w 33 A).alloc (.cells B 33))
  have hH2 := (Holds.new (w.alloc (.cells A 33)) 33 B)
  rw [World.size_alloc] at hH2
  rw [← hg] at hH1 hH2
  have HH : Hid (Holds _ g 33 _ ∧ Holds _ (g + 1) 33 _) := ⟨hH1, hH2⟩
  have HG : Hid (g = w.heap.size) := hg
  have hgl : w.heap.size ≤ g := by omega
  have hB0 : Below w.heap.size w ((w.alloc (.cells A 33)).alloc (.cells B 33)) := ((Below.refl _ _).alloc (Nat.le_refl _) _).alloc (by rw [World.size_alloc]; omega) _
  clear hH1 hH2 hg hra hrb hS hT hA hB
  have hiA : (Tryd.prog.info? 33).map (·.size) = some A.size := by rw [hAs]; exact infoAcct
  have hiB : (Tryd.prog.info? 33).map (·.size) = some B.size := by rw [hBs]; exact infoAcct
  have HNW : Hid (∀ w : World, Holds (w.alloc (.cells #[.int .u64 0, .string ⟨#[]⟩, .string ⟨#[]⟩, .int .i64 0] 33)) w.heap.size 33 (acct 0 ⟨#[]⟩ ⟨#[]⟩ 0)) := fun w => Holds.new w _ _
  have hA4 : (acct 0 ⟨#[]⟩ ⟨#[]⟩ 0).size = A.size := by rw [hAs]; rfl
  have HA4 : Hid ((acct 0 ⟨#[]⟩ ⟨#[]⟩ 0).size = A.size ∧ (A.all (·.oneCell') = true) ∧ (Tryd.prog.info? 33).map (·.size) = some A.size ∧ (Tryd.prog.info? 33).map (·.size) = some B.size) := ⟨hA4, hA1, hiA, hiB⟩
  clear hA4 hA1 hiA hiB hAs hBs
  go_enter Tryd.func6, Tryd.ntmps6
  go_wp2_with fail
  rw [← HG.out]
  refine (awake_any _).mono ?_
  rintro e w1 ⟨rfl, hB1⟩
  have h1 := below_holds hB1 HH.out.1
  have h2 := below_holds hB1 HH.out.2
  have hB := hB0.trans (hB1.mono hB0.size)
  clear hB0 hB1 HH
  go_wp2_with (first
    | (refine wpList_loadH rfl 33 _ rfl g rfl 33 _ _ h1 Tryd.underlying33 rfl HA4.out.2.2.1 ?_)
    | fail)
  refine (HRA.out _).mono ?_
  rintro e w2 ⟨rfl, hB2⟩
  replace h1 := below_holds hB2 h1
  replace h2 := below_holds hB2 h2
  replace hB := hB.trans (hB2.mono hB.size)
  clear hB2
  go_wp2_with (first
    | (refine wpList_loadH rfl 33 _ rfl (g + 1) rfl 33 _ _ h2 Tryd.underlying33 rfl HA4.out.2.2.2 ?_)
    | fail)
  refine (HRB.out _).mono ?_
  rintro e w3 ⟨rfl, hB2⟩
  replace h1 := below_holds hB2 h1
  replace h2 := below_holds hB2 h2
  replace hB := hB.trans (hB2.mono hB.size)
  clear hB2
  go_wp2_with fail
  go_ret
  exact ⟨rfl, hB⟩
set_option maxRecDepth 8000 in
set_option maxHeartbeats 4000000 in
theorem back_yn (n m : Nat) (b b' c c' : ByteArray) (z z' : Int) (w : World) (hn : n < 18446744073709551616) (hm : m < 18446744073709551616) (h : okA b.data.toList c.data.toList z = true) (h' : okA b'.data.toList c'.data.toList z' = false) : BackGoal n m b b' c c' z z' w := by
  unfold BackGoal
  obtain ⟨A, hA⟩ : ∃ A, acct n b c z = A := ⟨_, rfl⟩
  obtain ⟨B, hB⟩ : ∃ B, acct m b' c' z' = B := ⟨_, rfl⟩
  have hAs : A.size = 4 := by rw [← hA]; rfl
  have hBs : B.size = 4 := by rw [← hB]; rfl
  have hA1 : A.all (·.oneCell') = true := by rw [← hA]; exact acct_one _ _ _ _
  obtain ⟨S, hS⟩ : ∃ S, recT n b c z = S := ⟨_, rfl⟩
  obtain ⟨T, hT⟩ : ∃ T, recT m b' c' z' = T := ⟨_, rfl⟩
  obtain ⟨F, hF⟩ : ∃ F, chkE b'.data.toList c'.data.toList z' = F := ⟨_, rfl⟩
  have hra := fun w => record_any n b c z w hn
  have hrb := fun w => record_any m b' c' z' w hm
  rw [chk_ok h] at hra
  rw [chk_no h'] at hF
  subst hF
  have HRD : Hid (∀ w, Calls Tryd.prog 24 #[.string S] w fun e w' => e = .returned (.tuple #[.agg A, .int .i64 0]) ∧ Below w.heap.size w w') := fun w => by
    have q := sread_any S w (by rw [← hS]; exact recT_size n b c z)
    rw [← hS, recT_read hn h, hS, hA] at q
    exact q
  have HAA : Hid (∀ w, (Op.equalIn 10000 33 (.agg A) (.agg A)).run Tryd.prog w = .ok true w) := fun w => by rw [← hA]; exact eql_same w n b c z

  rw [hA, hS] at hra
  rw [hB, hT, chk_no h'] at hrb
  have HRA : Hid (∀ w, Calls Tryd.prog 22 #[.agg A] w fun e w' => e = .returned (.tuple #[.string S, .int .i64 0]) ∧ Below w.heap.size w w') := hra
  have HRB : Hid (∀ w, Calls Tryd.prog 22 #[.agg B] w fun e w' => e = .returned (.tuple #[.string T, .int .i64 1]) ∧ Below w.heap.size w w') := hrb
  rw [hA, hB]
  obtain ⟨g, hg⟩ : ∃ g, g = w.heap.size := ⟨_, rfl⟩
  have hH1 := ((Holds.new w 33 A).alloc (.cells B 33))
  have hH2 := (Holds.new (w.alloc (.cells A 33)) 33 B)
  rw [World.size_alloc] at hH2
  rw [← hg] at hH1 hH2
  have HH : Hid (Holds _ g 33 _ ∧ Holds _ (g + 1) 33 _) := ⟨hH1, hH2⟩
  have HG : Hid (g = w.heap.size) := hg
  have hgl : w.heap.size ≤ g := by omega
  have hB0 : Below w.heap.size w ((w.alloc (.cells A 33)).alloc (.cells B 33)) := ((Below.refl _ _).alloc (Nat.le_refl _) _).alloc (by rw [World.size_alloc]; omega) _
  clear hH1 hH2 hg hra hrb hS hT hA hB
  have hiA : (Tryd.prog.info? 33).map (·.size) = some A.size := by rw [hAs]; exact infoAcct
  have hiB : (Tryd.prog.info? 33).map (·.size) = some B.size := by rw [hBs]; exact infoAcct
  have HNW : Hid (∀ w : World, Holds (w.alloc (.cells #[.int .u64 0, .string ⟨#[]⟩, .string ⟨#[]⟩, .int .i64 0] 33)) w.heap.size 33 (acct 0 ⟨#[]⟩ ⟨#[]⟩ 0)) := fun w => Holds.new w _ _
  have hA4 : (acct 0 ⟨#[]⟩ ⟨#[]⟩ 0).size = A.size := by rw [hAs]; rfl
  have HA4 : Hid ((acct 0 ⟨#[]⟩ ⟨#[]⟩ 0).size = A.size ∧ (A.all (·.oneCell') = true) ∧ (Tryd.prog.info? 33).map (·.size) = some A.size ∧ (Tryd.prog.info? 33).map (·.size) = some B.size) := ⟨hA4, hA1, hiA, hiB⟩
  clear hA4 hA1 hiA hiB hAs hBs
  go_enter Tryd.func6, Tryd.ntmps6
  go_wp2_with fail
  rw [← HG.out]
  refine (awake_any _).mono ?_
  rintro e w1 ⟨rfl, hB1⟩
  have h1 := below_holds hB1 HH.out.1
  have h2 := below_holds hB1 HH.out.2
  have hB := hB0.trans (hB1.mono hB0.size)
  clear hB0 hB1 HH
  go_wp2_with (first
    | (refine wpList_loadH rfl 33 _ rfl g rfl 33 _ _ h1 Tryd.underlying33 rfl HA4.out.2.2.1 ?_)
    | fail)
  refine (HRA.out _).mono ?_
  rintro e w2 ⟨rfl, hB2⟩
  replace h1 := below_holds hB2 h1
  replace h2 := below_holds hB2 h2
  replace hB := hB.trans (hB2.mono hB.size)
  clear hB2
  go_wp2_with (first
    | (refine wpList_loadH rfl 33 _ rfl (g + 1) rfl 33 _ _ h2 Tryd.underlying33 rfl HA4.out.2.2.2 ?_)
    | fail)
  refine (HRB.out _).mono ?_
  rintro e w3 ⟨rfl, hB2⟩
  replace h1 := below_holds hB2 h1
  replace h2 := below_holds hB2 h2
  replace hB := hB.trans (hB2.mono hB.size)
  clear hB2
  go_wp2_with fail
  refine (HRD.out _).mono ?_
  rintro e w4 ⟨rfl, hB2⟩
  replace h1 := below_holds hB2 h1
  replace h2 := below_holds hB2 h2
  replace hB := hB.trans (hB2.mono hB.size)
  have hBa := hB.alloc hB.size (.cells #[.int .u64 0, .string ⟨#[]⟩, .string ⟨#[]⟩, .int .i64 0] 33)
  have hle := hB.size
  have h1a := h1.alloc (.cells #[.int .u64 0, .string ⟨#[]⟩, .string ⟨#[]⟩, .int .i64 0] 33)
  have h2a := h2.alloc (.cells #[.int .u64 0, .string ⟨#[]⟩, .string ⟨#[]⟩, .int .i64 0] 33)
  have hl1 := h1.lt
  have hl2 := h2.lt
  clear hB2 hB h1 h2
  go_wp2_with (first
    | (refine wpList_storeH rfl 33 _ _ rfl w4.heap.size A rfl rfl 33 _ (HNW.out w4) HA4.out.2.2.1 HA4.out.1 HA4.out.2.1 ?_
       intro w6 h6 o6 z6
       have hB := Only.fresh hBa o6 hle
       have h1 := o6.holds h1a (Nat.ne_of_lt hl1)
       have h2 := o6.holds h2a (Nat.ne_of_lt hl2)
       clear o6 z6 hBa hle h1a h2a hl1 hl2)
    | (refine wpList_loadG rfl 33 _ rfl w4.heap.size rfl 33 _ _ h6 Tryd.underlying33 rfl HA4.out.2.2.1 ?_)
    | (refine wpList_loadG rfl 33 _ rfl g rfl 33 _ _ h1 Tryd.underlying33 rfl HA4.out.2.2.1 ?_)
    | (refine wpList_loadG rfl 33 _ rfl (g + 1) rfl 33 _ _ h2 Tryd.underlying33 rfl HA4.out.2.2.2 ?_)
    | (refine wpList_neqS rfl 33 _ _ _ rfl A A rfl rfl true guardAcct (HAA.out _) ?_)
    | fail)
  go_ret
  exact ⟨rfl, hB⟩
set_option maxRecDepth 8000 in
set_option maxHeartbeats 4000000 in
theorem back_same (n m : Nat) (b b' c c' : ByteArray) (z z' : Int) (w : World) (hn : n < 18446744073709551616) (hm : m < 18446744073709551616) (h : okA b.data.toList c.data.toList z = true) (h' : okA b'.data.toList c'.data.toList z' = true) (hs : n = m ∧ b = b' ∧ c = c' ∧ z = z') : BackGoal n m b b' c c' z z' w := by
  unfold BackGoal
  obtain ⟨A, hA⟩ : ∃ A, acct n b c z = A := ⟨_, rfl⟩
  obtain ⟨B, hB⟩ : ∃ B, acct m b' c' z' = B := ⟨_, rfl⟩
  have hAs : A.size = 4 := by rw [← hA]; rfl
  have hBs : B.size = 4 := by rw [← hB]; rfl
  have hA1 : A.all (·.oneCell') = true := by rw [← hA]; exact acct_one _ _ _ _
  obtain ⟨S, hS⟩ : ∃ S, recT n b c z = S := ⟨_, rfl⟩
  obtain ⟨T, hT⟩ : ∃ T, recT m b' c' z' = T := ⟨_, rfl⟩
  obtain ⟨F, hF⟩ : ∃ F, chkE b'.data.toList c'.data.toList z' = F := ⟨_, rfl⟩
  have hra := fun w => record_any n b c z w hn
  have hrb := fun w => record_any m b' c' z' w hm
  rw [chk_ok h] at hra
  rw [chk_ok h'] at hF
  subst hF
  have HRD : Hid (∀ w, Calls Tryd.prog 24 #[.string S] w fun e w' => e = .returned (.tuple #[.agg A, .int .i64 0]) ∧ Below w.heap.size w w') := fun w => by
    have q := sread_any S w (by rw [← hS]; exact recT_size n b c z)
    rw [← hS, recT_read hn h, hS, hA] at q
    exact q
  have HAA : Hid (∀ w, (Op.equalIn 10000 33 (.agg A) (.agg A)).run Tryd.prog w = .ok true w) := fun w => by rw [← hA]; exact eql_same w n b c z
  have hBA : B = A := by rw [← hA, ← hB, hs.1, hs.2.1, hs.2.2.1, hs.2.2.2]
  have hTS : T = S := by rw [← hS, ← hT, hs.1, hs.2.1, hs.2.2.1, hs.2.2.2]
  have HAB : Hid (∀ w, (Op.equalIn 10000 33 (.agg A) (.agg B)).run Tryd.prog w = .ok true w) := fun w => by rw [hBA]; exact HAA.out w
  have hst : (S.toList == T.toList) = true := by rw [hTS]; exact beq_self_eq_true _
  clear hBA hTS

  rw [hA, hS] at hra
  rw [hB, hT, chk_ok h'] at hrb
  have HRA : Hid (∀ w, Calls Tryd.prog 22 #[.agg A] w fun e w' => e = .returned (.tuple #[.string S, .int .i64 0]) ∧ Below w.heap.size w w') := hra
  have HRB : Hid (∀ w, Calls Tryd.prog 22 #[.agg B] w fun e w' => e = .returned (.tuple #[.string T, .int .i64 0]) ∧ Below w.heap.size w w') := hrb
  rw [hA, hB]
  obtain ⟨g, hg⟩ : ∃ g, g = w.heap.size := ⟨_, rfl⟩
  have hH1 := ((Holds.new w 33 A).alloc (.cells B 33))
  have hH2 := (Holds.new (w.alloc (.cells A 33)) 33 B)
  rw [World.size_alloc] at hH2
  rw [← hg] at hH1 hH2
  have HH : Hid (Holds _ g 33 _ ∧ Holds _ (g + 1) 33 _) := ⟨hH1, hH2⟩
  have HG : Hid (g = w.heap.size) := hg
  have hgl : w.heap.size ≤ g := by omega
  have hB0 : Below w.heap.size w ((w.alloc (.cells A 33)).alloc (.cells B 33)) := ((Below.refl _ _).alloc (Nat.le_refl _) _).alloc (by rw [World.size_alloc]; omega) _
  clear hH1 hH2 hg hra hrb hS hT hA hB
  have hiA : (Tryd.prog.info? 33).map (·.size) = some A.size := by rw [hAs]; exact infoAcct
  have hiB : (Tryd.prog.info? 33).map (·.size) = some B.size := by rw [hBs]; exact infoAcct
  have HNW : Hid (∀ w : World, Holds (w.alloc (.cells #[.int .u64 0, .string ⟨#[]⟩, .string ⟨#[]⟩, .int .i64 0] 33)) w.heap.size 33 (acct 0 ⟨#[]⟩ ⟨#[]⟩ 0)) := fun w => Holds.new w _ _
  have hA4 : (acct 0 ⟨#[]⟩ ⟨#[]⟩ 0).size = A.size := by rw [hAs]; rfl
  have HA4 : Hid ((acct 0 ⟨#[]⟩ ⟨#[]⟩ 0).size = A.size ∧ (A.all (·.oneCell') = true) ∧ (Tryd.prog.info? 33).map (·.size) = some A.size ∧ (Tryd.prog.info? 33).map (·.size) = some B.size) := ⟨hA4, hA1, hiA, hiB⟩
  clear hA4 hA1 hiA hiB hAs hBs
  go_enter Tryd.func6, Tryd.ntmps6
  go_wp2_with fail
  rw [← HG.out]
  refine (awake_any _).mono ?_
  rintro e w1 ⟨rfl, hB1⟩
  have h1 := below_holds hB1 HH.out.1
  have h2 := below_holds hB1 HH.out.2
  have hB := hB0.trans (hB1.mono hB0.size)
  clear hB0 hB1 HH
  go_wp2_with (first
    | (refine wpList_loadH rfl 33 _ rfl g rfl 33 _ _ h1 Tryd.underlying33 rfl HA4.out.2.2.1 ?_)
    | fail)
  refine (HRA.out _).mono ?_
  rintro e w2 ⟨rfl, hB2⟩
  replace h1 := below_holds hB2 h1
  replace h2 := below_holds hB2 h2
  replace hB := hB.trans (hB2.mono hB.size)
  clear hB2
  go_wp2_with (first
    | (refine wpList_loadH rfl 33 _ rfl (g + 1) rfl 33 _ _ h2 Tryd.underlying33 rfl HA4.out.2.2.2 ?_)
    | fail)
  refine (HRB.out _).mono ?_
  rintro e w3 ⟨rfl, hB2⟩
  replace h1 := below_holds hB2 h1
  replace h2 := below_holds hB2 h2
  replace hB := hB.trans (hB2.mono hB.size)
  clear hB2
  go_wp2_with fail
  refine (HRD.out _).mono ?_
  rintro e w4 ⟨rfl, hB2⟩
  replace h1 := below_holds hB2 h1
  replace h2 := below_holds hB2 h2
  replace hB := hB.trans (hB2.mono hB.size)
  have hBa := hB.alloc hB.size (.cells #[.int .u64 0, .string ⟨#[]⟩, .string ⟨#[]⟩, .int .i64 0] 33)
  have hle := hB.size
  have h1a := h1.alloc (.cells #[.int .u64 0, .string ⟨#[]⟩, .string ⟨#[]⟩, .int .i64 0] 33)
  have h2a := h2.alloc (.cells #[.int .u64 0, .string ⟨#[]⟩, .string ⟨#[]⟩, .int .i64 0] 33)
  have hl1 := h1.lt
  have hl2 := h2.lt
  clear hB2 hB h1 h2
  go_wp2_with (first
    | (refine wpList_storeH rfl 33 _ _ rfl w4.heap.size A rfl rfl 33 _ (HNW.out w4) HA4.out.2.2.1 HA4.out.1 HA4.out.2.1 ?_
       intro w6 h6 o6 z6
       have hB := Only.fresh hBa o6 hle
       have h1 := o6.holds h1a (Nat.ne_of_lt hl1)
       have h2 := o6.holds h2a (Nat.ne_of_lt hl2)
       clear o6 z6 hBa hle h1a h2a hl1 hl2)
    | (refine wpList_loadG rfl 33 _ rfl w4.heap.size rfl 33 _ _ h6 Tryd.underlying33 rfl HA4.out.2.2.1 ?_)
    | (refine wpList_loadG rfl 33 _ rfl g rfl 33 _ _ h1 Tryd.underlying33 rfl HA4.out.2.2.1 ?_)
    | (refine wpList_loadG rfl 33 _ rfl (g + 1) rfl 33 _ _ h2 Tryd.underlying33 rfl HA4.out.2.2.2 ?_)
    | (refine wpList_neqS rfl 33 _ _ _ rfl A A rfl rfl true guardAcct (HAA.out _) ?_)
    | (refine wpList_eqlS rfl 33 _ _ _ rfl A B rfl rfl true guardAcct (HAB.out _) ?_)
    | fail)
  go_ret
  exact ⟨rfl, hB⟩
set_option maxRecDepth 8000 in
set_option maxHeartbeats 4000000 in
theorem back_else (n m : Nat) (b b' c c' : ByteArray) (z z' : Int) (w : World) (hn : n < 18446744073709551616) (hm : m < 18446744073709551616) (h : okA b.data.toList c.data.toList z = true) (h' : okA b'.data.toList c'.data.toList z' = true) (hs : ¬ (n = m ∧ b = b' ∧ c = c' ∧ z = z')) : BackGoal n m b b' c c' z z' w := by
  unfold BackGoal
  obtain ⟨A, hA⟩ : ∃ A, acct n b c z = A := ⟨_, rfl⟩
  obtain ⟨B, hB⟩ : ∃ B, acct m b' c' z' = B := ⟨_, rfl⟩
  have hAs : A.size = 4 := by rw [← hA]; rfl
  have hBs : B.size = 4 := by rw [← hB]; rfl
  have hA1 : A.all (·.oneCell') = true := by rw [← hA]; exact acct_one _ _ _ _
  obtain ⟨S, hS⟩ : ∃ S, recT n b c z = S := ⟨_, rfl⟩
  obtain ⟨T, hT⟩ : ∃ T, recT m b' c' z' = T := ⟨_, rfl⟩
  obtain ⟨F, hF⟩ : ∃ F, chkE b'.data.toList c'.data.toList z' = F := ⟨_, rfl⟩
  have hra := fun w => record_any n b c z w hn
  have hrb := fun w => record_any m b' c' z' w hm
  rw [chk_ok h] at hra
  rw [chk_ok h'] at hF
  subst hF
  have HRD : Hid (∀ w, Calls Tryd.prog 24 #[.string S] w fun e w' => e = .returned (.tuple #[.agg A, .int .i64 0]) ∧ Below w.heap.size w w') := fun w => by
    have q := sread_any S w (by rw [← hS]; exact recT_size n b c z)
    rw [← hS, recT_read hn h, hS, hA] at q
    exact q
  have HAA : Hid (∀ w, (Op.equalIn 10000 33 (.agg A) (.agg A)).run Tryd.prog w = .ok true w) := fun w => by rw [← hA]; exact eql_same w n b c z
  have HAB : Hid (∀ w, (Op.equalIn 10000 33 (.agg A) (.agg B)).run Tryd.prog w = .ok false w) := fun w => by rw [← hA, ← hB]; exact eql_other w hs
  have hst : (S.toList == T.toList) = false := list_ne (by rw [← hS, ← hT]; exact fun q => hs (recT_inj hn hm h h' q))

  rw [hA, hS] at hra
  rw [hB, hT, chk_ok h'] at hrb
  have HRA : Hid (∀ w, Calls Tryd.prog 22 #[.agg A] w fun e w' => e = .returned (.tuple #[.string S, .int .i64 0]) ∧ Below w.heap.size w w') := hra
  have HRB : Hid (∀ w, Calls Tryd.prog 22 #[.agg B] w fun e w' => e = .returned (.tuple #[.string T, .int .i64 0]) ∧ Below w.heap.size w w') := hrb
  rw [hA, hB]
  obtain ⟨g, hg⟩ : ∃ g, g = w.heap.size := ⟨_, rfl⟩
  have hH1 := ((Holds.new w 33 A).alloc (.cells B 33))
  have hH2 := (Holds.new (w.alloc (.cells A 33)) 33 B)
  rw [World.size_alloc] at hH2
  rw [← hg] at hH1 hH2
  have HH : Hid (Holds _ g 33 _ ∧ Holds _ (g + 1) 33 _) := ⟨hH1, hH2⟩
  have HG : Hid (g = w.heap.size) := hg
  have hgl : w.heap.size ≤ g := by omega
  have hB0 : Below w.heap.size w ((w.alloc (.cells A 33)).alloc (.cells B 33)) := ((Below.refl _ _).alloc (Nat.le_refl _) _).alloc (by rw [World.size_alloc]; omega) _
  clear hH1 hH2 hg hra hrb hS hT hA hB
  have hiA : (Tryd.prog.info? 33).map (·.size) = some A.size := by rw [hAs]; exact infoAcct
  have hiB : (Tryd.prog.info? 33).map (·.size) = some B.size := by rw [hBs]; exact infoAcct
  have HNW : Hid (∀ w : World, Holds (w.alloc (.cells #[.int .u64 0, .string ⟨#[]⟩, .string ⟨#[]⟩, .int .i64 0] 33)) w.heap.size 33 (acct 0 ⟨#[]⟩ ⟨#[]⟩ 0)) := fun w => Holds.new w _ _
  have hA4 : (acct 0 ⟨#[]⟩ ⟨#[]⟩ 0).size = A.size := by rw [hAs]; rfl
  have HA4 : Hid ((acct 0 ⟨#[]⟩ ⟨#[]⟩ 0).size = A.size ∧ (A.all (·.oneCell') = true) ∧ (Tryd.prog.info? 33).map (·.size) = some A.size ∧ (Tryd.prog.info? 33).map (·.size) = some B.size) := ⟨hA4, hA1, hiA, hiB⟩
  clear hA4 hA1 hiA hiB hAs hBs
  go_enter Tryd.func6, Tryd.ntmps6
  go_wp2_with fail
  rw [← HG.out]
  refine (awake_any _).mono ?_
  rintro e w1 ⟨rfl, hB1⟩
  have h1 := below_holds hB1 HH.out.1
  have h2 := below_holds hB1 HH.out.2
  have hB := hB0.trans (hB1.mono hB0.size)
  clear hB0 hB1 HH
  go_wp2_with (first
    | (refine wpList_loadH rfl 33 _ rfl g rfl 33 _ _ h1 Tryd.underlying33 rfl HA4.out.2.2.1 ?_)
    | fail)
  refine (HRA.out _).mono ?_
  rintro e w2 ⟨rfl, hB2⟩
  replace h1 := below_holds hB2 h1
  replace h2 := below_holds hB2 h2
  replace hB := hB.trans (hB2.mono hB.size)
  clear hB2
  go_wp2_with (first
    | (refine wpList_loadH rfl 33 _ rfl (g + 1) rfl 33 _ _ h2 Tryd.underlying33 rfl HA4.out.2.2.2 ?_)
    | fail)
  refine (HRB.out _).mono ?_
  rintro e w3 ⟨rfl, hB2⟩
  replace h1 := below_holds hB2 h1
  replace h2 := below_holds hB2 h2
  replace hB := hB.trans (hB2.mono hB.size)
  clear hB2
  go_wp2_with fail
  refine (HRD.out _).mono ?_
  rintro e w4 ⟨rfl, hB2⟩
  replace h1 := below_holds hB2 h1
  replace h2 := below_holds hB2 h2
  replace hB := hB.trans (hB2.mono hB.size)
  have hBa := hB.alloc hB.size (.cells #[.int .u64 0, .string ⟨#[]⟩, .string ⟨#[]⟩, .int .i64 0] 33)
  have hle := hB.size
  have h1a := h1.alloc (.cells #[.int .u64 0, .string ⟨#[]⟩, .string ⟨#[]⟩, .int .i64 0] 33)
  have h2a := h2.alloc (.cells #[.int .u64 0, .string ⟨#[]⟩, .string ⟨#[]⟩, .int .i64 0] 33)
  have hl1 := h1.lt
  have hl2 := h2.lt
  clear hB2 hB h1 h2
  go_wp2_with (first
    | (refine wpList_storeH rfl 33 _ _ rfl w4.heap.size A rfl rfl 33 _ (HNW.out w4) HA4.out.2.2.1 HA4.out.1 HA4.out.2.1 ?_
       intro w6 h6 o6 z6
       have hB := Only.fresh hBa o6 hle
       have h1 := o6.holds h1a (Nat.ne_of_lt hl1)
       have h2 := o6.holds h2a (Nat.ne_of_lt hl2)
       clear o6 z6 hBa hle h1a h2a hl1 hl2)
    | (refine wpList_loadG rfl 33 _ rfl w4.heap.size rfl 33 _ _ h6 Tryd.underlying33 rfl HA4.out.2.2.1 ?_)
    | (refine wpList_loadG rfl 33 _ rfl g rfl 33 _ _ h1 Tryd.underlying33 rfl HA4.out.2.2.1 ?_)
    | (refine wpList_loadG rfl 33 _ rfl (g + 1) rfl 33 _ _ h2 Tryd.underlying33 rfl HA4.out.2.2.2 ?_)
    | (refine wpList_neqS rfl 33 _ _ _ rfl A A rfl rfl true guardAcct (HAA.out _) ?_)
    | (refine wpList_eqlS rfl 33 _ _ _ rfl A B rfl rfl false guardAcct (HAB.out _) ?_)
    | fail)
  go_ret
  exact ⟨rfl, hB⟩
theorem sback_walk (n m : Nat) (b b' c c' : ByteArray) (z z' : Int) (w : World) (hn : n < 18446744073709551616) (hm : m < 18446744073709551616) : BackGoal n m b b' c c' z z' w := by
  cases h : okA b.data.toList c.data.toList z with
  | false => exact back_no n m b b' c c' z z' w hn hm h
  | true =>
    cases h' : okA b'.data.toList c'.data.toList z' with
    | false => exact back_yn n m b b' c c' z z' w hn hm h h'
    | true =>
      by_cases hs : n = m ∧ b = b' ∧ c = c' ∧ z = z'
      · exact back_same n m b b' c c' z z' w hn hm h h' hs
      · exact back_else n m b b' c c' z z' w hn hm h h' hs
end Go.Proofs.YtamijfdhaahalaaDoor
