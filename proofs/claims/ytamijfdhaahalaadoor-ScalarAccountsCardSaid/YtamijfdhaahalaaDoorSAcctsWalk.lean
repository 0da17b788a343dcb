/-
  ScalarAccounts walked.
-/
import Derived.Test.YtamijfdhaahalaaDoorAwake4
import Derived.Test.YtamijfdhaahalaaDoorSRefG
import Derived.Test.YtamijfdhaahalaaDoorSRefH
namespace Go.Proofs.YtamijfdhaahalaaDoor
open Go Go.RowKit

def AccountsGoal (n : Nat) (b c : ByteArray) (z : Int) (s : ByteArray) (R : Nat → UInt8) (w : World) : Prop :=
    Calls Tryd.prog 5 #[.agg (acct n b c z), .string s, .agg (K.bytesA 32 R)] w fun e w' => e = .returned (.bool true) ∧ Below w.heap.size w w'
theorem cut_size (x : ByteArray) (n : Nat) (h : n < x.size) : (x.extract 0 n).size = n := by rw [ByteArray.size_extract]; omega
theorem readV_form (r : Option (Nat × ByteArray × ByteArray × Nat)) : ∃ n b c z F, readV r = .tuple #[.agg (acct n b c z), .int .i64 F] := by
  cases r with
  | none => exact ⟨0, ⟨#[]⟩, ⟨#[]⟩, 0, 10, rfl⟩
  | some q => obtain ⟨n, b, c, k⟩ := q; exact ⟨n, b, c, k, 0, rfl⟩
theorem eql_self (w : World) (n : Nat) (b c : ByteArray) (z : Int) : (Op.equalIn 10000 33 (.agg (acct n b c z)) (.agg (acct n b c z))).run Tryd.prog w = .ok true w := by
  rw [eql_acct]
  simp
section
variable {P : Program} {ops : Array Oper} {C : World → Prop}
theorem cq_load {rest : List Oper} {op : Oper} {a : Act} {Q : Act → Prop} (ty : TypeId) (x : Operand) (ho : op.op = .load ty x)
    (b : Nat) (hx : a.eval x = .pointer (some ⟨b, 0, none⟩)) (hw : Region.wanted op (yielded ops a.tmps) = true) (t : TypeId) (cs : Array Value) (d : TypeDesc) (hh : ∀ w, C w → Holds w b t cs)
    (hu : P.underlying ty = some d) (hd : d.isRow = true) (hi : (P.info? ty).map (·.size) = some cs.size)
    (h : wpQuiet P ops C Q rest (a.put op.dst (.agg cs))) : wpQuiet P ops C Q (op :: rest) a :=
  cq_val hw (.agg cs) (fun w hC => by
    unfold execOp
    simp only [ho, hx, Instr.loadAt, Instr.sureAddr, Sem.run_bind, Sem.run_pure, Result.andThen_ok, run_loadVar_row w b t ty cs (0, 0) d (hh w hC) hu (by cases d <;> simp_all) hi]) h
theorem cq_eqlS {rest : List Oper} {op : Oper} {a : Act} {Q : Act → Prop} (t t' : TypeId) (x y : Operand) (ho : op.op = .binOp .eql t x y t')
    (xs ys : Array Value) (hx : a.eval x = .agg xs) (hy : a.eval y = .agg ys) (hw : Region.wanted op (yielded ops a.tmps) = true) (r : Bool) (hg : P.eqGuardType P.depth t = false) (he : ∀ w, C w → (Op.equalIn 10000 t (.agg xs) (.agg ys)).run P w = .ok r w)
    (h : wpQuiet P ops C Q rest (a.put op.dst (.bool r))) : wpQuiet P ops C Q (op :: rest) a :=
  cq_val hw (.bool r) (fun w hC => by
    unfold execOp
    have h1 := run_eqGuard_agg (P := P) w .eql t x y xs ys hg
    have h2 := run_eql_struct (P := P) w t xs ys
    rw [he w hC] at h2
    simp only [ho, hx, hy, Sem.run_bind, Sem.run_pure, h1, h2, Result.andThen_ok]) h
end

set_option maxRecDepth 16000 in
set_option maxHeartbeats 8000000 in
theorem accounts_cb (n : Nat) (b c : ByteArray) (z : Int) (s : ByteArray) (R : Nat → UInt8) (w : World) (hT : K.Tabs w) (hn : n < 18446744073709551616) (hs :  500 < s.size) (X : ByteArray) (hX : s.extract 0 500 = X) (hXs : X.size ≤ 500) (hb : 2000 < b.size) : AccountsGoal n b c z s R w := by
  unfold AccountsGoal
  have hsi :  (500 : Int) < s.size := by omega
  have hbi : (2000 : Int) < b.size := by omega
  obtain ⟨A, hA⟩ : ∃ A, acct n b c z = A := ⟨_, rfl⟩
  obtain ⟨ra, hra⟩ : ∃ ra, K.bytesA 32 R = ra := ⟨_, rfl⟩
  have hAs : A.size = 4 := by rw [← hA]; rfl
  have hrs : ra.size = 32 := by rw [← hra]; exact K.bytesA_size 32 R
  obtain ⟨S, hS⟩ : ∃ S, recT n b c z = S := ⟨_, rfl⟩
  obtain ⟨L, hL⟩ : ∃ L, leafT n b c z R = L := ⟨_, rfl⟩
  obtain ⟨E, hE⟩ : ∃ E, chkE b.data.toList c.data.toList z = E := ⟨_, rfl⟩
  obtain ⟨n', b', c', z', F, hF⟩ := readV_form (readA X.data.toList)
  obtain ⟨D, hD⟩ : ∃ D, acct n' b' c' z' = D := ⟨_, rfl⟩
  have hDs : D.size = 4 := by rw [← hD]; rfl
  have hD1 : D.all (·.oneCell') = true := by rw [← hD]; exact acct_one _ _ _ _
  have hDD : ∀ w, (Op.equalIn 10000 33 (.agg D) (.agg D)).run Tryd.prog w = .ok true w := fun w => by rw [← hD]; exact eql_self w n' b' c' z'
  rw [hD] at hF
  have h1 := fun w => record_any n b c z w hn
  have h2 := fun w => qrecord_any n b c z w hn
  have h3 := fun w => sread_any X w (by omega)
  have h4 := fun w => qread_any X w (by omega)
  have h5 := fun w hT => leaf_any n b c z R w hT hn
  have h6 := fun w => qleaf_any n b c z R w hn
  have h7 := fun w => check_any n b c z w
  have h8 := fun w => qcheck_any n b c z w
  rw [hA, hS, hE] at h1 h2
  rw [hF] at h3 h4
  rw [hA, hra, hL, hE] at h5 h6
  rw [hA, hE] at h7 h8
  have HC : Hid ((∀ w, Calls Tryd.prog 22 #[.agg A] w fun e w' => e = .returned (.tuple #[.string S, .int .i64 E]) ∧ Below w.heap.size w w') ∧ (∀ w, Calls Tryd.prog 23 #[.agg A] w fun e w' => e = .returned (.tuple #[.string S, .int .i64 E]) ∧ Below w.heap.size w w') ∧
      (∀ w, Calls Tryd.prog 24 #[.string X] w fun e w' => e = .returned (.tuple #[.agg D, .int .i64 F]) ∧ Below w.heap.size w w') ∧ (∀ w, Calls Tryd.prog 25 #[.string X] w fun e w' => e = .returned (.tuple #[.agg D, .int .i64 F]) ∧ Below w.heap.size w w') ∧
      (∀ w, K.Tabs w → Calls Tryd.prog 26 #[.agg A, .agg ra] w fun e w' => e = .returned (.tuple #[.string L, .int .i64 E]) ∧ Below w.heap.size w w') ∧ (∀ w, Calls Tryd.prog 27 #[.agg A, .agg ra] w fun e w' => e = .returned (.tuple #[.string L, .int .i64 E]) ∧ Below w.heap.size w w') ∧
      (∀ w, Calls Tryd.prog 28 #[.agg A] w fun e w' => e = .returned (.int .i64 E) ∧ Below w.heap.size w w') ∧ (∀ w, Calls Tryd.prog 29 #[.agg A] w fun e w' => e = .returned (.int .i64 E) ∧ Below w.heap.size w w')) := ⟨h1, h2, h3, h4, h5, h6, h7, h8⟩
  have HI : Hid ((Tryd.prog.info? 33).map (·.size) = some A.size ∧ (Tryd.prog.info? 34).map (·.size) = some ra.size ∧ (Tryd.prog.info? 33).map (·.size) = some D.size ∧ (acct 0 ⟨#[]⟩ ⟨#[]⟩ 0).size = D.size ∧ D.all (·.oneCell') = true ∧ ∀ w, (Op.equalIn 10000 33 (.agg D) (.agg D)).run Tryd.prog w = .ok true w) :=
    ⟨by rw [hAs]; exact infoAcct, by rw [hrs]; exact infoSum, by rw [hDs]; exact infoAcct, by rw [hDs]; rfl, hD1, hDD⟩
  have HX : Hid (s.extract 0 500 = X) := hX
  have HAB : Hid (acct n b c z = A) := hA
  rw [hA, hra]
  obtain ⟨g, hg⟩ : ∃ g, g = w.heap.size := ⟨_, rfl⟩
  have hH1 := (Holds.new w 33 A).alloc (.cells ra 34)
  have hH2 := Holds.new (w.alloc (.cells A 33)) 34 ra
  rw [World.size_alloc] at hH2
  rw [← hg] at hH1 hH2
  have HH : Hid (Holds _ g 33 _ ∧ Holds _ (g + 1) 34 _) := ⟨hH1, hH2⟩
  have HG : Hid (g = w.heap.size) := hg
  have hB0 : Below w.heap.size w ((w.alloc (.cells A 33)).alloc (.cells ra 34)) := ((Below.refl _ _).alloc (Nat.le_refl _) _).alloc (by rw [World.size_alloc]; omega) _
  have HNW : Hid (∀ w : World, Holds (w.alloc (.cells #[.int .u64 0, .string ⟨#[]⟩, .string ⟨#[]⟩, .int .i64 0] 33)) w.heap.size 33 (acct 0 ⟨#[]⟩ ⟨#[]⟩ 0)) := fun w => Holds.new w _ _
  clear hH1 hH2 hg h1 h2 h3 h4 h5 h6 h7 h8 hA hra hAs hrs hS hL hE hF hD hDs hD1 hDD hX
  go_enter Tryd.func5, Tryd.ntmps5
  go_wp2_with fail
  rw [← HG.out]
  refine (awake_any _).mono ?_
  rintro e w1 ⟨rfl, hB1⟩
  have a1 := below_holds hB1 HH.out.1
  have a2 := below_holds hB1 HH.out.2
  have hB := hB0.trans (hB1.mono hB0.size)
  have hT1 : K.Tabs w1 := hT.below hB
  have y1 : w1.cell? ⟨g, 1, none⟩ = some (.string b) := by rw [a1.cell, ← HAB.out]; rfl
  have y2 : w1.cell? ⟨g, 2, none⟩ = some (.string c) := by rw [a1.cell, ← HAB.out]; rfl
  clear hB0 hB1 HH hT
  go_wp2_with fail
  go_ret
  exact ⟨rfl, hB⟩

set_option maxRecDepth 16000 in
set_option maxHeartbeats 8000000 in
theorem accounts_ck (n : Nat) (b c : ByteArray) (z : Int) (s : ByteArray) (R : Nat → UInt8) (w : World) (hT : K.Tabs w) (hn : n < 18446744073709551616) (hs :  500 < s.size) (X : ByteArray) (hX : s.extract 0 500 = X) (hXs : X.size ≤ 500) (hb : ¬ 2000 < b.size) (hc : 2000 < c.size) : AccountsGoal n b c z s R w := by
  unfold AccountsGoal
  have hsi :  (500 : Int) < s.size := by omega
  have hbi : ¬ (2000 : Int) < b.size := by omega
  have hci : (2000 : Int) < c.size := by omega
  obtain ⟨A, hA⟩ : ∃ A, acct n b c z = A := ⟨_, rfl⟩
  obtain ⟨ra, hra⟩ : ∃ ra, K.bytesA 32 R = ra := ⟨_, rfl⟩
  have hAs : A.size = 4 := by rw [← hA]; rfl
  have hrs : ra.size = 32 := by rw [← hra]; exact K.bytesA_size 32 R
  obtain ⟨S, hS⟩ : ∃ S, recT n b c z = S := ⟨_, rfl⟩
  obtain ⟨L, hL⟩ : ∃ L, leafT n b c z R = L := ⟨_, rfl⟩
  obtain ⟨E, hE⟩ : ∃ E, chkE b.data.toList c.data.toList z = E := ⟨_, rfl⟩
  obtain ⟨n', b', c', z', F, hF⟩ := readV_form (readA X.data.toList)
  obtain ⟨D, hD⟩ : ∃ D, acct n' b' c' z' = D := ⟨_, rfl⟩
  have hDs : D.size = 4 := by rw [← hD]; rfl
  have hD1 : D.all (·.oneCell') = true := by rw [← hD]; exact acct_one _ _ _ _
  have hDD : ∀ w, (Op.equalIn 10000 33 (.agg D) (.agg D)).run Tryd.prog w = .ok true w := fun w => by rw [← hD]; exact eql_self w n' b' c' z'
  rw [hD] at hF
  have h1 := fun w => record_any n b c z w hn
  have h2 := fun w => qrecord_any n b c z w hn
  have h3 := fun w => sread_any X w (by omega)
  have h4 := fun w => qread_any X w (by omega)
  have h5 := fun w hT => leaf_any n b c z R w hT hn
  have h6 := fun w => qleaf_any n b c z R w hn
  have h7 := fun w => check_any n b c z w
  have h8 := fun w => qcheck_any n b c z w
  rw [hA, hS, hE] at h1 h2
  rw [hF] at h3 h4
  rw [hA, hra, hL, hE] at h5 h6
  rw [hA, hE] at h7 h8
  have HC : Hid ((∀ w, Calls Tryd.prog 22 #[.agg A] w fun e w' => e = .returned (.tuple #[.string S, .int .i64 E]) ∧ Below w.heap.size w w') ∧ (∀ w, Calls Tryd.prog 23 #[.agg A] w fun e w' => e = .returned (.tuple #[.string S, .int .i64 E]) ∧ Below w.heap.size w w') ∧
      (∀ w, Calls Tryd.prog 24 #[.string X] w fun e w' => e = .returned (.tuple #[.agg D, .int .i64 F]) ∧ Below w.heap.size w w') ∧ (∀ w, Calls Tryd.prog 25 #[.string X] w fun e w' => e = .returned (.tuple #[.agg D, .int .i64 F]) ∧ Below w.heap.size w w') ∧
      (∀ w, K.Tabs w → Calls Tryd.prog 26 #[.agg A, .agg ra] w fun e w' => e = .returned (.tuple #[.string L, .int .i64 E]) ∧ Below w.heap.size w w') ∧ (∀ w, Calls Tryd.prog 27 #[.agg A, .agg ra] w fun e w' => e = .returned (.tuple #[.string L, .int .i64 E]) ∧ Below w.heap.size w w') ∧
      (∀ w, Calls Tryd.prog 28 #[.agg A] w fun e w' => e = .returned (.int .i64 E) ∧ Below w.heap.size w w') ∧ (∀ w, Calls Tryd.prog 29 #[.agg A] w fun e w' => e = .returned (.int .i64 E) ∧ Below w.heap.size w w')) := ⟨h1, h2, h3, h4, h5, h6, h7, h8⟩
  have HI : Hid ((Tryd.prog.info? 33).map (·.size) = some A.size ∧ (Tryd.prog.info? 34).map (·.size) = some ra.size ∧ (Tryd.prog.info? 33).map (·.size) = some D.size ∧ (acct 0 ⟨#[]⟩ ⟨#[]⟩ 0).size = D.size ∧ D.all (·.oneCell') = true ∧ ∀ w, (Op.equalIn 10000 33 (.agg D) (.agg D)).run Tryd.prog w = .ok true w) :=
    ⟨by rw [hAs]; exact infoAcct, by rw [hrs]; exact infoSum, by rw [hDs]; exact infoAcct, by rw [hDs]; rfl, hD1, hDD⟩
  have HX : Hid (s.extract 0 500 = X) := hX
  have HAB : Hid (acct n b c z = A) := hA
  rw [hA, hra]
  obtain ⟨g, hg⟩ : ∃ g, g = w.heap.size := ⟨_, rfl⟩
  have hH1 := (Holds.new w 33 A).alloc (.cells ra 34)
  have hH2 := Holds.new (w.alloc (.cells A 33)) 34 ra
  rw [World.size_alloc] at hH2
  rw [← hg] at hH1 hH2
  have HH : Hid (Holds _ g 33 _ ∧ Holds _ (g + 1) 34 _) := ⟨hH1, hH2⟩
  have HG : Hid (g = w.heap.size) := hg
  have hB0 : Below w.heap.size w ((w.alloc (.cells A 33)).alloc (.cells ra 34)) := ((Below.refl _ _).alloc (Nat.le_refl _) _).alloc (by rw [World.size_alloc]; omega) _
  have HNW : Hid (∀ w : World, Holds (w.alloc (.cells #[.int .u64 0, .string ⟨#[]⟩, .string ⟨#[]⟩, .int .i64 0] 33)) w.heap.size 33 (acct 0 ⟨#[]⟩ ⟨#[]⟩ 0)) := fun w => Holds.new w _ _
  clear hH1 hH2 hg h1 h2 h3 h4 h5 h6 h7 h8 hA hra hAs hrs hS hL hE hF hD hDs hD1 hDD hX
  go_enter Tryd.func5, Tryd.ntmps5
  go_wp2_with fail
  rw [← HG.out]
  refine (awake_any _).mono ?_
  rintro e w1 ⟨rfl, hB1⟩
  have a1 := below_holds hB1 HH.out.1
  have a2 := below_holds hB1 HH.out.2
  have hB := hB0.trans (hB1.mono hB0.size)
  have hT1 : K.Tabs w1 := hT.below hB
  have y1 : w1.cell? ⟨g, 1, none⟩ = some (.string b) := by rw [a1.cell, ← HAB.out]; rfl
  have y2 : w1.cell? ⟨g, 2, none⟩ = some (.string c) := by rw [a1.cell, ← HAB.out]; rfl
  clear hB0 hB1 HH hT
  go_wp2_with fail
  go_ret
  exact ⟨rfl, hB⟩

set_option maxRecDepth 16000 in
set_option maxHeartbeats 8000000 in
theorem accounts_cm (n : Nat) (b c : ByteArray) (z : Int) (s : ByteArray) (R : Nat → UInt8) (w : World) (hT : K.Tabs w) (hn : n < 18446744073709551616) (hs :  500 < s.size) (X : ByteArray) (hX : s.extract 0 500 = X) (hXs : X.size ≤ 500) (hb : ¬ 2000 < b.size) (hc : ¬ 2000 < c.size) : AccountsGoal n b c z s R w := by
  unfold AccountsGoal
  have hsi :  (500 : Int) < s.size := by omega
  have hbi : ¬ (2000 : Int) < b.size := by omega
  have hci : ¬ (2000 : Int) < c.size := by omega
  obtain ⟨A, hA⟩ : ∃ A, acct n b c z = A := ⟨_, rfl⟩
  obtain ⟨ra, hra⟩ : ∃ ra, K.bytesA 32 R = ra := ⟨_, rfl⟩
  have hAs : A.size = 4 := by rw [← hA]; rfl
  have hrs : ra.size = 32 := by rw [← hra]; exact K.bytesA_size 32 R
  obtain ⟨S, hS⟩ : ∃ S, recT n b c z = S := ⟨_, rfl⟩
  obtain ⟨L, hL⟩ : ∃ L, leafT n b c z R = L := ⟨_, rfl⟩
  obtain ⟨E, hE⟩ : ∃ E, chkE b.data.toList c.data.toList z = E := ⟨_, rfl⟩
  obtain ⟨n', b', c', z', F, hF⟩ := readV_form (readA X.data.toList)
  obtain ⟨D, hD⟩ : ∃ D, acct n' b' c' z' = D := ⟨_, rfl⟩
  have hDs : D.size = 4 := by rw [← hD]; rfl
  have hD1 : D.all (·.oneCell') = true := by rw [← hD]; exact acct_one _ _ _ _
  have hDD : ∀ w, (Op.equalIn 10000 33 (.agg D) (.agg D)).run Tryd.prog w = .ok true w := fun w => by rw [← hD]; exact eql_self w n' b' c' z'
  rw [hD] at hF
  have h1 := fun w => record_any n b c z w hn
  have h2 := fun w => qrecord_any n b c z w hn
  have h3 := fun w => sread_any X w (by omega)
  have h4 := fun w => qread_any X w (by omega)
  have h5 := fun w hT => leaf_any n b c z R w hT hn
  have h6 := fun w => qleaf_any n b c z R w hn
  have h7 := fun w => check_any n b c z w
  have h8 := fun w => qcheck_any n b c z w
  rw [hA, hS, hE] at h1 h2
  rw [hF] at h3 h4
  rw [hA, hra, hL, hE] at h5 h6
  rw [hA, hE] at h7 h8
  have HC : Hid ((∀ w, Calls Tryd.prog 22 #[.agg A] w fun e w' => e = .returned (.tuple #[.string S, .int .i64 E]) ∧ Below w.heap.size w w') ∧ (∀ w, Calls Tryd.prog 23 #[.agg A] w fun e w' => e = .returned (.tuple #[.string S, .int .i64 E]) ∧ Below w.heap.size w w') ∧
      (∀ w, Calls Tryd.prog 24 #[.string X] w fun e w' => e = .returned (.tuple #[.agg D, .int .i64 F]) ∧ Below w.heap.size w w') ∧ (∀ w, Calls Tryd.prog 25 #[.string X] w fun e w' => e = .returned (.tuple #[.agg D, .int .i64 F]) ∧ Below w.heap.size w w') ∧
      (∀ w, K.Tabs w → Calls Tryd.prog 26 #[.agg A, .agg ra] w fun e w' => e = .returned (.tuple #[.string L, .int .i64 E]) ∧ Below w.heap.size w w') ∧ (∀ w, Calls Tryd.prog 27 #[.agg A, .agg ra] w fun e w' => e = .returned (.tuple #[.string L, .int .i64 E]) ∧ Below w.heap.size w w') ∧
      (∀ w, Calls Tryd.prog 28 #[.agg A] w fun e w' => e = .returned (.int .i64 E) ∧ Below w.heap.size w w') ∧ (∀ w, Calls Tryd.prog 29 #[.agg A] w fun e w' => e = .returned (.int .i64 E) ∧ Below w.heap.size w w')) := ⟨h1, h2, h3, h4, h5, h6, h7, h8⟩
  have HI : Hid ((Tryd.prog.info? 33).map (·.size) = some A.size ∧ (Tryd.prog.info? 34).map (·.size) = some ra.size ∧ (Tryd.prog.info? 33).map (·.size) = some D.size ∧ (acct 0 ⟨#[]⟩ ⟨#[]⟩ 0).size = D.size ∧ D.all (·.oneCell') = true ∧ ∀ w, (Op.equalIn 10000 33 (.agg D) (.agg D)).run Tryd.prog w = .ok true w) :=
    ⟨by rw [hAs]; exact infoAcct, by rw [hrs]; exact infoSum, by rw [hDs]; exact infoAcct, by rw [hDs]; rfl, hD1, hDD⟩
  have HX : Hid (s.extract 0 500 = X) := hX
  have HAB : Hid (acct n b c z = A) := hA
  rw [hA, hra]
  obtain ⟨g, hg⟩ : ∃ g, g = w.heap.size := ⟨_, rfl⟩
  have hH1 := (Holds.new w 33 A).alloc (.cells ra 34)
  have hH2 := Holds.new (w.alloc (.cells A 33)) 34 ra
  rw [World.size_alloc] at hH2
  rw [← hg] at hH1 hH2
  have HH : Hid (Holds _ g 33 _ ∧ Holds _ (g + 1) 34 _) := ⟨hH1, hH2⟩
  have HG : Hid (g = w.heap.size) := hg
  have hB0 : Below w.heap.size w ((w.alloc (.cells A 33)).alloc (.cells ra 34)) := ((Below.refl _ _).alloc (Nat.le_refl _) _).alloc (by rw [World.size_alloc]; omega) _
  have HNW : Hid (∀ w : World, Holds (w.alloc (.cells #[.int .u64 0, .string ⟨#[]⟩, .string ⟨#[]⟩, .int .i64 0] 33)) w.heap.size 33 (acct 0 ⟨#[]⟩ ⟨#[]⟩ 0)) := fun w => Holds.new w _ _
  clear hH1 hH2 hg h1 h2 h3 h4 h5 h6 h7 h8 hA hra hAs hrs hS hL hE hF hD hDs hD1 hDD hX
  go_enter Tryd.func5, Tryd.ntmps5
  go_wp2_with fail
  rw [← HG.out]
  refine (awake_any _).mono ?_
  rintro e w1 ⟨rfl, hB1⟩
  have a1 := below_holds hB1 HH.out.1
  have a2 := below_holds hB1 HH.out.2
  have hB := hB0.trans (hB1.mono hB0.size)
  have hT1 : K.Tabs w1 := hT.below hB
  have y1 : w1.cell? ⟨g, 1, none⟩ = some (.string b) := by rw [a1.cell, ← HAB.out]; rfl
  have y2 : w1.cell? ⟨g, 2, none⟩ = some (.string c) := by rw [a1.cell, ← HAB.out]; rfl
  clear hB0 hB1 HH hT
  go_wp2_with (first
    | (refine wpList_loadH rfl 33 _ rfl g rfl 33 _ _ a1 Tryd.underlying33 rfl HI.out.1 ?_)
    | (refine wpList_loadH rfl 34 _ rfl (g + 1) rfl 34 _ _ a2 Tryd.underlying34 rfl HI.out.2.1 ?_)
    | fail)
  refine (HC.out.1 _).mono ?_
  rintro e w2 ⟨rfl, hB2⟩
  replace a1 := below_holds hB2 a1
  replace a2 := below_holds hB2 a2
  replace hB := hB.trans (hB2.mono hB.size)
  replace hT1 := hT1.below hB2
  clear y1 y2
  clear hB2
  go_wp2_with (first
    | (refine wpList_loadH rfl 33 _ rfl g rfl 33 _ _ a1 Tryd.underlying33 rfl HI.out.1 ?_)
    | (refine wpList_loadH rfl 34 _ rfl (g + 1) rfl 34 _ _ a2 Tryd.underlying34 rfl HI.out.2.1 ?_)
    | fail)
  refine (HC.out.2.1 _).mono ?_
  rintro e w2 ⟨rfl, hB2⟩
  replace a1 := below_holds hB2 a1
  replace a2 := below_holds hB2 a2
  replace hB := hB.trans (hB2.mono hB.size)
  replace hT1 := hT1.below hB2
  clear hB2
  go_wp2_with fail
  rw [HX.out]
  refine (HC.out.2.2.1 _).mono ?_
  rintro e w2 ⟨rfl, hB2⟩
  replace a1 := below_holds hB2 a1
  replace a2 := below_holds hB2 a2
  replace hB := hB.trans (hB2.mono hB.size)
  replace hT1 := hT1.below hB2
  clear hB2
  have hBa := hB.alloc hB.size (.cells #[.int .u64 0, .string ⟨#[]⟩, .string ⟨#[]⟩, .int .i64 0] 33)
  have hle := hB.size
  have a1a := a1.alloc (.cells #[.int .u64 0, .string ⟨#[]⟩, .string ⟨#[]⟩, .int .i64 0] 33)
  have a2a := a2.alloc (.cells #[.int .u64 0, .string ⟨#[]⟩, .string ⟨#[]⟩, .int .i64 0] 33)
  have l1 := a1.lt
  have l2 := a2.lt
  clear hB a1 a2
  go_wp2_with (first
    | (refine wpList_storeH rfl 33 _ _ rfl w2.heap.size D rfl rfl 33 _ (HNW.out w2) HI.out.2.2.1 HI.out.2.2.2.1 HI.out.2.2.2.2.1 ?_
       intro w6 m1 o6 z6
       have hB := Only.fresh hBa o6 hle
       have a1 := o6.holds a1a (Nat.ne_of_lt l1)
       have a2 := o6.holds a2a (Nat.ne_of_lt l2)
       have hT1 : K.Tabs w6 := hT1.below (Only.fresh ((Below.refl _ w2).alloc (Nat.le_refl _) _) o6 (Nat.le_refl _))
       obtain ⟨gm1, hgm1⟩ : ∃ q, q = w2.heap.size := ⟨_, rfl⟩
       rw [← hgm1] at m1 ⊢
       clear o6 z6 hBa hle a1a a2a l1 l2 hgm1)
    | fail)
  refine (HC.out.2.2.2.1 _).mono ?_
  rintro e w2 ⟨rfl, hB2⟩
  replace a1 := below_holds hB2 a1
  replace a2 := below_holds hB2 a2
  replace hB := hB.trans (hB2.mono hB.size)
  replace hT1 := hT1.below hB2
  replace m1 := below_holds hB2 m1
  clear hB2
  have hBa := hB.alloc hB.size (.cells #[.int .u64 0, .string ⟨#[]⟩, .string ⟨#[]⟩, .int .i64 0] 33)
  have hle := hB.size
  have a1a := a1.alloc (.cells #[.int .u64 0, .string ⟨#[]⟩, .string ⟨#[]⟩, .int .i64 0] 33)
  have a2a := a2.alloc (.cells #[.int .u64 0, .string ⟨#[]⟩, .string ⟨#[]⟩, .int .i64 0] 33)
  have l1 := a1.lt
  have l2 := a2.lt
  have m1a := m1.alloc (.cells #[.int .u64 0, .string ⟨#[]⟩, .string ⟨#[]⟩, .int .i64 0] 33)
  have l3 := m1.lt
  clear m1
  clear hB a1 a2
  go_wp2_with (first
    | (refine wpList_storeH rfl 33 _ _ rfl w2.heap.size D rfl rfl 33 _ (HNW.out w2) HI.out.2.2.1 HI.out.2.2.2.1 HI.out.2.2.2.2.1 ?_
       intro w6 m2 o6 z6
       have hB := Only.fresh hBa o6 hle
       have a1 := o6.holds a1a (Nat.ne_of_lt l1)
       have a2 := o6.holds a2a (Nat.ne_of_lt l2)
       have m1 := o6.holds m1a (Nat.ne_of_lt l3)
       clear m1a l3
       have hT1 : K.Tabs w6 := hT1.below (Only.fresh ((Below.refl _ w2).alloc (Nat.le_refl _) _) o6 (Nat.le_refl _))
       obtain ⟨gm2, hgm2⟩ : ∃ q, q = w2.heap.size := ⟨_, rfl⟩
       rw [← hgm2] at m2 ⊢
       clear o6 z6 hBa hle a1a a2a l1 l2 hgm2)
    | (refine wpList_loadH rfl 33 _ rfl g rfl 33 _ _ a1 Tryd.underlying33 rfl HI.out.1 ?_)
    | (refine wpList_loadH rfl 34 _ rfl (g + 1) rfl 34 _ _ a2 Tryd.underlying34 rfl HI.out.2.1 ?_)
    | fail)
  refine (HC.out.2.2.2.2.1 _ hT1).mono ?_
  rintro e w2 ⟨rfl, hB2⟩
  replace a1 := below_holds hB2 a1
  replace a2 := below_holds hB2 a2
  replace hB := hB.trans (hB2.mono hB.size)
  replace hT1 := hT1.below hB2
  replace m1 := below_holds hB2 m1
  replace m2 := below_holds hB2 m2
  clear hB2
  go_wp2_with (first
    | (refine wpList_loadH rfl 33 _ rfl g rfl 33 _ _ a1 Tryd.underlying33 rfl HI.out.1 ?_)
    | (refine wpList_loadH rfl 34 _ rfl (g + 1) rfl 34 _ _ a2 Tryd.underlying34 rfl HI.out.2.1 ?_)
    | fail)
  refine (HC.out.2.2.2.2.2.1 _).mono ?_
  rintro e w2 ⟨rfl, hB2⟩
  replace a1 := below_holds hB2 a1
  replace a2 := below_holds hB2 a2
  replace hB := hB.trans (hB2.mono hB.size)
  replace hT1 := hT1.below hB2
  replace m1 := below_holds hB2 m1
  replace m2 := below_holds hB2 m2
  clear hB2
  go_wp2_with fail
  refine wp_region_all (fun w' => Below w2.heap.size w2 w') mixedP (by kernel_rfl) (below_drew1 _) ?_
  refine cq_val rfl (.bool true) (fun w5 h5 => by go_simp) ?_
  simp only [Act.put, List.setIfInBounds_toArray, List.set_cons_succ, List.set_cons_zero]
  refine cq_val rfl (.bool true) (fun w5 h5 => by go_simp) ?_
  simp only [Act.put, List.setIfInBounds_toArray, List.set_cons_succ, List.set_cons_zero]
  refine cq_load 33 _ rfl g rfl rfl 33 _ _ (fun w5 h5 => below_holds h5 a1) Tryd.underlying33 rfl HI.out.1 ?_
  simp only [Act.put, List.setIfInBounds_toArray, List.set_cons_succ, List.set_cons_zero]
  refine cq_call rfl 28 #[.agg A] (fun _ => by go_simp) (.int .i64 E) (fun w5 h5 => (HC.out.2.2.2.2.2.2.1 w5).mono fun e w6 ⟨he, h6⟩ => ⟨he, h5.trans (h6.mono h5.size)⟩) ?_
  simp only [Act.put, List.setIfInBounds_toArray, List.set_cons_succ, List.set_cons_zero]
  refine cq_load 33 _ rfl g rfl rfl 33 _ _ (fun w5 h5 => below_holds h5 a1) Tryd.underlying33 rfl HI.out.1 ?_
  simp only [Act.put, List.setIfInBounds_toArray, List.set_cons_succ, List.set_cons_zero]
  refine cq_call rfl 29 #[.agg A] (fun _ => by go_simp) (.int .i64 E) (fun w5 h5 => (HC.out.2.2.2.2.2.2.2 w5).mono fun e w6 ⟨he, h6⟩ => ⟨he, h5.trans (h6.mono h5.size)⟩) ?_
  simp only [Act.put, List.setIfInBounds_toArray, List.set_cons_succ, List.set_cons_zero]
  refine cq_val rfl (.bool true) (fun w5 h5 => by go_simp) ?_
  simp only [Act.put, List.setIfInBounds_toArray, List.set_cons_succ, List.set_cons_zero]
  refine cq_val rfl (.bool true) (fun w5 h5 => by go_simp) ?_
  simp only [Act.put, List.setIfInBounds_toArray, List.set_cons_succ, List.set_cons_zero]
  refine cq_val rfl (.bool true) (fun w5 h5 => by go_simp) ?_
  simp only [Act.put, List.setIfInBounds_toArray, List.set_cons_succ, List.set_cons_zero]
  refine cq_val rfl (.string S) (fun w5 h5 => by go_simp) ?_
  simp only [Act.put, List.setIfInBounds_toArray, List.set_cons_succ, List.set_cons_zero]
  refine cq_val rfl (.string S) (fun w5 h5 => by go_simp) ?_
  simp only [Act.put, List.setIfInBounds_toArray, List.set_cons_succ, List.set_cons_zero]
  refine cq_val rfl (.bool true) (fun w5 h5 => by go_simp) ?_
  simp only [Act.put, List.setIfInBounds_toArray, List.set_cons_succ, List.set_cons_zero]
  refine cq_val rfl (.bool true) (fun w5 h5 => by go_simp) ?_
  simp only [Act.put, List.setIfInBounds_toArray, List.set_cons_succ, List.set_cons_zero]
  refine cq_val rfl (.bool true) (fun w5 h5 => by go_simp) ?_
  simp only [Act.put, List.setIfInBounds_toArray, List.set_cons_succ, List.set_cons_zero]
  refine cq_val rfl (.int .i64 E) (fun w5 h5 => by go_simp) ?_
  simp only [Act.put, List.setIfInBounds_toArray, List.set_cons_succ, List.set_cons_zero]
  refine cq_val rfl (.int .i64 E) (fun w5 h5 => by go_simp) ?_
  simp only [Act.put, List.setIfInBounds_toArray, List.set_cons_succ, List.set_cons_zero]
  refine cq_val rfl (.bool true) (fun w5 h5 => by go_simp) ?_
  simp only [Act.put, List.setIfInBounds_toArray, List.set_cons_succ, List.set_cons_zero]
  refine cq_val rfl (.bool true) (fun w5 h5 => by go_simp) ?_
  simp only [Act.put, List.setIfInBounds_toArray, List.set_cons_succ, List.set_cons_zero]
  refine cq_val rfl (.bool true) (fun w5 h5 => by go_simp) ?_
  simp only [Act.put, List.setIfInBounds_toArray, List.set_cons_succ, List.set_cons_zero]
  refine cq_load 33 _ rfl gm1 rfl rfl 33 _ _ (fun w5 h5 => below_holds h5 m1) Tryd.underlying33 rfl HI.out.2.2.1 ?_
  simp only [Act.put, List.setIfInBounds_toArray, List.set_cons_succ, List.set_cons_zero]
  refine cq_load 33 _ rfl gm2 rfl rfl 33 _ _ (fun w5 h5 => below_holds h5 m2) Tryd.underlying33 rfl HI.out.2.2.1 ?_
  simp only [Act.put, List.setIfInBounds_toArray, List.set_cons_succ, List.set_cons_zero]
  refine cq_eqlS 33 _ _ _ rfl D D rfl rfl rfl true guardAcct (fun w5 _ => HI.out.2.2.2.2.2 w5) ?_
  simp only [Act.put, List.setIfInBounds_toArray, List.set_cons_succ, List.set_cons_zero]
  refine cq_val rfl (.bool true) (fun w5 h5 => by go_simp) ?_
  simp only [Act.put, List.setIfInBounds_toArray, List.set_cons_succ, List.set_cons_zero]
  refine cq_val rfl (.bool true) (fun w5 h5 => by go_simp) ?_
  simp only [Act.put, List.setIfInBounds_toArray, List.set_cons_succ, List.set_cons_zero]
  refine cq_val rfl (.int .i64 F) (fun w5 h5 => by go_simp) ?_
  simp only [Act.put, List.setIfInBounds_toArray, List.set_cons_succ, List.set_cons_zero]
  refine cq_val rfl (.int .i64 F) (fun w5 h5 => by go_simp) ?_
  simp only [Act.put, List.setIfInBounds_toArray, List.set_cons_succ, List.set_cons_zero]
  refine cq_val rfl (.bool true) (fun w5 h5 => by go_simp) ?_
  simp only [Act.put, List.setIfInBounds_toArray, List.set_cons_succ, List.set_cons_zero]
  refine cq_val rfl (.bool true) (fun w5 h5 => by go_simp) ?_
  simp only [Act.put, List.setIfInBounds_toArray, List.set_cons_succ, List.set_cons_zero]
  refine cq_val rfl (.bool true) (fun w5 h5 => by go_simp) ?_
  simp only [Act.put, List.setIfInBounds_toArray, List.set_cons_succ, List.set_cons_zero]
  refine cq_val rfl (.string L) (fun w5 h5 => by go_simp) ?_
  simp only [Act.put, List.setIfInBounds_toArray, List.set_cons_succ, List.set_cons_zero]
  refine cq_val rfl (.string L) (fun w5 h5 => by go_simp) ?_
  simp only [Act.put, List.setIfInBounds_toArray, List.set_cons_succ, List.set_cons_zero]
  refine cq_val rfl (.bool true) (fun w5 h5 => by go_simp) ?_
  simp only [Act.put, List.setIfInBounds_toArray, List.set_cons_succ, List.set_cons_zero]
  refine cq_val rfl (.bool true) (fun w5 h5 => by go_simp) ?_
  simp only [Act.put, List.setIfInBounds_toArray, List.set_cons_succ, List.set_cons_zero]
  refine cq_val rfl (.bool true) (fun w5 h5 => by go_simp) ?_
  simp only [Act.put, List.setIfInBounds_toArray, List.set_cons_succ, List.set_cons_zero]
  refine cq_val rfl (.int .i64 E) (fun w5 h5 => by go_simp) ?_
  simp only [Act.put, List.setIfInBounds_toArray, List.set_cons_succ, List.set_cons_zero]
  refine cq_val rfl (.int .i64 E) (fun w5 h5 => by go_simp) ?_
  simp only [Act.put, List.setIfInBounds_toArray, List.set_cons_succ, List.set_cons_zero]
  refine cq_val rfl (.bool true) (fun w5 h5 => by go_simp) ?_
  simp only [Act.put, List.setIfInBounds_toArray, List.set_cons_succ, List.set_cons_zero]
  refine cq_val rfl (.bool true) (fun w5 h5 => by go_simp) ?_
  simp only [Act.put, List.setIfInBounds_toArray, List.set_cons_succ, List.set_cons_zero]
  refine cq_val rfl (.bool true) (fun w5 h5 => by go_simp) ?_
  simp only [Act.put, List.setIfInBounds_toArray, List.set_cons_succ, List.set_cons_zero]
  refine wpQuiet_nil ?_
  intro w7 h7
  have hB7 : Below w.heap.size w w7 := hB.trans (h7.mono hB.size)
  go_wp2_with fail
  go_ret
  exact ⟨rfl, hB7⟩

set_option maxRecDepth 16000 in
set_option maxHeartbeats 8000000 in
theorem accounts_nb (n : Nat) (b c : ByteArray) (z : Int) (s : ByteArray) (R : Nat → UInt8) (w : World) (hT : K.Tabs w) (hn : n < 18446744073709551616) (hs : ¬ 500 < s.size) (X : ByteArray) (hX : s = X) (hXs : X.size ≤ 500) (hb : 2000 < b.size) : AccountsGoal n b c z s R w := by
  unfold AccountsGoal
  have hsi : ¬ (500 : Int) < s.size := by omega
  have hbi : (2000 : Int) < b.size := by omega
  obtain ⟨A, hA⟩ : ∃ A, acct n b c z = A := ⟨_, rfl⟩
  obtain ⟨ra, hra⟩ : ∃ ra, K.bytesA 32 R = ra := ⟨_, rfl⟩
  have hAs : A.size = 4 := by rw [← hA]; rfl
  have hrs : ra.size = 32 := by rw [← hra]; exact K.bytesA_size 32 R
  obtain ⟨S, hS⟩ : ∃ S, recT n b c z = S := ⟨_, rfl⟩
  obtain ⟨L, hL⟩ : ∃ L, leafT n b c z R = L := ⟨_, rfl⟩
  obtain ⟨E, hE⟩ : ∃ E, chkE b.data.toList c.data.toList z = E := ⟨_, rfl⟩
  obtain ⟨n', b', c', z', F, hF⟩ := readV_form (readA X.data.toList)
  obtain ⟨D, hD⟩ : ∃ D, acct n' b' c' z' = D := ⟨_, rfl⟩
  have hDs : D.size = 4 := by rw [← hD]; rfl
  have hD1 : D.all (·.oneCell') = true := by rw [← hD]; exact acct_one _ _ _ _
  have hDD : ∀ w, (Op.equalIn 10000 33 (.agg D) (.agg D)).run Tryd.prog w = .ok true w := fun w => by rw [← hD]; exact eql_self w n' b' c' z'
  rw [hD] at hF
  have h1 := fun w => record_any n b c z w hn
  have h2 := fun w => qrecord_any n b c z w hn
  have h3 := fun w => sread_any X w (by omega)
  have h4 := fun w => qread_any X w (by omega)
  have h5 := fun w hT => leaf_any n b c z R w hT hn
  have h6 := fun w => qleaf_any n b c z R w hn
  have h7 := fun w => check_any n b c z w
  have h8 := fun w => qcheck_any n b c z w
  rw [hA, hS, hE] at h1 h2
  rw [hF] at h3 h4
  rw [hA, hra, hL, hE] at h5 h6
  rw [hA, hE] at h7 h8
  have HC : Hid ((∀ w, Calls Tryd.prog 22 #[.agg A] w fun e w' => e = .returned (.tuple #[.string S, .int .i64 E]) ∧ Below w.heap.size w w') ∧ (∀ w, Calls Tryd.prog 23 #[.agg A] w fun e w' => e = .returned (.tuple #[.string S, .int .i64 E]) ∧ Below w.heap.size w w') ∧
      (∀ w, Calls Tryd.prog 24 #[.string X] w fun e w' => e = .returned (.tuple #[.agg D, .int .i64 F]) ∧ Below w.heap.size w w') ∧ (∀ w, Calls Tryd.prog 25 #[.string X] w fun e w' => e = .returned (.tuple #[.agg D, .int .i64 F]) ∧ Below w.heap.size w w') ∧
      (∀ w, K.Tabs w → Calls Tryd.prog 26 #[.agg A, .agg ra] w fun e w' => e = .returned (.tuple #[.string L, .int .i64 E]) ∧ Below w.heap.size w w') ∧ (∀ w, Calls Tryd.prog 27 #[.agg A, .agg ra] w fun e w' => e = .returned (.tuple #[.string L, .int .i64 E]) ∧ Below w.heap.size w w') ∧
      (∀ w, Calls Tryd.prog 28 #[.agg A] w fun e w' => e = .returned (.int .i64 E) ∧ Below w.heap.size w w') ∧ (∀ w, Calls Tryd.prog 29 #[.agg A] w fun e w' => e = .returned (.int .i64 E) ∧ Below w.heap.size w w')) := ⟨h1, h2, h3, h4, h5, h6, h7, h8⟩
  have HI : Hid ((Tryd.prog.info? 33).map (·.size) = some A.size ∧ (Tryd.prog.info? 34).map (·.size) = some ra.size ∧ (Tryd.prog.info? 33).map (·.size) = some D.size ∧ (acct 0 ⟨#[]⟩ ⟨#[]⟩ 0).size = D.size ∧ D.all (·.oneCell') = true ∧ ∀ w, (Op.equalIn 10000 33 (.agg D) (.agg D)).run Tryd.prog w = .ok true w) :=
    ⟨by rw [hAs]; exact infoAcct, by rw [hrs]; exact infoSum, by rw [hDs]; exact infoAcct, by rw [hDs]; rfl, hD1, hDD⟩
  have HX : Hid (s = X) := hX
  have HAB : Hid (acct n b c z = A) := hA
  rw [hA, hra]
  obtain ⟨g, hg⟩ : ∃ g, g = w.heap.size := ⟨_, rfl⟩
  have hH1 := (Holds.new w 33 A).alloc (.cells ra 34)
  have hH2 := Holds.new (w.alloc (.cells A 33)) 34 ra
  rw [World.size_alloc] at hH2
  rw [← hg] at hH1 hH2
  have HH : Hid (Holds _ g 33 _ ∧ Holds _ (g + 1) 34 _) := ⟨hH1, hH2⟩
  have HG : Hid (g = w.heap.size) := hg
  have hB0 : Below w.heap.size w ((w.alloc (.cells A 33)).alloc (.cells ra 34)) := ((Below.refl _ _).alloc (Nat.le_refl _) _).alloc (by rw [World.size_alloc]; omega) _
  have HNW : Hid (∀ w : World, Holds (w.alloc (.cells #[.int .u64 0, .string ⟨#[]⟩, .string ⟨#[]⟩, .int .i64 0] 33)) w.heap.size 33 (acct 0 ⟨#[]⟩ ⟨#[]⟩ 0)) := fun w => Holds.new w _ _
  clear hH1 hH2 hg h1 h2 h3 h4 h5 h6 h7 h8 hA hra hAs hrs hS hL hE hF hD hDs hD1 hDD hX
  go_enter Tryd.func5, Tryd.ntmps5
  go_wp2_with fail
  rw [← HG.out]
  refine (awake_any _).mono ?_
  rintro e w1 ⟨rfl, hB1⟩
  have a1 := below_holds hB1 HH.out.1
  have a2 := below_holds hB1 HH.out.2
  have hB := hB0.trans (hB1.mono hB0.size)
  have hT1 : K.Tabs w1 := hT.below hB
  have y1 : w1.cell? ⟨g, 1, none⟩ = some (.string b) := by rw [a1.cell, ← HAB.out]; rfl
  have y2 : w1.cell? ⟨g, 2, none⟩ = some (.string c) := by rw [a1.cell, ← HAB.out]; rfl
  clear hB0 hB1 HH hT
  go_wp2_with fail
  go_ret
  exact ⟨rfl, hB⟩

set_option maxRecDepth 16000 in
set_option maxHeartbeats 8000000 in
theorem accounts_nk (n : Nat) (b c : ByteArray) (z : Int) (s : ByteArray) (R : Nat → UInt8) (w : World) (hT : K.Tabs w) (hn : n < 18446744073709551616) (hs : ¬ 500 < s.size) (X : ByteArray) (hX : s = X) (hXs : X.size ≤ 500) (hb : ¬ 2000 < b.size) (hc : 2000 < c.size) : AccountsGoal n b c z s R w := by
  unfold AccountsGoal
  have hsi : ¬ (500 : Int) < s.size := by omega
  have hbi : ¬ (2000 : Int) < b.size := by omega
  have hci : (2000 : Int) < c.size := by omega
  obtain ⟨A, hA⟩ : ∃ A, acct n b c z = A := ⟨_, rfl⟩
  obtain ⟨ra, hra⟩ : ∃ ra, K.bytesA 32 R = ra := ⟨_, rfl⟩
  have hAs : A.size = 4 := by rw [← hA]; rfl
  have hrs : ra.size = 32 := by rw [← hra]; exact K.bytesA_size 32 R
  obtain ⟨S, hS⟩ : ∃ S, recT n b c z = S := ⟨_, rfl⟩
  obtain ⟨L, hL⟩ : ∃ L, leafT n b c z R = L := ⟨_, rfl⟩
  obtain ⟨E, hE⟩ : ∃ E, chkE b.data.toList c.data.toList z = E := ⟨_, rfl⟩
  obtain ⟨n', b', c', z', F, hF⟩ := readV_form (readA X.data.toList)
  obtain ⟨D, hD⟩ : ∃ D, acct n' b' c' z' = D := ⟨_, rfl⟩
  have hDs : D.size = 4 := by rw [← hD]; rfl
  have hD1 : D.all (·.oneCell') = true := by rw [← hD]; exact acct_one _ _ _ _
  have hDD : ∀ w, (Op.equalIn 10000 33 (.agg D) (.agg D)).run Tryd.prog w = .ok true w := fun w => by rw [← hD]; exact eql_self w n' b' c' z'
  rw [hD] at hF
  have h1 := fun w => record_any n b c z w hn
  have h2 := fun w => qrecord_any n b c z w hn
  have h3 := fun w => sread_any X w (by omega)
  have h4 := fun w => qread_any X w (by omega)
  have h5 := fun w hT => leaf_any n b c z R w hT hn
  have h6 := fun w => qleaf_any n b c z R w hn
  have h7 := fun w => check_any n b c z w
  have h8 := fun w => qcheck_any n b c z w
  rw [hA, hS, hE] at h1 h2
  rw [hF] at h3 h4
  rw [hA, hra, hL, hE] at h5 h6
  rw [hA, hE] at h7 h8
  have HC : Hid ((∀ w, Calls Tryd.prog 22 #[.agg A] w fun e w' => e = .returned (.tuple #[.string S, .int .i64 E]) ∧ Below w.heap.size w w') ∧ (∀ w, Calls Tryd.prog 23 #[.agg A] w fun e w' => e = .returned (.tuple #[.string S, .int .i64 E]) ∧ Below w.heap.size w w') ∧
      (∀ w, Calls Tryd.prog 24 #[.string X] w fun e w' => e = .returned (.tuple #[.agg D, .int .i64 F]) ∧ Below w.heap.size w w') ∧ (∀ w, Calls Tryd.prog 25 #[.string X] w fun e w' => e = .returned (.tuple #[.agg D, .int .i64 F]) ∧ Below w.heap.size w w') ∧
      (∀ w, K.Tabs w → Calls Tryd.prog 26 #[.agg A, .agg ra] w fun e w' => e = .returned (.tuple #[.string L, .int .i64 E]) ∧ Below w.heap.size w w') ∧ (∀ w, Calls Tryd.prog 27 #[.agg A, .agg ra] w fun e w' => e = .returned (.tuple #[.string L, .int .i64 E]) ∧ Below w.heap.size w w') ∧
      (∀ w, Calls Tryd.prog 28 #[.agg A] w fun e w' => e = .returned (.int .i64 E) ∧ Below w.heap.size w w') ∧ (∀ w, Calls Tryd.prog 29 #[.agg A] w fun e w' => e = .returned (.int .i64 E) ∧ Below w.heap.size w w')) := ⟨h1, h2, h3, h4, h5, h6, h7, h8⟩
  have HI : Hid ((Tryd.prog.info? 33).map (·.size) = some A.size ∧ (Tryd.prog.info? 34).map (·.size) = some ra.size ∧ (Tryd.prog.info? 33).map (·.size) = some D.size ∧ (acct 0 ⟨#[]⟩ ⟨#[]⟩ 0).size = D.size ∧ D.all (·.oneCell') = true ∧ ∀ w, (Op.equalIn 10000 33 (.agg D) (.agg D)).run Tryd.prog w = .ok true w) :=
    ⟨by rw [hAs]; exact infoAcct, by rw [hrs]; exact infoSum, by rw [hDs]; exact infoAcct, by rw [hDs]; rfl, hD1, hDD⟩
  have HX : Hid (s = X) := hX
  have HAB : Hid (acct n b c z = A) := hA
  rw [hA, hra]
  obtain ⟨g, hg⟩ : ∃ g, g = w.heap.size := ⟨_, rfl⟩
  have hH1 := (Holds.new w 33 A).alloc (.cells ra 34)
  have hH2 := Holds.new (w.alloc (.cells A 33)) 34 ra
  rw [World.size_alloc] at hH2
  rw [← hg] at hH1 hH2
  have HH : Hid (Holds _ g 33 _ ∧ Holds _ (g + 1) 34 _) := ⟨hH1, hH2⟩
  have HG : Hid (g = w.heap.size) := hg
  have hB0 : Below w.heap.size w ((w.alloc (.cells A 33)).alloc (.cells ra 34)) := ((Below.refl _ _).alloc (Nat.le_refl _) _).alloc (by rw [World.size_alloc]; omega) _
  have HNW : Hid (∀ w : World, Holds (w.alloc (.cells #[.int .u64 0, .string ⟨#[]⟩, .string ⟨#[]⟩, .int .i64 0] 33)) w.heap.size 33 (acct 0 ⟨#[]⟩ ⟨#[]⟩ 0)) := fun w => Holds.new w _ _
  clear hH1 hH2 hg h1 h2 h3 h4 h5 h6 h7 h8 hA hra hAs hrs hS hL hE hF hD hDs hD1 hDD hX
  go_enter Tryd.func5, Tryd.ntmps5
  go_wp2_with fail
  rw [← HG.out]
  refine (awake_any _).mono ?_
  rintro e w1 ⟨rfl, hB1⟩
  have a1 := below_holds hB1 HH.out.1
  have a2 := below_holds hB1 HH.out.2
  have hB := hB0.trans (hB1.mono hB0.size)
  have hT1 : K.Tabs w1 := hT.below hB
  have y1 : w1.cell? ⟨g, 1, none⟩ = some (.string b) := by rw [a1.cell, ← HAB.out]; rfl
  have y2 : w1.cell? ⟨g, 2, none⟩ = some (.string c) := by rw [a1.cell, ← HAB.out]; rfl
  clear hB0 hB1 HH hT
  go_wp2_with fail
  go_ret
  exact ⟨rfl, hB⟩

set_option maxRecDepth 16000 in
set_option maxHeartbeats 8000000 in
theorem accounts_nm (n : Nat) (b c : ByteArray) (z : Int) (s : ByteArray) (R : Nat → UInt8) (w : World) (hT : K.Tabs w) (hn : n < 18446744073709551616) (hs : ¬ 500 < s.size) (X : ByteArray) (hX : s = X) (hXs : X.size ≤ 500) (hb : ¬ 2000 < b.size) (hc : ¬ 2000 < c.size) : AccountsGoal n b c z s R w := by
  unfold AccountsGoal
  have hsi : ¬ (500 : Int) < s.size := by omega
  have hbi : ¬ (2000 : Int) < b.size := by omega
  have hci : ¬ (2000 : Int) < c.size := by omega
  obtain ⟨A, hA⟩ : ∃ A, acct n b c z = A := ⟨_, rfl⟩
  obtain ⟨ra, hra⟩ : ∃ ra, K.bytesA 32 R = ra := ⟨_, rfl⟩
  have hAs : A.size = 4 := by rw [← hA]; rfl
  have hrs : ra.size = 32 := by rw [← hra]; exact K.bytesA_size 32 R
  obtain ⟨S, hS⟩ : ∃ S, recT n b c z = S := ⟨_, rfl⟩
  obtain ⟨L, hL⟩ : ∃ L, leafT n b c z R = L := ⟨_, rfl⟩
  obtain ⟨E, hE⟩ : ∃ E, chkE b.data.toList c.data.toList z = E := ⟨_, rfl⟩
  obtain ⟨n', b', c', z', F, hF⟩ := readV_form (readA X.data.toList)
  obtain ⟨D, hD⟩ : ∃ D, acct n' b' c' z' = D := ⟨_, rfl⟩
  have hDs : D.size = 4 := by rw [← hD]; rfl
  have hD1 : D.all (·.oneCell') = true := by rw [← hD]; exact acct_one _ _ _ _
  have hDD : ∀ w, (Op.equalIn 10000 33 (.agg D) (.agg D)).run Tryd.prog w = .ok true w := fun w => by rw [← hD]; exact eql_self w n' b' c' z'
  rw [hD] at hF
  have h1 := fun w => record_any n b c z w hn
  have h2 := fun w => qrecord_any n b c z w hn
  have h3 := fun w => sread_any X w (by omega)
  have h4 := fun w => qread_any X w (by omega)
  have h5 := fun w hT => leaf_any n b c z R w hT hn
  have h6 := fun w => qleaf_any n b c z R w hn
  have h7 := fun w => check_any n b c z w
  have h8 := fun w => qcheck_any n b c z w
  rw [hA, hS, hE] at h1 h2
  rw [hF] at h3 h4
  rw [hA, hra, hL, hE] at h5 h6
  rw [hA, hE] at h7 h8
  have HC : Hid ((∀ w, Calls Tryd.prog 22 #[.agg A] w fun e w' => e = .returned (.tuple #[.string S, .int .i64 E]) ∧ Below w.heap.size w w') ∧ (∀ w, Calls Tryd.prog 23 #[.agg A] w fun e w' => e = .returned (.tuple #[.string S, .int .i64 E]) ∧ Below w.heap.size w w') ∧
      (∀ w, Calls Tryd.prog 24 #[.string X] w fun e w' => e = .returned (.tuple #[.agg D, .int .i64 F]) ∧ Below w.heap.size w w') ∧ (∀ w, Calls Tryd.prog 25 #[.string X] w fun e w' => e = .returned (.tuple #[.agg D, .int .i64 F]) ∧ Below w.heap.size w w') ∧
      (∀ w, K.Tabs w → Calls Tryd.prog 26 #[.agg A, .agg ra] w fun e w' => e = .returned (.tuple #[.string L, .int .i64 E]) ∧ Below w.heap.size w w') ∧ (∀ w, Calls Tryd.prog 27 #[.agg A, .agg ra] w fun e w' => e = .returned (.tuple #[.string L, .int .i64 E]) ∧ Below w.heap.size w w') ∧
      (∀ w, Calls Tryd.prog 28 #[.agg A] w fun e w' => e = .returned (.int .i64 E) ∧ Below w.heap.size w w') ∧ (∀ w, Calls Tryd.prog 29 #[.agg A] w fun e w' => e = .returned (.int .i64 E) ∧ Below w.heap.size w w')) := ⟨h1, h2, h3, h4, h5, h6, h7, h8⟩
  have HI : Hid ((Tryd.prog.info? 33).map (·.size) = some A.size ∧ (Tryd.prog.info? 34).map (·.size) = some ra.size ∧ (Tryd.prog.info? 33).map (·.size) = some D.size ∧ (acct 0 ⟨#[]⟩ ⟨#[]⟩ 0).size = D.size ∧ D.all (·.oneCell') = true ∧ ∀ w, (Op.equalIn 10000 33 (.agg D) (.agg D)).run Tryd.prog w = .ok true w) :=
    ⟨by rw [hAs]; exact infoAcct, by rw [hrs]; exact infoSum, by rw [hDs]; exact infoAcct, by rw [hDs]; rfl, hD1, hDD⟩
  have HX : Hid (s = X) := hX
  have HAB : Hid (acct n b c z = A) := hA
  rw [hA, hra]
  obtain ⟨g, hg⟩ : ∃ g, g = w.heap.size := ⟨_, rfl⟩
  have hH1 := (Holds.new w 33 A).alloc (.cells ra 34)
  have hH2 := Holds.new (w.alloc (.cells A 33)) 34 ra
  rw [World.size_alloc] at hH2
  rw [← hg] at hH1 hH2
  have HH : Hid (Holds _ g 33 _ ∧ Holds _ (g + 1) 34 _) := ⟨hH1, hH2⟩
  have HG : Hid (g = w.heap.size) := hg
  have hB0 : Below w.heap.size w ((w.alloc (.cells A 33)).alloc (.cells ra 34)) := ((Below.refl _ _).alloc (Nat.le_refl _) _).alloc (by rw [World.size_alloc]; omega) _
  have HNW : Hid (∀ w : World, Holds (w.alloc (.cells #[.int .u64 0, .string ⟨#[]⟩, .string ⟨#[]⟩, .int .i64 0] 33)) w.heap.size 33 (acct 0 ⟨#[]⟩ ⟨#[]⟩ 0)) := fun w => Holds.new w _ _
  clear hH1 hH2 hg h1 h2 h3 h4 h5 h6 h7 h8 hA hra hAs hrs hS hL hE hF hD hDs hD1 hDD hX
  go_enter Tryd.func5, Tryd.ntmps5
  go_wp2_with fail
  rw [← HG.out]
  refine (awake_any _).mono ?_
  rintro e w1 ⟨rfl, hB1⟩
  have a1 := below_holds hB1 HH.out.1
  have a2 := below_holds hB1 HH.out.2
  have hB := hB0.trans (hB1.mono hB0.size)
  have hT1 : K.Tabs w1 := hT.below hB
  have y1 : w1.cell? ⟨g, 1, none⟩ = some (.string b) := by rw [a1.cell, ← HAB.out]; rfl
  have y2 : w1.cell? ⟨g, 2, none⟩ = some (.string c) := by rw [a1.cell, ← HAB.out]; rfl
  clear hB0 hB1 HH hT
  go_wp2_with (first
    | (refine wpList_loadH rfl 33 _ rfl g rfl 33 _ _ a1 Tryd.underlying33 rfl HI.out.1 ?_)
    | (refine wpList_loadH rfl 34 _ rfl (g + 1) rfl 34 _ _ a2 Tryd.underlying34 rfl HI.out.2.1 ?_)
    | fail)
  refine (HC.out.1 _).mono ?_
  rintro e w2 ⟨rfl, hB2⟩
  replace a1 := below_holds hB2 a1
  replace a2 := below_holds hB2 a2
  replace hB := hB.trans (hB2.mono hB.size)
  replace hT1 := hT1.below hB2
  clear y1 y2
  clear hB2
  go_wp2_with (first
    | (refine wpList_loadH rfl 33 _ rfl g rfl 33 _ _ a1 Tryd.underlying33 rfl HI.out.1 ?_)
    | (refine wpList_loadH rfl 34 _ rfl (g + 1) rfl 34 _ _ a2 Tryd.underlying34 rfl HI.out.2.1 ?_)
    | fail)
  refine (HC.out.2.1 _).mono ?_
  rintro e w2 ⟨rfl, hB2⟩
  replace a1 := below_holds hB2 a1
  replace a2 := below_holds hB2 a2
  replace hB := hB.trans (hB2.mono hB.size)
  replace hT1 := hT1.below hB2
  clear hB2
  go_wp2_with fail
  rw [HX.out]
  refine (HC.out.2.2.1 _).mono ?_
  rintro e w2 ⟨rfl, hB2⟩
  replace a1 := below_holds hB2 a1
  replace a2 := below_holds hB2 a2
  replace hB := hB.trans (hB2.mono hB.size)
  replace hT1 := hT1.below hB2
  clear hB2
  have hBa := hB.alloc hB.size (.cells #[.int .u64 0, .string ⟨#[]⟩, .string ⟨#[]⟩, .int .i64 0] 33)
  have hle := hB.size
  have a1a := a1.alloc (.cells #[.int .u64 0, .string ⟨#[]⟩, .string ⟨#[]⟩, .int .i64 0] 33)
  have a2a := a2.alloc (.cells #[.int .u64 0, .string ⟨#[]⟩, .string ⟨#[]⟩, .int .i64 0] 33)
  have l1 := a1.lt
  have l2 := a2.lt
  clear hB a1 a2
  go_wp2_with (first
    | (refine wpList_storeH rfl 33 _ _ rfl w2.heap.size D rfl rfl 33 _ (HNW.out w2) HI.out.2.2.1 HI.out.2.2.2.1 HI.out.2.2.2.2.1 ?_
       intro w6 m1 o6 z6
       have hB := Only.fresh hBa o6 hle
       have a1 := o6.holds a1a (Nat.ne_of_lt l1)
       have a2 := o6.holds a2a (Nat.ne_of_lt l2)
       have hT1 : K.Tabs w6 := hT1.below (Only.fresh ((Below.refl _ w2).alloc (Nat.le_refl _) _) o6 (Nat.le_refl _))
       obtain ⟨gm1, hgm1⟩ : ∃ q, q = w2.heap.size := ⟨_, rfl⟩
       rw [← hgm1] at m1 ⊢
       clear o6 z6 hBa hle a1a a2a l1 l2 hgm1)
    | fail)
  refine (HC.out.2.2.2.1 _).mono ?_
  rintro e w2 ⟨rfl, hB2⟩
  replace a1 := below_holds hB2 a1
  replace a2 := below_holds hB2 a2
  replace hB := hB.trans (hB2.mono hB.size)
  replace hT1 := hT1.below hB2
  replace m1 := below_holds hB2 m1
  clear hB2
  have hBa := hB.alloc hB.size (.cells #[.int .u64 0, .string ⟨#[]⟩, .string ⟨#[]⟩, .int .i64 0] 33)
  have hle := hB.size
  have a1a := a1.alloc (.cells #[.int .u64 0, .string ⟨#[]⟩, .string ⟨#[]⟩, .int .i64 0] 33)
  have a2a := a2.alloc (.cells #[.int .u64 0, .string ⟨#[]⟩, .string ⟨#[]⟩, .int .i64 0] 33)
  have l1 := a1.lt
  have l2 := a2.lt
  have m1a := m1.alloc (.cells #[.int .u64 0, .string ⟨#[]⟩, .string ⟨#[]⟩, .int .i64 0] 33)
  have l3 := m1.lt
  clear m1
  clear hB a1 a2
  go_wp2_with (first
    | (refine wpList_storeH rfl 33 _ _ rfl w2.heap.size D rfl rfl 33 _ (HNW.out w2) HI.out.2.2.1 HI.out.2.2.2.1 HI.out.2.2.2.2.1 ?_
       intro w6 m2 o6 z6
       have hB := Only.fresh hBa o6 hle
       have a1 := o6.holds a1a (Nat.ne_of_lt l1)
       have a2 := o6.holds a2a (Nat.ne_of_lt l2)
       have m1 := o6.holds m1a (Nat.ne_of_lt l3)
       clear m1a l3
       have hT1 : K.Tabs w6 := hT1.below (Only.fresh ((Below.refl _ w2).alloc (Nat.le_refl _) _) o6 (Nat.le_refl _))
       obtain ⟨gm2, hgm2⟩ : ∃ q, q = w2.heap.size := ⟨_, rfl⟩
       rw [← hgm2] at m2 ⊢
       clear o6 z6 hBa hle a1a a2a l1 l2 hgm2)
    | (refine wpList_loadH rfl 33 _ rfl g rfl 33 _ _ a1 Tryd.underlying33 rfl HI.out.1 ?_)
    | (refine wpList_loadH rfl 34 _ rfl (g + 1) rfl 34 _ _ a2 Tryd.underlying34 rfl HI.out.2.1 ?_)
    | fail)
  refine (HC.out.2.2.2.2.1 _ hT1).mono ?_
  rintro e w2 ⟨rfl, hB2⟩
  replace a1 := below_holds hB2 a1
  replace a2 := below_holds hB2 a2
  replace hB := hB.trans (hB2.mono hB.size)
  replace hT1 := hT1.below hB2
  replace m1 := below_holds hB2 m1
  replace m2 := below_holds hB2 m2
  clear hB2
  go_wp2_with (first
    | (refine wpList_loadH rfl 33 _ rfl g rfl 33 _ _ a1 Tryd.underlying33 rfl HI.out.1 ?_)
    | (refine wpList_loadH rfl 34 _ rfl (g + 1) rfl 34 _ _ a2 Tryd.underlying34 rfl HI.out.2.1 ?_)
    | fail)
  refine (HC.out.2.2.2.2.2.1 _).mono ?_
  rintro e w2 ⟨rfl, hB2⟩
  replace a1 := below_holds hB2 a1
  replace a2 := below_holds hB2 a2
  replace hB := hB.trans (hB2.mono hB.size)
  replace hT1 := hT1.below hB2
  replace m1 := below_holds hB2 m1
  replace m2 := below_holds hB2 m2
  clear hB2
  go_wp2_with fail
  refine wp_region_all (fun w' => Below w2.heap.size w2 w') mixedP (by kernel_rfl) (below_drew1 _) ?_
  refine cq_val rfl (.bool true) (fun w5 h5 => by go_simp) ?_
  simp only [Act.put, List.setIfInBounds_toArray, List.set_cons_succ, List.set_cons_zero]
  refine cq_val rfl (.bool true) (fun w5 h5 => by go_simp) ?_
  simp only [Act.put, List.setIfInBounds_toArray, List.set_cons_succ, List.set_cons_zero]
  refine cq_load 33 _ rfl g rfl rfl 33 _ _ (fun w5 h5 => below_holds h5 a1) Tryd.underlying33 rfl HI.out.1 ?_
  simp only [Act.put, List.setIfInBounds_toArray, List.set_cons_succ, List.set_cons_zero]
  refine cq_call rfl 28 #[.agg A] (fun _ => by go_simp) (.int .i64 E) (fun w5 h5 => (HC.out.2.2.2.2.2.2.1 w5).mono fun e w6 ⟨he, h6⟩ => ⟨he, h5.trans (h6.mono h5.size)⟩) ?_
  simp only [Act.put, List.setIfInBounds_toArray, List.set_cons_succ, List.set_cons_zero]
  refine cq_load 33 _ rfl g rfl rfl 33 _ _ (fun w5 h5 => below_holds h5 a1) Tryd.underlying33 rfl HI.out.1 ?_
  simp only [Act.put, List.setIfInBounds_toArray, List.set_cons_succ, List.set_cons_zero]
  refine cq_call rfl 29 #[.agg A] (fun _ => by go_simp) (.int .i64 E) (fun w5 h5 => (HC.out.2.2.2.2.2.2.2 w5).mono fun e w6 ⟨he, h6⟩ => ⟨he, h5.trans (h6.mono h5.size)⟩) ?_
  simp only [Act.put, List.setIfInBounds_toArray, List.set_cons_succ, List.set_cons_zero]
  refine cq_val rfl (.bool true) (fun w5 h5 => by go_simp) ?_
  simp only [Act.put, List.setIfInBounds_toArray, List.set_cons_succ, List.set_cons_zero]
  refine cq_val rfl (.bool true) (fun w5 h5 => by go_simp) ?_
  simp only [Act.put, List.setIfInBounds_toArray, List.set_cons_succ, List.set_cons_zero]
  refine cq_val rfl (.bool true) (fun w5 h5 => by go_simp) ?_
  simp only [Act.put, List.setIfInBounds_toArray, List.set_cons_succ, List.set_cons_zero]
  refine cq_val rfl (.string S) (fun w5 h5 => by go_simp) ?_
  simp only [Act.put, List.setIfInBounds_toArray, List.set_cons_succ, List.set_cons_zero]
  refine cq_val rfl (.string S) (fun w5 h5 => by go_simp) ?_
  simp only [Act.put, List.setIfInBounds_toArray, List.set_cons_succ, List.set_cons_zero]
  refine cq_val rfl (.bool true) (fun w5 h5 => by go_simp) ?_
  simp only [Act.put, List.setIfInBounds_toArray, List.set_cons_succ, List.set_cons_zero]
  refine cq_val rfl (.bool true) (fun w5 h5 => by go_simp) ?_
  simp only [Act.put, List.setIfInBounds_toArray, List.set_cons_succ, List.set_cons_zero]
  refine cq_val rfl (.bool true) (fun w5 h5 => by go_simp) ?_
  simp only [Act.put, List.setIfInBounds_toArray, List.set_cons_succ, List.set_cons_zero]
  refine cq_val rfl (.int .i64 E) (fun w5 h5 => by go_simp) ?_
  simp only [Act.put, List.setIfInBounds_toArray, List.set_cons_succ, List.set_cons_zero]
  refine cq_val rfl (.int .i64 E) (fun w5 h5 => by go_simp) ?_
  simp only [Act.put, List.setIfInBounds_toArray, List.set_cons_succ, List.set_cons_zero]
  refine cq_val rfl (.bool true) (fun w5 h5 => by go_simp) ?_
  simp only [Act.put, List.setIfInBounds_toArray, List.set_cons_succ, List.set_cons_zero]
  refine cq_val rfl (.bool true) (fun w5 h5 => by go_simp) ?_
  simp only [Act.put, List.setIfInBounds_toArray, List.set_cons_succ, List.set_cons_zero]
  refine cq_val rfl (.bool true) (fun w5 h5 => by go_simp) ?_
  simp only [Act.put, List.setIfInBounds_toArray, List.set_cons_succ, List.set_cons_zero]
  refine cq_load 33 _ rfl gm1 rfl rfl 33 _ _ (fun w5 h5 => below_holds h5 m1) Tryd.underlying33 rfl HI.out.2.2.1 ?_
  simp only [Act.put, List.setIfInBounds_toArray, List.set_cons_succ, List.set_cons_zero]
  refine cq_load 33 _ rfl gm2 rfl rfl 33 _ _ (fun w5 h5 => below_holds h5 m2) Tryd.underlying33 rfl HI.out.2.2.1 ?_
  simp only [Act.put, List.setIfInBounds_toArray, List.set_cons_succ, List.set_cons_zero]
  refine cq_eqlS 33 _ _ _ rfl D D rfl rfl rfl true guardAcct (fun w5 _ => HI.out.2.2.2.2.2 w5) ?_
  simp only [Act.put, List.setIfInBounds_toArray, List.set_cons_succ, List.set_cons_zero]
  refine cq_val rfl (.bool true) (fun w5 h5 => by go_simp) ?_
  simp only [Act.put, List.setIfInBounds_toArray, List.set_cons_succ, List.set_cons_zero]
  refine cq_val rfl (.bool true) (fun w5 h5 => by go_simp) ?_
  simp only [Act.put, List.setIfInBounds_toArray, List.set_cons_succ, List.set_cons_zero]
  refine cq_val rfl (.int .i64 F) (fun w5 h5 => by go_simp) ?_
  simp only [Act.put, List.setIfInBounds_toArray, List.set_cons_succ, List.set_cons_zero]
  refine cq_val rfl (.int .i64 F) (fun w5 h5 => by go_simp) ?_
  simp only [Act.put, List.setIfInBounds_toArray, List.set_cons_succ, List.set_cons_zero]
  refine cq_val rfl (.bool true) (fun w5 h5 => by go_simp) ?_
  simp only [Act.put, List.setIfInBounds_toArray, List.set_cons_succ, List.set_cons_zero]
  refine cq_val rfl (.bool true) (fun w5 h5 => by go_simp) ?_
  simp only [Act.put, List.setIfInBounds_toArray, List.set_cons_succ, List.set_cons_zero]
  refine cq_val rfl (.bool true) (fun w5 h5 => by go_simp) ?_
  simp only [Act.put, List.setIfInBounds_toArray, List.set_cons_succ, List.set_cons_zero]
  refine cq_val rfl (.string L) (fun w5 h5 => by go_simp) ?_
  simp only [Act.put, List.setIfInBounds_toArray, List.set_cons_succ, List.set_cons_zero]
  refine cq_val rfl (.string L) (fun w5 h5 => by go_simp) ?_
  simp only [Act.put, List.setIfInBounds_toArray, List.set_cons_succ, List.set_cons_zero]
  refine cq_val rfl (.bool true) (fun w5 h5 => by go_simp) ?_
  simp only [Act.put, List.setIfInBounds_toArray, List.set_cons_succ, List.set_cons_zero]
  refine cq_val rfl (.bool true) (fun w5 h5 => by go_simp) ?_
  simp only [Act.put, List.setIfInBounds_toArray, List.set_cons_succ, List.set_cons_zero]
  refine cq_val rfl (.bool true) (fun w5 h5 => by go_simp) ?_
  simp only [Act.put, List.setIfInBounds_toArray, List.set_cons_succ, List.set_cons_zero]
  refine cq_val rfl (.int .i64 E) (fun w5 h5 => by go_simp) ?_
  simp only [Act.put, List.setIfInBounds_toArray, List.set_cons_succ, List.set_cons_zero]
  refine cq_val rfl (.int .i64 E) (fun w5 h5 => by go_simp) ?_
  simp only [Act.put, List.setIfInBounds_toArray, List.set_cons_succ, List.set_cons_zero]
  refine cq_val rfl (.bool true) (fun w5 h5 => by go_simp) ?_
  simp only [Act.put, List.setIfInBounds_toArray, List.set_cons_succ, List.set_cons_zero]
  refine cq_val rfl (.bool true) (fun w5 h5 => by go_simp) ?_
  simp only [Act.put, List.setIfInBounds_toArray, List.set_cons_succ, List.set_cons_zero]
  refine cq_val rfl (.bool true) (fun w5 h5 => by go_simp) ?_
  simp only [Act.put, List.setIfInBounds_toArray, List.set_cons_succ, List.set_cons_zero]
  refine wpQuiet_nil ?_
  intro w7 h7
  have hB7 : Below w.heap.size w w7 := hB.trans (h7.mono hB.size)
  go_wp2_with fail
  go_ret
  exact ⟨rfl, hB7⟩

theorem saccounts_walk (n : Nat) (b c : ByteArray) (z : Int) (s : ByteArray) (R : Nat → UInt8) (w : World) (hT : K.Tabs w) (hn : n < 18446744073709551616) : AccountsGoal n b c z s R w := by
  by_cases hs : 500 < s.size
  · have hX : (s.extract 0 500).size ≤ 500 := by rw [cut_size s 500 hs]; omega
    by_cases hb : 2000 < b.size
    · exact accounts_cb n b c z s R w hT hn hs _ rfl hX hb
    · by_cases hc : 2000 < c.size
      · exact accounts_ck n b c z s R w hT hn hs _ rfl hX hb hc
      · exact accounts_cm n b c z s R w hT hn hs _ rfl hX hb hc
  · by_cases hb : 2000 < b.size
    · exact accounts_nb n b c z s R w hT hn hs _ rfl (by omega) hb
    · by_cases hc : 2000 < c.size
      · exact accounts_nk n b c z s R w hT hn hs _ rfl (by omega) hb hc
      · exact accounts_nm n b c z s R w hT hn hs _ rfl (by omega) hb hc
end Go.Proofs.YtamijfdhaahalaaDoor
