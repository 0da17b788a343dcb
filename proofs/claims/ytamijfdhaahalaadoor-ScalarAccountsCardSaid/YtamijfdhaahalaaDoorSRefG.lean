/-
  What the document's calls of Leaf do.
-/
import Derived.Test.YtamijfdhaahalaaDoorSLeavesPure
import Derived.Test.YtamijfdhaahalaaDoorSRefF
import Derived.Test.YtamijfdhaahalaaDoorKC
namespace Go.Proofs.YtamijfdhaahalaaDoor
open Go Go.RowKit

theorem text_root (R : Nat → UInt8) (w : World) : Calls Tryd.prog 48 #[.agg (K.bytesA 32 R)] w fun e w' => e = .returned (.string (rootS R)) ∧ Below w.heap.size w w' := K.refText_any R w
set_option maxRecDepth 4000 in
theorem qleaf_no (n : Nat) (b c : ByteArray) (z : Int) (R : Nat → UInt8) (w : World) (h : okA b.data.toList c.data.toList z = false) :
    Calls Tryd.prog 27 #[.agg (acct n b c z), .agg (K.bytesA 32 R)] w fun e w' => e = .returned (.tuple #[.string ⟨#[]⟩, .int .i64 1]) ∧ Below w.heap.size w w' := by
  have hE : chkE b.data.toList c.data.toList z = 1 := by unfold chkE; rw [h]; rfl
  have hc := fun w => qcheck_any n b c z w
  rw [hE] at hc
  unfold acct at *
  have HC : Hid (∀ w, Calls Tryd.prog 29 #[.agg #[.int .u64 n, .string b, .string c, .int .i64 z]] w fun e w' => e = .returned (.int .i64 1) ∧ Below w.heap.size w w') := hc
  have hsz := K.bytesA_size 32 R
  generalize K.bytesA 32 R = rs at hsz ⊢
  clear hc hE
  go_enter Tryd.func27, Tryd.ntmps27
  go_wp2_with fail
  refine (HC.out _).mono ?_
  rintro e w1 ⟨rfl, hB⟩
  go_wp2_with fail
  go_ret2
  refine ⟨rfl, ?_⟩
  exact (((Below.refl _ _).alloc (Nat.le_refl _) _).alloc (by rw [World.size_alloc]; omega) _).trans (hB.mono (by rw [World.size_alloc, World.size_alloc]; omega))

set_option maxRecDepth 4000 in
set_option maxHeartbeats 4000000 in
theorem qleaf_code (n k : Nat) (b c : ByteArray) (R : Nat → UInt8) (w : World) (hn : n < 18446744073709551616) (h : okA b.data.toList c.data.toList k = true) (h0 : ¬ c.size = 0) :
    Calls Tryd.prog 27 #[.agg (acct n b c k), .agg (K.bytesA 32 R)] w fun e w' => e = .returned (.tuple #[.string ⟨(leafL n b c R).toArray⟩, .int .i64 0]) ∧ Below w.heap.size w w' := by
  have hE : chkE b.data.toList c.data.toList k = 0 := by unfold chkE; rw [h]; rfl
  have hc := fun w => qcheck_any n b c k w
  rw [hE] at hc
  obtain ⟨o1, o2, o3, o4⟩ := (okA_iff b c k).1 h
  have hbs := right_size o1
  unfold acct at *
  have HC : Hid (∀ w, Calls Tryd.prog 29 #[.agg #[.int .u64 n, .string b, .string c, .int .i64 k]] w fun e w' => e = .returned (.int .i64 0) ∧ Below w.heap.size w w') := hc
  have hl1 := num_len n
  obtain ⟨x, hx⟩ : ∃ x : ByteArray, x = ⟨(num n).toArray⟩ := ⟨_, rfl⟩
  have hxs : x.size ≤ 32 := by rw [hx]; exact Nat.le_trans hl1 (by omega)
  obtain ⟨r, hr⟩ : ∃ r, r = rootS R := ⟨_, rfl⟩
  have hrz : r.size ≤ 32 := by rw [hr, rootS_size]; omega
  obtain ⟨y, hy⟩ : ∃ y, y = codeS c := ⟨_, rfl⟩
  have hyz : y.size ≤ 32 := by rw [hy, codeS_size o2]; omega
  have he : c.toList.isEmpty = false := notEmpty c h0
  obtain ⟨rs, hrs⟩ : ∃ rs, rs = K.bytesA 32 R := ⟨_, rfl⟩
  have hsz : rs.size = 32 := by rw [hrs]; exact K.bytesA_size 32 R
  have hX := bytesS_size hxs
  have hY := bytesS_size hyz
  have hBb := bytesS_size hbs
  have hRr := bytesS_size hrz
  obtain ⟨X, hXe⟩ : ∃ X, bytesS x = X := ⟨_, rfl⟩
  obtain ⟨Y, hYe⟩ : ∃ Y, bytesS y = Y := ⟨_, rfl⟩
  obtain ⟨B, hBe⟩ : ∃ B, bytesS b = B := ⟨_, rfl⟩
  obtain ⟨D, hDe⟩ : ∃ D, bytesS r = D := ⟨_, rfl⟩
  rw [hXe] at hX
  rw [hYe] at hY
  rw [hBe] at hBb
  rw [hDe] at hRr
  obtain ⟨P1, hP1⟩ : ∃ P, X ++ B = P := ⟨_, rfl⟩
  obtain ⟨P2, hP2⟩ : ∃ P, P1 ++ D = P := ⟨_, rfl⟩
  obtain ⟨P3, hP3⟩ : ∃ P, P2 ++ Y = P := ⟨_, rfl⟩
  have z1 : P1.size = X.size + B.size := by rw [← hP1]; exact app_size _ _
  have z2 : P2.size = P1.size + D.size := by rw [← hP2]; exact app_size _ _
  have z3 : P3.size = P2.size + Y.size := by rw [← hP3]; exact app_size _ _
  have s1 : P1.size ≤ 200 := by omega
  have s2 : P2.size ≤ 200 := by omega
  have s3 : P3.size ≤ 200 := by omega
  have hrow : P3.data.toList = rowS [x, b, r, y] := by rw [← hP3, ← hP2, ← hP1, ← hXe, ← hYe, ← hBe, ← hDe]; exact rowS_four x b r y
  obtain ⟨S, hS⟩ : ∃ S : ByteArray, ⟨(leafL n b c R).toArray⟩ = S := ⟨_, rfl⟩
  have HR : Hid (⟨(listL P3.data.toList).toArray⟩ = S) := by unfold Hid; rw [← hS, leafL_eq, hrow, hx, hr, hy]
  have HX : Hid (x = ⟨(num n).toArray⟩) := hx
  have HY : Hid (y = c) := by unfold Hid; rw [hy]; unfold codeS; rw [if_neg h0]
  have HS : Hid ((⟨(bytesL x.data.toList).toArray⟩ : ByteArray) = X ∧ (⟨(bytesL b.data.toList).toArray⟩ : ByteArray) = B ∧ (⟨(bytesL r.data.toList).toArray⟩ : ByteArray) = D ∧ (⟨(bytesL y.data.toList).toArray⟩ : ByteArray) = Y) := ⟨hXe, hBe, hDe, hYe⟩
  have HT : Hid (∀ w, Calls Tryd.prog 48 #[.agg rs] w fun e w' => e = .returned (.string r) ∧ Below w.heap.size w w') := fun w => by rw [hrs, hr]; exact text_root R w
  rw [hS, ← hrs]
  obtain ⟨a, ha⟩ : ∃ a, a = w.heap.size := ⟨_, rfl⟩
  have hV1 := ((Holds.new w 33 #[.int .u64 n, .string b, .string c, .int .i64 k]).alloc (.cells rs 34))
  have hV2 := (Holds.new (w.alloc (.cells #[.int .u64 n, .string b, .string c, .int .i64 k] 33)) 34 rs)
  rw [World.size_alloc] at hV2
  rw [← ha] at hV1 hV2
  have HV : Hid (Holds _ a 33 _ ∧ Holds _ (a + 1) 34 _) := ⟨hV1, hV2⟩
  have hB0 : Below w.heap.size w ((w.alloc (.cells #[.int .u64 n, .string b, .string c, .int .i64 k] 33)).alloc (.cells rs 34)) := ((Below.refl _ _).alloc (Nat.le_refl _) _).alloc (by rw [World.size_alloc]; omega) _
  have HG : Hid (a = w.heap.size) := ha
  have HIR : Hid ((Tryd.prog.info? 34).map (·.size) = some rs.size) := by unfold Hid; rw [hsz]; exact infoSum
  clear hc hE hx hl1 o1 o2 o3 o4 hrs hr hy hXe hYe hBe hDe z1 z2 z3 hrow hS hV1 hV2 ha
  go_enter Tryd.func27, Tryd.ntmps27
  go_wp2_with fail
  rw [← HG.out]
  refine (HC.out _).mono ?_
  rintro e w1 ⟨rfl, hB1⟩
  have h1 := below_holds hB1 HV.out.1
  have h2 := below_holds hB1 HV.out.2
  have hB := hB0.trans (hB1.mono hB0.size)
  clear hB0 hB1 HV
  have cc : w1.cell? ⟨a, 2, none⟩ = some (.string c) := h1.cell 2
  have hyc : y = c := HY.out
  subst hyc
  have hcl : ∀ w', Below w1.heap.size w1 w' → w'.cell? ⟨a, 0, none⟩ = some (.int .u64 n) ∧ w'.cell? ⟨a, 1, none⟩ = some (.string b) ∧ (loadVar 34 ⟨a + 1, 0, none⟩).run Tryd.prog w' = .ok (.agg rs) w' := fun w' h' =>
    ⟨(below_holds h' h1).cell 0, (below_holds h' h1).cell 1, run_loadVar_row w' (a + 1) 34 34 rs (0, 0) _ (below_holds h' h2) Tryd.underlying34 rfl HIR.out⟩
  have HCL : Hid (∀ w', Below w1.heap.size w1 w' → w'.cell? ⟨a, 0, none⟩ = some (.int .u64 n) ∧ w'.cell? ⟨a, 1, none⟩ = some (.string b) ∧ (loadVar 34 ⟨a + 1, 0, none⟩).run Tryd.prog w' = .ok (.agg rs) w') := hcl
  have HB1 : Hid (Below w.heap.size w w1) := hB
  clear hcl hB h1 h2
  go_wp2_with fail
  refine wp_region_all (fun w' => Below w1.heap.size w1 w') mixedP (by kernel_rfl) (below_drew1 _) ?_
  refine cq_val rfl (.pointer (some ⟨a, 0, none⟩)) (fun w5 h5 => by go_simp) ?_
  simp only [Act.put, List.setIfInBounds_toArray, List.set_cons_succ, List.set_cons_zero]
  refine cq_val rfl (.int .u64 n) (fun w5 h5 => by have hc := (HCL.out w5 h5).1; go_simp) ?_
  simp only [Act.put, List.setIfInBounds_toArray, List.set_cons_succ, List.set_cons_zero]
  refine cq_call rfl 42 #[.int .u64 n] (fun _ => by go_simp) (.string x) (fun w5 h5 => (refNumber_any n w5 hn).mono fun e w6 ⟨he, h6⟩ => ⟨by rw [he, HX.out], h5.trans (h6.mono h5.size)⟩) ?_
  simp only [Act.put, List.setIfInBounds_toArray, List.set_cons_succ, List.set_cons_zero]
  refine cq_call rfl 41 #[.string x] (fun _ => by go_simp) (.string X) (fun w5 h5 => (refBytes_any x w5 (by omega)).mono fun e w6 ⟨he, h6⟩ => ⟨by rw [he, HS.out.1], h5.trans (h6.mono h5.size)⟩) ?_
  simp only [Act.put, List.setIfInBounds_toArray, List.set_cons_succ, List.set_cons_zero]
  refine cq_val rfl (.pointer (some ⟨a, 1, none⟩)) (fun w5 h5 => by go_simp) ?_
  simp only [Act.put, List.setIfInBounds_toArray, List.set_cons_succ, List.set_cons_zero]
  refine cq_val rfl (.string b) (fun w5 h5 => by have hc := (HCL.out w5 h5).2.1; go_simp) ?_
  simp only [Act.put, List.setIfInBounds_toArray, List.set_cons_succ, List.set_cons_zero]
  refine cq_call rfl 41 #[.string b] (fun _ => by go_simp) (.string B) (fun w5 h5 => (refBytes_any b w5 (by omega)).mono fun e w6 ⟨he, h6⟩ => ⟨by rw [he, HS.out.2.1], h5.trans (h6.mono h5.size)⟩) ?_
  simp only [Act.put, List.setIfInBounds_toArray, List.set_cons_succ, List.set_cons_zero]
  refine cq_val rfl (.string P1) (fun w5 h5 => by go_simp; omega) ?_
  simp only [Act.put, List.setIfInBounds_toArray, List.set_cons_succ, List.set_cons_zero]
  refine cq_val rfl (.agg rs) (fun w5 h5 => by have hc := (HCL.out w5 h5).2.2; unfold execOp; simp only [Instr.loadAt, Instr.sureAddr, Sem.run_bind, Sem.run_pure]; first | (show ((loadVar _ _).run _ _).andThen _ = _; rw [hc]; rfl) | go_simp) ?_
  simp only [Act.put, List.setIfInBounds_toArray, List.set_cons_succ, List.set_cons_zero]
  refine cq_call rfl 48 #[.agg rs] (fun _ => by go_simp) (.string r) (fun w5 h5 => (HT.out w5).mono fun e w6 ⟨he, h6⟩ => ⟨he, h5.trans (h6.mono h5.size)⟩) ?_
  simp only [Act.put, List.setIfInBounds_toArray, List.set_cons_succ, List.set_cons_zero]
  refine cq_call rfl 41 #[.string r] (fun _ => by go_simp) (.string D) (fun w5 h5 => (refBytes_any r w5 (by omega)).mono fun e w6 ⟨he, h6⟩ => ⟨by rw [he, HS.out.2.2.1], h5.trans (h6.mono h5.size)⟩) ?_
  simp only [Act.put, List.setIfInBounds_toArray, List.set_cons_succ, List.set_cons_zero]
  refine cq_val rfl (.string P2) (fun w5 h5 => by go_simp; omega) ?_
  simp only [Act.put, List.setIfInBounds_toArray, List.set_cons_succ, List.set_cons_zero]
  refine cq_val rfl (.string y) (fun w5 h5 => by go_simp) ?_
  simp only [Act.put, List.setIfInBounds_toArray, List.set_cons_succ, List.set_cons_zero]
  refine cq_call rfl 41 #[.string y] (fun _ => by go_simp) (.string Y) (fun w5 h5 => (refBytes_any y w5 (by omega)).mono fun e w6 ⟨he, h6⟩ => ⟨by rw [he, HS.out.2.2.2], h5.trans (h6.mono h5.size)⟩) ?_
  simp only [Act.put, List.setIfInBounds_toArray, List.set_cons_succ, List.set_cons_zero]
  refine cq_val rfl (.string P3) (fun w5 h5 => by go_simp; omega) ?_
  simp only [Act.put, List.setIfInBounds_toArray, List.set_cons_succ, List.set_cons_zero]
  refine cq_call rfl 40 #[.string P3] (fun _ => by go_simp) (.string S) (fun w5 h5 => (refList_any P3 w5 (by omega)).mono fun e w6 ⟨he, h6⟩ => ⟨by rw [he, HR.out], h5.trans (h6.mono h5.size)⟩) ?_
  simp only [Act.put, List.setIfInBounds_toArray, List.set_cons_succ, List.set_cons_zero]
  refine cq_val rfl (.string S) (fun w5 h5 => by go_simp) ?_
  simp only [Act.put, List.setIfInBounds_toArray, List.set_cons_succ, List.set_cons_zero]
  refine cq_val rfl (.int .i64 0) (fun w5 h5 => by go_simp) ?_
  simp only [Act.put, List.setIfInBounds_toArray, List.set_cons_succ, List.set_cons_zero]
  refine wpQuiet_nil ?_
  intro w2 h2
  go_wp2_with fail
  go_ret2
  exact ⟨rfl, HB1.out.trans (h2.mono HB1.out.size)⟩

set_option maxRecDepth 4000 in
set_option maxHeartbeats 4000000 in
theorem qleaf_none (n k : Nat) (b c : ByteArray) (R : Nat → UInt8) (w : World) (hn : n < 18446744073709551616) (h : okA b.data.toList c.data.toList k = true) (h0 : c.size = 0) :
    Calls Tryd.prog 27 #[.agg (acct n b c k), .agg (K.bytesA 32 R)] w fun e w' => e = .returned (.tuple #[.string ⟨(leafL n b c R).toArray⟩, .int .i64 0]) ∧ Below w.heap.size w w' := by
  have hE : chkE b.data.toList c.data.toList k = 0 := by unfold chkE; rw [h]; rfl
  have hc := fun w => qcheck_any n b c k w
  rw [hE] at hc
  obtain ⟨o1, o2, o3, o4⟩ := (okA_iff b c k).1 h
  have hbs := right_size o1
  unfold acct at *
  have HC : Hid (∀ w, Calls Tryd.prog 29 #[.agg #[.int .u64 n, .string b, .string c, .int .i64 k]] w fun e w' => e = .returned (.int .i64 0) ∧ Below w.heap.size w w') := hc
  have hl1 := num_len n
  obtain ⟨x, hx⟩ : ∃ x : ByteArray, x = ⟨(num n).toArray⟩ := ⟨_, rfl⟩
  have hxs : x.size ≤ 32 := by rw [hx]; exact Nat.le_trans hl1 (by omega)
  obtain ⟨r, hr⟩ : ∃ r, r = rootS R := ⟨_, rfl⟩
  have hrz : r.size ≤ 32 := by rw [hr, rootS_size]; omega
  obtain ⟨y, hy⟩ : ∃ y, y = codeS c := ⟨_, rfl⟩
  have hyz : y.size ≤ 32 := by rw [hy, codeS_size o2]; omega
  have he : c.toList.isEmpty = true := isEmpty0 c h0
  obtain ⟨rs, hrs⟩ : ∃ rs, rs = K.bytesA 32 R := ⟨_, rfl⟩
  have hsz : rs.size = 32 := by rw [hrs]; exact K.bytesA_size 32 R
  have hX := bytesS_size hxs
  have hY := bytesS_size hyz
  have hBb := bytesS_size hbs
  have hRr := bytesS_size hrz
  obtain ⟨X, hXe⟩ : ∃ X, bytesS x = X := ⟨_, rfl⟩
  obtain ⟨Y, hYe⟩ : ∃ Y, bytesS y = Y := ⟨_, rfl⟩
  obtain ⟨B, hBe⟩ : ∃ B, bytesS b = B := ⟨_, rfl⟩
  obtain ⟨D, hDe⟩ : ∃ D, bytesS r = D := ⟨_, rfl⟩
  rw [hXe] at hX
  rw [hYe] at hY
  rw [hBe] at hBb
  rw [hDe] at hRr
  obtain ⟨P1, hP1⟩ : ∃ P, X ++ B = P := ⟨_, rfl⟩
  obtain ⟨P2, hP2⟩ : ∃ P, P1 ++ D = P := ⟨_, rfl⟩
  obtain ⟨P3, hP3⟩ : ∃ P, P2 ++ Y = P := ⟨_, rfl⟩
  have z1 : P1.size = X.size + B.size := by rw [← hP1]; exact app_size _ _
  have z2 : P2.size = P1.size + D.size := by rw [← hP2]; exact app_size _ _
  have z3 : P3.size = P2.size + Y.size := by rw [← hP3]; exact app_size _ _
  have s1 : P1.size ≤ 200 := by omega
  have s2 : P2.size ≤ 200 := by omega
  have s3 : P3.size ≤ 200 := by omega
  have hrow : P3.data.toList = rowS [x, b, r, y] := by rw [← hP3, ← hP2, ← hP1, ← hXe, ← hYe, ← hBe, ← hDe]; exact rowS_four x b r y
  obtain ⟨S, hS⟩ : ∃ S : ByteArray, ⟨(leafL n b c R).toArray⟩ = S := ⟨_, rfl⟩
  have HR : Hid (⟨(listL P3.data.toList).toArray⟩ = S) := by unfold Hid; rw [← hS, leafL_eq, hrow, hx, hr, hy]
  have HX : Hid (x = ⟨(num n).toArray⟩) := hx
  have HY : Hid (y = rootS noneF) := by unfold Hid; rw [hy]; unfold codeS; rw [if_pos h0]
  have HS : Hid ((⟨(bytesL x.data.toList).toArray⟩ : ByteArray) = X ∧ (⟨(bytesL b.data.toList).toArray⟩ : ByteArray) = B ∧ (⟨(bytesL r.data.toList).toArray⟩ : ByteArray) = D ∧ (⟨(bytesL y.data.toList).toArray⟩ : ByteArray) = Y) := ⟨hXe, hBe, hDe, hYe⟩
  have HT : Hid (∀ w, Calls Tryd.prog 48 #[.agg rs] w fun e w' => e = .returned (.string r) ∧ Below w.heap.size w w') := fun w => by rw [hrs, hr]; exact text_root R w
  rw [hS, ← hrs]
  obtain ⟨a, ha⟩ : ∃ a, a = w.heap.size := ⟨_, rfl⟩
  have hV1 := ((Holds.new w 33 #[.int .u64 n, .string b, .string c, .int .i64 k]).alloc (.cells rs 34))
  have hV2 := (Holds.new (w.alloc (.cells #[.int .u64 n, .string b, .string c, .int .i64 k] 33)) 34 rs)
  rw [World.size_alloc] at hV2
  rw [← ha] at hV1 hV2
  have HV : Hid (Holds _ a 33 _ ∧ Holds _ (a + 1) 34 _) := ⟨hV1, hV2⟩
  have hB0 : Below w.heap.size w ((w.alloc (.cells #[.int .u64 n, .string b, .string c, .int .i64 k] 33)).alloc (.cells rs 34)) := ((Below.refl _ _).alloc (Nat.le_refl _) _).alloc (by rw [World.size_alloc]; omega) _
  have HG : Hid (a = w.heap.size) := ha
  have HIR : Hid ((Tryd.prog.info? 34).map (·.size) = some rs.size) := by unfold Hid; rw [hsz]; exact infoSum
  clear hc hE hx hl1 o1 o2 o3 o4 hrs hr hy hXe hYe hBe hDe z1 z2 z3 hrow hS hV1 hV2 ha
  go_enter Tryd.func27, Tryd.ntmps27
  go_wp2_with fail
  rw [← HG.out]
  refine (HC.out _).mono ?_
  rintro e w1 ⟨rfl, hB1⟩
  have h1 := below_holds hB1 HV.out.1
  have h2 := below_holds hB1 HV.out.2
  have hB := hB0.trans (hB1.mono hB0.size)
  clear hB0 hB1 HV
  have cc : w1.cell? ⟨a, 2, none⟩ = some (.string c) := h1.cell 2
  go_wp2_with fail
  refine (K.refSum_any ⟨#[]⟩ _ (by decide)).mono ?_
  rintro e w4 ⟨rfl, hB4⟩
  replace h1 := below_holds hB4 h1
  replace h2 := below_holds hB4 h2
  replace hB := hB.trans (hB4.mono hB.size)
  clear hB4 cc
  rw [show K.hashOf (⟨#[]⟩ : ByteArray).data.toList = noneF from rfl]
  have HTN : Hid (∀ w, Calls Tryd.prog 48 #[.agg (K.bytesA 32 noneF)] w fun e w' => e = .returned (.string y) ∧ Below w.heap.size w w') := fun w => by rw [HY.out]; exact text_root noneF w
  generalize K.bytesA 32 noneF = ns at HTN ⊢
  dsimp only
  go_wp2_with fail
  refine (HTN.out _).mono ?_
  rintro e w6 ⟨rfl, hB4⟩
  replace h1 := below_holds hB4 h1
  replace h2 := below_holds hB4 h2
  replace hB := hB.trans (hB4.mono hB.size)
  clear hB4
  have hcl : ∀ w', Below w6.heap.size w6 w' → w'.cell? ⟨a, 0, none⟩ = some (.int .u64 n) ∧ w'.cell? ⟨a, 1, none⟩ = some (.string b) ∧ (loadVar 34 ⟨a + 1, 0, none⟩).run Tryd.prog w' = .ok (.agg rs) w' := fun w' h' =>
    ⟨(below_holds h' h1).cell 0, (below_holds h' h1).cell 1, run_loadVar_row w' (a + 1) 34 34 rs (0, 0) _ (below_holds h' h2) Tryd.underlying34 rfl HIR.out⟩
  have HCL : Hid (∀ w', Below w6.heap.size w6 w' → w'.cell? ⟨a, 0, none⟩ = some (.int .u64 n) ∧ w'.cell? ⟨a, 1, none⟩ = some (.string b) ∧ (loadVar 34 ⟨a + 1, 0, none⟩).run Tryd.prog w' = .ok (.agg rs) w') := hcl
  have HB1 : Hid (Below w.heap.size w w6) := hB
  clear hcl hB h1 h2
  go_wp2_with fail
  refine wp_region_all (fun w' => Below w6.heap.size w6 w') mixedP (by kernel_rfl) (below_drew1 _) ?_
  refine cq_val rfl (.pointer (some ⟨a, 0, none⟩)) (fun w5 h5 => by go_simp) ?_
  simp only [Act.put, List.setIfInBounds_toArray, List.set_cons_succ, List.set_cons_zero]
  refine cq_val rfl (.int .u64 n) (fun w5 h5 => by have hc := (HCL.out w5 h5).1; go_simp) ?_
  simp only [Act.put, List.setIfInBounds_toArray, List.set_cons_succ, List.set_cons_zero]
  refine cq_call rfl 42 #[.int .u64 n] (fun _ => by go_simp) (.string x) (fun w5 h5 => (refNumber_any n w5 hn).mono fun e w6 ⟨he, h6⟩ => ⟨by rw [he, HX.out], h5.trans (h6.mono h5.size)⟩) ?_
  simp only [Act.put, List.setIfInBounds_toArray, List.set_cons_succ, List.set_cons_zero]
  refine cq_call rfl 41 #[.string x] (fun _ => by go_simp) (.string X) (fun w5 h5 => (refBytes_any x w5 (by omega)).mono fun e w6 ⟨he, h6⟩ => ⟨by rw [he, HS.out.1], h5.trans (h6.mono h5.size)⟩) ?_
  simp only [Act.put, List.setIfInBounds_toArray, List.set_cons_succ, List.set_cons_zero]
  refine cq_val rfl (.pointer (some ⟨a, 1, none⟩)) (fun w5 h5 => by go_simp) ?_
  simp only [Act.put, List.setIfInBounds_toArray, List.set_cons_succ, List.set_cons_zero]
  refine cq_val rfl (.string b) (fun w5 h5 => by have hc := (HCL.out w5 h5).2.1; go_simp) ?_
  simp only [Act.put, List.setIfInBounds_toArray, List.set_cons_succ, List.set_cons_zero]
  refine cq_call rfl 41 #[.string b] (fun _ => by go_simp) (.string B) (fun w5 h5 => (refBytes_any b w5 (by omega)).mono fun e w6 ⟨he, h6⟩ => ⟨by rw [he, HS.out.2.1], h5.trans (h6.mono h5.size)⟩) ?_
  simp only [Act.put, List.setIfInBounds_toArray, List.set_cons_succ, List.set_cons_zero]
  refine cq_val rfl (.string P1) (fun w5 h5 => by go_simp; omega) ?_
  simp only [Act.put, List.setIfInBounds_toArray, List.set_cons_succ, List.set_cons_zero]
  refine cq_val rfl (.agg rs) (fun w5 h5 => by have hc := (HCL.out w5 h5).2.2; unfold execOp; simp only [Instr.loadAt, Instr.sureAddr, Sem.run_bind, Sem.run_pure]; first | (show ((loadVar _ _).run _ _).andThen _ = _; rw [hc]; rfl) | go_simp) ?_
  simp only [Act.put, List.setIfInBounds_toArray, List.set_cons_succ, List.set_cons_zero]
  refine cq_call rfl 48 #[.agg rs] (fun _ => by go_simp) (.string r) (fun w5 h5 => (HT.out w5).mono fun e w6 ⟨he, h6⟩ => ⟨he, h5.trans (h6.mono h5.size)⟩) ?_
  simp only [Act.put, List.setIfInBounds_toArray, List.set_cons_succ, List.set_cons_zero]
  refine cq_call rfl 41 #[.string r] (fun _ => by go_simp) (.string D) (fun w5 h5 => (refBytes_any r w5 (by omega)).mono fun e w6 ⟨he, h6⟩ => ⟨by rw [he, HS.out.2.2.1], h5.trans (h6.mono h5.size)⟩) ?_
  simp only [Act.put, List.setIfInBounds_toArray, List.set_cons_succ, List.set_cons_zero]
  refine cq_val rfl (.string P2) (fun w5 h5 => by go_simp; omega) ?_
  simp only [Act.put, List.setIfInBounds_toArray, List.set_cons_succ, List.set_cons_zero]
  refine cq_val rfl (.string y) (fun w5 h5 => by go_simp) ?_
  simp only [Act.put, List.setIfInBounds_toArray, List.set_cons_succ, List.set_cons_zero]
  refine cq_call rfl 41 #[.string y] (fun _ => by go_simp) (.string Y) (fun w5 h5 => (refBytes_any y w5 (by omega)).mono fun e w6 ⟨he, h6⟩ => ⟨by rw [he, HS.out.2.2.2], h5.trans (h6.mono h5.size)⟩) ?_
  simp only [Act.put, List.setIfInBounds_toArray, List.set_cons_succ, List.set_cons_zero]
  refine cq_val rfl (.string P3) (fun w5 h5 => by go_simp; omega) ?_
  simp only [Act.put, List.setIfInBounds_toArray, List.set_cons_succ, List.set_cons_zero]
  refine cq_call rfl 40 #[.string P3] (fun _ => by go_simp) (.string S) (fun w5 h5 => (refList_any P3 w5 (by omega)).mono fun e w6 ⟨he, h6⟩ => ⟨by rw [he, HR.out], h5.trans (h6.mono h5.size)⟩) ?_
  simp only [Act.put, List.setIfInBounds_toArray, List.set_cons_succ, List.set_cons_zero]
  refine cq_val rfl (.string S) (fun w5 h5 => by go_simp) ?_
  simp only [Act.put, List.setIfInBounds_toArray, List.set_cons_succ, List.set_cons_zero]
  refine cq_val rfl (.int .i64 0) (fun w5 h5 => by go_simp) ?_
  simp only [Act.put, List.setIfInBounds_toArray, List.set_cons_succ, List.set_cons_zero]
  refine wpQuiet_nil ?_
  intro w2 h2
  go_wp2_with fail
  go_ret2
  exact ⟨rfl, HB1.out.trans (h2.mono HB1.out.size)⟩

theorem qleaf_any (n : Nat) (b c : ByteArray) (z : Int) (R : Nat → UInt8) (w : World) (hn : n < 18446744073709551616) :
    Calls Tryd.prog 27 #[.agg (acct n b c z), .agg (K.bytesA 32 R)] w fun e w' => e = .returned (.tuple #[.string (leafT n b c z R), .int .i64 (chkE b.data.toList c.data.toList z)]) ∧ Below w.heap.size w w' := by
  cases h : okA b.data.toList c.data.toList z with
  | false =>
    have := qleaf_no n b c z R w h
    unfold leafT chkE
    rw [h]
    exact this
  | true =>
    obtain ⟨_, _, o3, _⟩ := (okA_iff b c z).1 h
    obtain ⟨k, rfl⟩ := Int.eq_ofNat_of_zero_le o3
    have : Calls Tryd.prog 27 #[.agg (acct n b c k), .agg (K.bytesA 32 R)] w fun e w' => e = .returned (.tuple #[.string ⟨(leafL n b c R).toArray⟩, .int .i64 0]) ∧ Below w.heap.size w w' := by
      by_cases h0 : c.size = 0
      · exact qleaf_none n k b c R w hn h h0
      · exact qleaf_code n k b c R w hn h h0
    unfold leafT chkE
    rw [h]
    exact this
end Go.Proofs.YtamijfdhaahalaaDoor
