/-
  What the document's calls of Record do.
-/
import Derived.Test.YtamijfdhaahalaaDoorSRecW
import Derived.Test.YtamijfdhaahalaaDoorSRefE
import Derived.Test.YtamijfdhaahalaaDoorSBackPure
import Derived.Test.YtamijfdhaahalaaDoorCQuiet
namespace Go.Proofs.YtamijfdhaahalaaDoor
open Go Go.RowKit

theorem bytesS_size {x : ByteArray} {k : Nat} (h : x.size ≤ k) : (bytesS x).size ≤ k + 9 := by
  have := bytesL_len x.data.toList
  rw [sizeB] at this
  show (bytesL x.data.toList).toArray.size ≤ _
  rw [List.size_toArray]
  omega
theorem app_size (x y : ByteArray) : (x ++ y).size = x.size + y.size := by
  obtain ⟨⟨l⟩⟩ := x
  obtain ⟨⟨m⟩⟩ := y
  rw [ByteArray.mk_append_mk]
  show (l ++ m).toArray.size = l.toArray.size + m.toArray.size
  simp
theorem app_list (x y : ByteArray) : (x ++ y).data.toList = x.data.toList ++ y.data.toList := by
  obtain ⟨⟨l⟩⟩ := x
  obtain ⟨⟨m⟩⟩ := y
  rw [ByteArray.mk_append_mk]
theorem bytesS_list (x : ByteArray) : (bytesS x).data.toList = bytesL x.data.toList := rfl
theorem rowS_four (x y u v : ByteArray) : (bytesS x ++ bytesS y ++ bytesS u ++ bytesS v).data.toList = rowS [x, y, u, v] := by
  rw [rowS_cons, rowS_cons, rowS_cons, rowS_cons, app_list, app_list, app_list]
  simp only [bytesS_list]
  show _ = bytesL x.data.toList ++ (bytesL y.data.toList ++ (bytesL u.data.toList ++ (bytesL v.data.toList ++ [])))
  simp

set_option maxRecDepth 4000 in
theorem qrecord_no (n : Nat) (b c : ByteArray) (z : Int) (w : World) (h : okA b.data.toList c.data.toList z = false) :
    Calls Tryd.prog 23 #[.agg (acct n b c z)] w fun e w' => e = .returned (.tuple #[.string ⟨#[]⟩, .int .i64 1]) ∧ Below w.heap.size w w' := by
  have hE : chkE b.data.toList c.data.toList z = 1 := by unfold chkE; rw [h]; rfl
  have hc := fun w => qcheck_any n b c z w
  rw [hE] at hc
  unfold acct at *
  have HC : Hid (∀ w, Calls Tryd.prog 29 #[.agg #[.int .u64 n, .string b, .string c, .int .i64 z]] w fun e w' => e = .returned (.int .i64 1) ∧ Below w.heap.size w w') := hc
  clear hc hE
  go_enter Tryd.func23, Tryd.ntmps23
  go_wp2_with fail
  refine (HC.out _).mono ?_
  rintro e w1 ⟨rfl, hB⟩
  go_wp2_with fail
  go_ret2
  exact ⟨rfl, alloc_below hB⟩

set_option maxRecDepth 4000 in
set_option maxHeartbeats 2000000 in
theorem qrecord_ok (n k : Nat) (b c : ByteArray) (w : World) (hn : n < 18446744073709551616) (h : okA b.data.toList c.data.toList k = true) :
    Calls Tryd.prog 23 #[.agg (acct n b c k)] w fun e w' => e = .returned (.tuple #[.string ⟨(recL n b c k).toArray⟩, .int .i64 0]) ∧ Below w.heap.size w w' := by
  have hE : chkE b.data.toList c.data.toList k = 0 := by unfold chkE; rw [h]; rfl
  have hc := fun w => qcheck_any n b c k w
  rw [hE] at hc
  obtain ⟨o1, o2, o3, o4⟩ := (okA_iff b c k).1 h
  have hbs := right_size o1
  have hcs : c.size ≤ 32 := by omega
  have hk : k < 18446744073709551616 := by omega
  have hki : (k : Int) < 18446744073709551616 := by omega
  have hk0 : (0 : Int) ≤ k := by omega
  unfold acct at *
  have HC : Hid (∀ w, Calls Tryd.prog 29 #[.agg #[.int .u64 n, .string b, .string c, .int .i64 k]] w fun e w' => e = .returned (.int .i64 0) ∧ Below w.heap.size w w') := hc
  have hl1 := num_len n
  have hl2 := num_len k
  obtain ⟨x, hx⟩ : ∃ x : ByteArray, x = ⟨(num n).toArray⟩ := ⟨_, rfl⟩
  obtain ⟨y, hy⟩ : ∃ y : ByteArray, y = ⟨(num k).toArray⟩ := ⟨_, rfl⟩
  have hxs : x.size ≤ 32 := by rw [hx]; exact Nat.le_trans hl1 (by omega)
  have hys : y.size ≤ 32 := by rw [hy]; exact Nat.le_trans hl2 (by omega)
  have hX := bytesS_size hxs
  have hY := bytesS_size hys
  have hBb := bytesS_size hbs
  have hCc := bytesS_size hcs
  obtain ⟨X, hXe⟩ : ∃ X, bytesS x = X := ⟨_, rfl⟩
  obtain ⟨Y, hYe⟩ : ∃ Y, bytesS y = Y := ⟨_, rfl⟩
  obtain ⟨B, hBe⟩ : ∃ B, bytesS b = B := ⟨_, rfl⟩
  obtain ⟨D, hDe⟩ : ∃ D, bytesS c = D := ⟨_, rfl⟩
  rw [hXe] at hX
  rw [hYe] at hY
  rw [hBe] at hBb
  rw [hDe] at hCc
  obtain ⟨P1, hP1⟩ : ∃ P, X ++ B = P := ⟨_, rfl⟩
  obtain ⟨P2, hP2⟩ : ∃ P, P1 ++ D = P := ⟨_, rfl⟩
  obtain ⟨P3, hP3⟩ : ∃ P, P2 ++ Y = P := ⟨_, rfl⟩
  have z1 : P1.size = X.size + B.size := by rw [← hP1]; exact app_size _ _
  have z2 : P2.size = P1.size + D.size := by rw [← hP2]; exact app_size _ _
  have z3 : P3.size = P2.size + Y.size := by rw [← hP3]; exact app_size _ _
  have s1 : P1.size ≤ 200 := by omega
  have s2 : P2.size ≤ 200 := by omega
  have s3 : P3.size ≤ 200 := by omega
  have hrow : P3.data.toList = rowS [x, b, c, y] := by rw [← hP3, ← hP2, ← hP1, ← hXe, ← hYe, ← hBe, ← hDe]; exact rowS_four x b c y
  have HR : Hid (⟨(listL P3.data.toList).toArray⟩ = (⟨(recL n b c k).toArray⟩ : ByteArray)) := by unfold Hid recL; rw [hrow, hx, hy]
  have HX : Hid (x = ⟨(num n).toArray⟩ ∧ y = ⟨(num k).toArray⟩) := ⟨hx, hy⟩
  have HS : Hid ((⟨(bytesL x.data.toList).toArray⟩ : ByteArray) = X ∧ (⟨(bytesL b.data.toList).toArray⟩ : ByteArray) = B ∧ (⟨(bytesL c.data.toList).toArray⟩ : ByteArray) = D ∧ (⟨(bytesL y.data.toList).toArray⟩ : ByteArray) = Y) := ⟨hXe, hBe, hDe, hYe⟩
  obtain ⟨S, hS⟩ : ∃ S : ByteArray, ⟨(recL n b c k).toArray⟩ = S := ⟨_, rfl⟩
  rw [hS] at HR ⊢
  clear hc hE hx hy hl1 hl2 o1 o2 o3 o4 hXe hYe hBe hDe z1 z2 z3 hrow hS
  go_enter Tryd.func23, Tryd.ntmps23
  go_wp2_with fail
  have hcl := cells4 w (.int .u64 n) (.string b) (.string c) (.int .i64 k) 33
  refine (HC.out _).mono ?_
  rintro e w1 ⟨rfl, hB⟩
  replace hcl := fun w' (h' : Below w1.heap.size w1 w') => hcl w' (hB.trans (h'.mono hB.size))
  obtain ⟨a, ha⟩ : ∃ a, a = w.heap.size := ⟨_, rfl⟩
  rw [← ha] at hcl ⊢
  have HCL : Hid (∀ w', Below w1.heap.size w1 w' → w'.cell? ⟨a, 0, none⟩ = some (.int .u64 n) ∧ w'.cell? ⟨a, 1, none⟩ = some (.string b) ∧ w'.cell? ⟨a, 2, none⟩ = some (.string c) ∧ w'.cell? ⟨a, 3, none⟩ = some (.int .i64 k)) := hcl
  have HB1 : Hid (Below w.heap.size w w1) := alloc_below hB
  clear hcl hB ha
  go_wp2_with fail
  refine wp_region_all (fun w' => Below w1.heap.size w1 w') mixedP (by kernel_rfl) (below_drew1 _) ?_
  refine cq_val rfl (.pointer (some ⟨a, 0, none⟩)) (fun w5 h5 => by go_simp) ?_
  simp only [Act.put, List.setIfInBounds_toArray, List.set_cons_succ, List.set_cons_zero]
  refine cq_val rfl (.int .u64 n) (fun w5 h5 => by have hc := (HCL.out w5 h5).1; go_simp) ?_
  simp only [Act.put, List.setIfInBounds_toArray, List.set_cons_succ, List.set_cons_zero]
  refine cq_call rfl 42 #[.int .u64 n] (fun _ => by go_simp) (.string x) (fun w5 h5 => (refNumber_any n w5 hn).mono fun e w6 ⟨he, h6⟩ => ⟨by rw [he, HX.out.1], h5.trans (h6.mono h5.size)⟩) ?_
  simp only [Act.put, List.setIfInBounds_toArray, List.set_cons_succ, List.set_cons_zero]
  refine cq_call rfl 41 #[.string x] (fun _ => by go_simp) (.string X) (fun w5 h5 => (refBytes_any x w5 (by omega)).mono fun e w6 ⟨he, h6⟩ => ⟨by rw [he, HS.out.1], h5.trans (h6.mono h5.size)⟩) ?_
  simp only [Act.put, List.setIfInBounds_toArray, List.set_cons_succ, List.set_cons_zero]
  refine cq_val rfl (.pointer (some ⟨a, 1, none⟩)) (fun w5 h5 => by go_simp) ?_
  simp only [Act.put, List.setIfInBounds_toArray, List.set_cons_succ, List.set_cons_zero]
  refine cq_val rfl (.string b) (fun w5 h5 => by have hc := (HCL.out w5 h5).2.1; go_simp) ?_
  simp only [Act.put, List.setIfInBounds_toArray, List.set_cons_succ, List.set_cons_zero]
  refine cq_call rfl 41 #[.string b] (fun _ => by go_simp) (.string B) (fun w5 h5 => (refBytes_any b w5 (by omega)).mono fun e w6 ⟨he, h6⟩ => ⟨by rw [he, HS.out.2.1], h5.trans (h6.mono h5.size)⟩) ?_
  simp only [Act.put, List.setIfInBounds_toArray, List.set_cons_succ, List.set_cons_zero]
  refine cq_val rfl (.string P1) (fun w5 h5 => by go_simp; omega) ?_
  simp only [Act.put, List.setIfInBounds_toArray, List.set_cons_succ, List.set_cons_zero]
  refine cq_val rfl (.pointer (some ⟨a, 2, none⟩)) (fun w5 h5 => by go_simp) ?_
  simp only [Act.put, List.setIfInBounds_toArray, List.set_cons_succ, List.set_cons_zero]
  refine cq_val rfl (.string c) (fun w5 h5 => by have hc := (HCL.out w5 h5).2.2.1; go_simp) ?_
  simp only [Act.put, List.setIfInBounds_toArray, List.set_cons_succ, List.set_cons_zero]
  refine cq_call rfl 41 #[.string c] (fun _ => by go_simp) (.string D) (fun w5 h5 => (refBytes_any c w5 (by omega)).mono fun e w6 ⟨he, h6⟩ => ⟨by rw [he, HS.out.2.2.1], h5.trans (h6.mono h5.size)⟩) ?_
  simp only [Act.put, List.setIfInBounds_toArray, List.set_cons_succ, List.set_cons_zero]
  refine cq_val rfl (.string P2) (fun w5 h5 => by go_simp; omega) ?_
  simp only [Act.put, List.setIfInBounds_toArray, List.set_cons_succ, List.set_cons_zero]
  refine cq_val rfl (.pointer (some ⟨a, 3, none⟩)) (fun w5 h5 => by go_simp) ?_
  simp only [Act.put, List.setIfInBounds_toArray, List.set_cons_succ, List.set_cons_zero]
  refine cq_val rfl (.int .i64 k) (fun w5 h5 => by have hc := (HCL.out w5 h5).2.2.2; go_simp) ?_
  simp only [Act.put, List.setIfInBounds_toArray, List.set_cons_succ, List.set_cons_zero]
  refine cq_val rfl (.int .u64 k) (fun w5 h5 => by go_simp; exact wrap_u64 k hk) ?_
  simp only [Act.put, List.setIfInBounds_toArray, List.set_cons_succ, List.set_cons_zero]
  refine cq_call rfl 42 #[.int .u64 k] (fun _ => by go_simp) (.string y) (fun w5 h5 => (refNumber_any k w5 hk).mono fun e w6 ⟨he, h6⟩ => ⟨by rw [he, HX.out.2], h5.trans (h6.mono h5.size)⟩) ?_
  simp only [Act.put, List.setIfInBounds_toArray, List.set_cons_succ, List.set_cons_zero]
  refine cq_call rfl 41 #[.string y] (fun _ => by go_simp) (.string Y) (fun w5 h5 => (refBytes_any y w5 (by omega)).mono fun e w6 ⟨he, h6⟩ => ⟨by rw [he, HS.out.2.2.2], h5.trans (h6.mono h5.size)⟩) ?_
  simp only [Act.put, List.setIfInBounds_toArray, List.set_cons_succ, List.set_cons_zero]
  refine cq_val rfl (.string P3) (fun w5 h5 => by go_simp; omega) ?_
  simp only [Act.put, List.setIfInBounds_toArray, List.set_cons_succ, List.set_cons_zero]
  refine cq_call rfl 40 #[.string P3] (fun _ => by go_simp) (.string S) (fun w5 h5 => (refList_any P3 w5 (by omega)).mono fun e w6 ⟨he, h6⟩ => ⟨by rw [he, HR.out], h5.trans (h6.mono h5.size)⟩) ?_
  simp only [Act.put, List.setIfInBounds_toArray, List.set_cons_succ, List.set_cons_zero]
  refine cq_val rfl (.string S) (fun w5 h5 => by go_simp) ?_
  simp only [Act.put, List.setIfInBounds_toArray, List.set_cons_succ, List.set_cons_zero]
  refine cq_val rfl (.int .i64 0) (fun w5 h5 => by go_simp) ?_
  simp only [Act.put, List.setIfInBounds_toArray, List.set_cons_succ, List.set_cons_zero]
  refine wpQuiet_nil ?_
  intro w2 h2
  go_wp2_with fail
  go_ret2
  exact ⟨rfl, HB1.out.trans (h2.mono HB1.out.size)⟩
theorem qrecord_any (n : Nat) (b c : ByteArray) (z : Int) (w : World) (hn : n < 18446744073709551616) :
    Calls Tryd.prog 23 #[.agg (acct n b c z)] w fun e w' => e = .returned (.tuple #[.string (recT n b c z), .int .i64 (chkE b.data.toList c.data.toList z)]) ∧ Below w.heap.size w w' := by
  cases h : okA b.data.toList c.data.toList z with
  | false =>
    have := qrecord_no n b c z w h
    unfold recT chkE
    rw [h]
    exact this
  | true =>
    obtain ⟨_, _, o3, _⟩ := (okA_iff b c z).1 h
    obtain ⟨k, rfl⟩ := Int.eq_ofNat_of_zero_le o3
    have := qrecord_ok n k b c w hn h
    unfold recT chkE
    rw [h]
    exact this
end Go.Proofs.YtamijfdhaahalaaDoor
