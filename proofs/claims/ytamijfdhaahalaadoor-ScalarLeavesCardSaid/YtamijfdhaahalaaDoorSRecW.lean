/-
  What the calls of Record do.
-/
import Derived.Test.YtamijfdhaahalaaDoorSAcctW
namespace Go.Proofs.YtamijfdhaahalaaDoor
open Go Go.RowKit

/-- An account's record. -/
def recL (n : Nat) (b c : ByteArray) (k : Nat) : List UInt8 := listL (rowS [⟨(num n).toArray⟩, b, c, ⟨(num k).toArray⟩])
theorem okA_iff (b c : ByteArray) (z : Int) : okA b.data.toList c.data.toList z = true ↔ rightN b.data.toList = true ∧ (c.size = 0 ∨ c.size = 32) ∧ 0 ≤ z ∧ z ≤ 2147483647 := by
  unfold okA
  rw [sizeB]
  simp only [Bool.and_eq_true, Bool.or_eq_true, decide_eq_true_eq, and_assoc]
theorem right_size {b : ByteArray} (h : rightN b.data.toList = true) : b.size ≤ 32 := by
  have := ((rightN_iff _).1 h).1
  rwa [sizeB] at this
theorem cells4 (w : World) (a b c d : Value) (t : TypeId) : ∀ w', Below (w.alloc (.cells #[a, b, c, d] t)).heap.size (w.alloc (.cells #[a, b, c, d] t)) w' →
    w'.cell? ⟨w.heap.size, 0, none⟩ = some a ∧ w'.cell? ⟨w.heap.size, 1, none⟩ = some b ∧ w'.cell? ⟨w.heap.size, 2, none⟩ = some c ∧ w'.cell? ⟨w.heap.size, 3, none⟩ = some d := fun w' h => by
  have hlt : w.heap.size < (w.alloc (.cells #[a, b, c, d] t)).heap.size := by rw [World.size_alloc]; omega
  refine ⟨?_, ?_, ?_, ?_⟩
  all_goals (first | rw [h.cell (p := ⟨w.heap.size, 0, none⟩) hlt] | rw [h.cell (p := ⟨w.heap.size, 1, none⟩) hlt] | rw [h.cell (p := ⟨w.heap.size, 2, none⟩) hlt] | rw [h.cell (p := ⟨w.heap.size, 3, none⟩) hlt])
  all_goals (rw [World.cell?_alloc_mark]; rfl)
theorem four_texts (w : World) (x y z v : ByteArray) (j : Nat) (u : ByteArray) (h : [x, y, z, v][j]? = some u) : (w.alloc (.cells #[.string x, .string y, .string z, .string v] 9)).cell? ⟨w.heap.size, j, none⟩ = some (.string u) := by
  rw [World.cell?_alloc_mark]
  match j, h with
  | 0, h => simpa using h
  | 1, h => simpa using h
  | 2, h => simpa using h
  | 3, h => simpa using h
  | j + 4, h => simp at h
theorem wrap_u64 (k : Nat) (h : k < 18446744073709551616) : IntKind.u64.wrap (k : Int) = k := by
  simp [IntKind.wrap, IntKind.signed, IntKind.bits]
  omega
theorem below_drew1 {B : Nat} (w : World) : Below B w w.drew := ⟨rfl, rfl, rfl, Nat.le_refl _, fun _ _ => rfl⟩
theorem alloc_below {w w' : World} {o : Obj} (h : Below (w.alloc o).heap.size (w.alloc o) w') : Below w.heap.size w w' :=
  ((Below.refl _ _).alloc (Nat.le_refl _) o).trans (h.mono (by rw [World.size_alloc]; omega))

set_option maxRecDepth 4000 in
theorem record_no (n : Nat) (b c : ByteArray) (z : Int) (w : World) (h : okA b.data.toList c.data.toList z = false) :
    Calls Tryd.prog 22 #[.agg (acct n b c z)] w fun e w' => e = .returned (.tuple #[.string ⟨#[]⟩, .int .i64 1]) ∧ Below w.heap.size w w' := by
  have hE : chkE b.data.toList c.data.toList z = 1 := by unfold chkE; rw [h]; rfl
  have hc := fun w => check_any n b c z w
  rw [hE] at hc
  unfold acct at *
  have HC : Hid (∀ w, Calls Tryd.prog 28 #[.agg #[.int .u64 n, .string b, .string c, .int .i64 z]] w fun e w' => e = .returned (.int .i64 1) ∧ Below w.heap.size w w') := hc
  clear hc hE
  go_enter Tryd.func22, Tryd.ntmps22
  go_wp2_with fail
  refine (HC.out _).mono ?_
  rintro e w1 ⟨rfl, hB⟩
  go_wp2_with fail
  go_ret2
  exact ⟨rfl, alloc_below hB⟩

set_option maxRecDepth 4000 in
set_option maxHeartbeats 2000000 in
theorem record_ok (n k : Nat) (b c : ByteArray) (w : World) (hn : n < 18446744073709551616) (h : okA b.data.toList c.data.toList k = true) :
    Calls Tryd.prog 22 #[.agg (acct n b c k)] w fun e w' => e = .returned (.tuple #[.string ⟨(recL n b c k).toArray⟩, .int .i64 0]) ∧ Below w.heap.size w w' := by
  have hE : chkE b.data.toList c.data.toList k = 0 := by unfold chkE; rw [h]; rfl
  have hc := fun w => check_any n b c k w
  rw [hE] at hc
  obtain ⟨o1, o2, o3, o4⟩ := (okA_iff b c k).1 h
  have hbs := right_size o1
  have hcs : c.size ≤ 32 := by omega
  have hk : k < 18446744073709551616 := by omega
  have hki : (k : Int) < 18446744073709551616 := by omega
  have hk0 : (0 : Int) ≤ k := by omega
  unfold acct at *
  have HC : Hid (∀ w, Calls Tryd.prog 28 #[.agg #[.int .u64 n, .string b, .string c, .int .i64 k]] w fun e w' => e = .returned (.int .i64 0) ∧ Below w.heap.size w w') := hc
  have hl1 := num_len n
  have hl2 := num_len k
  have HR : Hid (recL n b c k = listL (rowS [⟨(num n).toArray⟩, b, c, ⟨(num k).toArray⟩])) := rfl
  obtain ⟨x, hx⟩ : ∃ x : ByteArray, x = ⟨(num n).toArray⟩ := ⟨_, rfl⟩
  obtain ⟨y, hy⟩ : ∃ y : ByteArray, y = ⟨(num k).toArray⟩ := ⟨_, rfl⟩
  have hxs : x.size ≤ 8 := by rw [hx]; exact hl1
  have hys : y.size ≤ 8 := by rw [hy]; exact hl2
  rw [← hx, ← hy] at HR
  have HX : Hid (x = ⟨(num n).toArray⟩ ∧ y = ⟨(num k).toArray⟩) := ⟨hx, hy⟩
  clear hc hE hx hy hl1 hl2 o1 o2 o3 o4
  go_enter Tryd.func22, Tryd.ntmps22
  go_wp2_with fail
  have hcl := cells4 w (.int .u64 n) (.string b) (.string c) (.int .i64 k) 33
  refine (HC.out _).mono ?_
  rintro e w1 ⟨rfl, hB⟩
  replace hcl := fun w' (h' : Below w1.heap.size w1 w') => hcl w' (hB.trans (h'.mono hB.size))
  obtain ⟨a, ha⟩ : ∃ a, a = w.heap.size := ⟨_, rfl⟩
  rw [← ha] at hcl ⊢
  have HCL : Hid (∀ w', Below w1.heap.size w1 w' → w'.cell? ⟨a, 0, none⟩ = some (.int .u64 n) ∧ w'.cell? ⟨a, 1, none⟩ = some (.string b) ∧ w'.cell? ⟨a, 2, none⟩ = some (.string c) ∧ w'.cell? ⟨a, 3, none⟩ = some (.int .i64 k)) := hcl
  have HB1 : Hid (Below w.heap.size w w1) := alloc_below hB
  clear hcl hB ha
  go_wp2_with fail
  refine wp_region_ctail (fun w' => Below w1.heap.size w1 w') 11 mixedP (by kernel_rfl) (below_drew1 _) ?_
  simp only [List.take_succ_cons, List.take_zero, List.drop_succ_cons, List.drop_zero]
  refine cq_val rfl (.pointer (some ⟨a, 0, none⟩)) (fun w5 h5 => by go_simp) ?_
  simp only [Act.put, List.setIfInBounds_toArray, List.set_cons_succ, List.set_cons_zero]
  refine cq_val rfl (.int .u64 n) (fun w5 h5 => by have hc := (HCL.out w5 h5).1; go_simp) ?_
  simp only [Act.put, List.setIfInBounds_toArray, List.set_cons_succ, List.set_cons_zero]
  refine cq_call rfl 39 #[.int .u64 n] (fun _ => by go_simp) (.string x) (fun w5 h5 => (number_any n w5 hn).mono fun e w6 ⟨he, h6⟩ => ⟨by rw [he, HX.out.1], h5.trans (h6.mono h5.size)⟩) ?_
  simp only [Act.put, List.setIfInBounds_toArray, List.set_cons_succ, List.set_cons_zero]
  refine cq_val rfl (.pointer (some ⟨a, 1, none⟩)) (fun w5 h5 => by go_simp) ?_
  simp only [Act.put, List.setIfInBounds_toArray, List.set_cons_succ, List.set_cons_zero]
  refine cq_val rfl (.string b) (fun w5 h5 => by have hc := (HCL.out w5 h5).2.1; go_simp) ?_
  simp only [Act.put, List.setIfInBounds_toArray, List.set_cons_succ, List.set_cons_zero]
  refine cq_val rfl (.pointer (some ⟨a, 2, none⟩)) (fun w5 h5 => by go_simp) ?_
  simp only [Act.put, List.setIfInBounds_toArray, List.set_cons_succ, List.set_cons_zero]
  refine cq_val rfl (.string c) (fun w5 h5 => by have hc := (HCL.out w5 h5).2.2.1; go_simp) ?_
  simp only [Act.put, List.setIfInBounds_toArray, List.set_cons_succ, List.set_cons_zero]
  refine cq_val rfl (.pointer (some ⟨a, 3, none⟩)) (fun w5 h5 => by go_simp) ?_
  simp only [Act.put, List.setIfInBounds_toArray, List.set_cons_succ, List.set_cons_zero]
  refine cq_val rfl (.int .i64 k) (fun w5 h5 => by have hc := (HCL.out w5 h5).2.2.2; go_simp) ?_
  simp only [Act.put, List.setIfInBounds_toArray, List.set_cons_succ, List.set_cons_zero]
  refine cq_val rfl (.int .u64 k) (fun w5 h5 => by go_simp; exact wrap_u64 k hk) ?_
  simp only [Act.put, List.setIfInBounds_toArray, List.set_cons_succ, List.set_cons_zero]
  refine cq_call rfl 39 #[.int .u64 k] (fun _ => by go_simp) (.string y) (fun w5 h5 => (number_any k w5 hk).mono fun e w6 ⟨he, h6⟩ => ⟨by rw [he, HX.out.2], h5.trans (h6.mono h5.size)⟩) ?_
  simp only [Act.put, List.setIfInBounds_toArray, List.set_cons_succ, List.set_cons_zero]
  refine wpQuiet_nil ?_
  intro w2 h2
  go_wp2_with fail
  refine (slist_any w2.heap.size 4 [x, b, c, y] _ (four_texts w2 _ _ _ _) (by simp) (by simp) (by simp) (by simp) (by
    intro q hq
    simp only [List.mem_cons, List.mem_nil_iff, or_false] at hq
    rcases hq with rfl | rfl | rfl | rfl <;> omega)).mono ?_
  rintro e w3 ⟨rfl, h3⟩
  go_wp2_with fail
  go_ret2
  refine ⟨by rw [HR.out]; rfl, ?_⟩
  have h4 := HB1.out.trans (h2.mono HB1.out.size)
  exact h4.trans ((alloc_below h3).mono h4.size)
end Go.Proofs.YtamijfdhaahalaaDoor
