/-
  What the calls of Leaf do.
-/
import Derived.Test.YtamijfdhaahalaaDoorSRecW
import Derived.Test.YtamijfdhaahalaaDoorRLaws
import Derived.Test.YtamijfdhaahalaaDoorKB
namespace Go.Proofs.YtamijfdhaahalaaDoor
open Go Go.RowKit

/-- The bytes of a root. -/
def rootL (R : Nat → UInt8) : List UInt8 := (List.range 32).map R
def rootS (R : Nat → UInt8) : ByteArray := ⟨(rootL R).toArray⟩
theorem rootL_len (R : Nat → UInt8) : (rootL R).length = 32 := by simp [rootL]
theorem rootS_size (R : Nat → UInt8) : (rootS R).size = 32 := rootL_len R
theorem rootL_get (R : Nat → UInt8) (j : Nat) (h : j < 32) : (rootL R)[j]? = some (R j) := by simp [rootL, h]
theorem convert_root {w : World} {b : Nat} {t : TypeId} {R : Nat → UInt8} (h : Holds w b t (K.bytesA 32 R)) :
    (convert 50 9 (.slice (some ⟨b, 0, none⟩) 32 32)).run Tryd.prog w = .ok (.string (rootS R)) w := by
  have := run_convert_bytes_back w 50 9 5 ⟨b, 0, none⟩ 32 (rootL R) underBytes (by kernel_rfl) (by kernel_rfl) (fun j hj => by
    rw [rootL_len] at hj
    have hc := h.cell j
    rw [K.bytesA_get 32 R j hj] at hc
    rw [add_plain, Nat.zero_add, hc]
    have hg := rootL_get R j hj
    rw [List.getElem?_eq_getElem (by rw [rootL_len]; exact hj)] at hg
    rw [Option.some.inj hg]
    rfl)
  rw [rootL_len] at this
  exact this
/-- The hash of nothing. -/
def noneF : Nat → UInt8 := K.hashOf []
/-- An account's leaf. -/
def leafL (n : Nat) (b c : ByteArray) (R : Nat → UInt8) : List UInt8 := listL (rowS [⟨(num n).toArray⟩, b, rootS R, if c.size = 0 then rootS noneF else c])
theorem zeroSum4 : ∀ w, (zeroValue 34).run Tryd.prog w = .ok (.agg (K.bytesA 32 fun _ => 0)) w := (zero_of_info (n := 32) (by kernel_rfl)).1
theorem infoSum : (Tryd.prog.info? 34).map (·.size) = some 32 := by kernel_rfl

set_option maxRecDepth 4000 in
theorem leaf_no (n : Nat) (b c : ByteArray) (z : Int) (R : Nat → UInt8) (w : World) (h : okA b.data.toList c.data.toList z = false) :
    Calls Tryd.prog 26 #[.agg (acct n b c z), .agg (K.bytesA 32 R)] w fun e w' => e = .returned (.tuple #[.string ⟨#[]⟩, .int .i64 1]) ∧ Below w.heap.size w w' := by
  have hE : chkE b.data.toList c.data.toList z = 1 := by unfold chkE; rw [h]; rfl
  have hc := fun w => check_any n b c z w
  rw [hE] at hc
  unfold acct at *
  have HC : Hid (∀ w, Calls Tryd.prog 28 #[.agg #[.int .u64 n, .string b, .string c, .int .i64 z]] w fun e w' => e = .returned (.int .i64 1) ∧ Below w.heap.size w w') := hc
  have hsz := K.bytesA_size 32 R
  generalize K.bytesA 32 R = rs at hsz ⊢
  clear hc hE
  go_enter Tryd.func26, Tryd.ntmps26
  go_wp2_with fail
  refine (HC.out _).mono ?_
  rintro e w1 ⟨rfl, hB⟩
  go_wp2_with fail
  go_ret2
  refine ⟨rfl, ?_⟩
  exact (((Below.refl _ _).alloc (Nat.le_refl _) _).alloc (by rw [World.size_alloc]; omega) _).trans (hB.mono (by rw [World.size_alloc, World.size_alloc]; omega))

set_option maxRecDepth 4000 in
set_option maxHeartbeats 4000000 in
theorem leaf_code (n k : Nat) (b c : ByteArray) (R : Nat → UInt8) (w : World) (_ : K.Tabs w) (hn : n < 18446744073709551616) (h : okA b.data.toList c.data.toList k = true) (h0 : ¬ c.size = 0) :
    Calls Tryd.prog 26 #[.agg (acct n b c k), .agg (K.bytesA 32 R)] w fun e w' => e = .returned (.tuple #[.string ⟨(leafL n b c R).toArray⟩, .int .i64 0]) ∧ Below w.heap.size w w' := by
  have hE : chkE b.data.toList c.data.toList k = 0 := by unfold chkE; rw [h]; rfl
  have hc := fun w => check_any n b c k w
  rw [hE] at hc
  obtain ⟨o1, o2, o3, o4⟩ := (okA_iff b c k).1 h
  have hbs := right_size o1
  have hcs : c.size ≤ 32 := by omega
  unfold acct at *
  have HC : Hid (∀ w, Calls Tryd.prog 28 #[.agg #[.int .u64 n, .string b, .string c, .int .i64 k]] w fun e w' => e = .returned (.int .i64 0) ∧ Below w.heap.size w w') := hc
  have hl1 := num_len n
  obtain ⟨x, hx⟩ : ∃ x : ByteArray, x = ⟨(num n).toArray⟩ := ⟨_, rfl⟩
  have hxs : x.size ≤ 8 := by rw [hx]; exact hl1
  have HR : Hid (leafL n b c R = listL (rowS [x, b, rootS R, c])) := by unfold Hid leafL; rw [if_neg h0, hx]
  have HX : Hid (x = ⟨(num n).toArray⟩) := hx
  have he : c.toList.isEmpty = false := notEmpty c h0
  obtain ⟨rs, hrs⟩ : ∃ rs, rs = K.bytesA 32 R := ⟨_, rfl⟩
  have hsz : rs.size = 32 := by rw [hrs]; exact K.bytesA_size 32 R
  have HRS : Hid (rs = K.bytesA 32 R) := hrs
  obtain ⟨r, hr⟩ : ∃ r : ByteArray, r = rootS R := ⟨_, rfl⟩
  have hrsz : r.size = 32 := by rw [hr]; exact rootS_size R
  rw [← hr] at HR
  have HRR : Hid (r = rootS R) := hr
  rw [← hrs]
  obtain ⟨a, ha⟩ : ∃ a, a = w.heap.size := ⟨_, rfl⟩
  have hV1 := ((Holds.new w 33 #[.int .u64 n, .string b, .string c, .int .i64 k]).alloc (.cells rs 34))
  have hV2 := (Holds.new (w.alloc (.cells #[.int .u64 n, .string b, .string c, .int .i64 k] 33)) 34 rs)
  rw [World.size_alloc] at hV2
  rw [← ha] at hV1 hV2
  have HV : Hid (Holds _ a 33 _ ∧ Holds _ (a + 1) 34 _) := ⟨hV1, hV2⟩
  have hB0 : Below w.heap.size w ((w.alloc (.cells #[.int .u64 n, .string b, .string c, .int .i64 k] 33)).alloc (.cells rs 34)) := ((Below.refl _ _).alloc (Nat.le_refl _) _).alloc (by rw [World.size_alloc]; omega) _
  have HG : Hid (a = w.heap.size) := ha
  clear hc hE hx hl1 o1 o2 o3 o4 hrs hr hV1 hV2 ha
  go_enter Tryd.func26, Tryd.ntmps26
  go_wp2_with fail
  rw [← HG.out]
  refine (HC.out _).mono ?_
  rintro e w1 ⟨rfl, hB1⟩
  have h1 := below_holds hB1 HV.out.1
  have h2 := below_holds hB1 HV.out.2
  have hB := hB0.trans (hB1.mono hB0.size)
  clear hB0 hB1 HV
  have cc : w1.cell? ⟨a, 2, none⟩ = some (.string c) := h1.cell 2
  have hcl : ∀ w', Below w1.heap.size w1 w' → w'.cell? ⟨a, 0, none⟩ = some (.int .u64 n) ∧ w'.cell? ⟨a, 1, none⟩ = some (.string b) ∧ (convert 50 9 (.slice (some ⟨a + 1, 0, none⟩) 32 32)).run Tryd.prog w' = .ok (.string r) w' := fun w' h' =>
    ⟨(below_holds h' h1).cell 0, (below_holds h' h1).cell 1, by have q := below_holds h' h2; rw [HRS.out] at q; rw [HRR.out]; exact convert_root q⟩
  have HCL : Hid (∀ w', Below w1.heap.size w1 w' → w'.cell? ⟨a, 0, none⟩ = some (.int .u64 n) ∧ w'.cell? ⟨a, 1, none⟩ = some (.string b) ∧ (convert 50 9 (.slice (some ⟨a + 1, 0, none⟩) 32 32)).run Tryd.prog w' = .ok (.string r) w') := hcl
  have HB1 : Hid (Below w.heap.size w w1) := hB
  clear hcl hB h1 h2
  go_wp2_with fail
  refine wp_region_ctail (fun w' => Below w1.heap.size w1 w') 8 mixedP (by kernel_rfl) (below_drew1 _) ?_
  simp only [List.take_succ_cons, List.take_zero, List.drop_succ_cons, List.drop_zero]
  refine cq_val rfl (.pointer (some ⟨a, 0, none⟩)) (fun w5 h5 => by go_simp) ?_
  simp only [Act.put, List.setIfInBounds_toArray, List.set_cons_succ, List.set_cons_zero]
  refine cq_val rfl (.int .u64 n) (fun w5 h5 => by have hc := (HCL.out w5 h5).1; go_simp) ?_
  simp only [Act.put, List.setIfInBounds_toArray, List.set_cons_succ, List.set_cons_zero]
  refine cq_call rfl 39 #[.int .u64 n] (fun _ => by go_simp) (.string x) (fun w5 h5 => (number_any n w5 hn).mono fun e w6 ⟨he, h6⟩ => ⟨by rw [he, HX.out], h5.trans (h6.mono h5.size)⟩) ?_
  simp only [Act.put, List.setIfInBounds_toArray, List.set_cons_succ, List.set_cons_zero]
  refine cq_val rfl (.pointer (some ⟨a, 1, none⟩)) (fun w5 h5 => by go_simp) ?_
  simp only [Act.put, List.setIfInBounds_toArray, List.set_cons_succ, List.set_cons_zero]
  refine cq_val rfl (.string b) (fun w5 h5 => by have hc := (HCL.out w5 h5).2.1; go_simp) ?_
  simp only [Act.put, List.setIfInBounds_toArray, List.set_cons_succ, List.set_cons_zero]
  refine cq_val rfl (.slice (some ⟨a + 1, 0, none⟩) 32 32) (fun w5 h5 => by go_simp) ?_
  simp only [Act.put, List.setIfInBounds_toArray, List.set_cons_succ, List.set_cons_zero]
  refine cq_val rfl (.string r) (fun w5 h5 => by have hc := (HCL.out w5 h5).2.2; go_simp) ?_
  simp only [Act.put, List.setIfInBounds_toArray, List.set_cons_succ, List.set_cons_zero]
  refine cq_val rfl (.string c) (fun w5 h5 => by go_simp) ?_
  simp only [Act.put, List.setIfInBounds_toArray, List.set_cons_succ, List.set_cons_zero]
  refine wpQuiet_nil ?_
  intro w2 h2
  go_wp2_with fail
  refine (slist_any w2.heap.size 4 [x, b, r, c] _ (four_texts w2 _ _ _ _) (by simp) (by simp) (by simp) (by simp) (by
    intro q hq
    simp only [List.mem_cons, List.mem_nil_iff, or_false] at hq
    rcases hq with rfl | rfl | rfl | rfl <;> omega)).mono ?_
  rintro e w3 ⟨rfl, h3⟩
  go_wp2_with fail
  go_ret2
  refine ⟨by rw [HR.out]; rfl, ?_⟩
  have h4 := HB1.out.trans (h2.mono HB1.out.size)
  exact h4.trans ((alloc_below h3).mono h4.size)

set_option maxRecDepth 4000 in
set_option maxHeartbeats 4000000 in
theorem leaf_none (n k : Nat) (b c : ByteArray) (R : Nat → UInt8) (w : World) (hT : K.Tabs w) (hn : n < 18446744073709551616) (h : okA b.data.toList c.data.toList k = true) (h0 : c.size = 0) :
    Calls Tryd.prog 26 #[.agg (acct n b c k), .agg (K.bytesA 32 R)] w fun e w' => e = .returned (.tuple #[.string ⟨(leafL n b c R).toArray⟩, .int .i64 0]) ∧ Below w.heap.size w w' := by
  have hE : chkE b.data.toList c.data.toList k = 0 := by unfold chkE; rw [h]; rfl
  have hc := fun w => check_any n b c k w
  rw [hE] at hc
  obtain ⟨o1, o2, o3, o4⟩ := (okA_iff b c k).1 h
  have hbs := right_size o1
  have hcs : c.size ≤ 32 := by omega
  unfold acct at *
  have HC : Hid (∀ w, Calls Tryd.prog 28 #[.agg #[.int .u64 n, .string b, .string c, .int .i64 k]] w fun e w' => e = .returned (.int .i64 0) ∧ Below w.heap.size w w') := hc
  have hl1 := num_len n
  obtain ⟨x, hx⟩ : ∃ x : ByteArray, x = ⟨(num n).toArray⟩ := ⟨_, rfl⟩
  have hxs : x.size ≤ 8 := by rw [hx]; exact hl1
  have HR : Hid (leafL n b c R = listL (rowS [x, b, rootS R, rootS noneF])) := by unfold Hid leafL; rw [if_pos h0, hx]
  have HX : Hid (x = ⟨(num n).toArray⟩) := hx
  have he : c.toList.isEmpty = true := isEmpty0 c h0
  obtain ⟨rs, hrs⟩ : ∃ rs, rs = K.bytesA 32 R := ⟨_, rfl⟩
  have hsz : rs.size = 32 := by rw [hrs]; exact K.bytesA_size 32 R
  have HRS : Hid (rs = K.bytesA 32 R) := hrs
  obtain ⟨r, hr⟩ : ∃ r : ByteArray, r = rootS R := ⟨_, rfl⟩
  have hrsz : r.size = 32 := by rw [hr]; exact rootS_size R
  obtain ⟨q0, hq0⟩ : ∃ q0 : ByteArray, q0 = rootS noneF := ⟨_, rfl⟩
  have hqz : q0.size = 32 := by rw [hq0]; exact rootS_size noneF
  rw [← hr, ← hq0] at HR
  have HQ0 : Hid (q0 = rootS noneF) := hq0
  have HRR : Hid (r = rootS R) := hr
  rw [← hrs]
  obtain ⟨a, ha⟩ : ∃ a, a = w.heap.size := ⟨_, rfl⟩
  have hV1 := ((Holds.new w 33 #[.int .u64 n, .string b, .string c, .int .i64 k]).alloc (.cells rs 34))
  have hV2 := (Holds.new (w.alloc (.cells #[.int .u64 n, .string b, .string c, .int .i64 k] 33)) 34 rs)
  rw [World.size_alloc] at hV2
  rw [← ha] at hV1 hV2
  have HV : Hid (Holds _ a 33 _ ∧ Holds _ (a + 1) 34 _) := ⟨hV1, hV2⟩
  have hB0 : Below w.heap.size w ((w.alloc (.cells #[.int .u64 n, .string b, .string c, .int .i64 k] 33)).alloc (.cells rs 34)) := ((Below.refl _ _).alloc (Nat.le_refl _) _).alloc (by rw [World.size_alloc]; omega) _
  have HG : Hid (a = w.heap.size) := ha
  clear hc hE hx hl1 o1 o2 o3 o4 hrs hr hq0 hV1 hV2 ha
  go_enter Tryd.func26, Tryd.ntmps26
  go_wp2_with fail
  rw [← HG.out]
  refine (HC.out _).mono ?_
  rintro e w1 ⟨rfl, hB1⟩
  have h1 := below_holds hB1 HV.out.1
  have h2 := below_holds hB1 HV.out.2
  have hB := hB0.trans (hB1.mono hB0.size)
  clear hB0 hB1 HV
  have cc : w1.cell? ⟨a, 2, none⟩ = some (.string c) := h1.cell 2
  have hTw : K.Tabs w1 := hT.below hB
  have hzs := zeroSum4
  go_wp2_with fail
  refine (K.sumParts_any (.slice none 0 0) [] _ ⟨none, 0, rfl, fun i hi => absurd hi (by simp)⟩ hTw (by decide) (by decide)).mono ?_
  rintro e w4 ⟨rfl, hB4⟩
  replace h1 := below_holds hB4 h1
  replace h2 := below_holds hB4 h2
  replace hB := hB.trans (hB4.mono hB.size)
  clear hB4 cc hTw
  rw [show K.hashOf (K.cat []) = noneF from rfl]
  have hnz := Holds.new w4 34 (K.bytesA 32 fun _ => 0)
  have hBa := hB.alloc hB.size (.cells (K.bytesA 32 fun _ => 0) 34)
  have h1a := h1.alloc (.cells (K.bytesA 32 fun _ => 0) 34)
  have h2a := h2.alloc (.cells (K.bytesA 32 fun _ => 0) 34)
  have hle := hB.size
  have hl1 := h1.lt
  have hl2 := h2.lt
  have hin : (Tryd.prog.info? 34).map (·.size) = some (K.bytesA 32 noneF).size := by rw [K.bytesA_size]; exact infoSum
  have hzz : (K.bytesA 32 fun _ => 0).size = (K.bytesA 32 noneF).size := by rw [K.bytesA_size, K.bytesA_size]
  have hon := K.bytesA_one 32 noneF
  obtain ⟨cs, hcs⟩ : ∃ cs, K.bytesA 32 noneF = cs := ⟨_, rfl⟩
  rw [hcs] at hin hzz hon ⊢
  have HCS : Hid (K.bytesA 32 noneF = cs) := hcs
  have HZ : Hid (Holds (w4.alloc (.cells (K.bytesA 32 fun _ => 0) 34)) w4.heap.size 34 (K.bytesA 32 fun _ => 0) ∧ (K.bytesA 32 fun _ => 0).size = cs.size) := ⟨hnz, hzz⟩
  clear hcs hB h1 h2 hnz hzz
  generalize K.bytesA 32 (fun _ => 0) = zs at *
  dsimp only
  go_wp2_with (first
    | (refine wpList_storeH rfl 34 _ _ rfl w4.heap.size cs rfl rfl 34 _ HZ.out.1 hin HZ.out.2 hon ?_
       intro w6 h6 o6 z6
       have hB := Only.fresh hBa o6 hle
       have h1 := o6.holds h1a (Nat.ne_of_lt hl1)
       have h2 := o6.holds h2a (Nat.ne_of_lt hl2)
       have hcv : (convert 50 9 (.slice (some ⟨w4.heap.size, 0, none⟩) 32 32)).run Tryd.prog w6 = .ok (.string q0) w6 := by rw [← HCS.out] at h6; rw [HQ0.out]; exact convert_root h6
       clear o6 z6 hBa hle h1a h2a hl1 hl2 h6 hin hon hzs)
    | fail)
  have hcl : ∀ w', Below w6.heap.size w6 w' → w'.cell? ⟨a, 0, none⟩ = some (.int .u64 n) ∧ w'.cell? ⟨a, 1, none⟩ = some (.string b) ∧ (convert 50 9 (.slice (some ⟨a + 1, 0, none⟩) 32 32)).run Tryd.prog w' = .ok (.string r) w' := fun w' h' =>
    ⟨(below_holds h' h1).cell 0, (below_holds h' h1).cell 1, by have q := below_holds h' h2; rw [HRS.out] at q; rw [HRR.out]; exact convert_root q⟩
  have HCL : Hid (∀ w', Below w6.heap.size w6 w' → w'.cell? ⟨a, 0, none⟩ = some (.int .u64 n) ∧ w'.cell? ⟨a, 1, none⟩ = some (.string b) ∧ (convert 50 9 (.slice (some ⟨a + 1, 0, none⟩) 32 32)).run Tryd.prog w' = .ok (.string r) w') := hcl
  have HB1 : Hid (Below w.heap.size w w6) := hB
  clear hcl hB h1 h2
  refine wp_region_ctail (fun w' => Below w6.heap.size w6 w') 8 mixedP (by kernel_rfl) (below_drew1 _) ?_
  simp only [List.take_succ_cons, List.take_zero, List.drop_succ_cons, List.drop_zero]
  refine cq_val rfl (.pointer (some ⟨a, 0, none⟩)) (fun w5 h5 => by go_simp) ?_
  simp only [Act.put, List.setIfInBounds_toArray, List.set_cons_succ, List.set_cons_zero]
  refine cq_val rfl (.int .u64 n) (fun w5 h5 => by have hc := (HCL.out w5 h5).1; go_simp) ?_
  simp only [Act.put, List.setIfInBounds_toArray, List.set_cons_succ, List.set_cons_zero]
  refine cq_call rfl 39 #[.int .u64 n] (fun _ => by go_simp) (.string x) (fun w5 h5 => (number_any n w5 hn).mono fun e w6 ⟨he, h6⟩ => ⟨by rw [he, HX.out], h5.trans (h6.mono h5.size)⟩) ?_
  simp only [Act.put, List.setIfInBounds_toArray, List.set_cons_succ, List.set_cons_zero]
  refine cq_val rfl (.pointer (some ⟨a, 1, none⟩)) (fun w5 h5 => by go_simp) ?_
  simp only [Act.put, List.setIfInBounds_toArray, List.set_cons_succ, List.set_cons_zero]
  refine cq_val rfl (.string b) (fun w5 h5 => by have hc := (HCL.out w5 h5).2.1; go_simp) ?_
  simp only [Act.put, List.setIfInBounds_toArray, List.set_cons_succ, List.set_cons_zero]
  refine cq_val rfl (.slice (some ⟨a + 1, 0, none⟩) 32 32) (fun w5 h5 => by go_simp) ?_
  simp only [Act.put, List.setIfInBounds_toArray, List.set_cons_succ, List.set_cons_zero]
  refine cq_val rfl (.string r) (fun w5 h5 => by have hc := (HCL.out w5 h5).2.2; go_simp) ?_
  simp only [Act.put, List.setIfInBounds_toArray, List.set_cons_succ, List.set_cons_zero]
  refine cq_val rfl (.string q0) (fun w5 h5 => by go_simp) ?_
  simp only [Act.put, List.setIfInBounds_toArray, List.set_cons_succ, List.set_cons_zero]
  refine wpQuiet_nil ?_
  intro w2 h2
  go_wp2_with fail
  refine (slist_any w2.heap.size 4 [x, b, r, q0] _ (four_texts w2 _ _ _ _) (by simp) (by simp) (by simp) (by simp) (by
    intro q hq
    simp only [List.mem_cons, List.mem_nil_iff, or_false] at hq
    rcases hq with rfl | rfl | rfl | rfl <;> omega)).mono ?_
  rintro e w3 ⟨rfl, h3⟩
  go_wp2_with fail
  go_ret2
  refine ⟨by rw [HR.out]; rfl, ?_⟩
  have h4 := HB1.out.trans (h2.mono HB1.out.size)
  exact h4.trans ((alloc_below h3).mono h4.size)
end Go.Proofs.YtamijfdhaahalaaDoor
