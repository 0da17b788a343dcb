/-
  The chapter's examples: awake answers true.
-/
import Derived.Test.YtonmjkalkkfhhaaDAwakeP
namespace Go.Proofs.Ytonmjkalkkfhhaa
open Go Go.RowKit Go.Maps

theorem exTx : ∃ t : Tx, t.X = fillOf 1024 120 ∧ t.Y = fillOf 1024 121 ∧ t.Z = fillOf 1024 122 :=
  ⟨⟨fillOf 1024 120, fillOf 1024 121, fillOf 1024 122, fillOf_size _ _, fillOf_size _ _, fillOf_size _ _⟩, rfl, rfl, rfl⟩

theorem idx_str (x : ByteArray) (k : Nat) (c : UInt8) (hk : k < x.size) (hc : x.data.toList.getD k 0 = c) (w : World) : (Instr.index 9 (.string x) (.int .i64 (k : Int))).run Try.prog w = .ok (.int .u8 ((c.toNat : Nat) : Int)) w := by
  have h1 : (k : Int) < x.size := by omega
  have h2 : x[k] = c := by rw [← hc, List.getD_eq_getElem?_getD, List.getElem?_eq_getElem (by exact hk)]; rfl
  go_simp

set_option maxRecDepth 100000 in
set_option maxHeartbeats 4000000 in
theorem awake_any (w : World) : Calls Try.prog 9 #[] w fun e w' => e = .returned (.bool true) ∧ Below w.heap.size w w' := by
  obtain ⟨t, ht1, ht2, ht3⟩ := exTx
  have F120 : ∀ w, Calls Try.prog 29 #[.int .u8 120] w fun e w' => e = .returned (.string t.X) ∧ Below w.heap.size w w' := fun w => by rw [ht1]; exact fill_any 120 w
  have F121 : ∀ w, Calls Try.prog 29 #[.int .u8 121] w fun e w' => e = .returned (.string t.Y) ∧ Below w.heap.size w w' := fun w => by rw [ht2]; exact fill_any 121 w
  have F122 : ∀ w, Calls Try.prog 29 #[.int .u8 122] w fun e w' => e = .returned (.string t.Z) ∧ Below w.heap.size w w' := fun w => by rw [ht3]; exact fill_any 122 w
  have hA := fun j h => pT_at t ht1 ht2 j h
  have HA : Hid (∀ j, j < 1024 → (pT t).data.toList.getD j 0 = if j / 256 = 0 ∨ j / 256 = 3 then 121 else 120) := hA
  clear hA ht1 ht2 ht3
  have hXi : (t.X.size : Int) = 1024 := by rw [t.hX]; rfl
  have hTi : ((pT t).size : Int) = 1024 := by rw [pT_size]; rfl
  have hq := ptr_eql
  go_enter Try.func9, Try.ntmps9
  go_wp2_with fail
  refine (own_new 4 _).mono ?_
  rintro e w1 ⟨b, rfl, o0⟩
  go_wp2_with fail
  refine (F120 _).mono ?_
  rintro e w2 ⟨rfl, hB2⟩
  have o0' : Own w w2 b x0 := o0.below hB2
  have h1 := own_write o0' ok0 (by omega) 1 (by omega) t.X
  rw [x1_eq t] at h1
  go_wp2_with fail
  refine h1.mono ?_
  rintro e w3 ⟨rfl, o1⟩
  clear h1
  have o1' : Own w w3 b (x1 t) := by unfold x1; rw [x1_eq]; exact o1
  have h2 := own_read o1' (ok1 t) (by omega) 1 (by omega)
  rw [x2_eq t] at h2
  go_wp2_with fail
  refine h2.mono ?_
  rintro e w4 ⟨rfl, o2⟩
  clear h2
  have o2' : Own w w4 b (x2 t) := by unfold x2; rw [x2_eq]; exact o2
  have h3 := own_sync o2' (ok2 t) (by omega)
  rw [x3_eq t] at h3
  go_wp2_with fail
  refine h3.mono ?_
  rintro e w5 ⟨rfl, o3⟩
  clear h3
  go_wp2_with fail
  refine (F121 _).mono ?_
  rintro e w6 ⟨rfl, hB6⟩
  have o3' : Own w w6 b (x3 t) := by unfold x3; rw [x3_eq]; exact o3.below hB6
  have h4 := own_write o3' (ok3 t) (by omega) 1 (by omega) t.Y
  rw [x4_eq t] at h4
  go_wp2_with fail
  refine h4.mono ?_
  rintro e w7 ⟨rfl, o4⟩
  clear h4
  have o4' : Own w w7 b (x4 t) := by unfold x4; rw [x4_eq]; exact o4
  go_wp2_with fail
  have h5 := own_crash_new o4' (ok4 t) (by omega) #[.int .i64 1, .int .i64 0, .int .i64 0, .int .i64 1] 3 (l := [1, 0, 0, 1]) rfl (by decide)
  simp only [List.length_cons, List.length_nil, Nat.zero_add, Nat.reduceAdd] at h5
  refine h5.mono ?_
  rintro e w8 ⟨rfl, o5⟩
  clear h5
  have o5' : Own w w8 b (x5 t) := o5
  have h6 := own_read o5' (ok5 t) (by omega) 1 (by omega)
  rw [x6_eq t] at h6
  go_wp2_with fail
  refine h6.mono ?_
  rintro e w9 ⟨rfl, o6⟩
  clear h6
  have o6' : Own w w9 b (x6 t) := by unfold x6; rw [x6_eq]; exact o6
  clear o0 o0' o1 o1' o2 o2' o3 o3' o4 o4' o5 o5' o6
  go_wp2_with fail
  refine (own_arm o6' 1).mono ?_
  rintro e w10 ⟨rfl, o7⟩
  go_wp2_with fail
  refine (F122 _).mono ?_
  rintro e w11 ⟨rfl, hB11⟩
  have o7' : Own w w11 b (x7 t) := o7.below hB11
  have h8 := own_write o7' (ok7 t) (by omega) 2 (by omega) t.Z
  rw [(x8_eq t).1] at h8
  go_wp2_with fail
  refine h8.mono ?_
  rintro e w12 ⟨rfl, o8⟩
  clear h8
  go_wp2_with fail
  refine (F122 _).mono ?_
  rintro e w13 ⟨rfl, hB13⟩
  have o8' : Own w w13 b (x8 t) := o8.below hB13
  have h9 := own_write o8' (ok8 t) (by omega) 2 (by omega) t.Z
  rw [(x9_eq t).1] at h9
  go_wp2_with fail
  refine h9.mono ?_
  rintro e w14 ⟨rfl, o9⟩
  clear h9
  have o9' : Own w w14 b (x9 t) := o9
  have hon := own_on o9'
  rw [(x9_eq t).2.1] at hon
  simp only [Bool.not_true] at hon
  go_wp2_with fail
  refine hon.mono ?_
  rintro e w15 ⟨rfl, rfl⟩
  clear hon
  have h10 := own_crash o9' (ok9 t) (by omega) (p := none) (n := 0) (c := 0) (l := []) (.inl ⟨rfl, none, 0, rfl⟩) rfl (by omega) (by decide)
  go_wp2_with fail
  refine h10.mono ?_
  rintro e w16 ⟨rfl, o10⟩
  clear h10 o6' o7 o7' o8 o8' o9 o9'
  have o10' : Own w w16 b (x10 t) := o10
  have h11 := own_fail_new o10' #[.int .i64 2] 3 (l := [2]) rfl (by decide) (by simp)
  simp only [List.length_cons, List.length_nil, Nat.zero_add] at h11
  go_wp2_with fail
  refine h11.mono ?_
  rintro e w17 ⟨rfl, o11⟩
  clear h11
  go_wp2_with fail
  refine (F122 _).mono ?_
  rintro e w18 ⟨rfl, hB18⟩
  have o11' : Own w w18 b (x11 t) := o11.below hB18
  have h12 := own_write o11' (ok11 t) (by omega) 3 (by omega) t.Z
  rw [(x12_eq t).1] at h12
  go_wp2_with fail
  refine h12.mono ?_
  rintro e w19 ⟨rfl, o12⟩
  clear h12
  go_wp2_with fail
  refine (F122 _).mono ?_
  rintro e w20 ⟨rfl, hB20⟩
  have o12' : Own w w20 b (x12 t) := o12.below hB20
  have h13 := own_write o12' (ok12 t) (by omega) 3 (by omega) t.Z
  rw [(x13_eq t).1] at h13
  go_wp2_with fail
  refine h13.mono ?_
  rintro e w21 ⟨rfl, o13⟩
  clear h13
  go_wp2_with fail
  refine (F122 _).mono ?_
  rintro e w22 ⟨rfl, hB22⟩
  have o13' : Own w w22 b (x13 t) := o13.below hB22
  have h14 := own_write o13' (ok13 t) (by omega) 3 (by omega) t.Z
  rw [(x14_eq t).1] at h14
  go_wp2_with fail
  refine h14.mono ?_
  rintro e w23 ⟨rfl, o14⟩
  clear h14
  have o14' : Own w w23 b (x14 t) := o14
  clear o10 o10' o11 o11' o12 o12' o13 o13' o14
  have i0 : ∀ w, (Instr.index 9 (.string (pT t)) (.int .i64 0)).run Try.prog w = .ok (.int .u8 121) w := idx_str (pT t) 0 121 (by rw [pT_size]; decide) (by rw [HA.out 0 (by decide)]; rfl)
  have i1 : ∀ w, (Instr.index 9 (.string (pT t)) (.int .i64 255)).run Try.prog w = .ok (.int .u8 121) w := idx_str (pT t) 255 121 (by rw [pT_size]; decide) (by rw [HA.out 255 (by decide)]; rfl)
  have i2 : ∀ w, (Instr.index 9 (.string (pT t)) (.int .i64 256)).run Try.prog w = .ok (.int .u8 120) w := idx_str (pT t) 256 120 (by rw [pT_size]; decide) (by rw [HA.out 256 (by decide)]; rfl)
  have i3 : ∀ w, (Instr.index 9 (.string (pT t)) (.int .i64 767)).run Try.prog w = .ok (.int .u8 120) w := idx_str (pT t) 767 120 (by rw [pT_size]; decide) (by rw [HA.out 767 (by decide)]; rfl)
  have i4 : ∀ w, (Instr.index 9 (.string (pT t)) (.int .i64 768)).run Try.prog w = .ok (.int .u8 121) w := idx_str (pT t) 768 121 (by rw [pT_size]; decide) (by rw [HA.out 768 (by decide)]; rfl)
  have hpg := fun W (o : Own w W b (x14 t)) => own_pages o
  rw [(x14_eq t).2] at hpg
  generalize pT t = T at i0 i1 i2 i3 i4 hTi HA ⊢
  go_wp2_with fail
  refine (F120 _).mono ?_
  rintro e w24 ⟨rfl, hB24⟩
  have o15 := o14'.below hB24
  go_wp2_with fail
  refine (hpg _ o15).mono ?_
  rintro e w25 ⟨rfl, rfl⟩
  go_wp2_with fail
  go_ret
  exact ⟨rfl, o15.all⟩
end Go.Proofs.Ytonmjkalkkfhhaa
