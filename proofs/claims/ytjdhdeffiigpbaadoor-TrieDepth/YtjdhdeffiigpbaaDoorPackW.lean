/-
  What the calls of Pack do.
-/
import Derived.Test.YtjdhdeffiigpbaaDoorBytesW
namespace Go.Proofs.YtjdhdeffiigpbaaDoor.Nb
open Go Go.RowKit

theorem exists_list (x : ByteArray) : ∃ l : List UInt8, x = ⟨l.toArray⟩ := ⟨x.data.toList, by simp⟩
theorem extract_str (x : ByteArray) (a b : Nat) : x.extract a b = ⟨((x.data.toList.drop a).take (b - a)).toArray⟩ := by
  obtain ⟨l, rfl⟩ := exists_list x
  rw [ByteArray.extract_mk]
theorem extract_drop (x : ByteArray) (a : Nat) : x.extract a x.size = ⟨(x.data.toList.drop a).toArray⟩ := by
  rw [extract_str, List.take_of_length_le (by rw [List.length_drop, sizeB]; omega)]
theorem ofNat_toNat (n : Nat) (h : n < 256) : (UInt8.ofNat n).toNat = n := by rw [UInt8.toNat_ofNat', Nat.mod_eq_of_lt h]
theorem convert_at (w : World) (a : Int) (c : UInt8) (h : a = (c.toNat : Int)) :
    (convert 57 9 (.slice (some ⟨w.heap.size, 0, none⟩) 1 1)).run Tryd.prog (w.alloc (.cells #[.int .u8 a] 5)) = .ok (.string ⟨#[c]⟩) (w.alloc (.cells #[.int .u8 a] 5)) :=
  convert_row (l := [c]) (w := w.alloc (.cells #[.int .u8 a] 5)) (b := w.heap.size) (cap := 1) (by
    refine (World.rowIs_alloc w #[.int .u8 a] 5 (fun _ => .int .u8 a) (fun i hi => ?_)).congr fun i hi => ?_
    · have : i < 1 := hi
      have : i = 0 := by omega
      subst this; rfl
    · have : i < 1 := hi
      have : i = 0 := by omega
      subst this
      rw [h]; rfl)
theorem belowN {n : Nat} {w w' : World} (h : Below (w.drewN n).heap.size (w.drewN n) w') : Below w.heap.size w w' := ⟨h.os, h.tape, h.output, h.size, h.block⟩
theorem pck_even (l : List UInt8) (leaf : Bool) (h : l.length % 2 = 0) : pck l leaf = UInt8.ofNat (flagN leaf * 16) :: whL l := by unfold pck; rw [if_neg (by omega)]
theorem pck_odd (l : List UInt8) (leaf : Bool) (h : l.length % 2 = 1) : pck l leaf = UInt8.ofNat ((flagN leaf + 1) * 16 + (l.getD 0 0).toNat) :: whL (l.drop 1) := by unfold pck; rw [if_pos h]
theorem bytS_ok (l : List UInt8) (hr : rightL l = true) (h : l.length % 2 = 0) : bytS l = ⟨(whL l).toArray⟩ := by unfold bytS; rw [hr, h]; rfl

theorem pack_wrong (x : ByteArray) (leaf : Bool) (w : World) (hx : x.size ≤ 1000000) (hr : rightL x.data.toList = false) :
    Calls Tryd.prog 47 #[.string x, .bool leaf] w fun e w' => e = .returned (.tuple #[.string (pckS x.data.toList leaf), .int .i64 (pckE x.data.toList)]) ∧ Below w.heap.size w w' := by
  have h1 : pckS x.data.toList leaf = ⟨#[]⟩ := by unfold pckS; rw [hr]; rfl
  have h2 : pckE x.data.toList = 1 := by unfold pckE; rw [hr]; rfl
  rw [h1, h2]
  have HR : Hid (rightL x.data.toList = false) := hr
  clear h1 h2 hr
  go_enter Tryd.func47, Tryd.ntmps47
  go_wp2_with fail
  refine (right_any x _ (by omega)).mono ?_
  rintro e w1 ⟨rfl, rfl⟩
  rw [HR.out]
  go_wp2_with fail
  go_ret2
  exact ⟨rfl, Below.refl _ _⟩

set_option maxRecDepth 4000 in
theorem pack_no_even (x : ByteArray) (w : World) (hx : x.size ≤ 1000000) (hr : rightL x.data.toList = true) (ho : x.size % 2 = 0) :
    Calls Tryd.prog 47 #[.string x, .bool false] w fun e w' => e = .returned (.tuple #[.string (pckS x.data.toList false), .int .i64 (pckE x.data.toList)]) ∧ Below w.heap.size w w' := by
  have h1 : pckS x.data.toList false = ⟨(pck x.data.toList false).toArray⟩ := by unfold pckS; rw [hr]; rfl
  have h2 : pckE x.data.toList = 0 := by unfold pckE; rw [hr]; rfl
  rw [h1, h2]
  have hoi : (x.size : Int) % 2 = 0 := by omega
  have hoi' : ((x.size : Int).tmod 2) = 0 := by rw [Int.tmod_eq_emod_of_nonneg (by omega)]; omega
  have HR : Hid (rightL x.data.toList = true) := hr
  clear h1 h2
  obtain ⟨f, hf⟩ : ∃ f, f = 0 := ⟨_, rfl⟩
  have hf16 : f < 16 := by omega
  have hB0 : bytS x.data.toList = ⟨(whL x.data.toList).toArray⟩ := bytS_ok _ hr (by rw [sizeB]; exact ho)
  have hpk : pck x.data.toList false = UInt8.ofNat (0 * 16 + f) :: whL x.data.toList := by rw [pck_even _ _ (by rw [sizeB]; exact ho), hf]; rfl
  obtain ⟨B, hB⟩ : ∃ B, B = whL x.data.toList := ⟨_, rfl⟩
  have hBl : B.length ≤ 1000000 := by rw [hB, whL_len, sizeB]; omega
  rw [← hB] at hB0 hpk
  obtain ⟨c, hc⟩ : ∃ c, c = UInt8.ofNat (0 * 16 + f) := ⟨_, rfl⟩
  have hcn : c.toNat = 0 * 16 + f := by rw [hc, ofNat_toNat _ (by omega)]
  rw [← hc] at hpk
  have hap : (⟨#[c]⟩ : ByteArray) ++ ⟨B.toArray⟩ = ⟨(c :: B).toArray⟩ := ByteArray.mk_append_mk [c] B
  have hsz : (⟨B.toArray⟩ : ByteArray).size = B.length := rfl
  have hsz1 : (⟨#[c]⟩ : ByteArray).size = 1 := rfl
  have hBi : (1 : Int) + (B.length : Int) ≤ 9223372036854775807 := by omega
  have hcv := fun w => convert_at w (0) c (by rw [hcn]; omega)
  rw [hpk]
  have HB0 : Hid (bytS x.data.toList = ⟨B.toArray⟩) := hB0
  clear hB0 hpk hB hc hcn hr
  clear hf16
  subst hf
  go_enter Tryd.func47, Tryd.ntmps47
  go_wp2_with fail
  refine (right_any x _ (by omega)).mono ?_
  rintro e w1 ⟨rfl, rfl⟩
  rw [HR.out]
  go_wp2_with fail
  refine (bytes_any x _ (by omega)).mono ?_
  rintro e w2 ⟨rfl, hB2⟩
  rw [HB0.out]
  go_wp2_with fail
  have hc2 := cells2 w2 (.int .u8 0) (.int .u8 0) 5
  have hB3 : Below w1.heap.size w1 (w2.alloc (.cells #[.int .u8 0, .int .u8 0] 5)) := hB2.alloc hB2.size _
  refine (whole_any w2.heap.size 0 0 _ (by omega) (by omega) hc2.1 hc2.2).mono ?_
  clear hc2
  generalize hw3 : w2.alloc (.cells #[.int .u8 0, .int .u8 0] 5) = w3 at hB3 ⊢
  rintro e w4 ⟨rfl, rfl⟩
  rw [show ((0 * 16 + 0 : Nat) : Int) = 0 by omega]
  clear hw3
  go_wp2_with fail
  go_ret2
  exact ⟨by first | rfl | (rw [← hap]; rfl), hB3.alloc hB3.size _⟩

set_option maxRecDepth 4000 in
theorem pack_no_odd (x : ByteArray) (w : World) (hx : x.size ≤ 1000000) (hr : rightL x.data.toList = true) (ho : x.size % 2 = 1) :
    Calls Tryd.prog 47 #[.string x, .bool false] w fun e w' => e = .returned (.tuple #[.string (pckS x.data.toList false), .int .i64 (pckE x.data.toList)]) ∧ Below w.heap.size w w' := by
  have h1 : pckS x.data.toList false = ⟨(pck x.data.toList false).toArray⟩ := by unfold pckS; rw [hr]; rfl
  have h2 : pckE x.data.toList = 0 := by unfold pckE; rw [hr]; rfl
  rw [h1, h2]
  have hoi : (x.size : Int) % 2 = 1 := by omega
  have hoi' : ((x.size : Int).tmod 2) = 1 := by rw [Int.tmod_eq_emod_of_nonneg (by omega)]; omega
  have HR : Hid (rightL x.data.toList = true) := hr
  clear h1 h2
  have hp : 0 < x.size := by omega
  have hpi : (0 : Int) < x.size := by omega
  have hp1 : (1 : Int) ≤ x.size := by omega
  obtain ⟨f, hf⟩ : ∃ f, f = (x[0]).toNat := ⟨_, rfl⟩
  have hf16 : f < 16 := by have := right_at _ hr 0 hp; rw [hf, getB x 0 hp]; exact this
  obtain ⟨y, hy⟩ : ∃ y, y = x.extract 1 x.size := ⟨_, rfl⟩
  have hyl : y.data.toList = x.data.toList.drop 1 := by rw [hy, extract_drop]
  have hys : y.size ≤ 1000000 := by rw [← sizeB, hyl, List.length_drop, sizeB]; omega
  have hB0 : bytS y.data.toList = ⟨(whL (x.data.toList.drop 1)).toArray⟩ := by rw [hyl]; exact bytS_ok _ (right_drop _ 1 hr) (by rw [List.length_drop, sizeB]; omega)
  have hpk : pck x.data.toList false = UInt8.ofNat (1 * 16 + f) :: whL (x.data.toList.drop 1) := by rw [pck_odd _ _ (by rw [sizeB]; exact ho), getDB x 0 hp, hf]; rfl
  obtain ⟨B, hB⟩ : ∃ B, B = whL (x.data.toList.drop 1) := ⟨_, rfl⟩
  have hBl : B.length ≤ 1000000 := by rw [hB, whL_len, List.length_drop, sizeB]; omega
  rw [← hB] at hB0 hpk
  obtain ⟨c, hc⟩ : ∃ c, c = UInt8.ofNat (1 * 16 + f) := ⟨_, rfl⟩
  have hcn : c.toNat = 1 * 16 + f := by rw [hc, ofNat_toNat _ (by omega)]
  rw [← hc] at hpk
  have hap : (⟨#[c]⟩ : ByteArray) ++ ⟨B.toArray⟩ = ⟨(c :: B).toArray⟩ := ByteArray.mk_append_mk [c] B
  have hsz : (⟨B.toArray⟩ : ByteArray).size = B.length := rfl
  have hsz1 : (⟨#[c]⟩ : ByteArray).size = 1 := rfl
  have hBi : (1 : Int) + (B.length : Int) ≤ 9223372036854775807 := by omega
  have hcv := fun w => convert_at w (16 + (f : Int)) c (by rw [hcn]; omega)
  rw [hpk]
  have HB0 : Hid (bytS y.data.toList = ⟨B.toArray⟩) := hB0
  clear hB0 hpk hB hc hcn hr
  have HF : Hid ((x[0]).toNat = f) := hf.symm
  have HY : Hid (x.extract 1 x.size = y) := hy.symm
  have hf0 : ((x[0]).toNat : Int) = f := by omega
  have hy0 := hy.symm
  clear hf hyl hy
  go_enter Tryd.func47, Tryd.ntmps47
  go_wp2_with fail
  refine (right_any x _ (by omega)).mono ?_
  rintro e w1 ⟨rfl, rfl⟩
  rw [HR.out]
  go_wp2_with fail
  go_quiet (fail)
  go_wp2_with fail
  refine (bytes_any y _ (by omega)).mono ?_
  rintro e w2 ⟨rfl, hB2⟩
  rw [HB0.out]
  go_wp2_with fail
  rw [show bits BinOp.or IntKind.u8 0 1 = ((1 : Nat) : Int) from by decide]
  have hc2 := cells2 w2 (.int .u8 (1 : Nat)) (.int .u8 (f : Nat)) 5
  have hB3 : Below w1.heap.size w1 (w2.alloc (.cells #[.int .u8 (1 : Nat), .int .u8 (f : Nat)] 5)) := (belowN hB2).alloc (belowN hB2).size _
  refine (whole_any w2.heap.size 1 f _ (by omega) (by omega) hc2.1 hc2.2).mono ?_
  clear hc2
  generalize hw3 : w2.alloc (.cells #[.int .u8 (1 : Nat), .int .u8 (f : Nat)] 5) = w3 at hB3 ⊢
  rintro e w4 ⟨rfl, rfl⟩
  rw [show ((1 * 16 + f : Nat) : Int) = 16 + (f : Int) by omega]
  clear hw3
  go_wp2_with fail
  go_ret2
  exact ⟨by first | rfl | (rw [← hap]; rfl), hB3.alloc hB3.size _⟩

set_option maxRecDepth 4000 in
theorem pack_leaf_even (x : ByteArray) (w : World) (hx : x.size ≤ 1000000) (hr : rightL x.data.toList = true) (ho : x.size % 2 = 0) :
    Calls Tryd.prog 47 #[.string x, .bool true] w fun e w' => e = .returned (.tuple #[.string (pckS x.data.toList true), .int .i64 (pckE x.data.toList)]) ∧ Below w.heap.size w w' := by
  have h1 : pckS x.data.toList true = ⟨(pck x.data.toList true).toArray⟩ := by unfold pckS; rw [hr]; rfl
  have h2 : pckE x.data.toList = 0 := by unfold pckE; rw [hr]; rfl
  rw [h1, h2]
  have hoi : (x.size : Int) % 2 = 0 := by omega
  have hoi' : ((x.size : Int).tmod 2) = 0 := by rw [Int.tmod_eq_emod_of_nonneg (by omega)]; omega
  have HR : Hid (rightL x.data.toList = true) := hr
  clear h1 h2
  obtain ⟨f, hf⟩ : ∃ f, f = 0 := ⟨_, rfl⟩
  have hf16 : f < 16 := by omega
  have hB0 : bytS x.data.toList = ⟨(whL x.data.toList).toArray⟩ := bytS_ok _ hr (by rw [sizeB]; exact ho)
  have hpk : pck x.data.toList true = UInt8.ofNat (2 * 16 + f) :: whL x.data.toList := by rw [pck_even _ _ (by rw [sizeB]; exact ho), hf]; rfl
  obtain ⟨B, hB⟩ : ∃ B, B = whL x.data.toList := ⟨_, rfl⟩
  have hBl : B.length ≤ 1000000 := by rw [hB, whL_len, sizeB]; omega
  rw [← hB] at hB0 hpk
  obtain ⟨c, hc⟩ : ∃ c, c = UInt8.ofNat (2 * 16 + f) := ⟨_, rfl⟩
  have hcn : c.toNat = 2 * 16 + f := by rw [hc, ofNat_toNat _ (by omega)]
  rw [← hc] at hpk
  have hap : (⟨#[c]⟩ : ByteArray) ++ ⟨B.toArray⟩ = ⟨(c :: B).toArray⟩ := ByteArray.mk_append_mk [c] B
  have hsz : (⟨B.toArray⟩ : ByteArray).size = B.length := rfl
  have hsz1 : (⟨#[c]⟩ : ByteArray).size = 1 := rfl
  have hBi : (1 : Int) + (B.length : Int) ≤ 9223372036854775807 := by omega
  have hcv := fun w => convert_at w (32) c (by rw [hcn]; omega)
  rw [hpk]
  have HB0 : Hid (bytS x.data.toList = ⟨B.toArray⟩) := hB0
  clear hB0 hpk hB hc hcn hr
  clear hf16
  subst hf
  go_enter Tryd.func47, Tryd.ntmps47
  go_wp2_with fail
  refine (right_any x _ (by omega)).mono ?_
  rintro e w1 ⟨rfl, rfl⟩
  rw [HR.out]
  go_wp2_with fail
  refine (bytes_any x _ (by omega)).mono ?_
  rintro e w2 ⟨rfl, hB2⟩
  rw [HB0.out]
  go_wp2_with fail
  have hc2 := cells2 w2 (.int .u8 2) (.int .u8 0) 5
  have hB3 : Below w1.heap.size w1 (w2.alloc (.cells #[.int .u8 2, .int .u8 0] 5)) := hB2.alloc hB2.size _
  refine (whole_any w2.heap.size 2 0 _ (by omega) (by omega) hc2.1 hc2.2).mono ?_
  clear hc2
  generalize hw3 : w2.alloc (.cells #[.int .u8 2, .int .u8 0] 5) = w3 at hB3 ⊢
  rintro e w4 ⟨rfl, rfl⟩
  rw [show ((2 * 16 + 0 : Nat) : Int) = 32 by omega]
  clear hw3
  go_wp2_with fail
  go_ret2
  exact ⟨by first | rfl | (rw [← hap]; rfl), hB3.alloc hB3.size _⟩

set_option maxRecDepth 4000 in
theorem pack_leaf_odd (x : ByteArray) (w : World) (hx : x.size ≤ 1000000) (hr : rightL x.data.toList = true) (ho : x.size % 2 = 1) :
    Calls Tryd.prog 47 #[.string x, .bool true] w fun e w' => e = .returned (.tuple #[.string (pckS x.data.toList true), .int .i64 (pckE x.data.toList)]) ∧ Below w.heap.size w w' := by
  have h1 : pckS x.data.toList true = ⟨(pck x.data.toList true).toArray⟩ := by unfold pckS; rw [hr]; rfl
  have h2 : pckE x.data.toList = 0 := by unfold pckE; rw [hr]; rfl
  rw [h1, h2]
  have hoi : (x.size : Int) % 2 = 1 := by omega
  have hoi' : ((x.size : Int).tmod 2) = 1 := by rw [Int.tmod_eq_emod_of_nonneg (by omega)]; omega
  have HR : Hid (rightL x.data.toList = true) := hr
  clear h1 h2
  have hp : 0 < x.size := by omega
  have hpi : (0 : Int) < x.size := by omega
  have hp1 : (1 : Int) ≤ x.size := by omega
  obtain ⟨f, hf⟩ : ∃ f, f = (x[0]).toNat := ⟨_, rfl⟩
  have hf16 : f < 16 := by have := right_at _ hr 0 hp; rw [hf, getB x 0 hp]; exact this
  obtain ⟨y, hy⟩ : ∃ y, y = x.extract 1 x.size := ⟨_, rfl⟩
  have hyl : y.data.toList = x.data.toList.drop 1 := by rw [hy, extract_drop]
  have hys : y.size ≤ 1000000 := by rw [← sizeB, hyl, List.length_drop, sizeB]; omega
  have hB0 : bytS y.data.toList = ⟨(whL (x.data.toList.drop 1)).toArray⟩ := by rw [hyl]; exact bytS_ok _ (right_drop _ 1 hr) (by rw [List.length_drop, sizeB]; omega)
  have hpk : pck x.data.toList true = UInt8.ofNat (3 * 16 + f) :: whL (x.data.toList.drop 1) := by rw [pck_odd _ _ (by rw [sizeB]; exact ho), getDB x 0 hp, hf]; rfl
  obtain ⟨B, hB⟩ : ∃ B, B = whL (x.data.toList.drop 1) := ⟨_, rfl⟩
  have hBl : B.length ≤ 1000000 := by rw [hB, whL_len, List.length_drop, sizeB]; omega
  rw [← hB] at hB0 hpk
  obtain ⟨c, hc⟩ : ∃ c, c = UInt8.ofNat (3 * 16 + f) := ⟨_, rfl⟩
  have hcn : c.toNat = 3 * 16 + f := by rw [hc, ofNat_toNat _ (by omega)]
  rw [← hc] at hpk
  have hap : (⟨#[c]⟩ : ByteArray) ++ ⟨B.toArray⟩ = ⟨(c :: B).toArray⟩ := ByteArray.mk_append_mk [c] B
  have hsz : (⟨B.toArray⟩ : ByteArray).size = B.length := rfl
  have hsz1 : (⟨#[c]⟩ : ByteArray).size = 1 := rfl
  have hBi : (1 : Int) + (B.length : Int) ≤ 9223372036854775807 := by omega
  have hcv := fun w => convert_at w (48 + (f : Int)) c (by rw [hcn]; omega)
  rw [hpk]
  have HB0 : Hid (bytS y.data.toList = ⟨B.toArray⟩) := hB0
  clear hB0 hpk hB hc hcn hr
  have HF : Hid ((x[0]).toNat = f) := hf.symm
  have HY : Hid (x.extract 1 x.size = y) := hy.symm
  have hf0 : ((x[0]).toNat : Int) = f := by omega
  have hy0 := hy.symm
  clear hf hyl hy
  go_enter Tryd.func47, Tryd.ntmps47
  go_wp2_with fail
  refine (right_any x _ (by omega)).mono ?_
  rintro e w1 ⟨rfl, rfl⟩
  rw [HR.out]
  go_wp2_with fail
  go_quiet (fail)
  go_wp2_with fail
  refine (bytes_any y _ (by omega)).mono ?_
  rintro e w2 ⟨rfl, hB2⟩
  rw [HB0.out]
  go_wp2_with fail
  rw [show bits BinOp.or IntKind.u8 2 1 = ((3 : Nat) : Int) from by decide]
  have hc2 := cells2 w2 (.int .u8 (3 : Nat)) (.int .u8 (f : Nat)) 5
  have hB3 : Below w1.heap.size w1 (w2.alloc (.cells #[.int .u8 (3 : Nat), .int .u8 (f : Nat)] 5)) := (belowN hB2).alloc (belowN hB2).size _
  refine (whole_any w2.heap.size 3 f _ (by omega) (by omega) hc2.1 hc2.2).mono ?_
  clear hc2
  generalize hw3 : w2.alloc (.cells #[.int .u8 (3 : Nat), .int .u8 (f : Nat)] 5) = w3 at hB3 ⊢
  rintro e w4 ⟨rfl, rfl⟩
  rw [show ((3 * 16 + f : Nat) : Int) = 48 + (f : Int) by omega]
  clear hw3
  go_wp2_with fail
  go_ret2
  exact ⟨by first | rfl | (rw [← hap]; rfl), hB3.alloc hB3.size _⟩

theorem pack_any (x : ByteArray) (leaf : Bool) (w : World) (hx : x.size ≤ 1000000) :
    Calls Tryd.prog 47 #[.string x, .bool leaf] w fun e w' => e = .returned (.tuple #[.string (pckS x.data.toList leaf), .int .i64 (pckE x.data.toList)]) ∧ Below w.heap.size w w' := by
  cases hr : rightL x.data.toList with
  | false => exact pack_wrong x leaf w hx hr
  | true =>
    cases leaf with
    | false =>
      by_cases ho : x.size % 2 = 0
      · exact pack_no_even x w hx hr ho
      · exact pack_no_odd x w hx hr (by omega)
    | true =>
      by_cases ho : x.size % 2 = 0
      · exact pack_leaf_even x w hx hr ho
      · exact pack_leaf_odd x w hx hr (by omega)
end Go.Proofs.YtjdhdeffiigpbaaDoor.Nb
