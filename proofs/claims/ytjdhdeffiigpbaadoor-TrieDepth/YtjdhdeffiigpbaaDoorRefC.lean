/-
  What the document's Pack and Next do.
-/
import Derived.Test.YtjdhdeffiigpbaaDoorRefB
namespace Go.Proofs.YtjdhdeffiigpbaaDoor.Nb
open Go Go.RowKit

theorem conv_kept {w w3 : World} {a : Int} {c : UInt8} (h : a = (c.toNat : Int)) (hB : Below (w.alloc (.cells #[.int .u8 a] 5)).heap.size (w.alloc (.cells #[.int .u8 a] 5)) w3) :
    (convert 57 9 (.slice (some ⟨w.heap.size, 0, none⟩) 1 1)).run Tryd.prog w3 = .ok (.string ⟨#[c]⟩) w3 :=
  convert_row (l := [c]) (w := w3) (b := w.heap.size) (cap := 1) (by
    have h0 := (World.rowIs_alloc w #[.int .u8 a] 5 (fun _ => .int .u8 a) (fun i hi => by
      have : i < 1 := hi
      have : i = 0 := by omega
      subst this; rfl))
    refine (h0.of_block (hB.block _ h0.lt)).congr fun i hi => ?_
    have : i < 1 := hi
    have : i = 0 := by omega
    subst this
    rw [h]; rfl)
theorem rpack_wrong (x : ByteArray) (leaf : Bool) (w : World) (hx : x.size ≤ 1000000) (hr : rightL x.data.toList = false) :
    Calls Tryd.prog 28 #[.string x, .bool leaf] w fun e w' => e = .returned (.tuple #[.string (pckS x.data.toList leaf), .int .i64 (pckE x.data.toList)]) ∧ Below w.heap.size w w' := by
  have h1 : pckS x.data.toList leaf = ⟨#[]⟩ := by unfold pckS; rw [hr]; rfl
  have h2 : pckE x.data.toList = 1 := by unfold pckE; rw [hr]; rfl
  rw [h1, h2]
  have HR : Hid (rightL x.data.toList = false) := hr
  clear h1 h2 hr
  go_enter Tryd.func28, Tryd.ntmps28
  go_wp2_with fail
  refine (refRight_any x _ (by omega)).mono ?_
  rintro e w1 ⟨rfl, rfl⟩
  rw [HR.out]
  go_wp2_with fail
  go_ret2
  exact ⟨rfl, Below.refl _ _⟩

set_option maxRecDepth 4000 in
theorem rpack_no_even (x : ByteArray) (w : World) (hx : x.size ≤ 1000000) (hr : rightL x.data.toList = true) (ho : x.size % 2 = 0) :
    Calls Tryd.prog 28 #[.string x, .bool false] w fun e w' => e = .returned (.tuple #[.string (pckS x.data.toList false), .int .i64 (pckE x.data.toList)]) ∧ Below w.heap.size w w' := by
  have h1 : pckS x.data.toList false = ⟨(pck x.data.toList false).toArray⟩ := by unfold pckS; rw [hr]; rfl
  have h2 : pckE x.data.toList = 0 := by unfold pckE; rw [hr]; rfl
  rw [h1, h2]
  have hoi : (x.size : Int) % 2 = 0 := by omega
  have hoi' : ((x.size : Int).tmod 2) = 0 := by rw [Int.tmod_eq_emod_of_nonneg (by omega)]; omega
  have HR : Hid (rightL x.data.toList = true) := hr
  clear h1 h2
  obtain ⟨f, hf⟩ : ∃ f, f = 0 := ⟨_, rfl⟩
  have hf16 : f < 16 := by omega
  have hB0 : bytS x.data.toList = ⟨(whL x.data.toList).toArray⟩ := bytS_ok _ hr (by rw [sizeB]; exact ho)
  have hpk : pck x.data.toList false = UInt8.ofNat (0 * 16 + f) :: whL x.data.toList := by rw [pck_even _ _ (by rw [sizeB]; exact ho), hf]; rfl
  obtain ⟨B, hB⟩ : ∃ B, B = whL x.data.toList := ⟨_, rfl⟩
  have hBl : B.length ≤ 1000000 := by rw [hB, whL_len, sizeB]; omega
  rw [← hB] at hB0 hpk
  obtain ⟨c, hc⟩ : ∃ c, c = UInt8.ofNat (0 * 16 + f) := ⟨_, rfl⟩
  have hcn : c.toNat = 0 * 16 + f := by rw [hc, ofNat_toNat _ (by omega)]
  rw [← hc] at hpk
  have hap : (⟨#[c]⟩ : ByteArray) ++ ⟨B.toArray⟩ = ⟨(c :: B).toArray⟩ := ByteArray.mk_append_mk [c] B
  have hsz : (⟨B.toArray⟩ : ByteArray).size = B.length := rfl
  have hsz1 : (⟨#[c]⟩ : ByteArray).size = 1 := rfl
  have hBi : (1 : Int) + (B.length : Int) ≤ 9223372036854775807 := by omega
  have HV : Hid ((0 : Int) = (c.toNat : Int)) := by simp only [Hid]; rw [hcn]; omega
  rw [hpk]
  have HB0 : Hid (bytS x.data.toList = ⟨B.toArray⟩) := hB0
  clear hB0 hpk hB hc hcn hr
  clear hf16
  subst hf
  go_enter Tryd.func28, Tryd.ntmps28
  go_wp2_with fail
  refine (refRight_any x _ (by omega)).mono ?_
  rintro e w1 ⟨rfl, rfl⟩
  rw [HR.out]
  go_wp2_with fail
  have hB0 : Below w1.heap.size w1 (w1.alloc (.cells #[.int .u8 (0)] 5)) := (Below.refl _ _).alloc (Nat.le_refl _) _
  refine (refBytes_any x _ (by omega)).mono ?_
  rintro e w3 ⟨rfl, h3⟩
  rw [HB0.out]
  have hcv := conv_kept HV.out h3
  have hB3 := hB0.trans (h3.mono hB0.size)
  clear h3 hB0
  go_wp2_with fail
  go_ret2
  exact ⟨by first | rfl | (rw [← hap]; rfl), hB3⟩

set_option maxRecDepth 4000 in
theorem rpack_no_odd (x : ByteArray) (w : World) (hx : x.size ≤ 1000000) (hr : rightL x.data.toList = true) (ho : x.size % 2 = 1) :
    Calls Tryd.prog 28 #[.string x, .bool false] w fun e w' => e = .returned (.tuple #[.string (pckS x.data.toList false), .int .i64 (pckE x.data.toList)]) ∧ Below w.heap.size w w' := by
  have h1 : pckS x.data.toList false = ⟨(pck x.data.toList false).toArray⟩ := by unfold pckS; rw [hr]; rfl
  have h2 : pckE x.data.toList = 0 := by unfold pckE; rw [hr]; rfl
  rw [h1, h2]
  have hoi : (x.size : Int) % 2 = 1 := by omega
  have hoi' : ((x.size : Int).tmod 2) = 1 := by rw [Int.tmod_eq_emod_of_nonneg (by omega)]; omega
  have HR : Hid (rightL x.data.toList = true) := hr
  clear h1 h2
  have hp : 0 < x.size := by omega
  have hpi : (0 : Int) < x.size := by omega
  have hp1 : (1 : Int) ≤ x.size := by omega
  obtain ⟨f, hf⟩ : ∃ f, f = (x[0]).toNat := ⟨_, rfl⟩
  have hf16 : f < 16 := by have := right_at _ hr 0 hp; rw [hf, getB x 0 hp]; exact this
  obtain ⟨y, hy⟩ : ∃ y, y = x.extract 1 x.size := ⟨_, rfl⟩
  have hyl : y.data.toList = x.data.toList.drop 1 := by rw [hy, extract_drop]
  have hys : y.size ≤ 1000000 := by rw [← sizeB, hyl, List.length_drop, sizeB]; omega
  have hB0 : bytS y.data.toList = ⟨(whL (x.data.toList.drop 1)).toArray⟩ := by rw [hyl]; exact bytS_ok _ (right_drop _ 1 hr) (by rw [List.length_drop, sizeB]; omega)
  have hpk : pck x.data.toList false = UInt8.ofNat (1 * 16 + f) :: whL (x.data.toList.drop 1) := by rw [pck_odd _ _ (by rw [sizeB]; exact ho), getDB x 0 hp, hf]; rfl
  obtain ⟨B, hB⟩ : ∃ B, B = whL (x.data.toList.drop 1) := ⟨_, rfl⟩
  have hBl : B.length ≤ 1000000 := by rw [hB, whL_len, List.length_drop, sizeB]; omega
  rw [← hB] at hB0 hpk
  obtain ⟨c, hc⟩ : ∃ c, c = UInt8.ofNat (1 * 16 + f) := ⟨_, rfl⟩
  have hcn : c.toNat = 1 * 16 + f := by rw [hc, ofNat_toNat _ (by omega)]
  rw [← hc] at hpk
  have hap : (⟨#[c]⟩ : ByteArray) ++ ⟨B.toArray⟩ = ⟨(c :: B).toArray⟩ := ByteArray.mk_append_mk [c] B
  have hsz : (⟨B.toArray⟩ : ByteArray).size = B.length := rfl
  have hsz1 : (⟨#[c]⟩ : ByteArray).size = 1 := rfl
  have hBi : (1 : Int) + (B.length : Int) ≤ 9223372036854775807 := by omega
  have HV : Hid ((16 + (f : Int) : Int) = (c.toNat : Int)) := by simp only [Hid]; rw [hcn]; omega
  rw [hpk]
  have HB0 : Hid (bytS y.data.toList = ⟨B.toArray⟩) := hB0
  clear hB0 hpk hB hc hcn hr
  have HF : Hid ((x[0]).toNat = f) := hf.symm
  have HY : Hid (x.extract 1 x.size = y) := hy.symm
  have hf0 : ((x[0]).toNat : Int) = f := by omega
  have hy0 := hy.symm
  clear hf hyl hy
  go_enter Tryd.func28, Tryd.ntmps28
  go_wp2_with fail
  refine (refRight_any x _ (by omega)).mono ?_
  rintro e w1 ⟨rfl, rfl⟩
  rw [HR.out]
  go_wp2_with fail
  have hB0 : Below w1.heap.size w1 (w1.alloc (.cells #[.int .u8 (16 + (f : Int))] 5)) := (Below.refl _ _).alloc (Nat.le_refl _) _
  refine (refBytes_any y _ (by omega)).mono ?_
  rintro e w3 ⟨rfl, h3⟩
  rw [HB0.out]
  have hcv := conv_kept HV.out h3
  have hB3 := hB0.trans (h3.mono hB0.size)
  clear h3 hB0
  go_wp2_with fail
  go_ret2
  exact ⟨by first | rfl | (rw [← hap]; rfl), hB3⟩

set_option maxRecDepth 4000 in
theorem rpack_leaf_even (x : ByteArray) (w : World) (hx : x.size ≤ 1000000) (hr : rightL x.data.toList = true) (ho : x.size % 2 = 0) :
    Calls Tryd.prog 28 #[.string x, .bool true] w fun e w' => e = .returned (.tuple #[.string (pckS x.data.toList true), .int .i64 (pckE x.data.toList)]) ∧ Below w.heap.size w w' := by
  have h1 : pckS x.data.toList true = ⟨(pck x.data.toList true).toArray⟩ := by unfold pckS; rw [hr]; rfl
  have h2 : pckE x.data.toList = 0 := by unfold pckE; rw [hr]; rfl
  rw [h1, h2]
  have hoi : (x.size : Int) % 2 = 0 := by omega
  have hoi' : ((x.size : Int).tmod 2) = 0 := by rw [Int.tmod_eq_emod_of_nonneg (by omega)]; omega
  have HR : Hid (rightL x.data.toList = true) := hr
  clear h1 h2
  obtain ⟨f, hf⟩ : ∃ f, f = 0 := ⟨_, rfl⟩
  have hf16 : f < 16 := by omega
  have hB0 : bytS x.data.toList = ⟨(whL x.data.toList).toArray⟩ := bytS_ok _ hr (by rw [sizeB]; exact ho)
  have hpk : pck x.data.toList true = UInt8.ofNat (2 * 16 + f) :: whL x.data.toList := by rw [pck_even _ _ (by rw [sizeB]; exact ho), hf]; rfl
  obtain ⟨B, hB⟩ : ∃ B, B = whL x.data.toList := ⟨_, rfl⟩
  have hBl : B.length ≤ 1000000 := by rw [hB, whL_len, sizeB]; omega
  rw [← hB] at hB0 hpk
  obtain ⟨c, hc⟩ : ∃ c, c = UInt8.ofNat (2 * 16 + f) := ⟨_, rfl⟩
  have hcn : c.toNat = 2 * 16 + f := by rw [hc, ofNat_toNat _ (by omega)]
  rw [← hc] at hpk
  have hap : (⟨#[c]⟩ : ByteArray) ++ ⟨B.toArray⟩ = ⟨(c :: B).toArray⟩ := ByteArray.mk_append_mk [c] B
  have hsz : (⟨B.toArray⟩ : ByteArray).size = B.length := rfl
  have hsz1 : (⟨#[c]⟩ : ByteArray).size = 1 := rfl
  have hBi : (1 : Int) + (B.length : Int) ≤ 9223372036854775807 := by omega
  have HV : Hid ((32 : Int) = (c.toNat : Int)) := by simp only [Hid]; rw [hcn]; omega
  rw [hpk]
  have HB0 : Hid (bytS x.data.toList = ⟨B.toArray⟩) := hB0
  clear hB0 hpk hB hc hcn hr
  clear hf16
  subst hf
  go_enter Tryd.func28, Tryd.ntmps28
  go_wp2_with fail
  refine (refRight_any x _ (by omega)).mono ?_
  rintro e w1 ⟨rfl, rfl⟩
  rw [HR.out]
  go_wp2_with fail
  have hB0 : Below w1.heap.size w1 (w1.alloc (.cells #[.int .u8 (32)] 5)) := (Below.refl _ _).alloc (Nat.le_refl _) _
  refine (refBytes_any x _ (by omega)).mono ?_
  rintro e w3 ⟨rfl, h3⟩
  rw [HB0.out]
  have hcv := conv_kept HV.out h3
  have hB3 := hB0.trans (h3.mono hB0.size)
  clear h3 hB0
  go_wp2_with fail
  go_ret2
  exact ⟨by first | rfl | (rw [← hap]; rfl), hB3⟩

set_option maxRecDepth 4000 in
theorem rpack_leaf_odd (x : ByteArray) (w : World) (hx : x.size ≤ 1000000) (hr : rightL x.data.toList = true) (ho : x.size % 2 = 1) :
    Calls Tryd.prog 28 #[.string x, .bool true] w fun e w' => e = .returned (.tuple #[.string (pckS x.data.toList true), .int .i64 (pckE x.data.toList)]) ∧ Below w.heap.size w w' := by
  have h1 : pckS x.data.toList true = ⟨(pck x.data.toList true).toArray⟩ := by unfold pckS; rw [hr]; rfl
  have h2 : pckE x.data.toList = 0 := by unfold pckE; rw [hr]; rfl
  rw [h1, h2]
  have hoi : (x.size : Int) % 2 = 1 := by omega
  have hoi' : ((x.size : Int).tmod 2) = 1 := by rw [Int.tmod_eq_emod_of_nonneg (by omega)]; omega
  have HR : Hid (rightL x.data.toList = true) := hr
  clear h1 h2
  have hp : 0 < x.size := by omega
  have hpi : (0 : Int) < x.size := by omega
  have hp1 : (1 : Int) ≤ x.size := by omega
  obtain ⟨f, hf⟩ : ∃ f, f = (x[0]).toNat := ⟨_, rfl⟩
  have hf16 : f < 16 := by have := right_at _ hr 0 hp; rw [hf, getB x 0 hp]; exact this
  obtain ⟨y, hy⟩ : ∃ y, y = x.extract 1 x.size := ⟨_, rfl⟩
  have hyl : y.data.toList = x.data.toList.drop 1 := by rw [hy, extract_drop]
  have hys : y.size ≤ 1000000 := by rw [← sizeB, hyl, List.length_drop, sizeB]; omega
  have hB0 : bytS y.data.toList = ⟨(whL (x.data.toList.drop 1)).toArray⟩ := by rw [hyl]; exact bytS_ok _ (right_drop _ 1 hr) (by rw [List.length_drop, sizeB]; omega)
  have hpk : pck x.data.toList true = UInt8.ofNat (3 * 16 + f) :: whL (x.data.toList.drop 1) := by rw [pck_odd _ _ (by rw [sizeB]; exact ho), getDB x 0 hp, hf]; rfl
  obtain ⟨B, hB⟩ : ∃ B, B = whL (x.data.toList.drop 1) := ⟨_, rfl⟩
  have hBl : B.length ≤ 1000000 := by rw [hB, whL_len, List.length_drop, sizeB]; omega
  rw [← hB] at hB0 hpk
  obtain ⟨c, hc⟩ : ∃ c, c = UInt8.ofNat (3 * 16 + f) := ⟨_, rfl⟩
  have hcn : c.toNat = 3 * 16 + f := by rw [hc, ofNat_toNat _ (by omega)]
  rw [← hc] at hpk
  have hap : (⟨#[c]⟩ : ByteArray) ++ ⟨B.toArray⟩ = ⟨(c :: B).toArray⟩ := ByteArray.mk_append_mk [c] B
  have hsz : (⟨B.toArray⟩ : ByteArray).size = B.length := rfl
  have hsz1 : (⟨#[c]⟩ : ByteArray).size = 1 := rfl
  have hBi : (1 : Int) + (B.length : Int) ≤ 9223372036854775807 := by omega
  have HV : Hid ((48 + (f : Int) : Int) = (c.toNat : Int)) := by simp only [Hid]; rw [hcn]; omega
  rw [hpk]
  have HB0 : Hid (bytS y.data.toList = ⟨B.toArray⟩) := hB0
  clear hB0 hpk hB hc hcn hr
  have HF : Hid ((x[0]).toNat = f) := hf.symm
  have HY : Hid (x.extract 1 x.size = y) := hy.symm
  have hf0 : ((x[0]).toNat : Int) = f := by omega
  have hy0 := hy.symm
  clear hf hyl hy
  go_enter Tryd.func28, Tryd.ntmps28
  go_wp2_with fail
  refine (refRight_any x _ (by omega)).mono ?_
  rintro e w1 ⟨rfl, rfl⟩
  rw [HR.out]
  go_wp2_with fail
  have hB0 : Below w1.heap.size w1 (w1.alloc (.cells #[.int .u8 (48 + (f : Int))] 5)) := (Below.refl _ _).alloc (Nat.le_refl _) _
  refine (refBytes_any y _ (by omega)).mono ?_
  rintro e w3 ⟨rfl, h3⟩
  rw [HB0.out]
  have hcv := conv_kept HV.out h3
  have hB3 := hB0.trans (h3.mono hB0.size)
  clear h3 hB0
  go_wp2_with fail
  go_ret2
  exact ⟨by first | rfl | (rw [← hap]; rfl), hB3⟩

theorem rpack_any (x : ByteArray) (leaf : Bool) (w : World) (hx : x.size ≤ 1000000) :
    Calls Tryd.prog 28 #[.string x, .bool leaf] w fun e w' => e = .returned (.tuple #[.string (pckS x.data.toList leaf), .int .i64 (pckE x.data.toList)]) ∧ Below w.heap.size w w' := by
  cases hr : rightL x.data.toList with
  | false => exact rpack_wrong x leaf w hx hr
  | true =>
    cases leaf with
    | false =>
      by_cases ho : x.size % 2 = 0
      · exact rpack_no_even x w hx hr ho
      · exact rpack_no_odd x w hx hr (by omega)
    | true =>
      by_cases ho : x.size % 2 = 0
      · exact rpack_leaf_even x w hx hr ho
      · exact rpack_leaf_odd x w hx hr (by omega)

def strLen : Value → Nat
  | .string x => x.size
  | _ => 0
end Go.Proofs.YtjdhdeffiigpbaaDoor.Nb
