/-
  The answers that the document fixes: awake is true.
-/
import Derived.Test.YtkkjkanlaldhcaaUnpackW
namespace Go.Proofs.Ytkkjkanlaldhcaa
open Go Go.RowKit

theorem ak1 : pckS (⟨#[1, 2, 3, 4, 5]⟩ : ByteArray).data.toList false = ⟨#[17, 35, 69]⟩ := by kernel_rfl
theorem ak1e : pckE (⟨#[1, 2, 3, 4, 5]⟩ : ByteArray).data.toList = 0 := by kernel_rfl
theorem ak2 : pckS (⟨#[15, 1, 12, 11, 8]⟩ : ByteArray).data.toList true = ⟨#[63, 28, 184]⟩ := by kernel_rfl
theorem ak2e : pckE (⟨#[15, 1, 12, 11, 8]⟩ : ByteArray).data.toList = 0 := by kernel_rfl
theorem ak3 : unpS (⟨#[32, 15, 28, 184]⟩ : ByteArray).data.toList = ⟨#[0, 15, 1, 12, 11, 8]⟩ := by kernel_rfl
theorem ak3b : unpB (⟨#[32, 15, 28, 184]⟩ : ByteArray).data.toList = true := by kernel_rfl
theorem ak3e : unpE (⟨#[32, 15, 28, 184]⟩ : ByteArray).data.toList = 0 := by kernel_rfl
theorem ak4 : nxtS (⟨#[1, 2, 15]⟩ : ByteArray).data.toList = ⟨#[1, 3]⟩ := by kernel_rfl
theorem ak4b : nxtB (⟨#[1, 2, 15]⟩ : ByteArray).data.toList = true := by kernel_rfl
theorem ak5 : nxtS (⟨#[15]⟩ : ByteArray).data.toList = ⟨#[]⟩ := by kernel_rfl
theorem ak5b : nxtB (⟨#[15]⟩ : ByteArray).data.toList = false := by kernel_rfl
theorem ak6 : hal (⟨#[26, 43]⟩ : ByteArray).data.toList = [1, 10, 2, 11] := by kernel_rfl
theorem ak7 : pre (⟨#[97, 98]⟩ : ByteArray).data.toList (⟨#[97, 99]⟩ : ByteArray).data.toList = 1 := by kernel_rfl
theorem ak8 : Op.bytesLess (⟨#[97]⟩ : ByteArray).data.toList (⟨#[97, 98]⟩ : ByteArray).data.toList = true := by kernel_rfl

set_option maxRecDepth 8000 in
set_option maxHeartbeats 4000000 in
theorem awake_any (w : World) : Calls Try.prog 9 #[] w fun e w' => e = .returned (.bool true) ∧ Below w.heap.size w w' := by
  go_enter Try.func9, Try.ntmps9
  go_wp2_with fail
  refine (pack_any ⟨#[1, 2, 3, 4, 5]⟩ false _ (by decide)).mono ?_
  rintro e w1 ⟨rfl, hB⟩
  rw [ak1, ak1e]
  go_wp2_with fail
  refine (pack_any ⟨#[15, 1, 12, 11, 8]⟩ true _ (by decide)).mono ?_
  rintro e w2 ⟨rfl, h2⟩
  replace hB := hB.trans (h2.mono hB.size)
  clear h2
  rw [ak2, ak2e]
  go_wp2_with fail
  refine (unpack_any ⟨#[32, 15, 28, 184]⟩ _ (by decide)).mono ?_
  rintro e w3 ⟨rfl, h2⟩
  replace hB := hB.trans (h2.mono hB.size)
  clear h2
  rw [ak3, ak3b, ak3e]
  go_wp2_with fail
  refine (next_any ⟨#[1, 2, 15]⟩ _ (by decide)).mono ?_
  rintro e w4 ⟨rfl, h2⟩
  replace hB := hB.trans (h2.mono hB.size)
  clear h2
  rw [ak4, ak4b]
  go_wp2_with fail
  refine (next_any ⟨#[15]⟩ _ (by decide)).mono ?_
  rintro e w5 ⟨rfl, h2⟩
  replace hB := hB.trans (h2.mono hB.size)
  clear h2
  rw [ak5, ak5b]
  go_wp2_with fail
  refine (of_any ⟨#[26, 43]⟩ _ (by decide)).mono ?_
  rintro e w6 ⟨rfl, h2⟩
  replace hB := hB.trans (h2.mono hB.size)
  clear h2
  rw [ak6]
  go_wp2_with fail
  refine (prefix_any ⟨#[97, 98]⟩ ⟨#[97, 99]⟩ _ (by decide) (by decide)).mono ?_
  rintro e w7 ⟨rfl, h2⟩
  replace hB := hB.trans (h2.mono hB.size)
  clear h2
  rw [ak7]
  go_wp2_with fail
  refine (less_any ⟨#[97]⟩ ⟨#[97, 98]⟩ _).mono ?_
  rintro e w8 ⟨rfl, rfl⟩
  rw [ak8]
  go_wp2_with fail
  go_ret
  exact ⟨rfl, hB⟩
end Go.Proofs.Ytkkjkanlaldhcaa
