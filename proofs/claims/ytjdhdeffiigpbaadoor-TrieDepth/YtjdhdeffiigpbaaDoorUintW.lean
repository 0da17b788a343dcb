/-
  What the calls of Uint and Number do.
-/
import Derived.Test.YtjdhdeffiigpbaaDoorShelf
import Derived.Test.YtjdhdeffiigpbaaDoorRPure
import Derived.RowKit3
import Derived.OwnWalk
import Derived.Lib.Strings
namespace Go.Proofs.YtjdhdeffiigpbaaDoor
open Go Go.RowKit

theorem getB (x : ByteArray) (i : Nat) (h : i < x.size) : x[i] = x.data.toList[i]'h := rfl
theorem sizeB (x : ByteArray) : x.data.toList.length = x.size := rfl
theorem lb (x : ByteArray) : x.toList = x.data.toList := ByteArray.toList_eq x

theorem notEmpty (x : ByteArray) (h : x.size ≠ 0) : x.toList.isEmpty = false := by
  rw [lb]
  cases hl : x.data.toList with
  | nil => exact absurd (by rw [← sizeB, hl]; rfl) h
  | cons c l => rfl
theorem isEmpty0 (x : ByteArray) (h : x.size = 0) : x.toList.isEmpty = true := by
  rw [lb]
  cases hl : x.data.toList with
  | nil => rfl
  | cons c l => rw [← sizeB, hl] at h; simp at h

theorem or_val (a c : Nat) (hc : c < 256) (ha : a < 72057594037927936) : bits .or .u64 ((a : Int) * 256) (c : Int) = ((a * 256 + c : Nat) : Int) := by
  rw [show ((a : Int) * 256) = ((a * 256 : Nat) : Int) by omega, bits_or_u64_nat _ _ (by omega) (by omega)]
  congr 1
  rw [show a * 256 = a <<< 8 by rw [Nat.shiftLeft_eq], ← Nat.shiftLeft_add_eq_or_of_lt (by omega)]

theorem uint_ok (x : ByteArray) (h8 : ¬ 8 < x.size) (h0 : ¬ ∃ h : 0 < x.size, x[0] = 0) : uint x.data.toList = some (val x.data.toList) := by
  unfold uint; rw [if_neg]
  rintro (q | q)
  · exact h8 q
  · cases hl : x.data.toList with
    | nil => rw [hl] at q; simp at q
    | cons c l =>
      have hp : 0 < x.size := by rw [← sizeB, hl]; simp
      refine h0 ⟨hp, ?_⟩
      rw [getB x 0 hp]
      simp only [hl] at q ⊢
      simpa using q
theorem val_zero (x : ByteArray) (hz : x.size = 0) : val x.data.toList = 0 := by
  have : x.data.toList = [] := List.eq_nil_of_length_eq_zero (by rw [sizeB, hz])
  rw [this]; rfl
theorem take_step (x : ByteArray) (k : Nat) (hlt : k < x.size) : val (x.data.toList.take (k + 1)) = val (x.data.toList.take k) * 256 + (x[k]).toNat := by
  rw [List.take_add_one, List.getElem?_eq_getElem (by exact hlt)]
  rw [show (some (x.data.toList[k]'hlt)).toList = [x.data.toList[k]'hlt] from rfl, val_snoc, getB x k hlt]
theorem take_small (x : ByteArray) (k : Nat) (hlt : k < x.size) (h8 : x.size ≤ 8) : val (x.data.toList.take k) < 72057594037927936 :=
  Nat.lt_of_lt_of_le (val_lt _) (Nat.le_trans (Nat.pow_le_pow_right (by omega) (show (x.data.toList.take k).length ≤ 7 by rw [List.length_take, sizeB]; omega)) (by decide))

theorem mul_val (a c : Nat) (hc : c < 256) (ha : a < 72057594037927936) : IntKind.u64.wrap (IntKind.u64.wrap ((a : Int) * 256) + (c : Int)) = ((a * 256 + c : Nat) : Int) := by
  rw [IntKind.wrap_u64, IntKind.wrap_u64]; omega
end Go.Proofs.YtjdhdeffiigpbaaDoor
