/-
  What the calls of Uint and Number do.
-/
import Derived.Test.YtadpopjhhanapaaShelf
import Derived.Test.YtadpopjhhanapaaRPure
import Derived.RowKit3
import Derived.OwnWalk
import Derived.Lib.Strings
namespace Go.Proofs.Ytadpopjhhanapaa
open Go Go.RowKit

theorem getB (x : ByteArray) (i : Nat) (h : i < x.size) : x[i] = x.data.toList[i]'h := rfl
theorem sizeB (x : ByteArray) : x.data.toList.length = x.size := rfl
theorem lb (x : ByteArray) : x.toList = x.data.toList := ByteArray.toList_eq x

theorem notEmpty (x : ByteArray) (h : x.size ≠ 0) : x.toList.isEmpty = false := by
  rw [lb]
  cases hl : x.data.toList with
  | nil => exact absurd (by rw [← sizeB, hl]; rfl) h
  | cons c l => rfl
theorem isEmpty0 (x : ByteArray) (h : x.size = 0) : x.toList.isEmpty = true := by
  rw [lb]
  cases hl : x.data.toList with
  | nil => rfl
  | cons c l => rw [← sizeB, hl] at h; simp at h

theorem or_val (a c : Nat) (hc : c < 256) (ha : a < 72057594037927936) : bits .or .u64 ((a : Int) * 256) (c : Int) = ((a * 256 + c : Nat) : Int) := by
  rw [show ((a : Int) * 256) = ((a * 256 : Nat) : Int) by omega, bits_or_u64_nat _ _ (by omega) (by omega)]
  congr 1
  rw [show a * 256 = a <<< 8 by rw [Nat.shiftLeft_eq], ← Nat.shiftLeft_add_eq_or_of_lt (by omega)]

theorem uint_ok (x : ByteArray) (h8 : ¬ 8 < x.size) (h0 : ¬ ∃ h : 0 < x.size, x[0] = 0) : uint x.data.toList = some (val x.data.toList) := by
  unfold uint; rw [if_neg]
  rintro (q | q)
  · exact h8 q
  · cases hl : x.data.toList with
    | nil => rw [hl] at q; simp at q
    | cons c l =>
      have hp : 0 < x.size := by rw [← sizeB, hl]; simp
      refine h0 ⟨hp, ?_⟩
      rw [getB x 0 hp]
      simp only [hl] at q ⊢
      simpa using q
theorem val_zero (x : ByteArray) (hz : x.size = 0) : val x.data.toList = 0 := by
  have : x.data.toList = [] := List.eq_nil_of_length_eq_zero (by rw [sizeB, hz])
  rw [this]; rfl
theorem take_step (x : ByteArray) (k : Nat) (hlt : k < x.size) : val (x.data.toList.take (k + 1)) = val (x.data.toList.take k) * 256 + (x[k]).toNat := by
  rw [List.take_add_one, List.getElem?_eq_getElem (by exact hlt)]
  rw [show (some (x.data.toList[k]'hlt)).toList = [x.data.toList[k]'hlt] from rfl, val_snoc, getB x k hlt]
theorem take_small (x : ByteArray) (k : Nat) (hlt : k < x.size) (h8 : x.size ≤ 8) : val (x.data.toList.take k) < 72057594037927936 :=
  Nat.lt_of_lt_of_le (val_lt _) (Nat.le_trans (Nat.pow_le_pow_right (by omega) (show (x.data.toList.take k).length ≤ 7 by rw [List.length_take, sizeB]; omega)) (by decide))

theorem uint_any (x : ByteArray) (w : World) (hx : x.size ≤ 9223372036854775807) :
    Calls Try.prog 46 #[.string x] w fun e w' => e = .returned (.tuple #[.int .u64 (uintV x.data.toList), .bool (uintB x.data.toList)]) ∧ w' = w := by
  by_cases h8 : 8 < x.size
  · have h8i : (8 : Int) < x.size := by omega
    have h1 : uint x.data.toList = none := by unfold uint; rw [if_pos]; left; exact h8
    go_enter Try.func46, Try.ntmps46
    go_wp2
    go_ret2
    exact ⟨by simp [uintV, uintB, h1], rfl⟩
  · have h8i : ¬ (8 : Int) < x.size := by omega
    by_cases h0 : ∃ h : 0 < x.size, x[0] = 0
    · obtain ⟨hp, h0⟩ := h0
      have hpi : (0 : Int) < x.size := by omega
      have hne : x.toList.isEmpty = false := notEmpty x (by omega)
      have h1 : uint x.data.toList = none := by
        unfold uint; rw [if_pos]; right
        rw [List.head?_eq_getElem?, List.getElem?_eq_getElem (by exact hp), ← getB x 0 hp, h0]
      go_enter Try.func46, Try.ntmps46
      go_wp2
      go_ret2
      exact ⟨by simp [uintV, uintB, h1], rfl⟩
    · have h0' : ∀ h : 0 < x.size, ¬ x[0].toNat = 0 := fun h e => h0 ⟨h, UInt8.toNat_inj.1 e⟩
      have h1 : uint x.data.toList = some (val x.data.toList) := by
        unfold uint; rw [if_neg]
        rintro (q | q)
        · exact h8 q
        · cases hl : x.data.toList with
          | nil => rw [hl] at q; simp at q
          | cons c l =>
            have hp : 0 < x.size := by rw [← sizeB, hl]; simp
            refine h0 ⟨hp, ?_⟩
            rw [getB x 0 hp]
            simp only [hl] at q ⊢
            simpa using q
      have hgo : ∀ w : World, Calls Try.prog 46 #[.string x] w fun e w' => e = .returned (.tuple #[.int .u64 (val x.data.toList), .bool true]) ∧ w' = w := by
        clear h1 h0
        intro w
        by_cases hp : 0 < x.size
        · have hpi : (0 : Int) < x.size := by omega
          have hne : x.toList.isEmpty = false := notEmpty x (by omega)
          have hz := h0' hp
          go_enter Try.func46, Try.ntmps46
          go_wp2_with fail
          clear hz
          go_loopw [4, 20] (fun n y wr => ∃ k : Nat, k ≤ x.size ∧ n = .int .u64 (val (x.data.toList.take k)) ∧ y = .int .i64 k ∧ wr = w) (fun _ y _ => x.size - (intOf y).toNat)
          case atStart => exact ⟨0, by omega, rfl, rfl, rfl⟩
          case round =>
            obtain ⟨k, hk, rfl, rfl, rfl⟩ := hrel
            by_cases hlt : k < x.size
            · have hki : (k : Int) < x.size := by omega
              have hk0 : (0 : Int) ≤ k := by omega
              have hc := (x[k]).toNat_lt
              have hv : val (x.data.toList.take k) < 72057594037927936 := Nat.lt_of_lt_of_le (val_lt _) (Nat.le_trans (Nat.pow_le_pow_right (by omega) (show (x.data.toList.take k).length ≤ 7 by rw [List.length_take, sizeB]; omega)) (by decide))
              have hor := or_val (val (x.data.toList.take k)) (x[k]).toNat hc hv
              have hst : val (x.data.toList.take (k + 1)) = val (x.data.toList.take k) * 256 + (x[k]).toNat := by
                rw [List.take_add_one, List.getElem?_eq_getElem (by exact hlt)]
                rw [show (some (x.data.toList[k]'hlt)).toList = [x.data.toList[k]'hlt] from rfl, val_snoc, getB x k hlt]
              generalize hV : val (x.data.toList.take k) = V at *
              go_wp2_with fail
              go_roundw
              case rel =>
                exact ⟨k + 1, by omega, by rw [hst]; exact congrArg _ (by omega), rfl, trivial⟩
              case measure => simp [intOf]; omega
            · have hki : ¬ (k : Int) < x.size := by omega
              have hkk : k = x.size := by omega
              have htk : x.data.toList.take k = x.data.toList := by rw [hkk, ← sizeB, List.take_length]
              rw [htk]
              clear htk
              generalize hV : val x.data.toList = V
              go_wp2_with fail
              go_ret2
              exact ⟨rfl, rfl⟩
        · have hz : x.size = 0 := by omega
          have hzi : (x.size : Int) = 0 := by omega
          have hne : x.toList.isEmpty = true := isEmpty0 x hz
          have hv : val x.data.toList = 0 := by
            have : x.data.toList = [] := List.eq_nil_of_length_eq_zero (by rw [sizeB, hz])
            rw [this]; rfl
          rw [hv]
          clear hv
          go_enter Try.func46, Try.ntmps46
          go_wp2_with fail
          go_loopw [4, 20] (fun n y wr => n = .int .u64 0 ∧ y = .int .i64 0 ∧ wr = w) (fun _ _ _ => 0)
          case atStart => exact ⟨rfl, rfl, rfl⟩
          case round =>
            obtain ⟨rfl, rfl, rfl⟩ := hrel
            go_wp2_with fail
            go_ret2
            exact ⟨rfl, rfl⟩
      exact (hgo w).mono fun e w' ⟨he, hw⟩ => ⟨by rw [he]; simp [uintV, uintB, h1], hw⟩
theorem mul_val (a c : Nat) (hc : c < 256) (ha : a < 72057594037927936) : IntKind.u64.wrap (IntKind.u64.wrap ((a : Int) * 256) + (c : Int)) = ((a * 256 + c : Nat) : Int) := by
  rw [IntKind.wrap_u64, IntKind.wrap_u64]; omega

theorem refUint_any (x : ByteArray) (w : World) (hx : x.size ≤ 9223372036854775807) :
    Calls Try.prog 27 #[.string x] w fun e w' => e = .returned (.tuple #[.int .u64 (uintV x.data.toList), .bool (uintB x.data.toList)]) ∧ w' = w := by
  by_cases h8 : 8 < x.size
  · have h8i : (8 : Int) < x.size := by omega
    have h1 : uint x.data.toList = none := by unfold uint; rw [if_pos]; left; exact h8
    go_enter Try.func27, Try.ntmps27
    go_wp2
    go_ret2
    exact ⟨by simp [uintV, uintB, h1], rfl⟩
  · have h8i : ¬ (8 : Int) < x.size := by omega
    by_cases h0 : ∃ h : 0 < x.size, x[0] = 0
    · obtain ⟨hp, h0⟩ := h0
      have hpi : (0 : Int) < x.size := by omega
      have h1 : uint x.data.toList = none := by
        unfold uint; rw [if_pos]; right
        rw [List.head?_eq_getElem?, List.getElem?_eq_getElem (by exact hp), ← getB x 0 hp, h0]
      go_enter Try.func27, Try.ntmps27
      go_wp2
      go_ret2
      exact ⟨by simp [uintV, uintB, h1], rfl⟩
    · have h0' : ∀ h : 0 < x.size, ¬ x[0].toNat = 0 := fun h e => h0 ⟨h, UInt8.toNat_inj.1 e⟩
      have h1 : uint x.data.toList = some (val x.data.toList) := uint_ok x h8 h0
      have hgo : ∀ w : World, Calls Try.prog 27 #[.string x] w fun e w' => e = .returned (.tuple #[.int .u64 (val x.data.toList), .bool true]) ∧ w' = w := by
        clear h1 h0
        intro w
        by_cases hp : 0 < x.size
        · have hpi : (0 : Int) < x.size := by omega
          have hz := h0' hp
          go_enter Try.func27, Try.ntmps27
          go_wp2_with fail
          clear hz
          go_loopw [4, 5] (fun n y wr => ∃ k : Nat, k ≤ x.size ∧ n = .int .u64 (val (x.data.toList.take k)) ∧ y = .int .i64 k ∧ wr = w) (fun _ y _ => x.size - (intOf y).toNat)
          case atStart => exact ⟨0, by omega, rfl, rfl, rfl⟩
          case round =>
            obtain ⟨k, hk, rfl, rfl, rfl⟩ := hrel
            by_cases hlt : k < x.size
            · have hki : (k : Int) < x.size := by omega
              have hk0 : (0 : Int) ≤ k := by omega
              have hc := (x[k]).toNat_lt
              have hst := take_step x k hlt
              have hv := take_small x k (by omega) (by omega)
              generalize hV : val (x.data.toList.take k) = V at *
              go_wp2_with fail
              go_roundw
              case rel => exact ⟨k + 1, by omega, by rw [hst]; exact congrArg _ (by omega), rfl, trivial⟩
              case measure => simp [intOf]; omega
            · have hki : ¬ (k : Int) < x.size := by omega
              have hkk : k = x.size := by omega
              have htk : x.data.toList.take k = x.data.toList := by rw [hkk, ← sizeB, List.take_length]
              rw [htk]
              clear htk
              generalize hV : val x.data.toList = V
              go_wp2_with fail
              go_ret2
              exact ⟨rfl, rfl⟩
        · have hz : x.size = 0 := by omega
          have hzi : (x.size : Int) = 0 := by omega
          have hv : val x.data.toList = 0 := val_zero x hz
          rw [hv]
          clear hv
          go_enter Try.func27, Try.ntmps27
          go_wp2_with fail
          go_loopw [4, 5] (fun n y wr => n = .int .u64 0 ∧ y = .int .i64 0 ∧ wr = w) (fun _ _ _ => 0)
          case atStart => exact ⟨rfl, rfl, rfl⟩
          case round =>
            obtain ⟨rfl, rfl, rfl⟩ := hrel
            go_wp2_with fail
            go_ret2
            exact ⟨rfl, rfl⟩
      exact (hgo w).mono fun e w' ⟨he, hw⟩ => ⟨by rw [he]; simp [uintV, uintB, h1], hw⟩
end Go.Proofs.Ytadpopjhhanapaa
