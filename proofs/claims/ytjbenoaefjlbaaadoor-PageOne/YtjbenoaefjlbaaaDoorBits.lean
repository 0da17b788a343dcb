/-
  Lanes of 64 bits as the model's numbers: what the walk's 'bits', shifts and turns are on them. Plain; nothing of the program.
-/
import Derived.WalkKit
import Derived.WalkSpells
import Derived.WalkLawsBesides
import Derived.Laws.Bits64b
namespace Go.Proofs.YtjbenoaefjlbaaaDoor
open Go Go.RowKit

/-- A lane as the model's number. -/
def lane (x : BitVec 64) : Int := (x.toNat : Int)
theorem lane_nn (x : BitVec 64) : 0 ≤ lane x := by unfold lane; omega
theorem lane_lt (x : BitVec 64) : lane x < 18446744073709551616 := by unfold lane; have := x.isLt; omega
theorem lane_inj {x y : BitVec 64} (h : lane x = lane y) : x = y := by
  unfold lane at h; exact BitVec.eq_of_toNat_eq (by omega)
theorem lane_ofInt (x : BitVec 64) : BitVec.ofInt 64 (lane x) = x := by
  unfold lane; simp
theorem lane_ex (n : Int) (h0 : 0 ≤ n) (h1 : n < 18446744073709551616) : ∃ x : BitVec 64, n = lane x := by
  refine ⟨BitVec.ofNat 64 n.toNat, ?_⟩
  unfold lane
  rw [BitVec.toNat_ofNat, Nat.mod_eq_of_lt (by omega)]
  omega

theorem lane_xor (x y : BitVec 64) : bits .xor .u64 (lane x) (lane y) = lane (x ^^^ y) := by
  unfold lane; rw [bits_xor_u64_nat _ _ x.isLt y.isLt, BitVec.toNat_xor]
theorem lane_and (x y : BitVec 64) : bits .and .u64 (lane x) (lane y) = lane (x &&& y) := by
  unfold lane; rw [bits_and_u64_nat _ _ x.isLt y.isLt, BitVec.toNat_and]
theorem lane_or (x y : BitVec 64) : bits .or .u64 (lane x) (lane y) = lane (x ||| y) := by
  unfold lane; rw [bits_or_u64_nat _ _ x.isLt y.isLt, BitVec.toNat_or]
theorem lane_not (x : BitVec 64) : bits .xor .u64 18446744073709551615 (lane x) = lane (~~~x) := by
  have h : (18446744073709551615 : Int) = lane (BitVec.allOnes 64) := by unfold lane; decide
  rw [h, lane_xor, BitVec.allOnes_xor]

/-- Shifts. -/
theorem lane_shl (x : BitVec 64) (k : Nat) : IntKind.u64.wrap (lane x * 2 ^ k) = lane (x <<< k) := by
  unfold lane
  rw [IntKind.wrap_u64, BitVec.toNat_shiftLeft, Nat.shiftLeft_eq]
  simp only [Int.natCast_emod, Int.natCast_mul, Int.natCast_pow]
  rfl
theorem lane_shr (x : BitVec 64) (k : Nat) : (lane x) / 2 ^ k = lane (x >>> k) := by
  unfold lane
  rw [BitVec.toNat_ushiftRight, Nat.shiftRight_eq_div_pow]
  simp only [Int.natCast_ediv, Int.natCast_pow]
  rfl
theorem and63 (k : Nat) (h : k < 64) : bits .and .u64 (k : Int) 63 = (k : Int) := by
  have := bits_and_u64_nat k 63 (by omega) (by omega)
  rw [show ((63 : Nat) : Int) = (63 : Int) from rfl] at this
  rw [this, show (63 : Nat) = 2 ^ 6 - 1 from rfl, Nat.and_two_pow_sub_one_eq_mod, Nat.mod_eq_of_lt (by omega)]

/-- A lane, turned. -/
def rotl (x : BitVec 64) (k : Nat) : BitVec 64 := x <<< k ||| x >>> (64 - k)

end Go.Proofs.YtjbenoaefjlbaaaDoor
