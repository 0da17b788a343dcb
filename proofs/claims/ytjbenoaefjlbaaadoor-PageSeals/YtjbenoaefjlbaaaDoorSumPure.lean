/-
  The document's padding and its blocks are the hash's. Plain; nothing of the program.
-/
import Derived.Test.YtjbenoaefjlbaaaDoorBlockPure
namespace Go.Proofs.YtjbenoaefjlbaaaDoor
open Go.RowKit

theorem wide_hi (c : UInt8) (b : Nat) (hb : 8 ≤ b) : (wide c).getLsbD b = false := by
  unfold wide
  rw [BitVec.getLsbD_ofNat]
  have h1 : c.toNat < 2 ^ 8 := c.toNat_lt
  have : c.toNat.testBit b = false := Nat.testBit_lt_two_pow (Nat.lt_of_lt_of_le h1 (Nat.pow_le_pow_right (by omega) hb))
  simp [this]
theorem laneUp_hi (B : Nat → UInt8) (i : Nat) : ∀ j b, 8 * j ≤ b → (laneUp B i j).getLsbD b = false
  | 0, _, _ => by simp [laneUp]
  | j + 1, b, h => by
    rw [laneUp, BitVec.getLsbD_or, laneUp_hi B i j b (by omega), BitVec.getLsbD_shiftLeft, wide_hi _ _ (by omega)]
    simp
theorem laneUp_xor (B : Nat → UInt8) (i j : Nat) : laneUp B i j ^^^ wide (B (8 * i + j)) <<< (8 * j) = laneUp B i (j + 1) := by
  apply BitVec.eq_of_getLsbD_eq
  intro b _
  rw [laneUp, BitVec.getLsbD_or, BitVec.getLsbD_xor, BitVec.getLsbD_shiftLeft]
  by_cases c : b < 8 * j
  · simp [c]
  · rw [laneUp_hi B i j b (by omega)]; simp

/-- A state, with the first k bytes of a block in. -/
def xfill (S : Nat → BitVec 64) (B : Nat → UInt8) (k : Nat) : Nat → BitVec 64 := fun j => S j ^^^ fillUp B k j
theorem xfill_none (S : Nat → BitVec 64) (B : Nat → UInt8) (j : Nat) : xfill S B 0 j = S j := by
  unfold xfill; rw [fill_none]; simp
theorem xfill_all (S : Nat → BitVec 64) (B : Nat → UInt8) (j : Nat) : xfill S B 136 j = mixUp S B 17 j := by
  unfold xfill
  rw [fill_all]
  unfold mixUp
  by_cases c : j < 17
  · rw [if_pos c, if_pos c]
    show S j ^^^ (0#64 ^^^ laneUp B j 8) = _
    rw [BitVec.zero_xor]
  · rw [if_neg c, if_neg c]
    show S j ^^^ 0 = S j
    simp
theorem xfill_step (S : Nat → BitVec 64) (B : Nat → UInt8) (b : Nat) (t : TypeId) (w : World) (k : Nat) (hk : k < 136) (h : Holds w b t (lanesA (xfill S B k))) :
    Holds (w.setCell ⟨b, k / 8, none⟩ (.int .u64 (lane (xfill S B k (k / 8) ^^^ wide (B k) <<< (8 * (k % 8)))))) b t (lanesA (xfill S B (k + 1))) := by
  refine (h.laneSet (k / 8) _ (by omega)).congr (lanesA_congr fun j _ => ?_)
  by_cases e : j = k / 8
  · rw [if_pos e]
    subst e
    unfold xfill
    rw [fill_old, BitVec.xor_assoc]
    have h1 := laneUp_xor B (k / 8) (k % 8)
    rw [show 8 * (k / 8) + k % 8 = k by omega] at h1
    rw [h1]
    unfold fillUp
    rw [show min 8 (k + 1 - 8 * (k / 8)) = k % 8 + 1 by omega]
  · rw [if_neg e]
    unfold xfill fillUp
    rw [show min 8 (k + 1 - 8 * j) = min 8 (k - 8 * j) by omega]

/-- How many bytes the padded text has. -/
def padN (M : List UInt8) : Nat := 136 * (M.length / 136 + 1)
/-- The padded text's bytes. -/
def padB (M : List UInt8) : Nat → UInt8 := fun i => if i < M.length then M.getD i 0 else (if i = M.length then 1 else 0) ||| (if i + 1 = padN M then 128 else 0)
/-- The state behind the first q blocks of the padded text. -/
def padS (M : List UInt8) : Nat → Nat → BitVec 64
  | 0 => fun _ => 0
  | q + 1 => soak (padS M q) (fun j => padB M (136 * q + j))
theorem padS_soak (M : List UInt8) : ∀ q, q ≤ M.length / 136 → Same (padS M q) (soakN M q)
  | 0, _ => fun _ _ => rfl
  | q + 1, h => by
    refine soak_congr (padS_soak M q (by omega)) fun j hj => ?_
    unfold padB
    rw [if_pos (by omega)]
theorem padB_last (M : List UInt8) (j : Nat) (_hj : j < 136) : padB M (136 * (M.length / 136) + j) = lastB M j := by
  unfold padB lastB padN
  by_cases c : j < M.length % 136
  · rw [if_pos (by omega), if_pos c, if_neg (by omega), if_neg (by omega)]; simp
  · rw [if_neg (by omega), if_neg c]
    by_cases d : j = M.length % 136
    · by_cases e : j = 135
      · rw [if_pos (by omega), if_pos (by omega), if_pos d, if_pos e]; decide
      · rw [if_pos (by omega), if_neg (by omega), if_pos d, if_neg e]; decide
    · by_cases e : j = 135
      · rw [if_neg (by omega), if_pos (by omega), if_neg d, if_pos e]; decide
      · rw [if_neg (by omega), if_neg (by omega), if_neg d, if_neg e]; decide
theorem padS_end (M : List UInt8) : Same (padS M (M.length / 136 + 1)) (soak (soakN M (M.length / 136)) (lastB M)) :=
  soak_congr (padS_soak M _ (Nat.le_refl _)) (padB_last M)
theorem byteAt_same {s r : Nat → BitVec 64} (h : Same s r) (i : Nat) (hi : i < 32) : byteAt s i = byteAt r i := by
  unfold byteAt; rw [h (i / 8) (by omega)]

/-- The padded text as a list, ahead of its last bit. -/
def padL (M : List UInt8) (k : Nat) : List UInt8 := M ++ [1] ++ List.replicate k 0
theorem padL_length (M : List UInt8) (k : Nat) : (padL M k).length = M.length + 1 + k := by simp [padL]; omega
theorem padL_get (M : List UInt8) (k i : Nat) (h : i < M.length + 1 + k) : (padL M k).getD i 0 = if i < M.length then M.getD i 0 else if i = M.length then 1 else 0 := by
  unfold padL
  rw [List.getD_eq_getElem?_getD]
  by_cases c : i < M.length
  · rw [if_pos c, List.append_assoc, List.getElem?_append_left c, List.getD_eq_getElem?_getD]
  · rw [if_neg c, List.append_assoc, List.getElem?_append_right (by omega)]
    by_cases d : i = M.length
    · rw [if_pos d]; subst d; simp
    · rw [if_neg d, List.getElem?_append_right (by simp; omega), List.getElem?_replicate]
      split <;> rfl
theorem padL_last (M : List UInt8) (k i : Nat) (hN : M.length + 1 + k = padN M) (h : i < padN M) : (if i + 1 = padN M then (padL M k).getD i 0 ||| 128 else (padL M k).getD i 0) = padB M i := by
  rw [padL_get M k i (by omega)]
  unfold padB
  by_cases c : i < M.length
  · rw [if_pos c, if_pos c, if_neg (by omega)]
  · rw [if_neg c, if_neg c]
    by_cases d : i + 1 = padN M
    · rw [if_pos d, if_pos d]
    · rw [if_neg d, if_neg d]; simp

end Go.Proofs.YtjbenoaefjlbaaaDoor
