/-
  The hash of bytes, as a plain function; a hash in memory that has taken in bytes. Nothing of the program.
-/
import Derived.Test.YtjbenoaefjlbaaaDoorHashMem
namespace Go.Proofs.YtjbenoaefjlbaaaDoor
open Go.RowKit

/-- The state behind the first q blocks. -/
def soakN (M : List UInt8) : Nat → Nat → BitVec 64
  | 0 => fun _ => 0
  | q + 1 => soak (soakN M q) (fun j => M.getD (136 * q + j) 0)
/-- The last block, padded. -/
def lastB (M : List UInt8) : Nat → UInt8 := fun j =>
  ((if j < M.length % 136 then M.getD (136 * (M.length / 136) + j) 0 else 0) ^^^ (if j = M.length % 136 then 1 else 0)) ^^^ (if j = 135 then 128 else 0)
/-- The hash. -/
def hashOf (M : List UInt8) : Nat → UInt8 := byteAt (soak (soakN M (M.length / 136)) (lastB M))

theorem laneUp_congr {B C : Nat → UInt8} (i : Nat) : ∀ j, (∀ k, k < j → B (8 * i + k) = C (8 * i + k)) → laneUp B i j = laneUp C i j
  | 0, _ => rfl
  | j + 1, h => by unfold laneUp; rw [laneUp_congr i j (fun k hk => h k (by omega)), h j (by omega)]
theorem soak_congr {s s' : Nat → BitVec 64} {B C : Nat → UInt8} (hs : Same s s') (h : ∀ i, i < 136 → B i = C i) : Same (soak s B) (soak s' C) := by
  unfold soak
  refine Same.onPerm fun i hi => ?_
  unfold mixUp
  by_cases c : i < 17
  · rw [if_pos c, if_pos c, hs i hi, laneUp_congr i 8 (fun k hk => h _ (by omega))]
  · rw [if_neg c, if_neg c, hs i hi]
theorem soakN_append (M L : List UInt8) : ∀ q, 136 * q ≤ M.length → Same (soakN (M ++ L) q) (soakN M q)
  | 0, _ => fun _ _ => rfl
  | q + 1, h => by
    refine soak_congr (soakN_append M L q (by omega)) fun i hi => ?_
    rw [List.getD_eq_getElem?_getD, List.getD_eq_getElem?_getD, List.getElem?_append_left (by omega)]

/-- Block b is a hash that has taken in M. -/
def Hashes (w : World) (b : Nat) (M : List UInt8) : Prop :=
  ∃ s B, Holds w b 59 (hashA s B M.length) ∧ Same s (soakN M (M.length / 136)) ∧ ∀ j, j < M.length % 136 → B j = M.getD (136 * (M.length / 136) + j) 0

theorem Hashes.only {w w' : World} {b c : Nat} {M : List UInt8} (h : Hashes w b M) (k : Only c w w') (hb : b ≠ c) : Hashes w' b M := by
  obtain ⟨s, B, h1, h2⟩ := h; exact ⟨s, B, k.holds h1 hb, h2⟩
theorem Hashes.below {w w' : World} {b : Nat} {M : List UInt8} (h : Hashes w b M) (k : Below w.heap.size w w') : Hashes w' b M := by
  obtain ⟨s, B, h1, h2⟩ := h; exact ⟨s, B, Below.holds k h1, h2⟩
theorem Hashes.lt {w : World} {b : Nat} {M : List UInt8} (h : Hashes w b M) : b < w.heap.size := by
  obtain ⟨s, B, h1, _⟩ := h; exact h1.lt
theorem Hashes.zero {w : World} {b : Nat} (h : Holds w b 59 (hashA (fun _ => 0) (fun _ => 0) 0)) : Hashes w b [] :=
  ⟨_, _, h, fun _ _ => rfl, fun j hj => by simp at hj⟩

/-- Bytes go behind what there is; the block is not full. -/
theorem part_more (M L : List UInt8) (B : Nat → UInt8) (hB : ∀ j, j < M.length % 136 → B j = M.getD (136 * (M.length / 136) + j) 0) (hL : M.length % 136 + L.length < 136) :
    (M ++ L).length / 136 = M.length / 136 ∧ (M ++ L).length % 136 = M.length % 136 + L.length ∧
    ∀ j, j < (M ++ L).length % 136 → over B (M.length % 136) L j = (M ++ L).getD (136 * ((M ++ L).length / 136) + j) 0 := by
  have h1 : (M ++ L).length / 136 = M.length / 136 := by rw [List.length_append]; omega
  have h2 : (M ++ L).length % 136 = M.length % 136 + L.length := by rw [List.length_append]; omega
  refine ⟨h1, h2, fun j hj => ?_⟩
  rw [h2] at hj
  rw [h1]
  unfold over
  by_cases c : j < M.length % 136
  · rw [if_neg (by omega), hB j c, List.getD_eq_getElem?_getD, List.getD_eq_getElem?_getD, List.getElem?_append_left (by omega)]
  · rw [if_pos (by omega), List.getD_eq_getElem?_getD, List.getD_eq_getElem?_getD, List.getElem?_append_right (by omega)]
    congr 2
    omega
/-- Bytes go behind what there is; the block is full. -/
theorem part_full (M L : List UInt8) (B : Nat → UInt8) (hB : ∀ j, j < M.length % 136 → B j = M.getD (136 * (M.length / 136) + j) 0) (hL : M.length % 136 + L.length = 136) :
    (M ++ L).length / 136 = M.length / 136 + 1 ∧ (M ++ L).length % 136 = 0 ∧
    ∀ j, j < 136 → over B (M.length % 136) L j = (M ++ L).getD (136 * (M.length / 136) + j) 0 := by
  have h1 : (M ++ L).length / 136 = M.length / 136 + 1 := by rw [List.length_append]; omega
  have h2 : (M ++ L).length % 136 = 0 := by rw [List.length_append]; omega
  refine ⟨h1, h2, fun j hj => ?_⟩
  unfold over
  by_cases c : j < M.length % 136
  · rw [if_neg (by omega), hB j c, List.getD_eq_getElem?_getD, List.getD_eq_getElem?_getD, List.getElem?_append_left (by omega)]
  · rw [if_pos (by omega), List.getD_eq_getElem?_getD, List.getD_eq_getElem?_getD, List.getElem?_append_right (by omega)]
    congr 2
    omega

theorem Same.symm {s s' : Nat → BitVec 64} (h : Same s s') : Same s' s := fun i hi => (h i hi).symm
theorem Same.trans {s s' s'' : Nat → BitVec 64} (h : Same s s') (k : Same s' s'') : Same s s'' := fun i hi => (h i hi).trans (k i hi)
theorem Hashes.more {w : World} {b : Nat} {N L : List UInt8} {s : Nat → BitVec 64} {B : Nat → UInt8} (h : Holds w b 59 (hashA s (over B (N.length % 136) L) (N.length + L.length)))
    (h2 : Same s (soakN N (N.length / 136))) (h3 : ∀ j, j < N.length % 136 → B j = N.getD (136 * (N.length / 136) + j) 0) (hL : N.length % 136 + L.length < 136) : Hashes w b (N ++ L) := by
  obtain ⟨q1, _, q3⟩ := part_more N L B h3 hL
  refine ⟨s, over B (N.length % 136) L, by rw [List.length_append]; exact h, ?_, q3⟩
  rw [q1]
  exact h2.trans (soakN_append N L _ (by omega)).symm
theorem Hashes.full {w : World} {b : Nat} {N L : List UInt8} {s : Nat → BitVec 64} {B B' : Nat → UInt8} (h : Holds w b 59 (hashA (soak s (over B (N.length % 136) L)) B' (N.length + L.length)))
    (h2 : Same s (soakN N (N.length / 136))) (h3 : ∀ j, j < N.length % 136 → B j = N.getD (136 * (N.length / 136) + j) 0) (hL : N.length % 136 + L.length = 136) : Hashes w b (N ++ L) := by
  obtain ⟨q1, q2, q3⟩ := part_full N L B h3 hL
  refine ⟨_, B', by rw [List.length_append]; exact h, ?_, fun j hj => by omega⟩
  rw [q1]
  exact soak_congr (h2.trans (soakN_append N L _ (by omega)).symm) q3
/-- The rest of a text. -/
theorem rest_toList (r : ByteArray) (n : Nat) : (r.extract n r.size).data.toList = r.data.toList.drop n := by
  rw [ByteArray.data_extract, Array.toList_extract]
  show (r.data.toList.drop n).take (r.size - n) = _
  rw [List.take_of_length_le]
  rw [List.length_drop]
  exact Nat.le_refl _
theorem rest_size (r : ByteArray) (n : Nat) : (r.extract n r.size).size = r.size - n := by simp
def textLen : Value → Nat
  | .string r => r.size
  | _ => 0

theorem oct_xor (c d : UInt8) : bits .xor .u8 (oct c) (oct d) = oct (c ^^^ d) := by
  unfold oct
  have hc := c.toNat_lt
  have hd := d.toNat_lt
  have hx : c.toNat ^^^ d.toNat < 2 ^ 8 := Nat.xor_lt_two_pow (by omega) (by omega)
  have h1 : (BitVec.ofInt 8 (c.toNat : Int)).toNat = c.toNat := by
    rw [BitVec.ofInt_natCast, BitVec.toNat_ofNat]; exact Nat.mod_eq_of_lt (by omega)
  have h2 : (BitVec.ofInt 8 (d.toNat : Int)).toNat = d.toNat := by
    rw [BitVec.ofInt_natCast, BitVec.toNat_ofNat]; exact Nat.mod_eq_of_lt (by omega)
  show IntKind.u8.wrap ((BitVec.ofInt 8 (c.toNat : Int) ^^^ BitVec.ofInt 8 (d.toNat : Int)).toNat : Int) = _
  rw [BitVec.toNat_xor, h1, h2, UInt8.toNat_xor]
  simp [IntKind.wrap, IntKind.bits, IntKind.signed]
  omega
theorem oct_xor1 (c : UInt8) : bits .xor .u8 (oct c) 1 = oct (c ^^^ 1) := oct_xor c 1
theorem oct_xor128 (c : UInt8) : bits .xor .u8 (oct c) 128 = oct (c ^^^ 128) := oct_xor c 128
/-- The first m bytes. -/
def firstB (B : Nat → UInt8) (m : Nat) : List UInt8 := (List.range m).map B
theorem firstB_length (B : Nat → UInt8) (m : Nat) : (firstB B m).length = m := by simp [firstB]
theorem firstB_get (B : Nat → UInt8) (m j : Nat) (h : j < m) : (firstB B m).getD j 0 = B j := by simp [firstB, h]
theorem Holds.hashFirst {w : World} {b : Nat} {t : TypeId} {s : Nat → BitVec 64} {B : Nat → UInt8} {z : Nat} (h : Holds w b t (hashA s B z)) (m : Nat) (hm : m < 136) : w.rangeAt b 25 (octs (firstB B m)) := fun j v hv => by
  have hj : j < m := by
    have := (List.getElem?_eq_some_iff.1 hv).1
    rw [octs_length, firstB_length] at this; exact this
  rw [octs_get _ _ (by rw [firstB_length]; exact hj), firstB_get _ _ _ hj] at hv
  rw [h.cell, hashA_get _ _ _ _ (by omega)]
  unfold hashCell
  rw [if_neg (by omega), if_pos (by omega), show 25 + j - 25 = j by omega]; exact hv
theorem lastB_eq (M : List UInt8) (B : Nat → UInt8) (m : Nat) (hm : m = M.length % 136) (hB : ∀ j, j < m → B j = M.getD (136 * (M.length / 136) + j) 0) (j : Nat) :
    (if j = 135 then (if 135 = m then over (fun _ => 0) 0 (firstB B m) m ^^^ 1 else over (fun _ => 0) 0 (firstB B m) 135) ^^^ 128 else (if j = m then over (fun _ => 0) 0 (firstB B m) m ^^^ 1 else over (fun _ => 0) 0 (firstB B m) j)) = lastB M j := by
  have ho : ∀ i, over (fun _ => 0) 0 (firstB B m) i = if i < m then M.getD (136 * (M.length / 136) + i) 0 else 0 := fun i => by
    unfold over
    rw [firstB_length]
    by_cases c : i < m
    · rw [if_pos (by omega), if_pos c, Nat.sub_zero, firstB_get _ _ _ c, hB i c]
    · rw [if_neg (by omega), if_neg c]
  unfold lastB
  rw [ho, ho, ho, ← hm]
  by_cases c : j = 135
  · subst c
    by_cases d : 135 = m
    · simp [← d]
    · simp [d]
  · by_cases d : j = m
    · simp [d, show ¬ m = 135 from fun q => c (d.trans q)]
    · simp [c, d]
end Go.Proofs.YtjbenoaefjlbaaaDoor
