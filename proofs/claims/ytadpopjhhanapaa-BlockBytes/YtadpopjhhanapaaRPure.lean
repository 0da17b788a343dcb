/-
  RLP on lists of bytes: numbers, heads, things; plain; nothing of the program.
-/
import Derived.WalkKit
import Derived.WalkSpells
import Derived.WalkLawsBesides
import Derived.Laws.Bits64b
import Derived.Laws.Rows
import Derived.Deep.Draws
namespace Go.Proofs.Ytadpopjhhanapaa
open Go Go.RowKit

/-- The bytes of a number below 256 ^ k, the greatest first. -/
def numF : Nat → Nat → List UInt8
  | 0, _ => []
  | k + 1, n => if n = 0 then [] else numF k (n / 256) ++ [UInt8.ofNat (n % 256)]
def num (n : Nat) : List UInt8 := numF 8 n
/-- The number that bytes are. -/
def valF (n : Nat) (l : List UInt8) : Nat := l.foldl (fun n c => n * 256 + c.toNat) n
def val (l : List UInt8) : Nat := valF 0 l
def uint (l : List UInt8) : Option Nat := if 8 < l.length ∨ l.head? = some 0 then none else some (val l)
def uintV (l : List UInt8) : Nat := (uint l).getD 0
def uintB (l : List UInt8) : Bool := (uint l).isSome

theorem valF_snoc (n : Nat) (l : List UInt8) (c : UInt8) : valF n (l ++ [c]) = valF n l * 256 + c.toNat := by simp [valF]
theorem val_snoc (l : List UInt8) (c : UInt8) : val (l ++ [c]) = val l * 256 + c.toNat := valF_snoc 0 l c
theorem valF_cons (n : Nat) (c : UInt8) (l : List UInt8) : valF n (c :: l) = valF (n * 256 + c.toNat) l := rfl
theorem valF_eq (l : List UInt8) : ∀ n, valF n l = n * 256 ^ l.length + val l := by
  induction l with
  | nil => intro n; simp [valF, val]
  | cons c l ih =>
    intro n
    have h1 : val (c :: l) = valF (0 * 256 + c.toNat) l := rfl
    rw [valF_cons, h1, ih, ih (0 * 256 + c.toNat), List.length_cons, Nat.pow_succ, Nat.add_mul, Nat.add_mul]
    simp only [Nat.zero_mul, Nat.zero_add]
    rw [Nat.mul_assoc n 256, Nat.mul_comm 256, Nat.add_assoc]
theorem val_cons (c : UInt8) (l : List UInt8) : val (c :: l) = c.toNat * 256 ^ l.length + val l := by
  have : val (c :: l) = valF (0 * 256 + c.toNat) l := rfl
  rw [this, valF_eq]; simp
theorem val_lt (l : List UInt8) : val l < 256 ^ l.length := by
  induction l with
  | nil => simp [val, valF]
  | cons c l ih =>
    rw [val_cons, List.length_cons, Nat.pow_succ]
    have hc := c.toNat_lt
    have h2 : c.toNat * 256 ^ l.length ≤ 255 * 256 ^ l.length := Nat.mul_le_mul_right _ (by omega)
    omega
theorem val_lt64 (l : List UInt8) (h : l.length ≤ 8) : val l < 18446744073709551616 :=
  Nat.lt_of_lt_of_le (val_lt l) (Nat.le_trans (Nat.pow_le_pow_right (by omega) h) (by decide))
theorem val_pos (l : List UInt8) (h0 : l ≠ []) (h : l.head? ≠ some 0) : 256 ^ (l.length - 1) ≤ val l := by
  cases l with
  | nil => exact absurd rfl h0
  | cons c l =>
    rw [val_cons, List.length_cons, Nat.add_sub_cancel]
    have hc : 1 ≤ c.toNat := by
      rcases Nat.eq_zero_or_pos c.toNat with q | q
      · exact absurd (by have e : c = 0 := UInt8.toNat_inj.1 q
                         simp [e]) h
      · exact q
    have := Nat.mul_le_mul_right (256 ^ l.length) hc
    omega

theorem numF_zero (k : Nat) : numF k 0 = [] := by cases k <;> simp [numF]
theorem numF_len (k n : Nat) : (numF k n).length ≤ k := by
  induction k generalizing n with
  | zero => simp [numF]
  | succ k ih =>
    unfold numF
    split
    · simp
    · have := ih (n / 256); simp; omega
theorem num_len (n : Nat) : (num n).length ≤ 8 := numF_len 8 n
theorem ofNat_toNat (n : Nat) (h : n < 256) : (UInt8.ofNat n).toNat = n := by
  rw [UInt8.toNat_ofNat']; exact Nat.mod_eq_of_lt h
theorem val_numF (k : Nat) : ∀ n, n < 256 ^ k → val (numF k n) = n := by
  induction k with
  | zero => intro n h; have : n = 0 := by simpa using h
            subst this; simp [numF, val, valF]
  | succ k ih =>
    intro n h
    unfold numF
    split
    · next h0 => subst h0; simp [val, valF]
    · rw [val_snoc, ih (n / 256) (by rw [Nat.pow_succ] at h; exact Nat.div_lt_of_lt_mul (by omega)), ofNat_toNat _ (Nat.mod_lt _ (by omega))]
      omega
theorem val_num (n : Nat) (h : n < 18446744073709551616) : val (num n) = n := val_numF 8 n h
theorem numF_head (k : Nat) : ∀ n, n < 256 ^ k → (numF k n).head? ≠ some 0 := by
  induction k with
  | zero => intro n h; simp [numF]
  | succ k ih =>
    intro n h
    unfold numF
    split
    · simp
    · next h0 =>
      by_cases q : n / 256 = 0
      · rw [q, numF_zero]
        simp only [List.nil_append, List.head?_cons]
        intro e
        have e1 := congrArg UInt8.toNat (Option.some.inj e)
        rw [ofNat_toNat _ (Nat.mod_lt _ (by omega))] at e1
        have : (0 : UInt8).toNat = 0 := rfl
        omega
      · have hlt : n / 256 < 256 ^ k := by rw [Nat.pow_succ] at h; exact Nat.div_lt_of_lt_mul (by omega)
        have := ih (n / 256) hlt
        cases hq : numF k (n / 256) with
        | nil =>
          have hv := val_numF k (n / 256) hlt
          rw [hq] at hv
          exact absurd hv.symm q
        | cons c l =>
          rw [hq] at this
          simpa using this
theorem num_head (n : Nat) (h : n < 18446744073709551616) : (num n).head? ≠ some 0 := numF_head 8 n h
/-- A number's bytes are told by the number. -/
theorem val_inj (a b : List UInt8) (ha : a.head? ≠ some 0) (hb : b.head? ≠ some 0) (h : val a = val b) : a = b := by
  have hl : a.length = b.length := by
    have key : ∀ a b : List UInt8, a.head? ≠ some 0 → b.head? ≠ some 0 → val a = val b → ¬ a.length < b.length := by
      intro a b ha hb h hlt
      have h1 := val_lt a
      have h2 := val_pos b (by intro e; subst e; simp at hlt) hb
      have h3 : 256 ^ a.length ≤ 256 ^ (b.length - 1) := Nat.pow_le_pow_right (by omega) (by omega)
      omega
    have h1 := key a b ha hb h
    have h2 := key b a hb ha h.symm
    omega
  clear ha hb
  induction a generalizing b with
  | nil => cases b with
    | nil => rfl
    | cons c l => simp at hl
  | cons c l ih =>
    cases b with
    | nil => simp at hl
    | cons d m =>
      rw [val_cons, val_cons] at h
      simp only [List.length_cons, Nat.add_right_cancel_iff] at hl
      have h1 := val_lt l
      have h2 := val_lt m
      rw [hl] at h h1
      have hc : c.toNat = d.toNat := by
        have e1 : (c.toNat * 256 ^ m.length + val l) / 256 ^ m.length = c.toNat := by
          rw [Nat.mul_comm, Nat.mul_add_div (by omega), Nat.div_eq_of_lt h1]; omega
        have e2 : (d.toNat * 256 ^ m.length + val m) / 256 ^ m.length = d.toNat := by
          rw [Nat.mul_comm, Nat.mul_add_div (by omega), Nat.div_eq_of_lt h2]; omega
        rw [← e1, h, e2]
      rw [hc] at h
      rw [UInt8.toNat_inj.1 hc, ih m (by omega) hl]
theorem uint_num (n : Nat) (h : n < 18446744073709551616) : uint (num n) = some n := by
  unfold uint
  rw [if_neg, val_num n h]
  have := num_len n
  have := num_head n h
  rintro (q | q)
  · omega
  · exact this q
theorem uint_some {l : List UInt8} {n : Nat} (h : uint l = some n) : l.length ≤ 8 ∧ l.head? ≠ some 0 ∧ val l = n := by
  unfold uint at h
  split at h
  · cases h
  · next q => exact ⟨by omega, fun e => q (.inr e), Option.some.inj h⟩
theorem num_uint {l : List UInt8} {n : Nat} (h : uint l = some n) : num n = l := by
  obtain ⟨h1, h2, h3⟩ := uint_some h
  have h4 : n < 18446744073709551616 := h3 ▸ val_lt64 l h1
  exact val_inj _ _ (num_head n h4) h2 (by rw [val_num n h4, h3])
theorem num_len_mono {a b : Nat} (hb : b < 18446744073709551616) (h : a ≤ b) : (num a).length ≤ (num b).length := by
  rcases Nat.lt_or_ge (num b).length (num a).length with q | q
  · have h1 := val_lt (num b)
    have h2 := val_pos (num a) (by intro e; rw [e] at q; simp at q) (num_head a (by omega))
    rw [val_num a (by omega)] at h2
    rw [val_num b hb] at h1
    have h3 : 256 ^ (num b).length ≤ 256 ^ ((num a).length - 1) := Nat.pow_le_pow_right (by omega) (by omega)
    omega
  · exact q
theorem num_len_pos {n : Nat} (h : n ≠ 0) : 1 ≤ (num n).length := by
  unfold num numF
  rw [if_neg h]; simp
end Go.Proofs.Ytadpopjhhanapaa
