/-
  Containers and sets of numbers, as predicates; their bytes. Plain; nothing of the program.
-/
import Derived.Test.YtbenfmhcpipehaaProg
import Derived.WalkKit
namespace Go.Proofs.Ytbenfmhcpipehaa
open Go Go.RowKit

/-- Byte i of a container. -/
def bt (p : Nat → Bool) (i : Nat) : Nat :=
  (p (8 * i)).toNat + 2 * (p (8 * i + 1)).toNat + 4 * (p (8 * i + 2)).toNat + 8 * (p (8 * i + 3)).toNat + 16 * (p (8 * i + 4)).toNat + 32 * (p (8 * i + 5)).toNat + 64 * (p (8 * i + 6)).toNat + 128 * (p (8 * i + 7)).toNat

theorem bt_lt (p : Nat → Bool) (i : Nat) : bt p i < 256 := by
  unfold bt
  have h := fun k => Bool.toNat_le (p k)
  have := h (8 * i); have := h (8 * i + 1); have := h (8 * i + 2); have := h (8 * i + 3); have := h (8 * i + 4); have := h (8 * i + 5); have := h (8 * i + 6); have := h (8 * i + 7)
  omega

theorem bits8 : ∀ b0 b1 b2 b3 b4 b5 b6 b7 : Bool, ∀ j : Fin 8,
    (b0.toNat + 2 * b1.toNat + 4 * b2.toNat + 8 * b3.toNat + 16 * b4.toNat + 32 * b5.toNat + 64 * b6.toNat + 128 * b7.toNat).testBit j.val = (#[b0, b1, b2, b3, b4, b5, b6, b7][j.val]?).getD false := by decide

theorem bt_testBit (p : Nat → Bool) (i j : Nat) (hj : j < 8) : (bt p i).testBit j = p (8 * i + j) := by
  have h := bits8 (p (8 * i)) (p (8 * i + 1)) (p (8 * i + 2)) (p (8 * i + 3)) (p (8 * i + 4)) (p (8 * i + 5)) (p (8 * i + 6)) (p (8 * i + 7)) ⟨j, hj⟩
  unfold bt
  rw [h]
  have : j = 0 ∨ j = 1 ∨ j = 2 ∨ j = 3 ∨ j = 4 ∨ j = 5 ∨ j = 6 ∨ j = 7 := by omega
  rcases this with rfl | rfl | rfl | rfl | rfl | rfl | rfl | rfl <;> rfl

theorem bt_testBit_hi (p : Nat → Bool) (i j : Nat) (hj : 8 ≤ j) : (bt p i).testBit j = false := by
  refine Nat.testBit_lt_two_pow (Nat.lt_of_lt_of_le (bt_lt p i) ?_)
  calc 256 = 2 ^ 8 := rfl
    _ ≤ 2 ^ j := Nat.pow_le_pow_right (by omega) hj

theorem bt_eq {p : Nat → Bool} {i v : Nat} (hv : v < 256) (h : ∀ j, j < 8 → v.testBit j = p (8 * i + j)) : bt p i = v := by
  refine Nat.eq_of_testBit_eq fun j => ?_
  by_cases hj : j < 8
  · rw [bt_testBit p i j hj, h j hj]
  · rw [bt_testBit_hi p i j (by omega), Nat.testBit_lt_two_pow (Nat.lt_of_lt_of_le hv ?_)]
    calc 256 = 2 ^ 8 := rfl
      _ ≤ 2 ^ j := Nat.pow_le_pow_right (by omega) (by omega)

theorem bt_congr {p q : Nat → Bool} {i : Nat} (h : ∀ j, j < 8 → p (8 * i + j) = q (8 * i + j)) : bt p i = bt q i :=
  bt_eq (bt_lt q i) fun j hj => by rw [bt_testBit q i j hj, h j hj]

theorem bt_or (p q : Nat → Bool) (i : Nat) : bt (fun l => p l || q l) i = bt p i ||| bt q i :=
  bt_eq (Nat.or_lt_two_pow (n := 8) (bt_lt p i) (bt_lt q i)) fun j hj => by rw [Nat.testBit_or, bt_testBit p i j hj, bt_testBit q i j hj]

theorem bt_none (i : Nat) : bt (fun _ => false) i = 0 := rfl

theorem bt_with (p : Nat → Bool) (low : Nat) : bt (fun l => decide (l = low) || p l) (low / 8) = bt p (low / 8) ||| 2 ^ (low % 8) :=
  bt_eq (Nat.or_lt_two_pow (n := 8) (bt_lt p _) (Nat.pow_lt_pow_right (by omega) (Nat.mod_lt _ (by omega)))) fun j hj => by
    rw [Nat.testBit_or, bt_testBit p _ j hj, Nat.testBit_two_pow, Bool.or_comm]
    congr 1
    exact decide_eq_decide.2 (by omega)

theorem bt_with_other (p : Nat → Bool) (low i : Nat) (h : i ≠ low / 8) : bt (fun l => decide (l = low) || p l) i = bt p i :=
  bt_congr fun j hj => by rw [decide_eq_false (by omega), Bool.false_or]

/-- A container that is given by its bytes. -/
def ofBytes (f : Nat → Nat) (l : Nat) : Bool := (f (l / 8)).testBit (l % 8)
theorem bt_ofBytes (f : Nat → Nat) (i : Nat) (h : f i < 256) : bt (ofBytes f) i = f i :=
  bt_eq h fun j hj => by
    unfold ofBytes
    rw [show (8 * i + j) / 8 = i by omega, show (8 * i + j) % 8 = j by omega]

/-- A container's cells. -/
def contA (p : Nat → Bool) : Array Value := Array.ofFn (n := 32) fun i => .int .u8 (bt p i.val : Nat)
theorem contA_size (p : Nat → Bool) : (contA p).size = 32 := by simp [contA]
theorem contA_get (p : Nat → Bool) (i : Nat) (h : i < 32) : (contA p)[i]? = some (.int .u8 (bt p i : Nat)) := by
  simp [contA, h]
theorem contA_congr {p q : Nat → Bool} (h : ∀ l, l < 256 → p l = q l) : contA p = contA q := by
  unfold contA
  congr 1
  funext i
  rw [bt_congr fun j hj => h _ (by have := i.isLt; omega)]
theorem contA_inj {p q : Nat → Bool} (h : contA p = contA q) : ∀ l, l < 256 → p l = q l := fun l hl => by
  have h1 := contA_get p (l / 8) (by omega)
  rw [h, contA_get q (l / 8) (by omega)] at h1
  injection h1 with h1
  injection h1 with _ h1
  have h2 : bt q (l / 8) = bt p (l / 8) := by omega
  have e : l = 8 * (l / 8) + l % 8 := by omega
  rw [e, ← bt_testBit p (l / 8) (l % 8) (by omega), ← bt_testBit q (l / 8) (l % 8) (by omega), h2]
theorem contA_one (p : Nat → Bool) : (contA p).all (·.oneCell') = true := by
  refine Array.all_eq_true_iff_forall_mem.2 fun v hv => ?_
  obtain ⟨i, rfl⟩ := Array.mem_ofFn.1 hv
  rfl
theorem contA_with (p : Nat → Bool) (low : Nat) : (contA p).setIfInBounds (low / 8) (.int .u8 ((bt p (low / 8) ||| 2 ^ (low % 8) : Nat) : Int)) = contA (fun l => decide (l = low) || p l) := by
  apply Array.ext
  · simp [contA]
  · intro j h1 h2
    by_cases e : j = low / 8
    · subst e; simp [contA, bt_with]
    · rw [Array.getElem_setIfInBounds_ne (by simpa using h1) (fun q => e q.symm)]
      simp [contA, bt_with_other p low j e]
theorem contA_none : contA (fun _ => false) = Array.replicate 32 (.int .u8 0) := by
  apply Array.ext
  · simp [contA]
  · intro j h1 h2
    simp [contA, bt_none]

/-- How many lower parts a container has. -/
def cnt (p : Nat → Bool) : Nat := (List.range 256).countP p
theorem cnt_le (p : Nat → Bool) : cnt p ≤ 256 := by
  unfold cnt
  refine Nat.le_trans List.countP_le_length ?_
  simp
/-- Its lower parts that are not below a number. -/
def lowsL (p : Nat → Bool) (from_ : Nat) : List Nat := (List.range 256).filter fun l => decide (from_ ≤ l) && p l

/-- How many of the first k. -/
def cntTo (p : Nat → Bool) (k : Nat) : Nat := (List.range k).countP p
theorem cntTo_succ (p : Nat → Bool) (k : Nat) : cntTo p (k + 1) = cntTo p k + (p k).toNat := by
  unfold cntTo
  rw [List.range_succ, List.countP_append]
  cases h : p k <;> simp [h]
theorem cntTo_le (p : Nat → Bool) (k : Nat) : cntTo p k ≤ k := by
  unfold cntTo
  refine Nat.le_trans List.countP_le_length ?_
  simp
def pop (v : Nat) : Nat := (v.testBit 0).toNat + (v.testBit 1).toNat + (v.testBit 2).toNat + (v.testBit 3).toNat + (v.testBit 4).toNat + (v.testBit 5).toNat + (v.testBit 6).toNat + (v.testBit 7).toNat
theorem pop_le (v : Nat) : pop v ≤ 8 := by
  unfold pop
  have h := fun k => Bool.toNat_le (v.testBit k)
  have := h 0; have := h 1; have := h 2; have := h 3; have := h 4; have := h 5; have := h 6; have := h 7
  omega
theorem cntTo_byte (p : Nat → Bool) (i : Nat) : cntTo p (8 * (i + 1)) = cntTo p (8 * i) + pop (bt p i) := by
  unfold pop
  rw [bt_testBit p i 0 (by omega), bt_testBit p i 1 (by omega), bt_testBit p i 2 (by omega), bt_testBit p i 3 (by omega), bt_testBit p i 4 (by omega), bt_testBit p i 5 (by omega), bt_testBit p i 6 (by omega), bt_testBit p i 7 (by omega)]
  rw [show 8 * (i + 1) = 8 * i + 7 + 1 by omega, cntTo_succ, cntTo_succ, cntTo_succ, cntTo_succ, cntTo_succ, cntTo_succ, cntTo_succ, cntTo_succ]
  have e0 : (p (8 * i + 0)) = p (8 * i) := rfl
  rw [e0]
  omega

end Go.Proofs.Ytbenfmhcpipehaa
