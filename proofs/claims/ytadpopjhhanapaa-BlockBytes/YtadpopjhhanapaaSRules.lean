/-
  Sums of numbers, by lists: what the calls answer, and what follows; nothing of the program.
-/
import Derived.Test.YtadpopjhhanapaaSPure
namespace Go.Proofs.Ytadpopjhhanapaa
open Go Go.RowKit

theorem numF_more {j k n : Nat} (hj : n < 256 ^ j) (hk : n < 256 ^ k) : numF j n = numF k n :=
  canon_eq (numF_head j n hj) hk (val_numF j n hj)
theorem pow_le {a b : Nat} (h : a ≤ b) : 256 ^ a ≤ 256 ^ b := Nat.pow_le_pow_right (by omega) h
def addE (a b : List UInt8) : Int := if rightN a = true ∧ rightN b = true then (if val a + val b < 256 ^ 32 then 0 else 11) else 1
def addS (a b : List UInt8) : List UInt8 := if addE a b = 0 then numF 32 (val a + val b) else []
def subE (a b : List UInt8) : Int := if rightN a = true ∧ rightN b = true then (if val a < val b then 11 else 0) else 1
def subS (a b : List UInt8) : List UInt8 := if subE a b = 0 then numF 32 (val a - val b) else []

theorem right_lt {a : List UInt8} (h : rightN a = true) : val a < 256 ^ 32 ∧ a.head? ≠ some 0 := by
  obtain ⟨h1, h2⟩ := (rightN_iff a).1 h
  refine ⟨Nat.lt_of_lt_of_le (val_lt a) (pow_le h1), ?_⟩
  rw [← h2]; exact trimL_head a
theorem right_num {n : Nat} (h : n < 256 ^ 32) : rightN (numF 32 n) = true :=
  (rightN_iff _).2 ⟨numF_len 32 n, trimL_of _ (numF_head 32 n h)⟩
theorem right_trim {a : List UInt8} (h : a.length ≤ 32) : rightN (trimL a) = true :=
  (rightN_iff _).2 ⟨Nat.le_trans (trimL_len a) h, trimL_idem a⟩
theorem right_same {a b : List UInt8} (ha : rightN a = true) (hb : rightN b = true) (h : val a = val b) : a = b :=
  val_inj a b (right_lt ha).2 (right_lt hb).2 h
theorem add_ok {a b : List UInt8} (ha : rightN a = true) (hb : rightN b = true) (h : val a + val b < 256 ^ 32) : addE a b = 0 ∧ addS a b = numF 32 (val a + val b) := by
  have e : addE a b = 0 := by unfold addE; rw [if_pos ⟨ha, hb⟩, if_pos h]
  exact ⟨e, by unfold addS; rw [if_pos e]⟩
theorem sub_ok {a b : List UInt8} (ha : rightN a = true) (hb : rightN b = true) (h : val b ≤ val a) : subE a b = 0 ∧ subS a b = numF 32 (val a - val b) := by
  have e : subE a b = 0 := by unfold subE; rw [if_pos ⟨ha, hb⟩, if_neg (by omega)]
  exact ⟨e, by unfold subS; rw [if_pos e]⟩

theorem short_val {a : List UInt8} (h : a.length ≤ 31) : val (trimL a) < 256 ^ 31 :=
  Nat.lt_of_lt_of_le (val_lt _) (pow_le (Nat.le_trans (trimL_len a) h))
/-- What was added is taken away again; adding knows no order; a sum is a number and not below its parts. -/
theorem rules {a b : List UInt8} (ha : a.length ≤ 31) (hb : b.length ≤ 31) :
    addE (trimL a) (trimL b) = 0 ∧ addE (trimL b) (trimL a) = 0 ∧ addS (trimL a) (trimL b) = addS (trimL b) (trimL a) ∧ subE (addS (trimL a) (trimL b)) (trimL b) = 0 ∧
    subS (addS (trimL a) (trimL b)) (trimL b) = trimL a ∧ rightN (addS (trimL a) (trimL b)) = true ∧ val (trimL a) ≤ val (addS (trimL a) (trimL b)) := by
  have ra := right_trim (a := a) (by omega)
  have rb := right_trim (a := b) (by omega)
  have h1 := short_val ha
  have h2 := short_val hb
  have h3 : (256 : Nat) ^ 31 + 256 ^ 31 ≤ 256 ^ 32 := by decide
  have hs : val (trimL a) + val (trimL b) < 256 ^ 32 := by omega
  obtain ⟨e1, s1⟩ := add_ok ra rb hs
  obtain ⟨e2, s2⟩ := add_ok rb ra (by omega)
  have hv : val (addS (trimL a) (trimL b)) = val (trimL a) + val (trimL b) := by rw [s1, val_numF 32 _ hs]
  have rs : rightN (addS (trimL a) (trimL b)) = true := by rw [s1]; exact right_num hs
  obtain ⟨e3, s3⟩ := sub_ok rs rb (by omega)
  refine ⟨e1, e2, by rw [s1, s2, Nat.add_comm], e3, ?_, rs, by omega⟩
  rw [s3, hv, Nat.add_sub_cancel]
  exact (canon_eq (right_lt ra).2 (right_lt ra).1 rfl).symm
theorem cmp_turn (a b : Nat) : cmpN a b = -cmpN b a := by
  unfold cmpN
  by_cases h : a < b
  · have h2 : ¬ b < a := by omega
    simp [h, h2]
  · by_cases h2 : b < a
    · simp [h, h2]
    · simp [h, h2]
theorem cmp_zero (a b : Nat) : cmpN a b = 0 ↔ a = b := by
  unfold cmpN
  by_cases h : a < b
  · simp [h]; omega
  · by_cases h2 : b < a
    · simp [h, h2]; omega
    · simp [h, h2]; omega
theorem cmp_neg (a b : Nat) : cmpN a b < 0 ↔ a < b := by
  unfold cmpN
  by_cases h : a < b
  · simp [h]
  · by_cases h2 : b < a
    · simp [h, h2]
    · simp [h, h2]
theorem cmp_ge (a b : Nat) : 0 ≤ cmpN a b ↔ b ≤ a := by have := cmp_neg a b; omega
theorem cmp_same {a b : List UInt8} (ha : a.head? ≠ some 0) (hb : b.head? ≠ some 0) : cmpN (val a) (val b) = 0 ↔ a = b :=
  (cmp_zero _ _).trans ⟨fun h => val_inj a b ha hb h, fun h => by rw [h]⟩
/-- Numbers stand against each other as their wide texts do. -/
theorem order_wide {a b : List UInt8} (ha : a.length ≤ 32) (hb : b.length ≤ 32) :
    (wideL a).length = 32 ∧ (wideL b).length = 32 ∧ decide (cmpN (val a) (val b) < 0) = Op.bytesLess (wideL a) (wideL b) ∧ (cmpN (val a) (val b) = 0 ↔ wideL a = wideL b) ∧ trimL (wideL a) = trimL a ∧ rightN (trimL a) = true ∧ cmpN (val (wideL a)) (val a) = 0 := by
  have la := wideL_len a (Nat.le_trans (trimL_len a) ha)
  have lb := wideL_len b (Nat.le_trans (trimL_len b) hb)
  refine ⟨la, lb, ?_, ?_, wideL_trim a, right_trim ha, by rw [wideL_val]; exact (cmp_zero _ _).2 rfl⟩
  · rw [bytesLess_val _ _ (by rw [la, lb]), wideL_val, wideL_val]
    have h := cmp_neg (val a) (val b)
    by_cases q : val a < val b
    · rw [decide_eq_true (h.2 q), decide_eq_true q]
    · rw [decide_eq_false (fun z => q (h.1 z)), decide_eq_false q]
  · refine (cmp_zero _ _).trans ⟨fun h => ?_, fun h => by rw [← wideL_val a, ← wideL_val b, h]⟩
    have ht : trimL a = trimL b := val_inj _ _ (trimL_head a) (trimL_head b) (by rw [trimL_val, trimL_val, h])
    unfold wideL
    rw [ht]
end Go.Proofs.Ytadpopjhhanapaa
