/-
  The permutation and the hash as plain functions on lanes of 64 bits. Nothing of the program.
-/
import Derived.Test.YtjbenoaefjlbaaaDoorMem
namespace Go.Proofs.YtjbenoaefjlbaaaDoor
open Go Go.RowKit

/-- A column's parity. -/
def par (s : Nat → BitVec 64) (x : Nat) : BitVec 64 := s x ^^^ s (x + 5) ^^^ s (x + 10) ^^^ s (x + 15) ^^^ s (x + 20)
/-- What goes into each lane of a column. -/
def dif (s : Nat → BitVec 64) (x : Nat) : BitVec 64 := par s ((x + 4) % 5) ^^^ rotl (par s ((x + 1) % 5)) 1
def theta (s : Nat → BitVec 64) : Nat → BitVec 64 := fun i => s i ^^^ dif s (i % 5)
/-- By how many bits each lane is turned. -/
def offs : Nat → Nat := fun i => [0, 1, 62, 28, 27, 36, 44, 6, 55, 20, 3, 10, 43, 25, 39, 41, 45, 15, 21, 8, 18, 2, 61, 56, 14].getD i 0
/-- Where each lane goes. -/
def tgts : Nat → Nat := fun i => [0, 10, 20, 5, 15, 16, 1, 11, 21, 6, 7, 17, 2, 12, 22, 23, 8, 18, 3, 13, 14, 24, 9, 19, 4].getD i 0
/-- Where each lane comes from. -/
def srcs : Nat → Nat := fun i => [0, 6, 12, 18, 24, 3, 9, 10, 16, 22, 1, 7, 13, 19, 20, 4, 5, 11, 17, 23, 2, 8, 14, 15, 21].getD i 0
def rhopi (s : Nat → BitVec 64) : Nat → BitVec 64 := fun i => rotl (s (srcs i)) (offs (srcs i))
def chi (s : Nat → BitVec 64) : Nat → BitVec 64 := fun i => s i ^^^ (~~~ s (5 * (i / 5) + (i + 1) % 5) &&& s (5 * (i / 5) + (i + 2) % 5))
/-- The rounds' constants. -/
def rcs : Nat → BitVec 64 := fun i => [1, 32898, 9223372036854808714, 9223372039002292224, 32907, 2147483649, 9223372039002292353, 9223372036854808585, 138, 136, 2147516425, 2147483658, 2147516555, 9223372036854775947, 9223372036854808713, 9223372036854808579, 9223372036854808578, 9223372036854775936, 32778, 9223372039002259466, 9223372039002292353, 9223372036854808704, 2147483649, 9223372039002292232].getD i 0
def iota (k : Nat) (s : Nat → BitVec 64) : Nat → BitVec 64 := fun i => if i = 0 then s 0 ^^^ rcs k else s i
def round (k : Nat) (s : Nat → BitVec 64) : Nat → BitVec 64 := iota k (chi (rhopi (theta s)))
/-- The first k rounds. -/
def rounds : Nat → (Nat → BitVec 64) → (Nat → BitVec 64)
  | 0, s => s
  | k + 1, s => round k (rounds k s)
def perm (s : Nat → BitVec 64) : Nat → BitVec 64 := rounds 24 s

theorem srcs_tgts : ∀ i, i < 25 → srcs (tgts i) = i := by decide
theorem tgts_srcs : ∀ i, i < 25 → tgts (srcs i) = i := by decide
theorem srcs_lt : ∀ i, i < 25 → srcs i < 25 := by decide
theorem tgts_lt : ∀ i, i < 25 → tgts i < 25 := by decide
theorem offs_lt : ∀ i, i < 25 → offs i < 64 := by decide

/-- Two states that are alike in their 25 lanes. -/
def Same (s s' : Nat → BitVec 64) : Prop := ∀ i, i < 25 → s i = s' i
theorem Same.onPar {s s' : Nat → BitVec 64} (h : Same s s') (x : Nat) (hx : x < 5) : par s x = par s' x := by
  unfold par; rw [h x (by omega), h (x + 5) (by omega), h (x + 10) (by omega), h (x + 15) (by omega), h (x + 20) (by omega)]
theorem Same.onDif {s s' : Nat → BitVec 64} (h : Same s s') (x : Nat) : dif s x = dif s' x := by
  unfold dif; rw [h.onPar ((x + 4) % 5) (by omega), h.onPar ((x + 1) % 5) (by omega)]
theorem Same.onTheta {s s' : Nat → BitVec 64} (h : Same s s') : Same (theta s) (theta s') := fun i hi => by
  show s i ^^^ dif s (i % 5) = s' i ^^^ dif s' (i % 5)
  rw [h i hi, h.onDif]
theorem Same.onRhopi {s s' : Nat → BitVec 64} (h : Same s s') : Same (rhopi s) (rhopi s') := fun i hi => by
  show rotl (s (srcs i)) (offs (srcs i)) = rotl (s' (srcs i)) (offs (srcs i))
  rw [h _ (srcs_lt i hi)]
theorem Same.onChi {s s' : Nat → BitVec 64} (h : Same s s') : Same (chi s) (chi s') := fun i hi => by
  show s i ^^^ (~~~ s (5 * (i / 5) + (i + 1) % 5) &&& s (5 * (i / 5) + (i + 2) % 5)) = s' i ^^^ (~~~ s' (5 * (i / 5) + (i + 1) % 5) &&& s' (5 * (i / 5) + (i + 2) % 5))
  rw [h i hi, h (5 * (i / 5) + (i + 1) % 5) (by omega), h (5 * (i / 5) + (i + 2) % 5) (by omega)]
theorem Same.onIota {s s' : Nat → BitVec 64} (h : Same s s') (k : Nat) : Same (iota k s) (iota k s') := fun i hi => by
  show (if i = 0 then s 0 ^^^ rcs k else s i) = (if i = 0 then s' 0 ^^^ rcs k else s' i)
  rw [h i hi, h 0 (by omega)]
theorem Same.onRound {s s' : Nat → BitVec 64} (h : Same s s') (k : Nat) : Same (round k s) (round k s') := ((h.onTheta.onRhopi).onChi).onIota k
theorem Same.onRounds {s s' : Nat → BitVec 64} (h : Same s s') : ∀ k, Same (rounds k s) (rounds k s')
  | 0 => h
  | k + 1 => (h.onRounds k).onRound k
theorem Same.onPerm {s s' : Nat → BitVec 64} (h : Same s s') : Same (perm s) (perm s') := h.onRounds 24
theorem Same.onLanesA {s s' : Nat → BitVec 64} (h : Same s s') : lanesA s = lanesA s' := lanesA_congr h

/-- Five lanes of a row, written one by one. -/
theorem chi_row (s : Nat → BitVec 64) (k : Nat) :
    chi s (5 * k) = s (5 * k) ^^^ (~~~ s (5 * k + 1) &&& s (5 * k + 2)) ∧
    chi s (5 * k + 1) = s (5 * k + 1) ^^^ (~~~ s (5 * k + 2) &&& s (5 * k + 3)) ∧
    chi s (5 * k + 2) = s (5 * k + 2) ^^^ (~~~ s (5 * k + 3) &&& s (5 * k + 4)) ∧
    chi s (5 * k + 3) = s (5 * k + 3) ^^^ (~~~ s (5 * k + 4) &&& s (5 * k)) ∧
    chi s (5 * k + 4) = s (5 * k + 4) ^^^ (~~~ s (5 * k) &&& s (5 * k + 1)) := by
  have e : ∀ i a b, 5 * (i / 5) + (i + 1) % 5 = a → 5 * (i / 5) + (i + 2) % 5 = b → chi s i = s i ^^^ (~~~ s a &&& s b) := fun i a b ha hb => by
    unfold chi; rw [ha, hb]
  exact ⟨e _ _ _ (by omega) (by omega), e _ _ _ (by omega) (by omega), e _ _ _ (by omega) (by omega), e _ _ _ (by omega) (by omega), e _ _ _ (by omega) (by omega)⟩

/-- A row of five, put in place. -/
theorem five_step (f s : Nat → BitVec 64) (b : Nat) (t : TypeId) (k : Nat) (w : World) (hk : k < 5)
    (h : Holds w b t (lanesA (fun i => if i < 5 * k then f i else s i))) (v0 v1 v2 v3 v4 : BitVec 64)
    (e0 : v0 = f (5 * k)) (e1 : v1 = f (5 * k + 1)) (e2 : v2 = f (5 * k + 2)) (e3 : v3 = f (5 * k + 3)) (e4 : v4 = f (5 * k + 4)) :
    Holds (((((w.setCell ⟨b, 5 * k, none⟩ (.int .u64 (lane v0))).setCell ⟨b, 5 * k + 1, none⟩ (.int .u64 (lane v1))).setCell ⟨b, 5 * k + 2, none⟩ (.int .u64 (lane v2))).setCell ⟨b, 5 * k + 3, none⟩ (.int .u64 (lane v3))).setCell ⟨b, 5 * k + 4, none⟩ (.int .u64 (lane v4)))
      b t (lanesA (fun i => if i < 5 * (k + 1) then f i else s i)) := by
  refine (((((h.laneSet (5 * k) v0 (by omega)).laneSet (5 * k + 1) v1 (by omega)).laneSet (5 * k + 2) v2 (by omega)).laneSet (5 * k + 3) v3 (by omega)).laneSet (5 * k + 4) v4 (by omega)).congr (lanesA_congr fun i hi => ?_)
  subst e0 e1 e2 e3 e4
  by_cases c : i < 5 * k
  · simp only [show i ≠ 5 * k + 4 by omega, show i ≠ 5 * k + 3 by omega, show i ≠ 5 * k + 2 by omega, show i ≠ 5 * k + 1 by omega, show i ≠ 5 * k by omega, c, show i < 5 * (k + 1) by omega, if_true, if_false]
  · by_cases d : i < 5 * (k + 1)
    · have : i = 5 * k ∨ i = 5 * k + 1 ∨ i = 5 * k + 2 ∨ i = 5 * k + 3 ∨ i = 5 * k + 4 := by omega
      rcases this with q | q | q | q | q <;> subst q <;> simp [d]
    · simp only [show i ≠ 5 * k + 4 by omega, show i ≠ 5 * k + 3 by omega, show i ≠ 5 * k + 2 by omega, show i ≠ 5 * k + 1 by omega, show i ≠ 5 * k by omega, c, d, if_false]

end Go.Proofs.YtjbenoaefjlbaaaDoor
