/-
  Texts of this claim, put together.
-/
import Derived.WalkKit
import Derived.WalkSpells
import Derived.WalkLawsBesides
import Derived.Laws.Bits64b
import Derived.Laws.Rows
import Derived.Deep.Draws
import Derived.Test.YtjdhdeffiigpbaaDoorRows
import Derived.Deep.QuietTactic
import Derived.BigQuiet
import Derived.RegionTactic
import Derived.ChangeAlike
import Derived.BigRegion
import Derived.Laws.Tables
import Derived.Deep.MidRow
import Derived.Deep.WholeRow
import Derived.Deep.RegionHeld3
/-
  Lanes of 64 bits as the model's numbers: what the walk's 'bits', shifts and turns are on them. Plain; nothing of the program.
-/
namespace Go.Proofs.YtjdhdeffiigpbaaDoor.K
open Go Go.RowKit

/-- A lane as the model's number. -/
def lane (x : BitVec 64) : Int := (x.toNat : Int)
theorem lane_nn (x : BitVec 64) : 0 ≤ lane x := by unfold lane; omega
theorem lane_lt (x : BitVec 64) : lane x < 18446744073709551616 := by unfold lane; have := x.isLt; omega
theorem lane_inj {x y : BitVec 64} (h : lane x = lane y) : x = y := by
  unfold lane at h; exact BitVec.eq_of_toNat_eq (by omega)
theorem lane_ofInt (x : BitVec 64) : BitVec.ofInt 64 (lane x) = x := by
  unfold lane; simp
theorem lane_ex (n : Int) (h0 : 0 ≤ n) (h1 : n < 18446744073709551616) : ∃ x : BitVec 64, n = lane x := by
  refine ⟨BitVec.ofNat 64 n.toNat, ?_⟩
  unfold lane
  rw [BitVec.toNat_ofNat, Nat.mod_eq_of_lt (by omega)]
  omega

theorem lane_xor (x y : BitVec 64) : bits .xor .u64 (lane x) (lane y) = lane (x ^^^ y) := by
  unfold lane; rw [bits_xor_u64_nat _ _ x.isLt y.isLt, BitVec.toNat_xor]
theorem lane_and (x y : BitVec 64) : bits .and .u64 (lane x) (lane y) = lane (x &&& y) := by
  unfold lane; rw [bits_and_u64_nat _ _ x.isLt y.isLt, BitVec.toNat_and]
theorem lane_or (x y : BitVec 64) : bits .or .u64 (lane x) (lane y) = lane (x ||| y) := by
  unfold lane; rw [bits_or_u64_nat _ _ x.isLt y.isLt, BitVec.toNat_or]
theorem lane_not (x : BitVec 64) : bits .xor .u64 18446744073709551615 (lane x) = lane (~~~x) := by
  have h : (18446744073709551615 : Int) = lane (BitVec.allOnes 64) := by unfold lane; decide
  rw [h, lane_xor, BitVec.allOnes_xor]

/-- Shifts. -/
theorem lane_shl (x : BitVec 64) (k : Nat) : IntKind.u64.wrap (lane x * 2 ^ k) = lane (x <<< k) := by
  unfold lane
  rw [IntKind.wrap_u64, BitVec.toNat_shiftLeft, Nat.shiftLeft_eq]
  simp only [Int.natCast_emod, Int.natCast_mul, Int.natCast_pow]
  rfl
theorem lane_shr (x : BitVec 64) (k : Nat) : (lane x) / 2 ^ k = lane (x >>> k) := by
  unfold lane
  rw [BitVec.toNat_ushiftRight, Nat.shiftRight_eq_div_pow]
  simp only [Int.natCast_ediv, Int.natCast_pow]
  rfl
theorem and63 (k : Nat) (h : k < 64) : bits .and .u64 (k : Int) 63 = (k : Int) := by
  have := bits_and_u64_nat k 63 (by omega) (by omega)
  rw [show ((63 : Nat) : Int) = (63 : Int) from rfl] at this
  rw [this, show (63 : Nat) = 2 ^ 6 - 1 from rfl, Nat.and_two_pow_sub_one_eq_mod, Nat.mod_eq_of_lt (by omega)]

/-- A lane, turned. -/
def rotl (x : BitVec 64) (k : Nat) : BitVec 64 := x <<< k ||| x >>> (64 - k)

end Go.Proofs.YtjdhdeffiigpbaaDoor.K
/-
  Blocks of memory that are known whole, and worlds that part in one block alone. Plain; nothing of the program.
-/
namespace Go.Proofs.YtjdhdeffiigpbaaDoor.K
open Go Go.RowKit

/-- Block b is a row of the cells cs, none of which is frozen. -/
def Holds (w : World) (b : Nat) (t : TypeId) (cs : Array Value) : Prop := w.heap[b]? = some (.cells cs t (0, 0))

theorem Holds.lt {w : World} {b : Nat} {t : TypeId} {cs : Array Value} (h : Holds w b t cs) : b < w.heap.size := by
  unfold Holds at h
  exact (Array.getElem?_eq_some_iff.1 h).1
theorem Holds.cell {w : World} {b : Nat} {t : TypeId} {cs : Array Value} (h : Holds w b t cs) (i : Nat) : w.cell? ⟨b, i, none⟩ = cs[i]? :=
  cell_of_row w b i cs t (0, 0) h
theorem Holds.frozen {w : World} {b : Nat} {t : TypeId} {cs : Array Value} (h : Holds w b t cs) (i : Nat) : w.frozen? ⟨b, i, none⟩ = false := by
  unfold Holds at h
  simp [World.frozen?, h]
theorem Holds.set {w : World} {b : Nat} {t : TypeId} {cs : Array Value} (h : Holds w b t cs) (i : Nat) (v : Value) : Holds (w.setCell ⟨b, i, none⟩ v) b t (cs.setIfInBounds i v) := by
  unfold Holds at *
  simp [World.setCell, Array.getElem?_modify, h]
theorem Holds.drewN {w : World} {b : Nat} {t : TypeId} {cs : Array Value} (h : Holds w b t cs) (n : Nat) : Holds (w.drewN n) b t cs := h
theorem Holds.alloc {w : World} {b : Nat} {t : TypeId} {cs : Array Value} (h : Holds w b t cs) (o : Obj) : Holds (w.alloc o) b t cs := by
  have := h.lt
  unfold Holds at *
  rw [Below.heap_alloc _ _ _ this]; exact h
theorem Holds.new (w : World) (t : TypeId) (cs : Array Value) : Holds (w.alloc (.cells cs t)) w.heap.size t cs := by
  unfold Holds World.alloc; simp
theorem Holds.other {w : World} {b : Nat} {t : TypeId} {cs : Array Value} (h : Holds w b t cs) (a : Addr) (v : Value) (hb : b ≠ a.block) : Holds (w.setCell a v) b t cs := by
  unfold Holds at *
  rw [Below.heap_setCell _ _ _ _ hb]; exact h
theorem Holds.congr {w : World} {b : Nat} {t : TypeId} {cs cs' : Array Value} (h : Holds w b t cs) (e : cs = cs') : Holds w b t cs' := e ▸ h

/-- The world w' is as w was, but for block b, and for new blocks. -/
structure Only (b : Nat) (w w' : World) : Prop where
  os : w'.os = w.os
  tape : w'.tape = w.tape
  output : w'.output = w.output
  size : w.heap.size ≤ w'.heap.size
  block : ∀ k, k < w.heap.size → k ≠ b → w'.heap[k]? = w.heap[k]?

theorem Only.refl (b : Nat) (w : World) : Only b w w := ⟨rfl, rfl, rfl, Nat.le_refl _, fun _ _ _ => rfl⟩
theorem Only.trans {b : Nat} {w1 w2 w3 : World} (h : Only b w1 w2) (k : Only b w2 w3) : Only b w1 w3 :=
  ⟨k.os.trans h.os, k.tape.trans h.tape, k.output.trans h.output, Nat.le_trans h.size k.size,
   fun i hi hb => (k.block i (Nat.lt_of_lt_of_le hi h.size) hb).trans (h.block i hi hb)⟩
theorem Only.drewN {b : Nat} {w w' : World} (h : Only b w w') (n : Nat) : Only b w (w'.drewN n) := ⟨h.os, h.tape, h.output, h.size, h.block⟩
theorem Only.drew {b : Nat} {w w' : World} (h : Only b w w') : Only b w w'.drew := ⟨h.os, h.tape, h.output, h.size, h.block⟩
theorem Only.set {b : Nat} {w w' : World} (h : Only b w w') (i : Nat) (v : Value) : Only b w (w'.setCell ⟨b, i, none⟩ v) :=
  h.trans ⟨rfl, rfl, rfl, by simp, fun k _ hb => Below.heap_setCell _ _ _ _ hb⟩
theorem Only.alloc {b : Nat} {w w' : World} (h : Only b w w') (o : Obj) : Only b w (w'.alloc o) :=
  h.trans ⟨rfl, rfl, rfl, by simp, fun k hk _ => Below.heap_alloc _ _ _ hk⟩
theorem Only.holds {b c : Nat} {w w' : World} {t : TypeId} {cs : Array Value} (h : Only b w w') (hc : Holds w c t cs) (hb : c ≠ b) : Holds w' c t cs := by
  have := hc.lt
  unfold Holds at *
  rw [h.block c this hb]; exact hc
/-- Behind a call that makes blocks and turns none. -/
theorem Only.below {b : Nat} {w w' w'' : World} (h : Only b w w') (k : Below w'.heap.size w' w'') : Only b w w'' :=
  h.trans ⟨k.os, k.tape, k.output, k.size, fun i hi _ => k.block i hi⟩
/-- Where the block is a new one, nothing has turned. -/
theorem Only.fresh {b : Nat} {w w' w'' : World} (h : Below w.heap.size w w') (k : Only b w' w'') (hb : w.heap.size ≤ b) : Below w.heap.size w w'' :=
  ⟨k.os.trans h.os, k.tape.trans h.tape, k.output.trans h.output, Nat.le_trans h.size k.size,
   fun i hi => (k.block i (Nat.lt_of_lt_of_le hi h.size) (by omega)).trans (h.block i hi)⟩
theorem Below.holds {c : Nat} {w w' : World} {t : TypeId} {cs : Array Value} (h : Below w.heap.size w w') (hc : Holds w c t cs) : Holds w' c t cs := by
  have := hc.lt
  unfold Holds at *
  rw [h.block c this]; exact hc

theorem _root_.Go.RowKit.Below.drewL {B : Nat} {a w : World} (h : Below B a.drew w) : Below B a w := ⟨h.os, h.tape, h.output, h.size, h.block⟩

/-- The lanes of a state as cells. -/
def lanesA (s : Nat → BitVec 64) : Array Value := Array.ofFn (n := 25) fun i => .int .u64 (lane (s i.val))
theorem lanesA_size (s : Nat → BitVec 64) : (lanesA s).size = 25 := by simp [lanesA]
theorem lanesA_get (s : Nat → BitVec 64) (i : Nat) (h : i < 25) : (lanesA s)[i]? = some (.int .u64 (lane (s i))) := by
  simp [lanesA, h]
theorem lanesA_congr {s s' : Nat → BitVec 64} (h : ∀ i, i < 25 → s i = s' i) : lanesA s = lanesA s' := by
  unfold lanesA
  congr 1
  funext i
  rw [h i.val i.isLt]
theorem lanesA_set (s : Nat → BitVec 64) (i : Nat) (v : BitVec 64) (h : i < 25) : (lanesA s).setIfInBounds i (.int .u64 (lane v)) = lanesA (fun j => if j = i then v else s j) := by
  apply Array.ext
  · simp [lanesA]
  · intro j h1 h2
    by_cases e : j = i
    · subst e; simp [lanesA]
    · rw [Array.getElem_setIfInBounds_ne (by simpa using h1) (fun q => e q.symm)]
      simp [lanesA, e]
theorem Holds.laneAt {w : World} {b : Nat} {t : TypeId} {s : Nat → BitVec 64} (h : Holds w b t (lanesA s)) : ∀ i, i < 25 → w.cell? ⟨b, i, none⟩ = some (.int .u64 (lane (s i))) := fun i hi => by
  rw [h.cell, lanesA_get s i hi]
theorem Holds.laneSet {w : World} {b : Nat} {t : TypeId} {s : Nat → BitVec 64} (h : Holds w b t (lanesA s)) (i : Nat) (v : BitVec 64) (hi : i < 25) :
    Holds (w.setCell ⟨b, i, none⟩ (.int .u64 (lane v))) b t (lanesA (fun j => if j = i then v else s j)) :=
  (h.set i _).congr (lanesA_set s i v hi)

end Go.Proofs.YtjdhdeffiigpbaaDoor.K
/-
  The permutation and the hash as plain functions on lanes of 64 bits. Nothing of the program.
-/
namespace Go.Proofs.YtjdhdeffiigpbaaDoor.K
open Go Go.RowKit

/-- A column's parity. -/
def par (s : Nat → BitVec 64) (x : Nat) : BitVec 64 := s x ^^^ s (x + 5) ^^^ s (x + 10) ^^^ s (x + 15) ^^^ s (x + 20)
/-- What goes into each lane of a column. -/
def dif (s : Nat → BitVec 64) (x : Nat) : BitVec 64 := par s ((x + 4) % 5) ^^^ rotl (par s ((x + 1) % 5)) 1
def theta (s : Nat → BitVec 64) : Nat → BitVec 64 := fun i => s i ^^^ dif s (i % 5)
/-- By how many bits each lane is turned. -/
def offs : Nat → Nat := fun i => [0, 1, 62, 28, 27, 36, 44, 6, 55, 20, 3, 10, 43, 25, 39, 41, 45, 15, 21, 8, 18, 2, 61, 56, 14].getD i 0
/-- Where each lane goes. -/
def tgts : Nat → Nat := fun i => [0, 10, 20, 5, 15, 16, 1, 11, 21, 6, 7, 17, 2, 12, 22, 23, 8, 18, 3, 13, 14, 24, 9, 19, 4].getD i 0
/-- Where each lane comes from. -/
def srcs : Nat → Nat := fun i => [0, 6, 12, 18, 24, 3, 9, 10, 16, 22, 1, 7, 13, 19, 20, 4, 5, 11, 17, 23, 2, 8, 14, 15, 21].getD i 0
def rhopi (s : Nat → BitVec 64) : Nat → BitVec 64 := fun i => rotl (s (srcs i)) (offs (srcs i))
def chi (s : Nat → BitVec 64) : Nat → BitVec 64 := fun i => s i ^^^ (~~~ s (5 * (i / 5) + (i + 1) % 5) &&& s (5 * (i / 5) + (i + 2) % 5))
/-- The rounds' constants. -/
def rcs : Nat → BitVec 64 := fun i => [1, 32898, 9223372036854808714, 9223372039002292224, 32907, 2147483649, 9223372039002292353, 9223372036854808585, 138, 136, 2147516425, 2147483658, 2147516555, 9223372036854775947, 9223372036854808713, 9223372036854808579, 9223372036854808578, 9223372036854775936, 32778, 9223372039002259466, 9223372039002292353, 9223372036854808704, 2147483649, 9223372039002292232].getD i 0
def iota (k : Nat) (s : Nat → BitVec 64) : Nat → BitVec 64 := fun i => if i = 0 then s 0 ^^^ rcs k else s i
def round (k : Nat) (s : Nat → BitVec 64) : Nat → BitVec 64 := iota k (chi (rhopi (theta s)))
/-- The first k rounds. -/
def rounds : Nat → (Nat → BitVec 64) → (Nat → BitVec 64)
  | 0, s => s
  | k + 1, s => round k (rounds k s)
def perm (s : Nat → BitVec 64) : Nat → BitVec 64 := rounds 24 s

theorem srcs_tgts : ∀ i, i < 25 → srcs (tgts i) = i := by decide
theorem tgts_srcs : ∀ i, i < 25 → tgts (srcs i) = i := by decide
theorem srcs_lt : ∀ i, i < 25 → srcs i < 25 := by decide
theorem tgts_lt : ∀ i, i < 25 → tgts i < 25 := by decide
theorem offs_lt : ∀ i, i < 25 → offs i < 64 := by decide

/-- Two states that are alike in their 25 lanes. -/
def Same (s s' : Nat → BitVec 64) : Prop := ∀ i, i < 25 → s i = s' i
theorem Same.onPar {s s' : Nat → BitVec 64} (h : Same s s') (x : Nat) (hx : x < 5) : par s x = par s' x := by
  unfold par; rw [h x (by omega), h (x + 5) (by omega), h (x + 10) (by omega), h (x + 15) (by omega), h (x + 20) (by omega)]
theorem Same.onDif {s s' : Nat → BitVec 64} (h : Same s s') (x : Nat) : dif s x = dif s' x := by
  unfold dif; rw [h.onPar ((x + 4) % 5) (by omega), h.onPar ((x + 1) % 5) (by omega)]
theorem Same.onTheta {s s' : Nat → BitVec 64} (h : Same s s') : Same (theta s) (theta s') := fun i hi => by
  show s i ^^^ dif s (i % 5) = s' i ^^^ dif s' (i % 5)
  rw [h i hi, h.onDif]
theorem Same.onRhopi {s s' : Nat → BitVec 64} (h : Same s s') : Same (rhopi s) (rhopi s') := fun i hi => by
  show rotl (s (srcs i)) (offs (srcs i)) = rotl (s' (srcs i)) (offs (srcs i))
  rw [h _ (srcs_lt i hi)]
theorem Same.onChi {s s' : Nat → BitVec 64} (h : Same s s') : Same (chi s) (chi s') := fun i hi => by
  show s i ^^^ (~~~ s (5 * (i / 5) + (i + 1) % 5) &&& s (5 * (i / 5) + (i + 2) % 5)) = s' i ^^^ (~~~ s' (5 * (i / 5) + (i + 1) % 5) &&& s' (5 * (i / 5) + (i + 2) % 5))
  rw [h i hi, h (5 * (i / 5) + (i + 1) % 5) (by omega), h (5 * (i / 5) + (i + 2) % 5) (by omega)]
theorem Same.onIota {s s' : Nat → BitVec 64} (h : Same s s') (k : Nat) : Same (iota k s) (iota k s') := fun i hi => by
  show (if i = 0 then s 0 ^^^ rcs k else s i) = (if i = 0 then s' 0 ^^^ rcs k else s' i)
  rw [h i hi, h 0 (by omega)]
theorem Same.onRound {s s' : Nat → BitVec 64} (h : Same s s') (k : Nat) : Same (round k s) (round k s') := ((h.onTheta.onRhopi).onChi).onIota k
theorem Same.onRounds {s s' : Nat → BitVec 64} (h : Same s s') : ∀ k, Same (rounds k s) (rounds k s')
  | 0 => h
  | k + 1 => (h.onRounds k).onRound k
theorem Same.onPerm {s s' : Nat → BitVec 64} (h : Same s s') : Same (perm s) (perm s') := h.onRounds 24
theorem Same.onLanesA {s s' : Nat → BitVec 64} (h : Same s s') : lanesA s = lanesA s' := lanesA_congr h

/-- Five lanes of a row, written one by one. -/
theorem chi_row (s : Nat → BitVec 64) (k : Nat) :
    chi s (5 * k) = s (5 * k) ^^^ (~~~ s (5 * k + 1) &&& s (5 * k + 2)) ∧
    chi s (5 * k + 1) = s (5 * k + 1) ^^^ (~~~ s (5 * k + 2) &&& s (5 * k + 3)) ∧
    chi s (5 * k + 2) = s (5 * k + 2) ^^^ (~~~ s (5 * k + 3) &&& s (5 * k + 4)) ∧
    chi s (5 * k + 3) = s (5 * k + 3) ^^^ (~~~ s (5 * k + 4) &&& s (5 * k)) ∧
    chi s (5 * k + 4) = s (5 * k + 4) ^^^ (~~~ s (5 * k) &&& s (5 * k + 1)) := by
  have e : ∀ i a b, 5 * (i / 5) + (i + 1) % 5 = a → 5 * (i / 5) + (i + 2) % 5 = b → chi s i = s i ^^^ (~~~ s a &&& s b) := fun i a b ha hb => by
    unfold chi; rw [ha, hb]
  exact ⟨e _ _ _ (by omega) (by omega), e _ _ _ (by omega) (by omega), e _ _ _ (by omega) (by omega), e _ _ _ (by omega) (by omega), e _ _ _ (by omega) (by omega)⟩

/-- A row of five, put in place. -/
theorem five_step (f s : Nat → BitVec 64) (b : Nat) (t : TypeId) (k : Nat) (w : World) (hk : k < 5)
    (h : Holds w b t (lanesA (fun i => if i < 5 * k then f i else s i))) (v0 v1 v2 v3 v4 : BitVec 64)
    (e0 : v0 = f (5 * k)) (e1 : v1 = f (5 * k + 1)) (e2 : v2 = f (5 * k + 2)) (e3 : v3 = f (5 * k + 3)) (e4 : v4 = f (5 * k + 4)) :
    Holds (((((w.setCell ⟨b, 5 * k, none⟩ (.int .u64 (lane v0))).setCell ⟨b, 5 * k + 1, none⟩ (.int .u64 (lane v1))).setCell ⟨b, 5 * k + 2, none⟩ (.int .u64 (lane v2))).setCell ⟨b, 5 * k + 3, none⟩ (.int .u64 (lane v3))).setCell ⟨b, 5 * k + 4, none⟩ (.int .u64 (lane v4)))
      b t (lanesA (fun i => if i < 5 * (k + 1) then f i else s i)) := by
  refine (((((h.laneSet (5 * k) v0 (by omega)).laneSet (5 * k + 1) v1 (by omega)).laneSet (5 * k + 2) v2 (by omega)).laneSet (5 * k + 3) v3 (by omega)).laneSet (5 * k + 4) v4 (by omega)).congr (lanesA_congr fun i hi => ?_)
  subst e0 e1 e2 e3 e4
  by_cases c : i < 5 * k
  · simp only [show i ≠ 5 * k + 4 by omega, show i ≠ 5 * k + 3 by omega, show i ≠ 5 * k + 2 by omega, show i ≠ 5 * k + 1 by omega, show i ≠ 5 * k by omega, c, show i < 5 * (k + 1) by omega, if_true, if_false]
  · by_cases d : i < 5 * (k + 1)
    · have : i = 5 * k ∨ i = 5 * k + 1 ∨ i = 5 * k + 2 ∨ i = 5 * k + 3 ∨ i = 5 * k + 4 := by omega
      rcases this with q | q | q | q | q <;> subst q <;> simp [d]
    · simp only [show i ≠ 5 * k + 4 by omega, show i ≠ 5 * k + 3 by omega, show i ≠ 5 * k + 2 by omega, show i ≠ 5 * k + 1 by omega, show i ≠ 5 * k by omega, c, d, if_false]

end Go.Proofs.YtjdhdeffiigpbaaDoor.K
/-
  What the calls of RotateLeft64 and mixRows do.
-/
namespace Go.Proofs.YtjdhdeffiigpbaaDoor.K
open Go.RowKit

theorem lane_notK (x : BitVec 64) : bits .xor .u64 (if IntKind.u64.signed = true then -1 else IntKind.u64.max) (lane x) = lane (~~~x) := lane_not x

set_option maxHeartbeats 400000 in
theorem rot_any (x : BitVec 64) (k : Nat) (w : World) (hk : k < 64) :
    Calls Tryd.prog 102 #[.int .u64 (lane x), .int .i64 k] w fun e w' => e = .returned (.int .u64 (lane (rotl x k))) ∧ w' = w := by
  have h63 := and63 k hk
  have h0 : (0 : Int) ≤ k := by omega
  have h1 : (k : Int) < 64 := by omega
  have hx0 := lane_nn x
  have hx1 := lane_lt x
  go_enter Tryd.func102, Tryd.ntmps102
  go_wp2
  go_ret
  refine ⟨?_, rfl⟩
  show Ending.returned (Value.int IntKind.u64 (bits BinOp.or IntKind.u64 (IntKind.u64.wrap (lane x * 2 ^ k)) (lane x / 2 ^ (64 - k)))) = _
  rw [lane_shl, lane_shr, lane_or]
  rfl

set_option maxRecDepth 4000 in
set_option maxHeartbeats 1000000 in
theorem mixRows_any (s : Nat → BitVec 64) (b : Nat) (t : TypeId) (w : World) (hb : Holds w b t (lanesA s)) :
    Calls Tryd.prog 96 #[.pointer (some ⟨b, 0, none⟩)] w fun e w' => e = .returned (.tuple #[]) ∧ Only b w w' ∧ Holds w' b t (lanesA (chi s)) := by
  go_enter Tryd.func96, Tryd.ntmps96
  go_wp2
  go_loopw [2] (fun y wr => ∃ k : Nat, k ≤ 5 ∧ y = .int .i64 (5 * k : Nat) ∧ Only b w wr ∧ Holds wr b t (lanesA (fun i => if i < 5 * k then chi s i else s i))) (fun y _ => 25 - (intOf y).toNat)
  case atStart => exact ⟨0, by omega, rfl, Only.refl _ _, hb.congr (lanesA_congr fun i _ => by simp)⟩
  case round =>
    obtain ⟨k, hk, rfl, ho, hh⟩ := hrel
    by_cases hlt : k < 5
    · obtain ⟨m, hm⟩ : ∃ m, 5 * k = m := ⟨_, rfl⟩
      have hc0 := hh.laneAt (5 * k) (by omega)
      have hc1 := hh.laneAt (5 * k + 1) (by omega)
      have hc2 := hh.laneAt (5 * k + 2) (by omega)
      have hc3 := hh.laneAt (5 * k + 3) (by omega)
      have hc4 := hh.laneAt (5 * k + 4) (by omega)
      simp only [show ¬ 5 * k < 5 * k by omega, show ¬ 5 * k + 1 < 5 * k by omega, show ¬ 5 * k + 2 < 5 * k by omega, show ¬ 5 * k + 3 < 5 * k by omega, show ¬ 5 * k + 4 < 5 * k by omega, if_false] at hc0 hc1 hc2 hc3 hc4
      have hf := hh.frozen
      have HH : Hid (Holds wr b t (lanesA (fun i => if i < 5 * k then chi s i else s i))) := hh
      have HL : Hid (k < 5) := hlt
      have HR := chi_row s k
      have HC : Hid _ := HR
      have hy1 : m ≤ 20 := by omega
      have hy2 : (m : Int) ≤ 20 := by omega
      have HY : Hid (5 * k = m) := hm
      clear hlt hk hh HR
      rw [hm] at hc0 hc1 hc2 hc3 hc4 ⊢
      clear hm
      go_wp2
      go_quiet (fail)
      go_wp2
      go_roundw
      case rel =>
        refine ⟨k + 1, by have := HL.out; omega, ?_, ?_, ?_⟩
        · have := HY.out; rw [show 5 * (k + 1) = m + 5 by omega]; rfl
        · exact (((((ho.drewN nq).set m _).set (m + 1) _).set (m + 2) _).set (m + 3) _).set (m + 4) _
        · simp only [lane_notK, lane_and, lane_xor]
          have q := HY.out
          subst q
          obtain ⟨c0, c1, c2, c3, c4⟩ := HC.out
          exact five_step (chi s) s b t k _ HL.out (Holds.drewN HH.out nq) _ _ _ _ _ c0.symm c1.symm c2.symm c3.symm c4.symm
      case measure => simp [intOf]; omega
    · have hk5 : ¬ ((5 * k : Nat) : Int) < 25 := by omega
      have hkk : k = 5 := by omega
      subst hkk
      go_wp2
      go_end0
      exact ⟨rfl, ho, hh.congr (lanesA_congr fun i hi => by simp [hi])⟩

end Go.Proofs.YtjdhdeffiigpbaaDoor.K
/-
  What the call of mixColumns does.
-/
namespace Go.Proofs.YtjdhdeffiigpbaaDoor.K
open Go.RowKit

theorem dif0 (s : Nat → BitVec 64) : s 4 ^^^ s 9 ^^^ s 14 ^^^ s 19 ^^^ s 24 ^^^ rotl (s 1 ^^^ s 6 ^^^ s 11 ^^^ s 16 ^^^ s 21) 1 = dif s 0 := rfl
theorem dif1 (s : Nat → BitVec 64) : s 0 ^^^ s 5 ^^^ s 10 ^^^ s 15 ^^^ s 20 ^^^ rotl (s 2 ^^^ s 7 ^^^ s 12 ^^^ s 17 ^^^ s 22) 1 = dif s 1 := by
  unfold dif par; rfl
theorem dif2 (s : Nat → BitVec 64) : s 1 ^^^ s 6 ^^^ s 11 ^^^ s 16 ^^^ s 21 ^^^ rotl (s 3 ^^^ s 8 ^^^ s 13 ^^^ s 18 ^^^ s 23) 1 = dif s 2 := rfl
theorem dif3 (s : Nat → BitVec 64) : s 2 ^^^ s 7 ^^^ s 12 ^^^ s 17 ^^^ s 22 ^^^ rotl (s 4 ^^^ s 9 ^^^ s 14 ^^^ s 19 ^^^ s 24) 1 = dif s 3 := rfl
theorem dif4 (s : Nat → BitVec 64) : s 3 ^^^ s 8 ^^^ s 13 ^^^ s 18 ^^^ s 23 ^^^ rotl (s 0 ^^^ s 5 ^^^ s 10 ^^^ s 15 ^^^ s 20) 1 = dif s 4 := by
  unfold dif par; rfl
theorem Holds.drew {w : World} {b : Nat} {t : TypeId} {cs : Array Value} (h : Holds w b t cs) : Holds w.drew b t cs := h
/-- A lane of each column, row by row. -/
theorem theta_row (s : Nat → BitVec 64) (k j : Nat) (hj : j < 5) : theta s (5 * k + j) = s (5 * k + j) ^^^ dif s j := by
  unfold theta; rw [show (5 * k + j) % 5 = j by omega]

theorem rot_one (x : BitVec 64) (w : World) :
    Calls Tryd.prog 102 #[.int .u64 (lane x), .int .i64 1] w fun e w' => e = .returned (.int .u64 (lane (rotl x 1))) ∧ w' = w :=
  rot_any x 1 w (by omega)

set_option maxRecDepth 8000 in
set_option maxHeartbeats 1000000 in
theorem mixColumns_any (s : Nat → BitVec 64) (b : Nat) (t : TypeId) (w : World) (hb : Holds w b t (lanesA s)) :
    Calls Tryd.prog 94 #[.pointer (some ⟨b, 0, none⟩)] w fun e w' => e = .returned (.tuple #[]) ∧ Only b w w' ∧ Holds w' b t (lanesA (theta s)) := by
  have hc := hb.laneAt
  have hX := lane_xor
  go_enter Tryd.func94, Tryd.ntmps94
  go_wp2
  go_quiet (fail)
  go_wp2
  go_quiet (fail)
  go_wp2
  go_quiet (fail)
  go_wp2
  go_quiet (fail)
  go_wp2
  go_quiet (fail)
  go_wp2_with (go_at_call 102; refine (rot_one _ _).mono ?_; rintro e w' ⟨rfl, rfl⟩)
  go_loopw [12] (fun y wr => ∃ k : Nat, k ≤ 5 ∧ y = .int .i64 (5 * k : Nat) ∧ Only b w wr ∧ Holds wr b t (lanesA (fun i => if i < 5 * k then theta s i else s i))) (fun y _ => 25 - (intOf y).toNat)
  case atStart => exact ⟨0, by omega, rfl, (Only.refl _ _).drewN _, (hb.drewN _).congr (lanesA_congr fun i _ => by simp)⟩
  case round =>
    clear hc hX
    obtain ⟨k, hk, rfl, ho, hh⟩ := hrel
    by_cases hlt : k < 5
    · obtain ⟨m, hm⟩ : ∃ m, 5 * k = m := ⟨_, rfl⟩
      have hc0 := hh.laneAt (5 * k) (by omega)
      have hc1 := hh.laneAt (5 * k + 1) (by omega)
      have hc2 := hh.laneAt (5 * k + 2) (by omega)
      have hc3 := hh.laneAt (5 * k + 3) (by omega)
      have hc4 := hh.laneAt (5 * k + 4) (by omega)
      simp only [show ¬ 5 * k < 5 * k by omega, show ¬ 5 * k + 1 < 5 * k by omega, show ¬ 5 * k + 2 < 5 * k by omega, show ¬ 5 * k + 3 < 5 * k by omega, show ¬ 5 * k + 4 < 5 * k by omega, if_false] at hc0 hc1 hc2 hc3 hc4
      have hf := hh.frozen
      have HH : Hid (Holds wr b t (lanesA (fun i => if i < 5 * k then theta s i else s i))) := hh
      have HL : Hid (k < 5) := hlt
      have hy1 : m ≤ 20 := by omega
      have hy2 : (m : Int) ≤ 20 := by omega
      have HY : Hid (5 * k = m) := hm
      clear hlt hk hh
      rw [hm] at hc0 hc1 hc2 hc3 hc4 ⊢
      clear hm
      go_wp2
      go_region
      go_wp2
      go_region
      go_wp2
      go_region
      go_wp2
      go_region
      go_wp2
      go_region
      go_wp2
      go_roundw
      case rel =>
        refine ⟨k + 1, by have := HL.out; omega, ?_, ?_, ?_⟩
        · have := HY.out; rw [show 5 * (k + 1) = m + 5 by omega]; rfl
        · exact ((((((((((ho.set m _).set (m + 1) _).set (m + 2) _).set (m + 3) _).set (m + 4) _).drew).drew).drew).drew).drew)
        · simp only [lane_xor, dif0, dif1, dif2, dif3, dif4]
          have q := HY.out
          subst q
          refine Holds.drew (Holds.drew (Holds.drew (Holds.drew (Holds.drew ?_))))
          exact five_step (theta s) s b t k _ HL.out HH.out _ _ _ _ _ (theta_row s k 0 (by omega)).symm (theta_row s k 1 (by omega)).symm (theta_row s k 2 (by omega)).symm (theta_row s k 3 (by omega)).symm (theta_row s k 4 (by omega)).symm
      case measure => simp [intOf]; omega
    · have hk5 : ¬ ((5 * k : Nat) : Int) < 25 := by omega
      have hkk : k = 5 := by omega
      subst hkk
      go_wp2
      go_end0
      exact ⟨rfl, ho, hh.congr (lanesA_congr fun i hi => by simp [hi])⟩

end Go.Proofs.YtjdhdeffiigpbaaDoor.K
/-
  Whole rows loaded and stored; the tables of the program in memory.
-/
namespace Go.Proofs.YtjdhdeffiigpbaaDoor.K
open Go.RowKit
section
variable {P : Program}

/-- A whole row is loaded. -/
theorem wpList_loadH {ops : Array Oper} {rest : List Oper} {op : Oper} {a : Act} {w : World} {Q : Exit → Act → World → Prop} (hgd : op.guard = none) (ty : TypeId) (x : Operand) (ho : op.op = .load ty x)
    (b : Nat) (hx : a.eval x = .pointer (some ⟨b, 0, none⟩)) (t : TypeId) (cs : Array Value) (d : TypeDesc) (hh : Holds w b t cs)
    (hu : P.underlying ty = some d) (hd : d.isRow = true) (hi : (P.info? ty).map (·.size) = some cs.size)
    (h : wpList P ops Q rest (a.put op.dst (.agg cs)) w) : wpList P ops Q (op :: rest) a w :=
  wpList_plain hgd fun _ hK => by
    unfold Oper.wp execOp
    simp only [ho, hx, Instr.loadAt, Instr.sureAddr, Sem.run_bind, Sem.run_pure, Result.andThen_ok, run_loadVar_row w b t ty cs (0, 0) d hh hu (by cases d <;> simp_all) hi]
    exact hK _ _ h

/-- A whole row is loaded by an operation that has a guard. -/
theorem wpList_loadG {ops : Array Oper} {rest : List Oper} {op : Oper} {a : Act} {w : World} {Q : Exit → Act → World → Prop} (hw : Region.wanted op (yielded ops a.tmps) = true) (ty : TypeId) (x : Operand) (ho : op.op = .load ty x)
    (b : Nat) (hx : a.eval x = .pointer (some ⟨b, 0, none⟩)) (t : TypeId) (cs : Array Value) (d : TypeDesc) (hh : Holds w b t cs)
    (hu : P.underlying ty = some d) (hd : d.isRow = true) (hi : (P.info? ty).map (·.size) = some cs.size)
    (h : wpList P ops Q rest (a.put op.dst (.agg cs)) w) : wpList P ops Q (op :: rest) a w :=
  wpList_step fun _ hK => by
    rw [if_pos hw]
    unfold Oper.wp execOp
    simp only [ho, hx, Instr.loadAt, Instr.sureAddr, Sem.run_bind, Sem.run_pure, Result.andThen_ok, run_loadVar_row w b t ty cs (0, 0) d hh hu (by cases d <;> simp_all) hi]
    exact hK _ _ h

theorem World.setRow_other (w : World) (g k : Nat) (cs : Array Value) (h : k ≠ g) : (w.setRow g cs).heap[k]? = w.heap[k]? := by
  simp only [World.setRow, Array.getElem?_modify]
  rw [if_neg (fun e => h e.symm)]

/-- A whole row is stored: the world behind it is another one, which holds the row. -/
theorem wpList_storeH {ops : Array Oper} {rest : List Oper} {op : Oper} {a : Act} {w : World} {Q : Exit → Act → World → Prop} (hgd : op.guard = none) (ty : TypeId) (x y : Operand) (ho : op.op = .store ty x y)
    (b : Nat) (cells : Array Value) (hx : a.eval x = .pointer (some ⟨b, 0, none⟩)) (hy : a.eval y = .agg cells)
    (t : TypeId) (old : Array Value) (hh : Holds w b t old) (hi : (P.info? ty).map (·.size) = some cells.size) (hz : old.size = cells.size) (h1 : cells.all (·.oneCell') = true)
    (h : ∀ w', Holds w' b t cells → Only b w w' → w'.heap.size = w.heap.size → wpList P ops Q rest (a.put op.dst undef) w') : wpList P ops Q (op :: rest) a w :=
  wpList_plain hgd fun _ hK => by
    unfold Oper.wp execOp
    simp only [ho, hx, hy, Instr.storeAt, Instr.sureAddr, Sem.run_bind, Sem.run_pure, Result.andThen_ok, run_storeVar_row w b t ty old cells hh hi hz h1]
    exact hK _ _ (h _ (setRow_heap w b old cells t (0, 0) hh)
      ⟨rfl, rfl, rfl, by simp [World.setRow], fun k _ hb => World.setRow_other w b k cells hb⟩ (by simp [World.setRow]))
/-- A result that lies in memory, whole. -/
theorem results_cellH {fn : Func} {p : Tmp} {ty : TypeId} (h : fn.results = #[.cell p ty]) (tmps : Array Value) (w : World) (b : Nat) (t : TypeId) (cs : Array Value) (d : TypeDesc)
    (hp : tmps.getD p undef = .pointer (some ⟨b, 0, none⟩)) (hh : Holds w b t cs)
    (hu : P.underlying ty = some d) (hd : d.isRow = true) (hi : (P.info? ty).map (·.size) = some cs.size) : (results fn tmps).run P w = .ok (.agg cs) w := by
  have hr := run_loadVar_row w b t ty cs (0, 0) d hh hu (by cases d <;> simp_all) hi
  have e : (results fn tmps).run P w = ((asAddr (tmps.getD p undef)).run P w).andThen fun a w₁ => (loadVar ty a).run P w₁ := by
    simp only [results, h]
    simp [Sem.run_bind, Result.andThen]
  rw [e, hp]
  simp [asAddr, hr]
end

theorem lanesA_one (s : Nat → BitVec 64) : (lanesA s).all (·.oneCell') = true := by
  refine Array.all_eq_true_iff_forall_mem.2 fun v hv => ?_
  obtain ⟨i, rfl⟩ := Array.mem_ofFn.1 hv
  rfl

/-- The program's three tables, as they stand in memory. -/
structure Tabs (w : World) : Prop where
  size : 4 ≤ w.heap.size
  rc : ∀ i, i < 24 → w.cell? ⟨1, i, none⟩ = some (.int .u64 (lane (rcs i)))
  off : ∀ i, i < 25 → w.cell? ⟨2, i, none⟩ = some (.int .i64 (offs i))
  tgt : ∀ i, i < 25 → w.cell? ⟨3, i, none⟩ = some (.int .i64 (tgts i))

theorem Tabs.only {w w' : World} (h : Tabs w) {b : Nat} (hb : 4 ≤ b) (k : Only b w w') : Tabs w' := by
  have hs := h.size
  exact ⟨Nat.le_trans hs k.size,
    fun i hi => (World.cell?_of_block (w := w) (k.block 1 (by omega) (by omega))).trans (h.rc i hi),
    fun i hi => (World.cell?_of_block (w := w) (k.block 2 (by omega) (by omega))).trans (h.off i hi),
    fun i hi => (World.cell?_of_block (w := w) (k.block 3 (by omega) (by omega))).trans (h.tgt i hi)⟩
theorem Tabs.below {w w' : World} (h : Tabs w) (k : Below w.heap.size w w') : Tabs w' := by
  have hs := h.size
  exact ⟨Nat.le_trans hs k.size,
    fun i hi => (World.cell?_of_block (w := w) (k.block 1 (by omega))).trans (h.rc i hi),
    fun i hi => (World.cell?_of_block (w := w) (k.block 2 (by omega))).trans (h.off i hi),
    fun i hi => (World.cell?_of_block (w := w) (k.block 3 (by omega))).trans (h.tgt i hi)⟩

end Go.Proofs.YtjdhdeffiigpbaaDoor.K
/-
  What the call of moveLanes does.
-/
namespace Go.Proofs.YtjdhdeffiigpbaaDoor.K
open Go.RowKit

theorem info25 : (Tryd.prog.info? 71).map (·.size) = some 25 := by kernel_rfl
theorem zero25 : ∀ w, (zeroValue 71).run Tryd.prog w = .ok (.agg (lanesA fun _ => 0)) w := (zero_of_info (n := 25) (by kernel_rfl)).1

/-- One lane more is put where it goes. -/
theorem rhopi_step (s : Nat → BitVec 64) (b : Nat) (t : TypeId) (k : Nat) (w : World) (hk : k < 25)
    (h : Holds w b t (lanesA (fun i => if srcs i < k then rhopi s i else s i))) :
    Holds (w.setCell ⟨b, tgts k, none⟩ (.int .u64 (lane (rotl (s k) (offs k))))) b t (lanesA (fun i => if srcs i < k + 1 then rhopi s i else s i)) := by
  refine (h.laneSet (tgts k) _ (tgts_lt k hk)).congr (lanesA_congr fun i hi => ?_)
  by_cases e : i = tgts k
  · subst e
    have := srcs_tgts k hk
    simp [rhopi, this]
  · have h1 : srcs i ≠ k := fun q => e (by rw [← q, tgts_srcs i hi])
    by_cases c : srcs i < k
    · simp [e, c, show srcs i < k + 1 by omega]
    · simp [e, c, show ¬ srcs i < k + 1 by omega]

set_option maxRecDepth 4000 in
set_option maxHeartbeats 1000000 in
theorem moveLanes_any (s : Nat → BitVec 64) (b : Nat) (t : TypeId) (w : World) (hb : Holds w b t (lanesA s)) (hT : Tabs w) (hb3 : 4 ≤ b) :
    Calls Tryd.prog 95 #[.pointer (some ⟨b, 0, none⟩)] w fun e w' => e = .returned (.tuple #[]) ∧ Only b w w' ∧ Holds w' b t (lanesA (rhopi s)) := by
  go_enter Tryd.func95, Tryd.ntmps95
  go_wp2_with (first
    | (refine wpList_loadH rfl 71 _ rfl b rfl t (lanesA s) _ hb Tryd.underlying71 rfl (by rw [lanesA_size]; exact info25) ?_)
    | (refine wpList_storeH rfl 71 _ _ rfl w.heap.size (lanesA s) rfl rfl 71 (lanesA fun _ => 0) (Holds.new _ _ _) (by rw [lanesA_size]; exact info25) (by rw [lanesA_size, lanesA_size]) (lanesA_one s) ?_
       intro w1 h1 o1 z1))
  have hbn : b ≠ w.heap.size := Nat.ne_of_lt hb.lt
  have hB : Below w.heap.size w w1 := Only.fresh ((Below.refl _ _).alloc (Nat.le_refl _) _) o1 (Nat.le_refl _)
  have hb1 : Holds w1 b t (lanesA s) := Below.holds hB hb
  have hT1 : Tabs w1 := hT.below hB
  have ho1 : Only b w w1 := (Only.refl _ _).below hB
  obtain ⟨n, hn⟩ : ∃ n, n = w.heap.size := ⟨_, rfl⟩
  have hn3 : 4 ≤ n := hn ▸ hT.size
  rw [← hn] at h1 hbn ⊢
  have HN : Hid (n = w.heap.size) := hn
  have HB : Hid (Holds w1 b t (lanesA s)) := hb1
  clear hn hb o1 z1 hB hT hb1
  go_loopw [7] (fun y wr => ∃ k : Nat, k ≤ 25 ∧ y = .int .i64 k ∧ Only b w1 wr ∧ Holds wr b t (lanesA (fun i => if srcs i < k then rhopi s i else s i))) (fun y _ => 25 - (intOf y).toNat)
  case atStart => exact ⟨0, by omega, rfl, Only.refl _ _, Holds.congr HB.out (lanesA_congr fun i _ => by simp)⟩
  case round =>
    obtain ⟨k, hk, rfl, ho, hh⟩ := hrel
    by_cases hlt : k < 25
    · have hTr := hT1.only hb3 ho
      have hcs := (ho.holds h1 (Ne.symm hbn)).laneAt k hlt
      have hct := hTr.tgt k hlt
      have hco := hTr.off k hlt
      have hcb := hh.laneAt (tgts k) (tgts_lt k hlt)
      have hf := hh.frozen
      have hk1 : (k : Int) < 25 := by omega
      have hbo : b ≠ 2 := by omega
      have hbt : b ≠ 3 := by omega
      have ht1 : ((tgts k : Nat) : Int) < 25 := by have := tgts_lt k hlt; omega
      have ht2 : tgts k < 25 := tgts_lt k hlt
      have HO := offs_lt k hlt
      have HH : Hid (Holds wr b t (lanesA (fun i => if srcs i < k then rhopi s i else s i))) := hh
      clear hTr hT1 h1 hh hk HB
      go_wp2
      go_region_held3 (fun w' => w'.cell? ⟨n, k, none⟩ = some (.int .u64 (lane (s k))) ∧ w'.cell? ⟨3, k, none⟩ = some (.int .i64 (tgts k)) ∧ w'.cell? ⟨2, k, none⟩ = some (.int .i64 (offs k))) (go_keep)
        (first | (go_at_call 102; refine (rot_any _ _ _ HO).mono ?_; rintro e w' ⟨rfl, rfl⟩))
      go_wp2
      go_roundw
      case rel =>
        exact ⟨k + 1, by omega, rfl, (ho.set _ _).drew, Holds.drew (rhopi_step s b t k wr hlt HH.out)⟩
      case measure => simp [intOf]; omega
    · have hk5 : ¬ (k : Int) < 25 := by omega
      have hkk : k = 25 := by omega
      subst hkk
      go_wp2
      go_end0
      exact ⟨rfl, ho1.trans ho, hh.congr (lanesA_congr fun i hi => by simp [srcs_lt i hi])⟩

end Go.Proofs.YtjdhdeffiigpbaaDoor.K
/-
  What the call of Permute does.
-/
namespace Go.Proofs.YtjdhdeffiigpbaaDoor.K
open Go.RowKit

theorem lanesA_iota (k : Nat) (s : Nat → BitVec 64) : (lanesA s).setIfInBounds 0 (.int .u64 (lane (s 0 ^^^ rcs k))) = lanesA (iota k s) := by
  rw [lanesA_set s 0 _ (by omega)]; rfl

set_option maxRecDepth 4000 in
set_option maxHeartbeats 1000000 in
theorem permute_any (s : Nat → BitVec 64) (w : World) (hT : Tabs w) :
    Calls Tryd.prog 81 #[.agg (lanesA s)] w fun e w' => e = .returned (.agg (lanesA (perm s))) ∧ Below w.heap.size w w' := by
  go_enter Tryd.func81, Tryd.ntmps81
  go_wp2
  obtain ⟨n, hn⟩ : ∃ n, n = w.heap.size := ⟨_, rfl⟩
  have hn3 : 4 ≤ n := hn ▸ hT.size
  rw [← hn]
  have HN : Hid (n = w.heap.size) := hn
  clear hn
  go_loopw [4] (fun y wr => ∃ k : Nat, k ≤ 24 ∧ y = .int .i64 k ∧ Below w.heap.size w wr ∧ Holds wr n 71 (lanesA (rounds k s)) ∧ (∃ q, Holds wr (n + 1) 71 (lanesA q))) (fun y _ => 24 - (intOf y).toNat)
  case atStart =>
    refine ⟨0, by omega, rfl, ((Below.refl _ _).alloc (Nat.le_refl _) _).alloc (by simp) _, ?_, fun _ => 0, ?_⟩
    · rw [HN.out]; exact (Holds.new w 71 (lanesA s)).alloc _
    · have h := Holds.new (w.alloc (.cells (lanesA s) 71)) 71 (lanesA fun _ => 0)
      rw [World.size_alloc, ← HN.out] at h
      exact h
  case round =>
    obtain ⟨k, hk, rfl, hB, hh, q, hq⟩ := hrel
    have hTr := hT.below hB
    clear hT
    by_cases hlt : k < 24
    · have hk1 : (k : Int) < 24 := by omega
      have hnq : n + 1 ≠ n := by omega
      go_wp2_with fail
      refine (mixColumns_any _ _ _ _ hh).mono ?_
      rintro e w1 ⟨rfl, o1, h1⟩
      have hT1 := hTr.only hn3 o1
      go_wp2_with fail
      refine (moveLanes_any _ _ _ _ h1 hT1 hn3).mono ?_
      rintro e w2 ⟨rfl, o2, h2⟩
      have hT2 := hT1.only hn3 o2
      go_wp2_with fail
      refine (mixRows_any _ _ _ _ h2).mono ?_
      rintro e w3 ⟨rfl, o3, h3⟩
      have hT3 := hT2.only hn3 o3
      have o4 := (o1.trans o2).trans o3
      clear hTr hT1 hT2 o1 o2 o3 h1 h2
      have hc := hT3.rc k hlt
      have h0 := h3.laneAt 0 (by omega)
      have hf := h3.frozen
      have hb0 : n ≠ 1 := by omega
      have HH : Hid (Holds w3 n 71 (lanesA (chi (rhopi (theta (rounds k s)))))) := h3
      clear h3 hT3
      go_wp2
      go_region
      go_wp2
      go_roundw
      case rel =>
        refine ⟨k + 1, by omega, rfl, ?_, ?_, q, ?_⟩
        · exact Only.fresh hB ((o4.set 0 _).drew) (by rw [HN.out]; exact Nat.le_refl _)
        · rw [lane_xor]
          exact Holds.drew ((Holds.set HH.out 0 _).congr (lanesA_iota k _))
        · exact ((o4.set 0 _).drew).holds hq hnq
      case measure => simp [intOf]; omega
    · have hk5 : ¬ (k : Int) < 24 := by omega
      have hkk : k = 24 := by omega
      subst hkk
      go_wp2_with (first
        | (refine wpList_loadH rfl 71 _ rfl n rfl 71 (lanesA (rounds 24 s)) _ hh Tryd.underlying71 rfl (by rw [lanesA_size]; exact info25) ?_)
        | (refine wpList_storeH rfl 71 _ _ rfl (n + 1) (lanesA (rounds 24 s)) rfl rfl 71 (lanesA q) hq (by rw [lanesA_size]; exact info25) (by rw [lanesA_size, lanesA_size]) (lanesA_one _) ?_
           intro w1 h1 o1 z1))
      exact bodyPost_ret (results_cellH rfl _ _ (n + 1) 71 (lanesA (rounds 24 s)) _ rfl h1 Tryd.underlying71 rfl (by rw [lanesA_size]; exact info25)) rfl
        ⟨rfl, Only.fresh hB o1 (by rw [HN.out]; omega)⟩

end Go.Proofs.YtjdhdeffiigpbaaDoor.K
/-
  Bytes in memory, lanes made of bytes, and what a block does to a state. Plain; nothing of the program.
-/
namespace Go.Proofs.YtjdhdeffiigpbaaDoor.K
open Go Go.RowKit

/-- A byte as the model's number. -/
def oct (c : UInt8) : Int := (c.toNat : Int)
theorem oct_nn (c : UInt8) : 0 ≤ oct c := by unfold oct; omega
theorem oct_le (c : UInt8) : oct c ≤ 255 := by unfold oct; have := c.toNat_lt; omega
/-- A byte as a lane. -/
def wide (c : UInt8) : BitVec 64 := BitVec.ofNat 64 c.toNat
theorem oct_wide (c : UInt8) : oct c = lane (wide c) := by
  unfold oct wide lane
  have := c.toNat_lt
  rw [BitVec.toNat_ofNat, Nat.mod_eq_of_lt (by omega)]
theorem oct_inj {c d : UInt8} (h : oct c = oct d) : c = d := by
  unfold oct at h; exact UInt8.toNat_inj.1 (by omega)

/-- The first j bytes of lane i, put together. -/
def laneUp (B : Nat → UInt8) (i : Nat) : Nat → BitVec 64
  | 0 => 0
  | j + 1 => laneUp B i j ||| wide (B (8 * i + j)) <<< (8 * j)
/-- The first k lanes of a block go into the state. -/
def mixUp (s : Nat → BitVec 64) (B : Nat → UInt8) (k : Nat) : Nat → BitVec 64 := fun i => if i < k then s i ^^^ laneUp B i 8 else s i
/-- One more block. -/
def soak (s : Nat → BitVec 64) (B : Nat → UInt8) : Nat → BitVec 64 := perm (mixUp s B 17)
/-- A byte of a state. -/
def byteAt (s : Nat → BitVec 64) (i : Nat) : UInt8 := UInt8.ofBitVec ((s (i / 8) >>> (8 * (i % 8))).setWidth 8)

/-- n bytes as cells. -/
def bytesA (n : Nat) (B : Nat → UInt8) : Array Value := Array.ofFn (n := n) fun i => .int .u8 (oct (B i.val))
theorem bytesA_size (n : Nat) (B : Nat → UInt8) : (bytesA n B).size = n := by simp [bytesA]
theorem bytesA_get (n : Nat) (B : Nat → UInt8) (i : Nat) (h : i < n) : (bytesA n B)[i]? = some (.int .u8 (oct (B i))) := by
  simp [bytesA, h]
theorem bytesA_congr {n : Nat} {B C : Nat → UInt8} (h : ∀ i, i < n → B i = C i) : bytesA n B = bytesA n C := by
  unfold bytesA
  congr 1
  funext i
  rw [h i.val i.isLt]
theorem bytesA_set (n : Nat) (B : Nat → UInt8) (i : Nat) (v : UInt8) : (bytesA n B).setIfInBounds i (.int .u8 (oct v)) = bytesA n (fun j => if j = i then v else B j) := by
  apply Array.ext
  · simp [bytesA]
  · intro j h1 h2
    by_cases e : j = i
    · subst e; simp [bytesA]
    · rw [Array.getElem_setIfInBounds_ne (by simpa using h1) (fun q => e q.symm)]
      simp [bytesA, e]
theorem bytesA_one (n : Nat) (B : Nat → UInt8) : (bytesA n B).all (·.oneCell') = true := by
  refine Array.all_eq_true_iff_forall_mem.2 fun v hv => ?_
  obtain ⟨i, rfl⟩ := Array.mem_ofFn.1 hv
  rfl
theorem Holds.byteCell {w : World} {b : Nat} {t : TypeId} {n : Nat} {B : Nat → UInt8} (h : Holds w b t (bytesA n B)) (i : Nat) (hi : i < n) : w.cell? ⟨b, i, none⟩ = some (.int .u8 (oct (B i))) := by
  rw [h.cell, bytesA_get n B i hi]
theorem Holds.byteSet {w : World} {b : Nat} {t : TypeId} {n : Nat} {B : Nat → UInt8} (h : Holds w b t (bytesA n B)) (i : Nat) (v : UInt8) :
    Holds (w.setCell ⟨b, i, none⟩ (.int .u8 (oct v))) b t (bytesA n (fun j => if j = i then v else B j)) :=
  (h.set i _).congr (bytesA_set n B i v)

theorem mixUp_step (s : Nat → BitVec 64) (B : Nat → UInt8) (b : Nat) (t : TypeId) (k : Nat) (w : World) (hk : k < 25) (h : Holds w b t (lanesA (mixUp s B k))) :
    Holds (w.setCell ⟨b, k, none⟩ (.int .u64 (lane (s k ^^^ laneUp B k 8)))) b t (lanesA (mixUp s B (k + 1))) := by
  refine (h.laneSet k _ hk).congr (lanesA_congr fun i _ => ?_)
  unfold mixUp
  by_cases e : i = k
  · subst e; simp
  · by_cases c : i < k
    · simp [e, c, show i < k + 1 by omega]
    · simp [e, c, show ¬ i < k + 1 by omega]

/-- A byte of a lane, as the program takes it. -/
theorem byteAt_oct (s : Nat → BitVec 64) (i : Nat) : IntKind.u8.wrap (lane (s (i / 8) >>> (8 * (i % 8)))) = oct (byteAt s i) := by
  unfold byteAt oct lane
  rw [show (UInt8.ofBitVec ((s (i / 8) >>> (8 * (i % 8))).setWidth 8)).toNat = ((s (i / 8) >>> (8 * (i % 8))).setWidth 8).toNat from rfl, BitVec.toNat_setWidth]
  simp [IntKind.wrap, IntKind.bits, IntKind.signed]

theorem byteAt_mod (s : Nat → BitVec 64) (i : Nat) : lane (s (i / 8)) / 2 ^ (8 * (i % 8)) % 256 = oct (byteAt s i) := by
  rw [lane_shr, ← byteAt_oct]
  simp [IntKind.wrap, IntKind.bits, IntKind.signed]

end Go.Proofs.YtjdhdeffiigpbaaDoor.K
