/-
  Nibbles had in any order: pure, and what lies in memory meanwhile.
-/
import Derived.Test.YtbidoangdnmjfaaDoorMWithW
import Derived.Test.YtbidoangdnmjfaaDoorDTakeE
namespace Go.Proofs.YtbidoangdnmjfaaDoor
open Go Go.RowKit

/-- A row of texts. -/
def strA (n : Nat) (R : Nat → ByteArray) : Array Value := Array.ofFn (n := n) fun i => .string (R i.val)
theorem strA_size (n : Nat) (R : Nat → ByteArray) : (strA n R).size = n := by simp [strA]
theorem strA_get (n : Nat) (R : Nat → ByteArray) (i : Nat) (h : i < n) : (strA n R)[i]? = some (.string (R i)) := by simp [strA, h]
theorem strA_one (n : Nat) (R : Nat → ByteArray) : (strA n R).all (fun x => x.oneCell') = true := by
  rw [Array.all_eq_true]
  intro i hi
  simp [strA]; rfl
theorem strA_set (n : Nat) (R : Nat → ByteArray) (i : Nat) (_ : i < n) (x : ByteArray) : (strA n R).setIfInBounds i (.string x) = strA n (fun j => if j = i then x else R j) := by
  refine Array.ext_getElem? fun j => ?_
  rw [Array.getElem?_setIfInBounds]
  by_cases hj : j < n
  · rw [strA_get n _ j hj, strA_get n _ j hj, strA_size]
    by_cases e : i = j
    · subst e; simp [hj]
    · have e' : ¬ j = i := fun h => e h.symm
      simp [e, e']
  · have h1 : n ≤ j := by omega
    rw [Array.getElem?_eq_none (by rw [strA_size]; exact h1), Array.getElem?_eq_none (by rw [strA_size]; exact h1)]
    split
    · rename_i e; subst e; rw [if_neg (by rw [strA_size]; exact hj)]
    · rfl
theorem strA_congr {n : Nat} {R S : Nat → ByteArray} (h : ∀ i, i < n → R i = S i) : strA n R = strA n S := by
  refine Array.ext_getElem? fun j => ?_
  by_cases hj : j < n
  · rw [strA_get n _ j hj, strA_get n _ j hj, h j hj]
  · rw [Array.getElem?_eq_none (by rw [strA_size]; omega), Array.getElem?_eq_none (by rw [strA_size]; omega)]
theorem info16M : (Tryd.prog.info? 51).map (·.size) = some 16 := by kernel_rfl
/-- What a branch tells of the nibbles that were had. -/
structure Tells (b : Br) (D : Nat → Bool) (R : Nat → ByteArray) (T : Nat → Bool) : Prop where
  fits : b.fits
  bits : ∀ i, i < 16 → b.s.testBit i = (D i && (R i).size != 0) ∧ b.t.testBit i = (D i && ((R i).size != 0 && T i)) ∧ b.h.testBit i = (D i && isH (R i))
  hash : ∀ i : Nat, i < 16 → hashX b.h b.L (i : Int) = if D i && isH (R i) then refH (R i) else zeroH
theorem hashX_zero (n : Int) : hashX 0 [] n = zeroH := by unfold hashX; split <;> rfl
theorem Tells.zero (R : Nat → ByteArray) (T : Nat → Bool) : Tells ⟨0, 0, 0, []⟩ (fun _ => false) R T := ⟨⟨by decide, by decide, by decide, by decide⟩, fun i _ => ⟨by simp, by simp, by simp⟩, fun i _ => by rw [hashX_zero]; simp⟩
theorem Tells.step {b : Br} {D : Nat → Bool} {R : Nat → ByteArray} {T : Nat → Bool} (h : Tells b D R T) {k : Nat} (hk : k < 16) : Tells (withB b k (T k) (R k)) (fun i => D i || i == k) R T := by
  refine ⟨withB_fits h.fits hk _ _, fun i hi => ?_, fun i hi => ?_⟩
  · obtain ⟨h1, h2, h3⟩ := h.bits i hi
    refine ⟨(testBit_setM _ _ _ _).trans ?_, (testBit_setM _ _ _ _).trans ?_, (testBit_setM _ _ _ _).trans ?_⟩
    all_goals
      by_cases e : i = k
      · subst e; simp
      · have ek : (i == k) = false := by simpa using e
        simp [e, ek, h1, h2, h3]
  · rw [hash_with h.fits hk _ _ i hi]
    by_cases e : i = k
    · subst e; simp
    · have ek : (i == k) = false := by simpa using e
      rw [if_neg e, h.hash i hi]; simp [ek]
theorem Tells.congr {b : Br} {D D' : Nat → Bool} {R : Nat → ByteArray} {T : Nat → Bool} (h : Tells b D R T) (e : ∀ i, i < 16 → D i = D' i) : Tells b D' R T :=
  ⟨h.fits, fun i hi => by rw [← e i hi]; exact h.bits i hi, fun i hi => by rw [← e i hi]; exact h.hash i hi⟩
theorem Tells.eq {b c : Br} {D : Nat → Bool} {R : Nat → ByteArray} {T : Nat → Bool} (h : Tells b D R T) (h' : Tells c D R T) : b = c := by
  obtain ⟨s, t, m, L⟩ := b
  obtain ⟨s', t', m', L'⟩ := c
  have e1 : s = s' := eq_of_bits h.fits.1 h'.fits.1 fun i hi => (h.bits i hi).1.trans (h'.bits i hi).1.symm
  have e2 : t = t' := eq_of_bits h.fits.2.1 h'.fits.2.1 fun i hi => (h.bits i hi).2.1.trans (h'.bits i hi).2.1.symm
  have e3 : m = m' := eq_of_bits h.fits.2.2.1 h'.fits.2.2.1 fun i hi => (h.bits i hi).2.2.trans (h'.bits i hi).2.2.symm
  subst e1 e2 e3
  have e4 : L = L' := by
    refine (hashes_map (h := m) (L := L) h.fits.2.2.2).trans (Eq.trans ?_ (hashes_map (h := m) (L := L') h'.fits.2.2.2).symm)
    refine List.map_congr_left fun i hi => ?_
    have hi16 := (mem_nibs.1 hi).1
    exact (h.hash i hi16).trans (h'.hash i hi16).symm
  rw [e4]
theorem isH_size {r : ByteArray} (h : isH r = true) : r.size = 33 := by
  unfold isH at h
  simp only [Bool.and_eq_true, beq_iff_eq] at h
  exact h.1
/-- It may be, if it has two nibbles or more. -/
theorem Tells.chk {b : Br} {D : Nat → Bool} {R : Nat → ByteArray} {T : Nat → Bool} (h : Tells b D R T) : chkM b.s b.t b.h b.L.length = if 2 ≤ cntM b.s then 0 else 1 := by
  have hs : andN (b.t ||| b.h) b.s = 0 := by
    rw [subM_iff b.s _ (or_lt16 _ _ h.fits.2.1 h.fits.2.2.1), subM_or]
    constructor
    · intro i hi hb
      obtain ⟨h1, h2, h3⟩ := h.bits i hi
      rw [h2] at hb
      rw [h1]
      simp only [Bool.and_eq_true] at hb ⊢
      exact ⟨hb.1, hb.2.1⟩
    · intro i hi hb
      obtain ⟨h1, h2, h3⟩ := h.bits i hi
      rw [h3] at hb
      rw [h1]
      simp only [Bool.and_eq_true] at hb ⊢
      refine ⟨hb.1, ?_⟩
      rw [isH_size hb.2]; rfl
  unfold chkM
  by_cases h2 : 2 ≤ cntM b.s
  · rw [if_pos h2, if_pos ⟨h2, hs, h.fits.2.2.2⟩]
  · rw [if_neg h2, if_neg fun q => h2 q.1]
/-- How many of the first k are not empty. -/
def manyR (R : Nat → ByteArray) (k : Nat) : Nat := ((List.range k).filter fun i => (R i).size != 0).length
theorem manyR_succ (R : Nat → ByteArray) (k : Nat) : manyR R (k + 1) = manyR R k + if (R k).size != 0 then 1 else 0 := by
  unfold manyR
  rw [List.range_succ, List.filter_append, List.length_append]
  congr 1
  cases h : (R k).size != 0 with
  | true => rw [List.filter_cons_of_pos (p := fun i => (R i).size != 0) h]; rfl
  | false => rw [List.filter_cons_of_neg (p := fun i => (R i).size != 0) (by simp [h])]; rfl
theorem manyR_le (R : Nat → ByteArray) (k : Nat) : manyR R k ≤ k := by
  unfold manyR
  have := List.length_filter_le (fun i => (R i).size != 0) (List.range k)
  rwa [List.length_range] at this
theorem Tells.many {b : Br} {R : Nat → ByteArray} {T : Nat → Bool} (h : Tells b (fun _ => true) R T) : cntM b.s = manyR R 16 := by
  unfold cntM nibs manyR
  congr 1
  refine List.filter_congr fun i hi => ?_
  rw [(h.bits i (by simpa using hi)).1]
  simp
/-- A ref, cut. -/
def cutR (r : ByteArray) : ByteArray := if 40 < r.size then r.extract 0 40 else r
theorem cutR_ne (r : ByteArray) : ((cutR r).size != 0) = (r.size != 0) := by
  unfold cutR
  split
  · rw [ByteArray.size_extract]
    rw [Bool.eq_iff_iff]
    simp
  · rfl
/-- Rising, falling. -/
def upB (R : Nat → ByteArray) (T : Nat → Bool) : Nat → Br
  | 0 => ⟨0, 0, 0, []⟩
  | k + 1 => withB (upB R T k) k (T k) (R k)
def downB (R : Nat → ByteArray) (T : Nat → Bool) : Nat → Br
  | 0 => ⟨0, 0, 0, []⟩
  | k + 1 => withB (downB R T k) (15 - k) (T (15 - k)) (R (15 - k))
theorem upB_tells (R : Nat → ByteArray) (T : Nat → Bool) : ∀ k, k ≤ 16 → Tells (upB R T k) (fun i => decide (i < k)) R T
  | 0, _ => (Tells.zero R T).congr fun i _ => by simp
  | k + 1, h => ((upB_tells R T k (by omega)).step (by omega)).congr fun i _ => by
    rw [Bool.eq_iff_iff]; simp; omega
theorem downB_tells (R : Nat → ByteArray) (T : Nat → Bool) : ∀ k, k ≤ 16 → Tells (downB R T k) (fun i => decide (16 - k ≤ i)) R T
  | 0, _ => (Tells.zero R T).congr fun i hi => by simp; omega
  | k + 1, h => ((downB_tells R T k (by omega)).step (by omega)).congr fun i hi => by
    rw [Bool.eq_iff_iff]; simp; omega
theorem up_down (R : Nat → ByteArray) (T : Nat → Bool) : Tells (upB R T 16) (fun _ => true) R T ∧ upB R T 16 = downB R T 16 := by
  have h1 := (upB_tells R T 16 (Nat.le_refl _)).congr (D' := fun _ => true) fun i hi => by simp; omega
  have h2 := (downB_tells R T 16 (Nat.le_refl _)).congr (D' := fun _ => true) fun i hi => by simp
  exact ⟨h1, h1.eq h2⟩
/-- A branch in its box. -/
def BrAt (w : World) (g : Nat) (b : Br) : Prop := ∃ p n c, n = b.L.length ∧ HashesAt w (.slice p n c) b.L ∧ Holds w g 25 (brC b.s b.t b.h (.slice p n c))
theorem BrAt.below {w w' : World} {g : Nat} {b : Br} (h : BrAt w g b) (hB : Below w.heap.size w w') : BrAt w' g b := by
  obtain ⟨p, n, c, h1, h2, h3⟩ := h
  exact ⟨p, n, c, h1, h2.below hB, below_holds hB h3⟩
theorem BrAt.only {w w' : World} {g ga : Nat} {b : Br} (h : BrAt w g b) (hO : Only ga w w') (hne : g ≠ ga) {ty : TypeId} {s t hh : Nat} {p : Option Addr} {n c : Nat} (hg : Holds w ga ty (brC s t hh (.slice p n c))) : BrAt w' g b := by
  obtain ⟨p, n, c, h1, h2, h3⟩ := h
  exact ⟨p, n, c, h1, h2.only hO hg, hO.holds h3 hne⟩
theorem DbAt.only {w w' : World} {ga : Nat} (h : DbAt w) (hO : Only ga w w') (hne : 0 ≠ ga) : DbAt w' := h.same (hO.block _ h.lt hne)
end Go.Proofs.YtbidoangdnmjfaaDoor
