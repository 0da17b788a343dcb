/-
  A branch with another ref for a nibble: pure.
-/
import Derived.Test.YtbidoangdnmjfaaDoorMAroundW
namespace Go.Proofs.YtbidoangdnmjfaaDoor
open Go

/-- A branch as data. -/
structure Br where
  s : Nat
  t : Nat
  h : Nat
  L : List H32
/-- With as many hashes as its mask says. -/
def Br.fits (b : Br) : Prop := b.s < 65536 ∧ b.t < 65536 ∧ b.h < 65536 ∧ b.L.length = cntM b.h
def withL (h k : Nat) (L own : List H32) : List H32 := L.take (cntTo h k) ++ own ++ L.drop (cntTo h k + bit1 h k)
def withB (b : Br) (k : Nat) (tree : Bool) (r : ByteArray) : Br := ⟨setM b.s k (r.size != 0), setM b.t k (r.size != 0 && tree), setM b.h k (isH r), withL b.h k b.L (ownL r)⟩

/-- A mask's nibbles around one. -/
theorem nibs_around (m : Nat) {k : Nat} (hk : k < 16) : nibs m = ((List.range k).filter fun i => m.testBit i) ++ (if m.testBit k then [k] else []) ++ ((List.range' (k + 1) (15 - k)).filter fun i => m.testBit i) := by
  have e : List.range 16 = List.range k ++ [k] ++ List.range' (k + 1) (15 - k) := by
    rw [List.range_eq_range', List.range_eq_range']
    conv => lhs; rw [show (16 : Nat) = k + (1 + (15 - k)) by omega]
    rw [← List.range'_append_1, ← List.range'_append_1, Nat.zero_add, List.append_assoc]
    rfl
  unfold nibs
  rw [e, List.filter_append, List.filter_append]
  congr 2
  cases h : m.testBit k with
  | true => rw [List.filter_cons_of_pos h]; rfl
  | false => rw [List.filter_cons_of_neg (by simp [h])]; rfl
theorem cntTo_len (m k : Nat) : cntTo m k = ((List.range k).filter fun i => m.testBit i).length := rfl
/-- Where a nibble stands among them. -/
theorem nibs_at {m k : Nat} (hk : k < 16) (hb : m.testBit k = true) : (nibs m)[cntTo m k]? = some k := by
  rw [nibs_around m hk, hb, if_pos rfl, cntTo_len]
  rw [List.append_assoc, List.getElem?_append_right (Nat.le_refl _), Nat.sub_self]
  rfl
theorem nibs_inj {m i j k : Nat} (h1 : (nibs m)[i]? = some k) (h2 : (nibs m)[j]? = some k) : i = j := by
  have hr := nibs_rises m
  obtain ⟨l1, e1⟩ := List.getElem?_eq_some_iff.1 h1
  obtain ⟨l2, e2⟩ := List.getElem?_eq_some_iff.1 h2
  rw [List.pairwise_iff_getElem] at hr
  rcases Nat.lt_trichotomy i j with h | h | h
  · have := hr i j l1 l2 h; omega
  · exact h
  · have := hr j i l2 l1 h; omega
/-- The hashes by their nibbles. -/
theorem hashes_map {h : Nat} {L : List H32} (hL : L.length = cntM h) : L = (nibs h).map fun i : Nat => hashX h L (i : Int) := by
  apply List.ext_getElem?
  intro i
  rw [List.getElem?_map]
  by_cases hi : i < cntM h
  · obtain ⟨k, hk⟩ : ∃ k, (nibs h)[i]? = some k := ⟨_, List.getElem?_eq_getElem hi⟩
    obtain ⟨h16, hb⟩ := mem_nibs.1 (List.mem_of_getElem? hk)
    have e := nibs_inj hk (nibs_at h16 hb)
    rw [hk, Option.map_some, e]
    exact hashX_yes h16 hb hL
  · rw [List.getElem?_eq_none (by omega), List.getElem?_eq_none (by show (nibs h).length ≤ i; exact Nat.le_of_not_lt hi)]
    rfl
theorem take_map {h k : Nat} {L : List H32} (hk : k < 16) (hL : L.length = cntM h) : L.take (cntTo h k) = ((List.range k).filter fun i => h.testBit i).map fun i : Nat => hashX h L (i : Int) := by
  conv => lhs; rw [hashes_map hL, nibs_around h hk]
  rw [List.append_assoc, List.map_append, List.take_left' (by rw [List.length_map]; rfl)]
theorem drop_map {h k : Nat} {L : List H32} (hk : k < 16) (hL : L.length = cntM h) : L.drop (cntTo h k + bit1 h k) = ((List.range' (k + 1) (15 - k)).filter fun i => h.testBit i).map fun i : Nat => hashX h L (i : Int) := by
  conv => lhs; rw [hashes_map hL, nibs_around h hk]
  rw [List.map_append, List.drop_left']
  rw [List.length_map, List.length_append]
  unfold bit1
  cases h.testBit k <;> rfl
/-- What With has, by its nibbles. -/
theorem withL_map {h k : Nat} {L : List H32} {is : Bool} {x : H32} (hk : k < 16) (hL : L.length = cntM h) : withL h k L (if is then [x] else []) = (nibs (setM h k is)).map fun i : Nat => if i = k then x else hashX h L (i : Int) := by
  unfold withL
  rw [take_map hk hL, drop_map hk hL, nibs_around _ hk, List.map_append, List.map_append]
  refine congr (congrArg _ (congr (congrArg _ ?_) ?_)) ?_
  · have e : ((List.range k).filter fun i => (setM h k is).testBit i) = (List.range k).filter fun i => h.testBit i := List.filter_congr fun i hi => by
      have : i < k := by simpa using hi
      rw [testBit_setM, if_neg (by omega)]
    rw [e]
    refine List.map_congr_left fun i hi => ?_
    have : i < k := by have := (List.mem_filter.1 hi).1; simpa using this
    rw [if_neg (by omega)]
  · rw [testBit_setM, if_pos rfl]
    cases is <;> simp
  · have e : ((List.range' (k + 1) (15 - k)).filter fun i => (setM h k is).testBit i) = (List.range' (k + 1) (15 - k)).filter fun i => h.testBit i := List.filter_congr fun i hi => by
      have := List.mem_range'_1.1 hi
      rw [testBit_setM, if_neg (by omega)]
    rw [e]
    refine List.map_congr_left fun i hi => ?_
    have := List.mem_range'_1.1 (List.mem_filter.1 hi).1
    rw [if_neg (by omega)]
theorem withL_len {h k : Nat} {L : List H32} {r : ByteArray} (hk : k < 16) (hL : L.length = cntM h) : (withL h k L (ownL r)).length = cntM (setM h k (isH r)) := by
  unfold ownL
  rw [withL_map hk hL, List.length_map]
  rfl
theorem withB_fits {b : Br} (hb : b.fits) {k : Nat} (hk : k < 16) (tree : Bool) (r : ByteArray) : (withB b k tree r).fits := by
  obtain ⟨h1, h2, h3, h4⟩ := hb
  exact ⟨setM_lt h1 hk _, setM_lt h2 hk _, setM_lt h3 hk _, withL_len hk h4⟩
/-- What With has is told by Hash; all others are as they were. -/
theorem hash_with {b : Br} (hb : b.fits) {k : Nat} (hk : k < 16) (tree : Bool) (r : ByteArray) (i : Nat) (hi : i < 16) :
    hashX (withB b k tree r).h (withB b k tree r).L (i : Int) = if i = k then (if isH r then refH r else zeroH) else hashX b.h b.L (i : Int) := by
  obtain ⟨h1, h2, h3, h4⟩ := hb
  have hf := withB_fits ⟨h1, h2, h3, h4⟩ hk tree r
  have hbit : (withB b k tree r).h.testBit i = if i = k then isH r else b.h.testBit i := testBit_setM _ _ _ _
  have hL : (withB b k tree r).L = (nibs (setM b.h k (isH r))).map fun j : Nat => if j = k then refH r else hashX b.h b.L (j : Int) := by
    show withL b.h k b.L (ownL r) = _
    unfold ownL
    exact withL_map hk h4
  cases hq : (withB b k tree r).h.testBit i with
  | true =>
    have e1 := hashX_yes hi hq hf.2.2.2
    rw [hL, List.getElem?_map] at e1
    have e2 := nibs_at hi hq
    have e3 : (withB b k tree r).h = setM b.h k (isH r) := rfl
    rw [e3] at e1 e2
    rw [e2, Option.map_some] at e1
    injection e1 with e1
    rw [← hL, ← e3] at e1
    rw [← e1]
    rw [hq] at hbit
    by_cases e : i = k
    · rw [if_pos e, if_pos e]
      rw [if_pos e] at hbit
      rw [← hbit]; rfl
    · rw [if_neg e, if_neg e]
  | false =>
    rw [hashX_no (by rw [hasM_nat _ _ hi]; exact hq)]
    rw [hq] at hbit
    by_cases e : i = k
    · rw [if_pos e]
      rw [if_pos e] at hbit
      rw [← hbit]; rfl
    · rw [if_neg e]
      rw [if_neg e] at hbit
      rw [hashX_no (by rw [hasM_nat _ _ hi]; exact hbit.symm)]
end Go.Proofs.YtbidoangdnmjfaaDoor
