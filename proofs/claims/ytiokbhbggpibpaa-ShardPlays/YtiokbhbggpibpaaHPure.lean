/-
  What the statements on chunks lean on: parts of a list, and the chunks that they are. Nothing of memory.
-/
import Derived.Test.YtiokbhbggpibpaaBRefP
import Derived.Test.YtiokbhbggpibpaaBGreatW
namespace Go.Proofs.Ytiokbhbggpibpaa
open Go Go.RowKit

abbrev Ck := Int × ByteArray
/-- The bytes of the set with these members. -/
noncomputable def dataOf (p : List Nat) : ByteArray := ⟨(bytesM (ofN p)).toArray⟩
/-- Numbers that rise, and may be members. -/
structure Nums (l : List Nat) : Prop where
  rises : l.Pairwise (· < ·)
  bound : ∀ x ∈ l, x < 2147483648
theorem Nums.mem {l : List Nat} (h : Nums l) : memFrom (ofN l) 0 = l := mem_ofN h.rises h.bound
theorem nums_of {M : Nat → Bool} (hM : ∀ n, M n = true → n < 2147483648) : Nums (memFrom M 0) := ⟨memFrom_rises M 0, fun _ hx => hM _ ((mem_memFrom hM).1 hx).2⟩
theorem Nums.sub {l m : List Nat} (h : Nums l) (hs : m.Sublist l) : Nums m := ⟨h.rises.sublist hs, fun x hx => h.bound x (hs.subset hx)⟩
theorem dataOf_mem {M : Nat → Bool} (hM : ∀ n, M n = true → n < 2147483648) : dataOf (memFrom M 0) = ⟨(bytesM M).toArray⟩ := by
  unfold dataOf
  rw [ofN_mem hM]
theorem ofN_inj {a b : List Nat} (ha : Nums a) (hb : Nums b) (h : ofN a = ofN b) : a = b := by rw [← ha.mem, ← hb.mem, h]
theorem dataOf_inj {a b : List Nat} (ha : Nums a) (hb : Nums b) (h : dataOf a = dataOf b) : a = b := by
  unfold dataOf at h
  injection h with h
  exact ofN_inj ha hb (bytesM_inj (ofN_bound ha.bound) (ofN_bound hb.bound) (by simpa using h))
open Classical in
/-- The members whose bytes these are. -/
noncomputable def rdD (x : ByteArray) : Option (List Nat) := if h : ∃ p, Nums p ∧ dataOf p = x then some h.choose else none
theorem rdD_some {x : ByteArray} {p : List Nat} (h : rdD x = some p) : Nums p ∧ dataOf p = x := by
  unfold rdD at h
  split at h
  · rename_i hh
    injection h with h
    rw [← h]
    exact hh.choose_spec
  · cases h
theorem rdD_of {p : List Nat} (h : Nums p) : rdD (dataOf p) = some p := by
  unfold rdD
  have hh : ∃ q, Nums q ∧ dataOf q = dataOf p := ⟨p, h, rfl⟩
  rw [dif_pos hh]
  exact congrArg some (dataOf_inj hh.choose_spec.1 h hh.choose_spec.2)
theorem rdD_none {x : ByteArray} (h : ∀ p, Nums p → dataOf p ≠ x) : rdD x = none := by
  unfold rdD
  rw [dif_neg]
  rintro ⟨p, h1, h2⟩
  exact h p h1 h2
/-- Parts: all but the last one are full. -/
def Parted : List (List Nat) → Prop
  | [] => True
  | [p] => 1 ≤ p.length ∧ p.length ≤ 64
  | p :: q :: r => p.length = 64 ∧ Parted (q :: r)
/-- The chunks that these parts are. -/
noncomputable def chk : List (List Nat) → List Ck
  | [] => []
  | [p] => [(2147483647, dataOf p)]
  | p :: q :: r => (((p.getLastD 0 : Nat) : Int), dataOf p) :: chk (q :: r)
/-- Chunks that others follow. -/
noncomputable def fulls (l : List (List Nat)) : List Ck := l.map fun p => (((p.getLastD 0 : Nat) : Int), dataOf p)
theorem chk_len : ∀ l, (chk l).length = l.length
  | [] => rfl
  | [_] => rfl
  | p :: q :: r => by rw [chk, List.length_cons, chk_len (q :: r), List.length_cons, List.length_cons, List.length_cons]
theorem chk_app : ∀ (a : List (List Nat)) {b : List (List Nat)}, b ≠ [] → chk (a ++ b) = fulls a ++ chk b
  | [], _, _ => rfl
  | p :: a, b, hb => by
    have ih := chk_app a hb
    cases hab : a ++ b with
    | nil => exact absurd (List.append_eq_nil_iff.1 hab).2 hb
    | cons q r =>
      rw [List.cons_append, hab, chk, ← hab, ih]
      rfl
theorem parted_app : ∀ (a : List (List Nat)) {b : List (List Nat)}, b ≠ [] → (Parted (a ++ b) ↔ (∀ p ∈ a, p.length = 64) ∧ Parted b)
  | [], _, _ => by simp
  | p :: a, b, hb => by
    have ih := parted_app a hb
    cases hab : a ++ b with
    | nil => exact absurd (List.append_eq_nil_iff.1 hab).2 hb
    | cons q r =>
      rw [List.cons_append, hab, Parted, ← hab, ih]
      simp only [List.mem_cons, forall_eq_or_imp]
      exact and_assoc.symm
theorem Parted.one : ∀ {l : List (List Nat)}, Parted l → ∀ p ∈ l, 1 ≤ p.length ∧ p.length ≤ 64
  | [p], h, q, hq => by rw [List.mem_singleton.1 hq]; exact h
  | p :: q :: r, h, x, hx => by
    rcases List.mem_cons.1 hx with rfl | hx
    · have := h.1; omega
    · exact h.2.one x hx
/-- A list has its parts in one way. -/
theorem Parted.uniq : ∀ {a b : List (List Nat)}, Parted a → Parted b → a.flatten = b.flatten → a = b
  | [], [], _, _, _ => rfl
  | [], p :: b, _, hb, h => by
    have h1 := (hb.one p List.mem_cons_self).1
    have e := congrArg List.length h
    rw [List.flatten_cons, List.length_append, List.flatten_nil, List.length_nil] at e
    omega
  | p :: a, [], ha, _, h => by
    have h1 := (ha.one p List.mem_cons_self).1
    have e := congrArg List.length h
    rw [List.flatten_cons, List.length_append, List.flatten_nil, List.length_nil] at e
    omega
  | p :: a, q :: b, ha, hb, h => by
    rw [List.flatten_cons, List.flatten_cons] at h
    have key : ∀ (p q : List Nat) (a b : List (List Nat)), Parted (p :: a) → Parted (q :: b) → p ++ a.flatten = q ++ b.flatten → p.length ≤ q.length := by
      intro p q a b ha hb h
      cases b with
      | cons x y => have := hb.1; have := (ha.one p List.mem_cons_self).2; omega
      | nil =>
        have e := congrArg List.length h
        rw [List.length_append, List.length_append] at e
        simp at e
        omega
    have hl : p.length = q.length := Nat.le_antisymm (key p q a b ha hb h) (key q p b a hb ha h.symm)
    obtain ⟨h1, h2⟩ := List.append_inj h hl
    subst h1
    have hta : Parted a := by
      cases a with
      | nil => trivial
      | cons x y => exact ha.2
    have htb : Parted b := by
      cases b with
      | nil => trivial
      | cons x y => exact hb.2
    rw [Parted.uniq hta htb h2]
/-- The chunks of these members. -/
def SplitOf (m : List Nat) (L : List Ck) : Prop := ∃ ps, Parted ps ∧ ps.flatten = m ∧ L = chk ps
theorem SplitOf.uniq {m : List Nat} {K L : List Ck} (h : SplitOf m K) (h' : SplitOf m L) : K = L := by
  obtain ⟨a, h1, h2, rfl⟩ := h
  obtain ⟨b, h3, h4, rfl⟩ := h'
  rw [h1.uniq h3 (h2.trans h4.symm)]
theorem SplitOf.nil {L : List Ck} (h : SplitOf [] L) : L = [] := h.uniq ⟨[], trivial, rfl, rfl⟩
/-- The part from a place on. -/
def partAt (m : List Nat) (i : Nat) : List Nat := (m.drop (64 * i)).take 64
theorem parts_take (m : List Nat) : ∀ k, ((List.range k).map (partAt m)).flatten = m.take (64 * k)
  | 0 => by simp
  | k + 1 => by
    rw [List.range_succ, List.map_append, List.flatten_append, parts_take m k, Nat.mul_add, Nat.mul_one, List.take_add]
    simp [partAt]
theorem parts_parted (m : List Nat) : ∀ (k i : Nat), 64 * (i + k) < m.length + 64 → (0 < k → 64 * (i + k - 1) < m.length) → m.length ≤ 64 * (i + k) → Parted ((List.range k).map fun j => partAt m (i + j))
  | 0, _, _, _, _ => trivial
  | 1, i, h1, h2, h3 => by
    have := h2 (by omega)
    show 1 ≤ (partAt m (i + 0)).length ∧ (partAt m (i + 0)).length ≤ 64
    unfold partAt
    rw [List.length_take, List.length_drop, Nat.add_zero]
    omega
  | k + 2, i, h1, h2, h3 => by
    have h2' := h2 (by omega)
    have ih := parts_parted m (k + 1) (i + 1) (by omega) (fun _ => by omega) (by omega)
    have e : (List.range (k + 2)).map (fun j => partAt m (i + j)) = partAt m i :: (List.range (k + 1)).map (fun j => partAt m (i + 1 + j)) := by
      rw [List.range_succ_eq_map, List.map_cons, List.map_map]
      refine congrArg (partAt m (i + 0) :: ·) (List.map_congr_left fun j _ => ?_)
      show partAt m (i + (j + 1)) = partAt m (i + 1 + j)
      rw [show i + (j + 1) = i + 1 + j by omega]
    rw [e]
    have e2 : (List.range (k + 1)).map (fun j => partAt m (i + 1 + j)) = partAt m (i + 1) :: (List.range k).map (fun j => partAt m (i + 1 + (j + 1))) := by
      rw [List.range_succ_eq_map, List.map_cons, List.map_map]
      rfl
    rw [e2] at ih ⊢
    refine ⟨?_, ih⟩
    unfold partAt
    rw [List.length_take, List.length_drop]
    omega
/-- How many chunks there are. -/
def cnt64 (n : Nat) : Nat := (n + 63) / 64
theorem parts_of (m : List Nat) : Parted ((List.range (cnt64 m.length)).map (partAt m)) ∧ ((List.range (cnt64 m.length)).map (partAt m)).flatten = m := by
  have hc : cnt64 m.length = (m.length + 63) / 64 := rfl
  refine ⟨?_, ?_⟩
  · have := parts_parted m (cnt64 m.length) 0 (by omega) (fun _ => by omega) (by omega)
    simpa using this
  · rw [parts_take, List.take_of_length_le (by omega)]
theorem chk_get : ∀ (l : List (List Nat)) (j : Nat) (p : List Nat), l[j]? = some p → (chk l)[j]? = some (if j + 1 = l.length then 2147483647 else ((p.getLastD 0 : Nat) : Int), dataOf p)
  | [q], 0, p, h => by
    simp at h
    subst h
    rfl
  | q :: r :: s, 0, p, h => by
    simp at h
    subst h
    rw [chk]
    simp
  | q :: r :: s, j + 1, p, h => by
    rw [chk, List.getElem?_cons_succ, chk_get (r :: s) j p (by simpa using h)]
    simp
  | [q], j + 1, p, h => by simp at h
/-- The last one's upper is set at the end. -/
noncomputable def rawC (m : List Nat) (i : Nat) : Ck := ((((partAt m i).getLastD 0 : Nat) : Int), dataOf (partAt m i))
theorem last_upper (m : List Nat) (h : 0 < cnt64 m.length) : SplitOf m ((List.range (cnt64 m.length - 1)).map (rawC m) ++ [(2147483647, dataOf (partAt m (cnt64 m.length - 1)))]) := by
  obtain ⟨h1, h2⟩ := parts_of m
  refine ⟨_, h1, h2, ?_⟩
  obtain ⟨k, hk⟩ : ∃ k, cnt64 m.length = k + 1 := ⟨cnt64 m.length - 1, by omega⟩
  rw [hk, List.range_succ, List.map_append, chk_app _ (by simp), Nat.add_sub_cancel]
  have e : fulls ((List.range k).map (partAt m)) = (List.range k).map (rawC m) := by
    unfold fulls
    rw [List.map_map]
    rfl
  rw [e]
  rfl
end Go.Proofs.Ytiokbhbggpibpaa
