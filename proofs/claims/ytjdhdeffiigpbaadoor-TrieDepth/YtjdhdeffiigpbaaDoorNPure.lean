/-
  Rows of half bytes: what the calls answer, by lists.
-/
import Derived.Test.YtjdhdeffiigpbaaDoorPTail
import Derived.RowKit3
import Derived.OwnWalk
import Derived.Lib.Strings
import Derived.Deep.OwnRows
import Derived.Laws.IdiomStrings
namespace Go.Proofs.YtjdhdeffiigpbaaDoor.Nb
open Go Go.RowKit

theorem getB (x : ByteArray) (i : Nat) (h : i < x.size) : x[i] = x.data.toList[i]'h := rfl
theorem sizeB (x : ByteArray) : x.data.toList.length = x.size := rfl
theorem lb (x : ByteArray) : x.toList = x.data.toList := ByteArray.toList_eq x
theorem getDB (x : ByteArray) (i : Nat) (h : i < x.size) : x.data.toList.getD i 0 = x[i] := by
  rw [List.getD_eq_getElem?_getD, List.getElem?_eq_getElem (by exact h)]; rfl
theorem getD_lt (l : List UInt8) (i : Nat) (h : i < l.length) : l.getD i 0 = l[i] := by
  rw [List.getD_eq_getElem?_getD, List.getElem?_eq_getElem h]; rfl
theorem add_plain (b o j : Nat) : (⟨b, o, none⟩ : Addr).add j = ⟨b, o + j, none⟩ := by unfold Addr.add; split <;> simp_all
theorem info5 : (Tryd.prog.info? 5).map (fun i => (i.zero, i.size, i.bytes)) = some (some (.int .u8 0), 1, 1) := by kernel_rfl
theorem underBytes : Tryd.prog.underlying 57 = some (.slice 5) := by kernel_rfl
theorem convert_row {w : World} {b cap : Nat} {l : List UInt8} (h : w.rowIs b 5 l.length (fun j => .int .u8 ((l.getD j 0).toNat : Int))) :
    (convert 57 9 (.slice (some ⟨b, 0, none⟩) l.length cap)).run Tryd.prog w = .ok (.string ⟨l.toArray⟩) w :=
  run_convert_bytes_back w 57 9 5 ⟨b, 0, none⟩ cap l underBytes (by kernel_rfl) (by kernel_rfl) (fun j hj => by
    have := h.cell hj
    rw [add_plain, Nat.zero_add, this, List.getD_eq_getElem?_getD, List.getElem?_eq_getElem hj]
    rfl)

def hal : List UInt8 → List UInt8
  | [] => []
  | c :: l => (c / 16) :: (c % 16) :: hal l
theorem hal_len : ∀ l, (hal l).length = 2 * l.length
  | [] => rfl
  | c :: l => by rw [hal, List.length_cons, List.length_cons, hal_len l, List.length_cons]; omega
theorem hal_even : ∀ (l : List UInt8) (i : Nat), (hal l).getD (2 * i) 0 = l.getD i 0 / 16
  | [], i => by simp [hal]
  | c :: l, 0 => by simp [hal]
  | c :: l, i + 1 => by
    have := hal_even l i
    rw [hal, show 2 * (i + 1) = 2 * i + 1 + 1 by omega]
    simpa [List.getD_eq_getElem?_getD] using this
theorem hal_odd : ∀ (l : List UInt8) (i : Nat), (hal l).getD (2 * i + 1) 0 = l.getD i 0 % 16
  | [], i => by simp [hal]
  | c :: l, 0 => by simp [hal]
  | c :: l, i + 1 => by
    have := hal_odd l i
    rw [hal, show 2 * (i + 1) + 1 = 2 * i + 1 + 1 + 1 by omega]
    simpa [List.getD_eq_getElem?_getD] using this

def rightL (l : List UInt8) : Bool := l.all fun c => decide (c.toNat < 16)
theorem div16 (c : UInt8) : (c / 16).toNat = c.toNat / 16 := by rw [UInt8.toNat_div]; rfl
theorem mod16 (c : UInt8) : (c % 16).toNat = c.toNat % 16 := by rw [UInt8.toNat_mod]; rfl
theorem right_hal : ∀ l, rightL (hal l) = true
  | [] => rfl
  | c :: l => by
    have := right_hal l
    have hc := c.toNat_lt
    unfold rightL at *
    simp only [hal, List.all_cons, this, div16, mod16, Bool.and_true, Bool.and_eq_true, decide_eq_true_eq]
    omega
theorem right_at (l : List UInt8) (h : rightL l = true) (i : Nat) (hi : i < l.length) : (l[i]).toNat < 16 := by
  have := List.all_eq_true.1 h l[i] (List.getElem_mem hi)
  simpa using this
theorem right_false (l : List UInt8) (i : Nat) (hi : i < l.length) (h : 16 ≤ (l[i]).toNat) : rightL l = false := by
  cases q : rightL l with
  | false => rfl
  | true => have := right_at l q i hi; omega
theorem right_true (l : List UInt8) (h : ∀ i (hi : i < l.length), (l[i]).toNat < 16) : rightL l = true := by
  refine List.all_eq_true.2 fun c hc => ?_
  obtain ⟨i, hi, rfl⟩ := List.mem_iff_getElem.1 hc
  simpa using h i hi
theorem right_tail (c : UInt8) (l : List UInt8) (h : rightL (c :: l) = true) : c.toNat < 16 ∧ rightL l = true := by
  unfold rightL at *
  simpa using h
theorem right_drop (l : List UInt8) (k : Nat) (h : rightL l = true) : rightL (l.drop k) = true :=
  List.all_eq_true.2 fun c hc => List.all_eq_true.1 h c (List.mem_of_mem_drop hc)
theorem right_take (l : List UInt8) (k : Nat) (h : rightL l = true) : rightL (l.take k) = true :=
  List.all_eq_true.2 fun c hc => List.all_eq_true.1 h c (List.mem_of_mem_take hc)

/-- Two halves made whole. -/
def whl (a b : UInt8) : UInt8 := UInt8.ofNat (a.toNat * 16 + b.toNat)
theorem whl_nat (a b : UInt8) (ha : a.toNat < 16) (hb : b.toNat < 16) : (whl a b).toNat = a.toNat * 16 + b.toNat := by
  unfold whl; rw [UInt8.toNat_ofNat', Nat.mod_eq_of_lt (by omega)]
theorem whl_hal (c : UInt8) : whl (c / 16) (c % 16) = c := by
  have hc := c.toNat_lt
  refine UInt8.toNat_inj.1 ?_
  rw [whl_nat _ _ (by rw [div16]; omega) (by rw [mod16]; omega), div16, mod16]; omega
theorem whl_div (a b : UInt8) (ha : a.toNat < 16) (hb : b.toNat < 16) : whl a b / 16 = a := by
  refine UInt8.toNat_inj.1 ?_
  rw [div16, whl_nat a b ha hb]; omega
theorem whl_mod (a b : UInt8) (ha : a.toNat < 16) (hb : b.toNat < 16) : whl a b % 16 = b := by
  refine UInt8.toNat_inj.1 ?_
  rw [mod16, whl_nat a b ha hb]; omega
def whL : List UInt8 → List UInt8
  | a :: b :: l => whl a b :: whL l
  | _ => []
theorem whL_len : ∀ l : List UInt8, (whL l).length = l.length / 2
  | [] => rfl
  | [_] => by simp [whL]
  | a :: b :: l => by rw [whL, List.length_cons, whL_len l, List.length_cons, List.length_cons]; omega
theorem whL_at : ∀ (l : List UInt8) (i : Nat), 2 * i + 1 < l.length → (whL l).getD i 0 = whl (l.getD (2 * i) 0) (l.getD (2 * i + 1) 0)
  | [], i, h => by simp at h
  | [_], i, h => by simp at h
  | a :: b :: l, 0, _ => by simp [whL]
  | a :: b :: l, i + 1, h => by
    have := whL_at l i (by simp at h; omega)
    rw [whL, show 2 * (i + 1) + 1 = 2 * i + 1 + 1 + 1 by omega, show 2 * (i + 1) = 2 * i + 1 + 1 by omega]
    simpa [List.getD_eq_getElem?_getD] using this
theorem whL_hal : ∀ l, whL (hal l) = l
  | [] => rfl
  | c :: l => by rw [hal, whL, whl_hal, whL_hal l]
theorem hal_whL : ∀ l, rightL l = true → l.length % 2 = 0 → hal (whL l) = l
  | [], _, _ => rfl
  | [_], _, h => by simp at h
  | a :: b :: l, hr, h => by
    obtain ⟨ha, hr⟩ := right_tail a _ hr
    obtain ⟨hb, hr⟩ := right_tail b _ hr
    rw [whL, hal, whl_div a b ha hb, whl_mod a b ha hb, hal_whL l hr (by simp at h; omega)]

def pre : List UInt8 → List UInt8 → Nat
  | a :: x, b :: y => if a = b then pre x y + 1 else 0
  | _, _ => 0
theorem pre_eq : ∀ (k : Nat) (x y : List UInt8), k ≤ x.length → k ≤ y.length → x.take k = y.take k → (k = x.length ∨ k = y.length ∨ x[k]? ≠ y[k]?) → pre x y = k
  | 0, [], _, _, _, _, _ => by unfold pre; rfl
  | 0, _ :: _, [], _, _, _, _ => by unfold pre; rfl
  | 0, a :: x, b :: y, _, _, _, h => by
    unfold pre
    rw [if_neg]
    rintro rfl
    simp at h
  | k + 1, [], _, h, _, _, _ => by simp at h
  | k + 1, _ :: _, [], _, h, _, _ => by simp at h
  | k + 1, a :: x, b :: y, hx, hy, ht, h => by
    simp only [List.take_succ_cons, List.cons.injEq] at ht
    unfold pre
    rw [if_pos ht.1, pre_eq k x y (by simpa using hx) (by simpa using hy) ht.2 (by simpa using h)]
theorem pre_le : ∀ x y : List UInt8, pre x y ≤ x.length ∧ pre x y ≤ y.length
  | [], _ => by simp [pre]
  | _ :: _, [] => by simp [pre]
  | a :: x, b :: y => by
    unfold pre
    have := pre_le x y
    split <;> simp <;> omega
theorem pre_take : ∀ x y : List UInt8, x.take (pre x y) = y.take (pre x y)
  | [], _ => by simp [pre]
  | _ :: _, [] => by simp [pre]
  | a :: x, b :: y => by
    unfold pre
    split
    · next h => subst h; simp [pre_take x y]
    · simp
theorem pre_ne : ∀ x y : List UInt8, pre x y = x.length ∨ pre x y = y.length ∨ x[pre x y]? ≠ y[pre x y]?
  | [], _ => by simp [pre]
  | _ :: _, [] => by simp [pre]
  | a :: x, b :: y => by
    unfold pre
    have := pre_ne x y
    split
    · next h => subst h; simpa using this
    · next h => right; right; simpa using h
theorem pre_comm : ∀ x y : List UInt8, pre x y = pre y x
  | [], [] => rfl
  | [], _ :: _ => rfl
  | _ :: _, [] => rfl
  | a :: x, b :: y => by
    unfold pre
    by_cases h : a = b
    · subst h; simp [pre_comm x y]
    · rw [if_neg h, if_neg (Ne.symm h)]
theorem pre_self : ∀ x : List UInt8, pre x x = x.length
  | [] => rfl
  | a :: x => by unfold pre; simp [pre_self x]
/-- Of three the least two shares are the same. -/
theorem pre_three : ∀ x y z : List UInt8, (pre x y = pre y z ∧ pre x y ≤ pre x z) ∨ (pre x y = pre x z ∧ pre x y ≤ pre y z) ∨ (pre y z = pre x z ∧ pre y z ≤ pre x y)
  | [], y, z => by cases y <;> simp [pre]
  | _ :: _, [], z => by cases z <;> simp [pre]
  | _ :: _, _ :: _, [] => by simp [pre]
  | a :: x, b :: y, c :: z => by
    have := pre_three x y z
    unfold pre
    by_cases h1 : a = b
    · subst h1
      by_cases h2 : a = c
      · subst h2; simp; omega
      · simp [h2]
    · by_cases h2 : b = c
      · subst h2; simp [h1]
      · by_cases h3 : a = c
        · subst h3; simp [h1, h2]
        · simp [h1, h2, h3]

/-- How many are left once all 15 at the end are taken off. -/
def cutK (l : List UInt8) : Nat := (l.reverse.dropWhile fun c => decide (c.toNat = 15)).length
theorem cutK_eq (l : List UInt8) (k : Nat) (hk : k ≤ l.length) (h15 : ∀ j (hj : j < l.length), k ≤ j → (l[j]).toNat = 15) (hne : ∀ (h : k - 1 < l.length), 0 < k → (l[k - 1]).toNat ≠ 15) : cutK l = k := by
  have hl : l = l.take k ++ l.drop k := (List.take_append_drop k l).symm
  unfold cutK
  rw [hl, List.reverse_append, List.dropWhile_append_of_pos]
  · cases k with
    | zero => simp
    | succ k =>
      have hlt : k < l.length := by omega
      have h2 := hne (by omega) (by omega)
      have h3 : (l.take (k + 1)).reverse = l[k] :: (l.take k).reverse := by rw [List.take_succ_eq_append_getElem hlt]; simp
      rw [h3, List.dropWhile_cons_of_neg (by simpa using h2)]
      simp; omega
  · intro c hc
    obtain ⟨j, hj, rfl⟩ := List.mem_iff_getElem.1 (List.mem_reverse.1 hc)
    rw [List.length_drop] at hj
    rw [List.getElem_drop]
    simpa using h15 (k + j) (by omega) (by omega)
theorem cutK_spec (l : List UInt8) : cutK l ≤ l.length ∧ (∀ j (_ : j < l.length), cutK l ≤ j → (l[j]).toNat = 15) ∧ (∀ (_ : cutK l - 1 < l.length), 0 < cutK l → (l[cutK l - 1]).toNat ≠ 15) := by
  have key : ∀ d k, k = l.length - d → d ≤ l.length → (∀ j (_ : j < l.length), k ≤ j → (l[j]).toNat = 15) ∨ (∃ k', k' ≤ l.length ∧ (∀ j (_ : j < l.length), k' ≤ j → (l[j]).toNat = 15) ∧ (∀ (_ : k' - 1 < l.length), 0 < k' → (l[k' - 1]).toNat ≠ 15)) := by
    intro d
    induction d with
    | zero => intro k hk _; left; intro j hj hkj; omega
    | succ d ih =>
      intro k hk hd
      rcases ih (l.length - d) rfl (by omega) with h | h
      · have hlt : k < l.length := by omega
        by_cases q : (l[k]).toNat = 15
        · left
          intro j hj hkj
          by_cases e : j = k
          · subst e; exact q
          · exact h j hj (by omega)
        · right
          refine ⟨k + 1, by omega, fun j hj hkj => h j hj (by omega), fun _ _ => by simpa using q⟩
      · exact .inr h
  rcases key l.length 0 (by omega) (Nat.le_refl _) with h | ⟨k, hk, h1, h2⟩
  · have := cutK_eq l 0 (by omega) h (fun _ h => by omega)
    rw [this]
    exact ⟨by omega, h, fun _ h => by omega⟩
  · have := cutK_eq l k hk h1 h2
    rw [this]
    exact ⟨hk, h1, h2⟩
/-- The next row. -/
def nxt (l : List UInt8) : Option (List UInt8) :=
  if rightL l = true ∧ cutK l ≠ 0 then some (l.take (cutK l - 1) ++ [UInt8.ofNat ((l.getD (cutK l - 1) 0).toNat + 1)]) else none
def nxtS (l : List UInt8) : ByteArray := ⟨((nxt l).getD []).toArray⟩
def nxtB (l : List UInt8) : Bool := (nxt l).isSome
/-- Packed. -/
def flagN (leaf : Bool) : Nat := if leaf then 2 else 0
def pck (l : List UInt8) (leaf : Bool) : List UInt8 :=
  if l.length % 2 = 1 then UInt8.ofNat ((flagN leaf + 1) * 16 + (l.getD 0 0).toNat) :: whL (l.drop 1) else UInt8.ofNat (flagN leaf * 16) :: whL l
def pckS (l : List UInt8) (leaf : Bool) : ByteArray := if rightL l then ⟨(pck l leaf).toArray⟩ else ⟨#[]⟩
def pckE (l : List UInt8) : Int := if rightL l then 0 else 1
/-- Read. -/
def unp : List UInt8 → Option (List UInt8 × Bool)
  | [] => none
  | c :: l =>
    if 3 < c.toNat / 16 then none
    else if c.toNat / 16 % 2 = 1 then some ((c % 16) :: hal l, decide (2 ≤ c.toNat / 16))
    else if c.toNat % 16 = 0 then some (hal l, decide (2 ≤ c.toNat / 16)) else none
def unpS (l : List UInt8) : ByteArray := ⟨(((unp l).map (·.1)).getD []).toArray⟩
def unpB (l : List UInt8) : Bool := ((unp l).map (·.2)).getD false
def unpE (l : List UInt8) : Int := if (unp l).isSome then 0 else 10
def bytS (l : List UInt8) : ByteArray := if rightL l && l.length % 2 == 0 then ⟨(whL l).toArray⟩ else ⟨#[]⟩
def bytB (l : List UInt8) : Bool := rightL l && l.length % 2 == 0
end Go.Proofs.YtjdhdeffiigpbaaDoor.Nb
