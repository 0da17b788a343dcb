/-
  What the document's call of Crash does.
-/
import Derived.Test.YtonmjkalkkfhhaaDRCopyW
namespace Go.Proofs.Ytonmjkalkkfhhaa
open Go Go.RowKit Go.Maps

theorem odd_none (l : List Int) {i : Nat} (h : l.length ≤ i) : odd (l.getD i 0) = false := by
  rw [List.getD_eq_getElem?_getD, List.getElem?_eq_none h]
  rfl
theorem anyAt_min (l : List Int) : ∀ n, anyAt l (min n l.length) = anyAt l n
  | 0 => rfl
  | n + 1 => by
    by_cases h : n + 1 ≤ l.length
    · rw [Nat.min_eq_left h]
    · rw [anyAt_succ, odd_none l (by omega), Bool.or_false, ← anyAt_min l n, Nat.min_eq_right (by omega), Nat.min_eq_right (by omega)]
theorem tornAt_min (old data : ByteArray) (l : List Int) (n j : Nat) : tornAt old data l (min n l.length) j = tornAt old data l n j := by
  unfold tornAt
  by_cases q : j / 256 < n ∧ odd (l.getD (j / 256) 0) = true
  · have : j / 256 < l.length := by
      apply Classical.byContradiction
      intro r
      rw [odd_none l (by omega)] at q
      exact absurd q.2 (by decide)
    rw [if_pos q, if_pos ⟨by omega, q.2⟩]
  · rw [if_neg q, if_neg (fun r => q ⟨by omega, r.2⟩)]
/-- A text with the first k sectors done. -/
def tornK (old data : ByteArray) (l : List Int) (k : Nat) : ByteArray := ⟨((List.range 1024).map (tornAt old data l k)).toArray⟩
theorem tornK_size (old data : ByteArray) (l : List Int) (k : Nat) : (tornK old data l k).size = 1024 := by
  show (((List.range 1024).map (tornAt old data l k)).toArray).size = 1024
  simp
theorem tornK_list (old data : ByteArray) (l : List Int) (k : Nat) : (tornK old data l k).data.toList = (List.range 1024).map (tornAt old data l k) := by
  have e : ∀ (f : Nat → UInt8) (n : Nat), (ByteArray.mk ((List.range n).map f).toArray).data.toList = (List.range n).map f := fun _ _ => rfl
  exact e _ 1024
theorem tornK_get (old data : ByteArray) (l : List Int) (k j : Nat) (hj : j < 1024) : (tornK old data l k).data.toList[j]? = some (tornAt old data l k j) := by
  rw [tornK_list, List.getElem?_map, List.getElem?_range hj]
  rfl
theorem bytes_extD {x y : ByteArray} (h : x.data.toList = y.data.toList) : x = y := by
  cases x; cases y
  simp only [ByteArray.mk.injEq]
  exact Array.toList_inj.1 h
theorem tornK_zero {old : ByteArray} (data : ByteArray) (l : List Int) (h : old.size = 1024) : tornK old data l 0 = old := by
  apply bytes_extD
  apply List.ext_getElem?
  intro j
  have hl : old.data.toList.length = 1024 := h
  by_cases hj : j < 1024
  · rw [tornK_get _ _ _ _ _ hj]
    unfold tornAt oldAt
    rw [if_neg (by omega), List.getD_eq_getElem?_getD, List.getElem?_eq_getElem (by omega)]
    rfl
  · rw [List.getElem?_eq_none (by rw [tornK_list]; simp; omega), List.getElem?_eq_none (by omega)]
theorem tornK_no {old data : ByteArray} {l : List Int} {k : Nat} (h : odd (l.getD k 0) = false) : tornK old data l (k + 1) = tornK old data l k := by
  unfold tornK
  rw [List.map_congr_left fun j _ => tornAt_no h j]
theorem extract_list (x : ByteArray) (a b : Nat) : (x.extract a b).data.toList = (x.data.toList.drop a).take (b - a) := by
  rw [ByteArray.data_extract, Array.toList_extract, List.extract_eq_take_drop]
theorem tornK_yes {old data : ByteArray} {l : List Int} {k : Nat} (hd : data.size = 1024) (hk : k < 4) (h : odd (l.getD k 0) = true) :
    (tornK old data l k).extract 0 (256 * k) ++ data.extract (256 * k) (256 * k + 256) ++ (tornK old data l k).extract (256 * k + 256) 1024 = tornK old data l (k + 1) := by
  have hdl : data.data.toList.length = 1024 := hd
  apply bytes_extD
  rw [ByteArray.data_append, ByteArray.data_append, Array.toList_append, Array.toList_append, extract_list, extract_list, extract_list]
  have hl : (tornK old data l k).data.toList.length = 1024 := tornK_size old data l k
  apply List.ext_getElem?
  intro j
  rw [List.drop_zero, Nat.sub_zero]
  have l1 : ((tornK old data l k).data.toList.take (256 * k)).length = 256 * k := by rw [List.length_take]; omega
  have l2 : ((data.data.toList.drop (256 * k)).take (256 * k + 256 - 256 * k)).length = 256 := by rw [List.length_take, List.length_drop]; omega
  by_cases hj : j < 1024
  · rw [tornK_get _ _ _ _ _ hj, tornAt_yes h]
    by_cases h1 : j < 256 * k
    · rw [List.getElem?_append_left (by rw [List.length_append]; omega), List.getElem?_append_left (by omega), List.getElem?_take_of_lt h1, tornK_get _ _ _ _ _ hj, if_neg (by omega)]
    · by_cases h2 : j < 256 * k + 256
      · rw [List.getElem?_append_left (by rw [List.length_append]; omega), List.getElem?_append_right (by omega), l1, List.getElem?_take_of_lt (by omega), List.getElem?_drop, if_pos ⟨by omega, h2⟩, List.getD_eq_getElem?_getD, show 256 * k + (j - 256 * k) = j by omega, List.getElem?_eq_getElem (by omega)]
        rfl
      · rw [List.getElem?_append_right (by rw [List.length_append]; omega), List.length_append, l1, l2, List.getElem?_take_of_lt (by omega), List.getElem?_drop, show 256 * k + 256 + (j - (256 * k + 256)) = j by omega, tornK_get _ _ _ _ _ hj, if_neg (by omega)]
  · rw [List.getElem?_eq_none (by simp only [List.length_append, List.length_take, List.length_drop]; omega), List.getElem?_eq_none (by rw [tornK_list]; simp; omega)]
theorem tornR_eq {old data : ByteArray} {l : List Int} (h : anyAt l 4 = true) : tornR old data l = tornK (if old.size ≠ 0 then old else zeros) data l 4 := by
  unfold tornR tornT tornK
  rw [anyAt_min, if_pos h, List.map_congr_left fun j _ => tornAt_min _ _ _ _ j]
theorem crashL_app : ∀ (L : List (Int × ByteArray)) (p : Int × ByteArray) (picks : List Int) (l : List ByteArray),
    crashL (L ++ [p]) picks l = if anyAt (picks.drop (4 * L.length)) 4 = true then setL (crashL L picks l) p.1.toNat (tornR (lst (crashL L picks l) p.1) p.2 (picks.drop (4 * L.length))) else crashL L picks l
  | [], p, picks, l => by
    rw [List.nil_append, crashL, crashL, anyAt_min]
    rfl
  | q :: L, p, picks, l => by
    rw [List.cons_append, crashL, crashL, crashL_app L p, List.drop_drop, List.length_cons, show 4 + 4 * L.length = 4 * (L.length + 1) by omega]
theorem crashL_len : ∀ (L : List (Int × ByteArray)) (picks : List Int) (l : List ByteArray), l.length ≤ 65536 → (∀ p ∈ L, (0 ≤ p.1 ∧ p.1 < 65536) ∧ p.2.size = 1024) → (crashL L picks l).length ≤ 65536
  | [], _, _, h, _ => h
  | p :: L, picks, l, h, hp => by
    rw [crashL]
    refine crashL_len L _ _ ?_ fun q hq => hp q (List.mem_cons_of_mem _ hq)
    split
    · exact setL_len _ _ _ h (by have := (hp p List.mem_cons_self).1; omega)
    · exact h
theorem tmod_odd (x : Int) : (x.tmod 2 == 0) = !odd x := by
  unfold odd
  rw [Bool.eq_iff_iff]
  simp
  rw [← Int.dvd_iff_tmod_eq_zero]
  omega
end Go.Proofs.Ytonmjkalkkfhhaa
