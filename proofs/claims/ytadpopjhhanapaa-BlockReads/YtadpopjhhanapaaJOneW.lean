/-
  BlockOne: the law's walk.
-/
import Derived.Test.YtadpopjhhanapaaJLittleW
import Derived.Test.YtadpopjhhanapaaJGoneW
namespace Go.Proofs.Ytadpopjhhanapaa
open Go Go.RowKit

theorem one_at {w : World} {x : Wr} (hx : WrOk w x) : WritesAt (w.alloc (.cells (wrC x) 38)) (.slice (some ⟨w.heap.size, 0, none⟩) 1 1) [x] := by
  have h := Holds.new w 38 (wrC x)
  refine ⟨fun y hy => ?_, .inr ⟨_, 0, 1, rfl, Nat.le_refl _, fun i y hy => ?_⟩⟩
  · rw [List.mem_singleton.1 hy]; exact hx.below (below_new1 _ _)
  · match i with
    | 0 => simp at hy; subst hy; exact ⟨h.cell 0, h.cell 1, h.cell 2, h.cell 3, h.cell 4, h.cell 5, h.cell 6⟩
    | i + 1 => simp at hy
theorem two_at {w : World} {x y : Wr} (hx : WrOk w x) (hy : WrOk w y) : WritesAt (w.alloc (.cells (wrC x ++ wrC y) 38)) (.slice (some ⟨w.heap.size, 0, none⟩) 2 2) [x, y] := by
  have h := Holds.new w 38 (wrC x ++ wrC y)
  refine ⟨fun z hz => ?_, .inr ⟨_, 0, 2, rfl, Nat.le_refl _, fun i z hz => ?_⟩⟩
  · rcases List.mem_cons.1 hz with rfl | hz
    · exact hx.below (below_new1 _ _)
    · rw [List.mem_singleton.1 hz]; exact hy.below (below_new1 _ _)
  · match i with
    | 0 => simp at hz; subst hz; exact ⟨h.cell 0, h.cell 1, h.cell 2, h.cell 3, h.cell 4, h.cell 5, h.cell 6⟩
    | 1 => simp at hz; subst hz; exact ⟨h.cell 7, h.cell 8, h.cell 9, h.cell 10, h.cell 11, h.cell 12, h.cell 13⟩
    | i + 2 => simp at hz
theorem hd_mono {b n m : Nat} (hm : m < 18446744073709551616) (h : n ≤ m) : (hd b n).length ≤ (hd b m).length := by
  unfold hd
  split
  · split <;> simp
  · rw [if_neg (by omega)]
    have := num_len_mono hm h
    simp; omega
theorem listL_mono {k l : List UInt8} (hl : l.length < 18446744073709551616) (h : k.length ≤ l.length) : (listL k).length ≤ (listL l).length := by
  unfold listL
  have := hd_mono (b := 192) hl h
  rw [List.length_append, List.length_append]
  omega
theorem listL_ge (l : List UInt8) : l.length ≤ (listL l).length := by unfold listL; rw [List.length_append]; omega
theorem num1 : (txtL [numB 1]).length = 1 := by decide
theorem kl_nil {x : ByteArray} (h : x.size = 20) : kl ⟨#[]⟩ x = true := by
  have hx : x.toList ≠ [] := fun e => by
    have h1 : x.toList.length = 20 := by rw [lb, sizeB]; exact h
    rw [e] at h1; cases h1
  unfold kl
  cases hl : x.toList with
  | nil => exact absurd hl hx
  | cons a l => rw [lb]; rfl
theorem okB_one (x : Wr) : okB 1 [x] = true ↔ okW x = true ∧ x.a.size = 20 := by
  unfold okB riseL riseL
  simp only [Bool.and_eq_true, decide_eq_true_eq, List.length_cons, List.length_nil]
  constructor
  · rintro ⟨_, h⟩; exact ⟨h.1.1, h.1.2.1⟩
  · rintro ⟨h1, h2⟩; exact ⟨⟨⟨by omega, by omega⟩, by omega⟩, ⟨h1, h2, kl_nil h2⟩, by first | rfl | trivial⟩
theorem okB_two (x y : Wr) : okB 1 [x, y] = true ↔ okB 1 [x] = true ∧ okB 1 [y] = true ∧ kl x.a y.a = true := by
  rw [okB_one, okB_one]
  unfold okB riseL riseL riseL
  simp only [Bool.and_eq_true, decide_eq_true_eq, List.length_cons, List.length_nil]
  constructor
  · rintro ⟨_, h1, h2, _⟩; exact ⟨⟨h1.1, h1.2.1⟩, ⟨h2.1, h2.2.1⟩, h2.2.2⟩
  · rintro ⟨⟨h1, h2⟩, ⟨h3, h4⟩, h5⟩; exact ⟨⟨⟨by omega, by omega⟩, by omega⟩, ⟨h1, h2, kl_nil h2⟩, ⟨h3, h4, h5⟩, by first | rfl | trivial⟩
theorem enc_one (x : Wr) : encBk 1 [x] = listL (txtL [numB 1] ++ listL (encW x)) := by unfold encBk cat; simp [encWB]
theorem enc_two (x y : Wr) : encBk 1 [x, y] = listL (txtL [numB 1] ++ listL (encW x ++ encW y)) := by unfold encBk cat; simp [encWB]
theorem enc_two_ge {x y : Wr} (hx : SmallW x) (hy : SmallW y) : (encBk 1 [x]).length ≤ (encBk 1 [x, y]).length ∧ (encBk 1 [y]).length ≤ (encBk 1 [x, y]).length := by
  have h1 := encW_len hx
  have h2 := encW_len hy
  have h3 := listL_len (encW x ++ encW y)
  rw [List.length_append] at h3
  have h4 : ∀ z : List UInt8, z.length ≤ (encW x ++ encW y).length → (listL (txtL [numB 1] ++ listL z)).length ≤ (listL (txtL [numB 1] ++ listL (encW x ++ encW y))).length := fun z hz => by
    have h5 := listL_mono (by rw [List.length_append]; omega) hz
    refine listL_mono ?_ ?_
    · rw [List.length_append, num1]; omega
    · rw [List.length_append, List.length_append]; omega
  rw [enc_one, enc_one, enc_two]
  exact ⟨h4 _ (by rw [List.length_append]; omega), h4 _ (by rw [List.length_append]; omega)⟩
theorem enc_two_le (x y : Wr) : (encBk 1 [x, y]).length ≤ (encBk 1 [x]).length + (encBk 1 [y]).length + 30 := by
  rw [enc_one, enc_one, enc_two]
  have h1 := listL_len (txtL [numB 1] ++ listL (encW x ++ encW y))
  have h2 := listL_len (encW x ++ encW y)
  have h3 := listL_ge (txtL [numB 1] ++ listL (encW x))
  have h4 := listL_ge (encW x)
  have h5 := listL_ge (txtL [numB 1] ++ listL (encW y))
  have h6 := listL_ge (encW y)
  rw [List.length_append] at h1 h2 h3 h5
  have := num1
  omega
theorem bytesOf_some {n : Int} {L : List Wr} {s : List UInt8} : bytesOf n L = some s ↔ okB n L = true ∧ (encBk n.toNat L).length ≤ 60000 ∧ s = encBk n.toNat L := by
  unfold bytesOf
  constructor
  · intro h
    split at h
    · next h1 =>
      split at h
      · next h2 => injection h with h; exact ⟨h1, h2, h.symm⟩
      · cases h
    · cases h
  · rintro ⟨h1, h2, rfl⟩
    rw [if_pos h1, if_pos h2]
/-- If both together may be, each may, and the first stands ahead. -/
theorem two_one {x y : Wr} {s : List UInt8} (h : bytesOf 1 [x, y] = some s) : (∃ t, bytesOf 1 [x] = some t) ∧ (∃ t, bytesOf 1 [y] = some t) ∧ kl x.a y.a = true := by
  obtain ⟨h1, h2, _⟩ := bytesOf_some.1 h
  obtain ⟨h3, h4, h5⟩ := (okB_two x y).1 h1
  have hx := (okB_all h3).2.2.2 x (by simp)
  have hy := (okB_all h4).2.2.2 y (by simp)
  obtain ⟨h6, h7⟩ := enc_two_ge hx hy
  have e1 : (1 : Int).toNat = 1 := rfl
  rw [e1] at h2
  exact ⟨⟨_, bytesOf_some.2 ⟨h3, by rw [e1]; omega, rfl⟩⟩, ⟨_, bytesOf_some.2 ⟨h4, by rw [e1]; omega, rfl⟩⟩, h5⟩
theorem one_two {x y : Wr} {s t : List UInt8} (hx : bytesOf 1 [x] = some s) (hy : bytesOf 1 [y] = some t) (hk : kl x.a y.a = true) (hs : s.length < 25000) (ht : t.length < 25000) : ∃ u, bytesOf 1 [x, y] = some u := by
  obtain ⟨h1, h2, rfl⟩ := bytesOf_some.1 hx
  obtain ⟨h3, h4, rfl⟩ := bytesOf_some.1 hy
  have := enc_two_le x y
  have e1 : (1 : Int).toNat = 1 := rfl
  rw [e1] at hs ht
  exact ⟨_, bytesOf_some.2 ⟨(okB_two x y).2 ⟨h1, h3, hk⟩, by rw [e1]; omega, rfl⟩⟩
end Go.Proofs.Ytadpopjhhanapaa
