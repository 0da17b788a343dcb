/-
  Nodes as data: the order of keys, which cells may be, sizes, what is found, put, dropped and cut.
-/
import Derived.Test.YtdgfjaidnedaiaaEMem
import Derived.Laws.StructEq
namespace Go.Proofs.Ytdgfjaidnedaiaa
open Go Go.RowKit

/-- Keys byte by byte. -/
def kl (a b : ByteArray) : Bool := Op.bytesLess a.toList b.toList
theorem bl_nil (x : List UInt8) : Op.bytesLess x [] = false := by cases x <;> rfl
theorem bl_cons (a b : UInt8) (x y : List UInt8) : Op.bytesLess (a :: x) (b :: y) = (decide (a.toNat < b.toNat) || (decide (a.toNat = b.toNat) && Op.bytesLess x y)) := by
  show (decide (a < b) || (a == b && Op.bytesLess x y)) = _
  rw [show decide (a < b) = decide (a.toNat < b.toNat) from by simp [UInt8.lt_iff_toNat_lt]]
  rw [show (a == b) = decide (a.toNat = b.toNat) from by
    by_cases h : a = b
    · subst h; simp
    · have : ¬ a.toNat = b.toNat := fun e => h (UInt8.toNat_inj.1 e)
      simp [h, this]]
theorem bl_asymm : ∀ x y : List UInt8, Op.bytesLess x y = true → Op.bytesLess y x = false
  | x, [], h => by rw [bl_nil] at h; cases h
  | [], _ :: _, _ => by rw [bl_nil]
  | a :: x, b :: y, h => by
    rw [bl_cons] at h ⊢
    have ih := bl_asymm x y
    simp only [Bool.or_eq_true, Bool.and_eq_true, decide_eq_true_eq] at h
    rw [Bool.or_eq_false_iff, Bool.and_eq_false_iff]
    rcases h with h | ⟨h1, h2⟩
    · exact ⟨by simp; omega, .inl (by simp; omega)⟩
    · exact ⟨by simp; omega, .inr (ih h2)⟩
theorem bl_trans : ∀ x y z : List UInt8, Op.bytesLess x y = true → Op.bytesLess y z = true → Op.bytesLess x z = true
  | x, [], z, h, _ => by rw [bl_nil] at h; cases h
  | x, _ :: _, [], _, h => by rw [bl_nil] at h; cases h
  | [], _ :: _, _ :: _, _, _ => rfl
  | a :: x, b :: y, c :: z, h1, h2 => by
    rw [bl_cons] at h1 h2 ⊢
    have ih := bl_trans x y z
    simp only [Bool.or_eq_true, Bool.and_eq_true, decide_eq_true_eq] at h1 h2 ⊢
    rcases h1 with h1 | ⟨h1, h1'⟩
    · rcases h2 with h2 | ⟨h2, _⟩
      · left; omega
      · left; omega
    · rcases h2 with h2 | ⟨h2, h2'⟩
      · left; omega
      · right; exact ⟨by omega, ih h1' h2'⟩
theorem bl_tri : ∀ x y : List UInt8, Op.bytesLess x y = false → Op.bytesLess y x = false → x = y
  | [], [], _, _ => rfl
  | [], _ :: _, h, _ => by cases h
  | _ :: _, [], _, h => by cases h
  | a :: x, b :: y, h1, h2 => by
    rw [bl_cons] at h1 h2
    have ih := bl_tri x y
    simp only [Bool.or_eq_false_iff, Bool.and_eq_false_iff, decide_eq_false_iff_not] at h1 h2
    have e : a.toNat = b.toNat := by omega
    rw [UInt8.toNat_inj.1 e, ih (h1.2.resolve_left fun h => h e) (h2.2.resolve_left fun h => h e.symm)]
theorem ba_ext {a b : ByteArray} (h : a.toList = b.toList) : a = b := ByteArray.ext (Array.toList_inj.mp (by rw [ByteArray.toList_eq, ByteArray.toList_eq] at h; exact h))
theorem kl_irrefl (a : ByteArray) : kl a a = false := by
  cases h : kl a a with
  | false => rfl
  | true => exact (bl_asymm _ _ h).symm.trans h |>.symm ▸ rfl
theorem kl_asymm {a b : ByteArray} (h : kl a b = true) : kl b a = false := bl_asymm _ _ h
theorem kl_trans {a b c : ByteArray} (h : kl a b = true) (k : kl b c = true) : kl a c = true := bl_trans _ _ _ h k
theorem kl_tri {a b : ByteArray} (h : kl a b = false) (k : kl b a = false) : a = b := ba_ext (bl_tri _ _ h k)
theorem kl_ne {a b : ByteArray} (h : kl a b = true) : a ≠ b := fun e => by subst e; rw [kl_irrefl] at h; cases h
/-- not b < a, a < c: then b < c, or so. -/
theorem kl_le_lt {a b c : ByteArray} (h : kl b a = false) (k : kl b c = true) : kl a c = true := by
  cases h1 : kl a b with
  | true => exact kl_trans h1 k
  | false => rw [kl_tri h1 h]; exact k
theorem kl_lt_le {a b c : ByteArray} (h : kl a b = true) (k : kl c b = false) : kl a c = true := by
  cases h1 : kl b c with
  | true => exact kl_trans h h1
  | false => rw [← kl_tri h1 k]; exact h

/-- May a cell be? -/
def mayB (leaf : Bool) (c : Cl) : Bool :=
  decide (c.k.size ≤ 128) && (if leaf = true ∧ c.p = 0 then decide (c.v.size ≤ 200 ∧ c.s = (c.v.size : Int)) else
    decide (1 ≤ c.p ∧ c.p ≤ 2147483647 ∧ c.v.size = 0) && (if leaf = true then decide (0 ≤ c.s ∧ c.s ≤ 60000) else decide (c.s = 0)))
/-- Keys rise. -/
def Rises (L : List Cl) : Prop := L.Pairwise fun a b => kl a.k b.k = true
/-- A node that may be. -/
def OkL (leaf : Bool) (L : List Cl) : Prop := (∀ c ∈ L, mayB leaf c = true) ∧ Rises L
open Classical in
noncomputable def chkE (leaf : Bool) (L : List Cl) : Int := if OkL leaf L then 0 else 1
def sizeC (leaf : Bool) (c : Cl) : Nat := 1 + c.k.size + (if leaf = true then (if c.p = 0 then 2 + c.v.size else 9) else 4)
def sizeL (leaf : Bool) (L : List Cl) : Nat := 2 + (L.map (sizeC leaf)).sum
theorem sizeL_app (leaf : Bool) (L K : List Cl) : sizeL leaf (L ++ K) = sizeL leaf L + (K.map (sizeC leaf)).sum := by
  unfold sizeL; rw [List.map_append, List.sum_append]; omega
theorem sizeL_take {leaf : Bool} {L : List Cl} {i : Nat} {c : Cl} (h : L[i]? = some c) : sizeL leaf (L.take (i + 1)) = sizeL leaf (L.take i) + sizeC leaf c := by
  rw [List.take_add_one, h, sizeL_app]; simp
theorem sizeL_drop (leaf : Bool) (L : List Cl) (i : Nat) : sizeL leaf (L.take i) + sizeL leaf (L.drop i) = sizeL leaf L + 2 := by
  have h : sizeL leaf L = sizeL leaf (L.take i ++ L.drop i) := by rw [List.take_append_drop]
  rw [h, sizeL_app]
  show _ + (2 + _) = _
  omega
theorem sizeL_le (leaf : Bool) (L : List Cl) (i : Nat) : sizeL leaf (L.take i) ≤ sizeL leaf L := by
  have := sizeL_drop leaf L i
  have : 2 ≤ sizeL leaf (L.drop i) := by unfold sizeL; omega
  omega
theorem OkL.take {leaf : Bool} {L : List Cl} (h : OkL leaf L) (i : Nat) : OkL leaf (L.take i) := ⟨fun c hc => h.1 c (List.mem_of_mem_take hc), h.2.sublist (List.take_sublist _ _)⟩
theorem OkL.drop {leaf : Bool} {L : List Cl} (h : OkL leaf L) (i : Nat) : OkL leaf (L.drop i) := ⟨fun c hc => h.1 c (List.mem_of_mem_drop hc), h.2.sublist (List.drop_sublist _ _)⟩
theorem OkL.nil (leaf : Bool) : OkL leaf [] := ⟨fun c hc => by simp at hc, List.Pairwise.nil⟩
theorem Rises.lt {L : List Cl} (h : Rises L) {i j : Nat} {a b : Cl} (hij : i < j) (ha : L[i]? = some a) (hb : L[j]? = some b) : kl a.k b.k = true := by
  obtain ⟨h1, e1⟩ := List.getElem?_eq_some_iff.1 ha
  obtain ⟨h2, e2⟩ := List.getElem?_eq_some_iff.1 hb
  have := List.pairwise_iff_getElem.1 h i j h1 h2 hij
  rw [e1, e2] at this
  exact this
/-- One more, behind the last one. -/
theorem rises_snoc {L : List Cl} {c : Cl} (h : Rises L) (hc : ∀ a, L.getLast? = some a → kl a.k c.k = true) : Rises (L ++ [c]) := by
  unfold Rises at *
  rw [List.pairwise_append]
  refine ⟨h, List.pairwise_singleton _ _, fun a ha b hb => ?_⟩
  rw [List.mem_singleton.1 hb]
  rcases List.eq_nil_or_concat L with rfl | ⟨L', y, rfl⟩
  · simp at ha
  · have hy := hc y (by simp)
    rw [List.concat_eq_append] at ha h
    rcases List.mem_append.1 ha with h1 | h1
    · exact kl_trans ((List.pairwise_append.1 h).2.2 a h1 y (by simp)) hy
    · rw [List.mem_singleton.1 h1]; exact hy
theorem ok_step {leaf : Bool} {L : List Cl} {i : Nat} {c : Cl} (hc : L[i]? = some c) (h : OkL leaf (L.take i)) (hm : mayB leaf c = true) (hr : ∀ a, 0 < i → L[i - 1]? = some a → kl a.k c.k = true) : OkL leaf (L.take (i + 1)) := by
  rw [List.take_add_one, hc]
  refine ⟨fun x hx => ?_, rises_snoc h.2 fun a ha => ?_⟩
  · rcases List.mem_append.1 hx with h1 | h1
    · exact h.1 x h1
    · rw [List.mem_singleton.1 h1]; exact hm
  · have hi := (List.getElem?_eq_some_iff.1 hc).1
    rw [List.getLast?_eq_getElem?, List.length_take, Nat.min_eq_left (by omega)] at ha
    have h0 : 0 < i := by
      rcases Nat.eq_zero_or_pos i with h0 | h0
      · subst h0; simp at ha
      · exact h0
    rw [List.getElem?_take, if_pos (by omega)] at ha
    exact hr a h0 ha
theorem ok_not_may {leaf : Bool} {L : List Cl} {i : Nat} {c : Cl} (hc : L[i]? = some c) (hm : mayB leaf c = false) : ¬ OkL leaf L := fun h => by
  rw [h.1 c (List.mem_of_getElem? hc)] at hm; cases hm
theorem ok_not_rise {leaf : Bool} {L : List Cl} {i : Nat} {a c : Cl} (h0 : 0 < i) (ha : L[i - 1]? = some a) (hc : L[i]? = some c) (hn : kl a.k c.k = false) : ¬ OkL leaf L := fun h => by
  rw [h.2.lt (by omega) ha hc] at hn; cases hn
theorem chkE_ok {leaf : Bool} {L : List Cl} (h : OkL leaf L) : chkE leaf L = 0 := if_pos h
theorem chkE_no {leaf : Bool} {L : List Cl} (h : ¬ OkL leaf L) : chkE leaf L = 1 := if_neg h
/-- The place of the first that is not below a key. -/
def fndN (L : List Cl) (key : ByteArray) : Nat := (L.takeWhile fun c => kl c.k key).length
def isAt (L : List Cl) (key : ByteArray) : Bool := match L[fndN L key]? with
  | some c => decide (c.k = key)
  | none => false
/-- How many are not above a key. -/
def upN (L : List Cl) (key : ByteArray) : Nat := (L.takeWhile fun c => !kl key c.k).length
theorem tw_of {α : Type} {p : α → Bool} : ∀ {L : List α} {n : Nat}, n ≤ L.length → (∀ i x, i < n → L[i]? = some x → p x = true) → (∀ x, L[n]? = some x → p x = false) → (L.takeWhile p).length = n
  | [], n, hn, _, _ => by simp at hn; simp [hn]
  | a :: l, 0, _, _, h2 => by rw [List.takeWhile_cons, h2 a rfl]; rfl
  | a :: l, n + 1, hn, h1, h2 => by
    rw [List.takeWhile_cons, h1 0 a (by omega) rfl]
    simp only [if_true, List.length_cons]
    rw [tw_of (by simp at hn; omega) (fun i x hi hx => h1 (i + 1) x (by omega) (by simpa using hx)) (fun x hx => h2 x (by simpa using hx))]
theorem tw_le {α : Type} (p : α → Bool) : ∀ L : List α, (L.takeWhile p).length ≤ L.length
  | [] => Nat.le_refl _
  | a :: l => by
    rw [List.takeWhile_cons]
    have := tw_le p l
    split <;> simp <;> omega
theorem tw_lt {α : Type} {p : α → Bool} : ∀ {L : List α} {i : Nat} {x : α}, i < (L.takeWhile p).length → L[i]? = some x → p x = true
  | [], i, x, h, _ => by simp at h
  | a :: l, i, x, h, hx => by
    rw [List.takeWhile_cons] at h
    by_cases ha : p a = true
    · rw [if_pos ha] at h
      cases i with
      | zero => simp at hx; rw [← hx]; exact ha
      | succ i => exact tw_lt (L := l) (by simp at h; omega) (by simpa using hx)
    · rw [if_neg ha] at h; simp at h
theorem tw_end {α : Type} {p : α → Bool} : ∀ {L : List α} {x : α}, L[(L.takeWhile p).length]? = some x → p x = false
  | [], x, h => by simp at h
  | a :: l, x, h => by
    rw [List.takeWhile_cons] at h
    by_cases ha : p a = true
    · rw [if_pos ha] at h
      exact tw_end (L := l) (by simpa using h)
    · rw [if_neg ha] at h
      simp at h
      rw [← h]
      simpa using ha
theorem fndN_le (L : List Cl) (key : ByteArray) : fndN L key ≤ L.length := tw_le _ _
theorem upN_le (L : List Cl) (key : ByteArray) : upN L key ≤ L.length := tw_le _ _
/-- In a row that rises: below the place all are below, from it on none is. -/
theorem fndN_ge {L : List Cl} (hr : Rises L) {key : ByteArray} {i : Nat} {x : Cl} (hi : fndN L key ≤ i) (hx : L[i]? = some x) : kl x.k key = false := by
  have hl := (List.getElem?_eq_some_iff.1 hx).1
  obtain ⟨y, hy⟩ : ∃ y, L[fndN L key]? = some y := ⟨_, List.getElem?_eq_getElem (by omega)⟩
  have h1 : kl y.k key = false := tw_end (p := fun c : Cl => kl c.k key) hy
  by_cases e : fndN L key = i
  · rw [e, hx] at hy; injection hy with hy; rw [hy]; exact h1
  · have h2 := hr.lt (by omega) hy hx
    cases h3 : kl x.k key with
    | false => rfl
    | true => rw [kl_trans h2 h3] at h1; cases h1
theorem upN_ge {L : List Cl} (hr : Rises L) {key : ByteArray} {i : Nat} {x : Cl} (hi : upN L key ≤ i) (hx : L[i]? = some x) : kl key x.k = true := by
  have hl := (List.getElem?_eq_some_iff.1 hx).1
  obtain ⟨y, hy⟩ : ∃ y, L[upN L key]? = some y := ⟨_, List.getElem?_eq_getElem (by omega)⟩
  have h1 : kl key y.k = true := by simpa using tw_end hy
  by_cases e : upN L key = i
  · rw [e, hx] at hy; injection hy with hy; rw [hy]; exact h1
  · exact kl_trans h1 (hr.lt (by omega) hy hx)
theorem fndN_lt {L : List Cl} {key : ByteArray} {i : Nat} {x : Cl} (hi : i < fndN L key) (hx : L[i]? = some x) : kl x.k key = true := tw_lt (p := fun c : Cl => kl c.k key) hi hx
theorem upN_lt {L : List Cl} {key : ByteArray} {i : Nat} {x : Cl} (hi : i < upN L key) (hx : L[i]? = some x) : kl key x.k = false := by simpa using tw_lt hi hx
theorem isAt_some {L : List Cl} {key : ByteArray} {x : Cl} (hx : L[fndN L key]? = some x) : isAt L key = decide (x.k = key) := by unfold isAt; rw [hx]
theorem isAt_none {L : List Cl} {key : ByteArray} (hx : L[fndN L key]? = none) : isAt L key = false := by unfold isAt; rw [hx]
/-- Put, dropped. -/
def putL (L : List Cl) (c : Cl) : List Cl := L.take (fndN L c.k) ++ ([c] ++ L.drop (fndN L c.k + (if isAt L c.k = true then 1 else 0)))
def dropL (L : List Cl) (i : Int) : List Cl := if 0 ≤ i ∧ i < (L.length : Int) then L.take i.toNat ++ L.drop (i.toNat + 1) else L
theorem putL_len (L : List Cl) (c : Cl) : (putL L c).length ≤ L.length + 1 := by
  have := fndN_le L c.k
  unfold putL
  simp only [List.length_append, List.length_take, List.length_drop, List.length_singleton]
  omega
theorem rises_append {A B : List Cl} (ha : Rises A) (hb : Rises B) (h : ∀ a ∈ A, ∀ b ∈ B, kl a.k b.k = true) : Rises (A ++ B) := List.pairwise_append.2 ⟨ha, hb, h⟩
theorem mem_take_lt {L : List Cl} {n : Nat} {x : Cl} (h : x ∈ L.take n) : ∃ i, i < n ∧ L[i]? = some x := by
  obtain ⟨i, hi, e⟩ := List.mem_iff_getElem.1 h
  rw [List.length_take] at hi
  refine ⟨i, by omega, ?_⟩
  rw [List.getElem_take] at e
  rw [List.getElem?_eq_getElem (by omega), e]
theorem mem_drop_ge {L : List Cl} {n : Nat} {x : Cl} (h : x ∈ L.drop n) : ∃ i, n ≤ i ∧ L[i]? = some x := by
  obtain ⟨i, hi, e⟩ := List.mem_iff_getElem.1 h
  rw [List.length_drop] at hi
  refine ⟨n + i, by omega, ?_⟩
  rw [List.getElem_drop] at e
  rw [List.getElem?_eq_getElem (by omega), e]
/-- Behind the place where a key is, or would be, all are above it. -/
theorem behind_put {L : List Cl} (hr : Rises L) {key : ByteArray} {i : Nat} {x : Cl} (hi : fndN L key + (if isAt L key = true then 1 else 0) ≤ i) (hx : L[i]? = some x) : kl key x.k = true := by
  have hl := (List.getElem?_eq_some_iff.1 hx).1
  by_cases hat : isAt L key = true
  · rw [if_pos hat] at hi
    obtain ⟨y, hy⟩ : ∃ y, L[fndN L key]? = some y := ⟨_, List.getElem?_eq_getElem (by omega)⟩
    have e : y.k = key := by rw [isAt_some hy] at hat; exact of_decide_eq_true hat
    rw [← e]
    exact hr.lt (by omega) hy hx
  · rw [if_neg hat] at hi
    have h1 := fndN_ge hr (by omega) hx
    cases h2 : kl key x.k with
    | true => rfl
    | false =>
      exfalso
      have e := kl_tri h1 h2
      by_cases e2 : fndN L key = i
      · rw [← e2] at hx
        rw [isAt_some hx] at hat
        exact hat (decide_eq_true e)
      · obtain ⟨y, hy⟩ : ∃ y, L[fndN L key]? = some y := ⟨_, List.getElem?_eq_getElem (by omega)⟩
        have h3 := hr.lt (show fndN L key < i by omega) hy hx
        have h4 : kl y.k key = false := tw_end (p := fun c : Cl => kl c.k key) hy
        rw [← e, h3] at h4
        cases h4
theorem putL_ok {leaf : Bool} {L : List Cl} {c : Cl} (h : OkL leaf L) (hc : mayB leaf c = true) : OkL leaf (putL L c) := by
  refine ⟨fun x hx => ?_, ?_⟩
  · unfold putL at hx
    rcases List.mem_append.1 hx with h1 | h1
    · exact h.1 x (List.mem_of_mem_take h1)
    · rcases List.mem_append.1 h1 with h2 | h2
      · rw [List.mem_singleton.1 h2]; exact hc
      · exact h.1 x (List.mem_of_mem_drop h2)
  · refine rises_append (h.take _).2 (rises_append (List.pairwise_singleton _ _) (h.drop _).2 fun a ha b hb => ?_) fun a ha b hb => ?_
    · rw [List.mem_singleton.1 ha]
      obtain ⟨i, hi, hx⟩ := mem_drop_ge hb
      exact behind_put h.2 hi hx
    · obtain ⟨i, hi, hx⟩ := mem_take_lt ha
      have h1 : kl a.k c.k = true := fndN_lt hi hx
      rcases List.mem_append.1 hb with h2 | h2
      · rw [List.mem_singleton.1 h2]; exact h1
      · obtain ⟨j, hj, hy⟩ := mem_drop_ge h2
        exact kl_trans h1 (behind_put h.2 hj hy)
/-- What was put is found at its place. -/
theorem fndN_of {L : List Cl} (hr : Rises L) {i : Nat} {x : Cl} (hx : L[i]? = some x) : fndN L x.k = i ∧ isAt L x.k = true := by
  have hl := (List.getElem?_eq_some_iff.1 hx).1
  have e : fndN L x.k = i := tw_of (by omega) (fun j y hj hy => hr.lt hj hy hx) (fun y hy => by rw [hx] at hy; injection hy with hy; rw [← hy]; exact kl_irrefl _)
  refine ⟨e, ?_⟩
  rw [isAt_some (by rw [e]; exact hx)]
  exact decide_eq_true rfl
theorem upN_of {L : List Cl} (hr : Rises L) {i : Nat} {x : Cl} (hx : L[i]? = some x) : upN L x.k = i + 1 := by
  have hl := (List.getElem?_eq_some_iff.1 hx).1
  refine tw_of (by omega) (fun j y hj hy => ?_) (fun y hy => ?_)
  · by_cases e : j = i
    · subst e; rw [hx] at hy; injection hy with hy; rw [← hy, kl_irrefl]; rfl
    · rw [kl_asymm (hr.lt (by omega) hy hx)]; rfl
  · rw [hr.lt (by omega) hx hy]; rfl
theorem putL_at (L : List Cl) (c : Cl) : (putL L c)[fndN L c.k]? = some c := by
  have := fndN_le L c.k
  unfold putL
  rw [List.getElem?_append_right (by rw [List.length_take]; omega), List.length_take, Nat.min_eq_left this, Nat.sub_self]
  rfl
end Go.Proofs.Ytdgfjaidnedaiaa
