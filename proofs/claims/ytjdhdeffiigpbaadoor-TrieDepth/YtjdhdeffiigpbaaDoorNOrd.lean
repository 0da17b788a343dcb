/-
  Rows, their order and their packed form: what follows, by lists.
-/
import Derived.Test.YtjdhdeffiigpbaaDoorNextW
namespace Go.Proofs.YtjdhdeffiigpbaaDoor.Nb
open Go Go.RowKit

abbrev less := Op.bytesLess
theorem less_nil (x : List UInt8) : less x [] = false := by cases x <;> rfl
theorem less_cons (a b : UInt8) (x y : List UInt8) : less (a :: x) (b :: y) = (decide (a.toNat < b.toNat) || (decide (a.toNat = b.toNat) && less x y)) := by
  show (decide (a < b) || (a == b && less x y)) = _
  rw [show decide (a < b) = decide (a.toNat < b.toNat) from by simp [UInt8.lt_iff_toNat_lt]]
  rw [show (a == b) = decide (a.toNat = b.toNat) from by
    by_cases h : a = b
    · subst h; simp
    · have : ¬ a.toNat = b.toNat := fun e => h (UInt8.toNat_inj.1 e)
      simp [h, this]]
theorem less_hal : ∀ s t : List UInt8, less (hal s) (hal t) = less s t
  | [], [] => rfl
  | [], _ :: _ => rfl
  | _ :: _, [] => by rw [less_nil]; rfl
  | c :: s, d :: t => by
    have ih := less_hal s t
    have hc := c.toNat_lt
    have hd := d.toNat_lt
    rw [hal, hal, less_cons, less_cons, less_cons, ih, div16, div16, mod16, mod16]
    generalize less s t = r
    rw [Bool.eq_iff_iff]
    simp only [Bool.or_eq_true, Bool.and_eq_true, decide_eq_true_eq]
    cases r <;> simp <;> omega
theorem less_asymm : ∀ x y : List UInt8, less x y = true → less y x = false
  | x, [], h => by rw [less_nil] at h; cases h
  | [], _ :: _, _ => by rw [less_nil]
  | a :: x, b :: y, h => by
    rw [less_cons] at h ⊢
    have ih := less_asymm x y
    simp only [Bool.or_eq_true, Bool.and_eq_true, decide_eq_true_eq] at h
    rw [Bool.or_eq_false_iff, Bool.and_eq_false_iff]
    rcases h with h | ⟨h1, h2⟩
    · exact ⟨by simp; omega, .inl (by simp; omega)⟩
    · exact ⟨by simp; omega, .inr (ih h2)⟩
theorem less_append : ∀ a x : List UInt8, less (a ++ x) a = false
  | [], x => less_nil _
  | c :: a, x => by rw [List.cons_append, less_cons, less_append a x]; simp
theorem pre_append : ∀ a x : List UInt8, pre a (a ++ x) = a.length
  | [], _ => by simp [pre]
  | c :: a, x => by rw [List.cons_append]; unfold pre; rw [if_pos rfl, pre_append a x]; rfl

/-- The next row, from the front. -/
def nx : List UInt8 → Option (List UInt8)
  | [] => none
  | c :: l => match nx l with
    | some r => some (c :: r)
    | none => if c.toNat = 15 then none else some [UInt8.ofNat (c.toNat + 1)]
theorem cutK_cons (c : UInt8) (l : List UInt8) : cutK (c :: l) = if cutK l = 0 then (if c.toNat = 15 then 0 else 1) else cutK l + 1 := by
  obtain ⟨h1, h2, h3⟩ := cutK_spec l
  by_cases h0 : cutK l = 0
  · rw [if_pos h0]
    rw [h0] at h2
    by_cases hc : c.toNat = 15
    · rw [if_pos hc]
      refine cutK_eq _ 0 (by omega) (fun j hj _ => ?_) (fun _ h => by omega)
      cases j with
      | zero => exact hc
      | succ j => exact h2 j (by simpa using hj) (by omega)
    · rw [if_neg hc]
      refine cutK_eq _ 1 (by simp) (fun j hj hk => ?_) (fun _ _ => hc)
      cases j with
      | zero => omega
      | succ j => exact h2 j (by simpa using hj) (by omega)
  · rw [if_neg h0]
    refine cutK_eq _ _ (by simpa using h1) (fun j hj hk => ?_) (fun hj _ => ?_)
    · cases j with
      | zero => omega
      | succ j => exact h2 j (by simpa using hj) (by omega)
    · obtain ⟨k, hk⟩ : ∃ k, cutK l = k + 1 := ⟨cutK l - 1, by omega⟩
      have h4 := h3 (by omega) (by omega)
      simp only [hk, Nat.add_sub_cancel, List.getElem_cons_succ] at h4 ⊢
      exact h4
theorem nxt_nx : ∀ l : List UInt8, rightL l = true → nxt l = nx l
  | [], _ => rfl
  | c :: l, h => by
    obtain ⟨hc, hr⟩ := right_tail c l h
    have ih := nxt_nx l hr
    unfold nxt at ih ⊢
    rw [cutK_cons, h]
    rw [hr] at ih
    unfold nx
    rw [← ih]
    by_cases h0 : cutK l = 0
    · simp only [h0, if_true]
      by_cases h15 : c.toNat = 15
      · simp [h15]
      · simp [h15]
    · obtain ⟨k, hk⟩ : ∃ k, cutK l = k + 1 := ⟨cutK l - 1, by omega⟩
      simp [hk]
theorem nx_none : ∀ (a b : List UInt8), nx a = none → rightL a = true → rightL b = true → decide (pre a b = a.length) = !less b a
  | [], b, _, _, _ => by rw [less_nil]; simp [pre]
  | c :: l, [], _, _, _ => by simp [pre, less, Op.bytesLess]
  | c :: l, d :: m, hn, ha, hb => by
    obtain ⟨hc, ha⟩ := right_tail c l ha
    obtain ⟨hd, hb⟩ := right_tail d m hb
    have ih := nx_none l m
    unfold nx at hn
    cases hl : nx l with
    | some r => rw [hl] at hn; cases hn
    | none =>
      rw [hl] at hn
      have h15 : c.toNat = 15 := by
        by_cases q : c.toNat = 15
        · exact q
        · simp [q] at hn
      have ih := ih hl ha hb
      rw [less_cons]
      unfold pre
      by_cases e : c = d
      · subst e
        rw [if_pos rfl]
        simp only [Nat.lt_irrefl, decide_false, decide_true, Bool.true_and, Bool.false_or, List.length_cons, Nat.add_right_cancel_iff]
        exact ih
      · have hne : ¬ c.toNat = d.toNat := fun q => e (UInt8.toNat_inj.1 q)
        rw [if_neg e]
        have h1 : decide (d.toNat < c.toNat) = true := by simp; omega
        rw [h1]
        simp
theorem nx_some : ∀ (a b n : List UInt8), nx a = some n → rightL a = true → rightL b = true → decide (pre a b = a.length) = (!less b a && less b n)
  | [], _, _, hn, _, _ => by cases hn
  | c :: l, [], n, _, _, _ => by simp [pre, less, Op.bytesLess]
  | c :: l, d :: m, n, hn, ha, hb => by
    obtain ⟨hc, ha⟩ := right_tail c l ha
    obtain ⟨hd, hb⟩ := right_tail d m hb
    have ih := nx_some l m
    have ih0 := nx_none l m
    unfold nx at hn
    cases hl : nx l with
    | some r =>
      rw [hl] at hn
      injection hn with hn
      subst hn
      have ih := ih r hl ha hb
      rw [less_cons, less_cons]
      unfold pre
      by_cases e : c = d
      · subst e
        rw [if_pos rfl]
        simp only [Nat.lt_irrefl, decide_false, decide_true, Bool.true_and, Bool.false_or, List.length_cons, Nat.add_right_cancel_iff]
        exact ih
      · have hne : ¬ d.toNat = c.toNat := fun q => e (UInt8.toNat_inj.1 q.symm)
        rw [if_neg e]
        simp only [hne, decide_false, Bool.false_and, Bool.or_false]
        by_cases q : d.toNat < c.toNat <;> simp [q]
    | none =>
      rw [hl] at hn
      have ih := ih0 hl ha hb
      by_cases h15 : c.toNat = 15
      · simp [h15] at hn
      · simp only [h15, if_false] at hn
        injection hn with hn
        subst hn
        rw [less_cons, less_cons, less_nil, ofNat_toNat _ (by omega)]
        unfold pre
        by_cases e : c = d
        · subst e
          rw [if_pos rfl]
          simp only [Nat.lt_irrefl, decide_false, decide_true, Bool.true_and, Bool.false_or, List.length_cons, Nat.add_right_cancel_iff, Bool.and_false, Bool.or_false, Nat.lt_succ_self, Bool.and_true]
          exact ih
        · have hne : ¬ d.toNat = c.toNat := fun q => e (UInt8.toNat_inj.1 q.symm)
          rw [if_neg e]
          simp only [hne, decide_false, Bool.false_and, Bool.or_false, Bool.and_false]
          by_cases q : d.toNat < c.toNat
          · simp [q]
          · have : ¬ d.toNat < c.toNat + 1 := by omega
            simp [this]
theorem nx_less (a n : List UInt8) (h : nx a = some n) (ha : rightL a = true) : less a n = true := by
  have := nx_some a a n h ha ha
  rw [pre_self] at this
  simp only [decide_true] at this
  have := this.symm
  rw [Bool.and_eq_true] at this
  exact this.2
theorem nx_behind (a x n : List UInt8) (h : nx a = some n) (ha : rightL a = true) (hx : rightL x = true) : less (a ++ x) n = true := by
  have := nx_some a (a ++ x) n h ha (by unfold rightL at *; rw [List.all_append, ha, hx]; rfl)
  rw [pre_append] at this
  simp only [decide_true] at this
  have := this.symm
  rw [Bool.and_eq_true] at this
  exact this.2

theorem unp_cons (c : UInt8) (l : List UInt8) : unp (c :: l) = if 3 < c.toNat / 16 then none
    else if c.toNat / 16 % 2 = 1 then some ((c % 16) :: hal l, decide (2 ≤ c.toNat / 16))
    else if c.toNat % 16 = 0 then some (hal l, decide (2 ≤ c.toNat / 16)) else none := rfl
/-- What was packed is read again. -/
theorem unp_pck (l : List UInt8) (leaf : Bool) (hr : rightL l = true) : unp (pck l leaf) = some (l, leaf) := by
  by_cases h : l.length % 2 = 1
  · rw [pck_odd l leaf h]
    cases l with
    | nil => simp at h
    | cons c t =>
      obtain ⟨hc, hr⟩ := right_tail c t hr
      have hw : hal (whL t) = t := hal_whL t hr (by simp at h; omega)
      simp only [List.drop_succ_cons, List.drop_zero, List.getD_cons_zero]
      rw [unp_cons]
      have hf : flagN leaf = 0 ∨ flagN leaf = 2 := by unfold flagN; cases leaf <;> simp
      have hn : (UInt8.ofNat ((flagN leaf + 1) * 16 + c.toNat)).toNat = (flagN leaf + 1) * 16 + c.toNat := ofNat_toNat _ (by omega)
      rw [if_neg (by rw [hn]; omega), if_pos (by rw [hn]; omega), hw]
      have h1 : UInt8.ofNat ((flagN leaf + 1) * 16 + c.toNat) % 16 = c := UInt8.toNat_inj.1 (by rw [mod16, hn]; omega)
      rw [h1, hn]
      congr 2
      cases leaf <;> simp [flagN] <;> omega
  · rw [pck_even l leaf (by omega)]
    have hw : hal (whL l) = l := hal_whL l hr (by omega)
    rw [unp_cons]
    have hf : flagN leaf = 0 ∨ flagN leaf = 2 := by unfold flagN; cases leaf <;> simp
    have hn : (UInt8.ofNat (flagN leaf * 16)).toNat = flagN leaf * 16 := ofNat_toNat _ (by omega)
    rw [if_neg (by rw [hn]; omega), if_neg (by rw [hn]; omega), if_pos (by rw [hn]; omega), hw, hn]
    congr 2
    cases leaf <;> simp [flagN]
/-- What is read is packed as just these bytes. -/
theorem pck_unp (s n : List UInt8) (leaf : Bool) (h : unp s = some (n, leaf)) : rightL n = true ∧ pck n leaf = s := by
  cases s with
  | nil => cases h
  | cons c l =>
    have hc := c.toNat_lt
    rw [unp_cons] at h
    split at h
    · cases h
    · rename_i h3
      split at h
      · rename_i ho
        injection h with h
        injection h with h1 h2
        subst h1
        have hr : rightL (c % 16 :: hal l) = true := by
          have := right_hal l
          unfold rightL at *
          simp only [List.all_cons, this, Bool.and_true, mod16, decide_eq_true_eq]
          omega
        refine ⟨hr, ?_⟩
        rw [pck_odd _ _ (by rw [List.length_cons, hal_len]; omega)]
        simp only [List.drop_succ_cons, List.drop_zero, List.getD_cons_zero, whL_hal]
        congr 1
        refine UInt8.toNat_inj.1 ?_
        have hf : flagN leaf = c.toNat / 16 - 1 := by
          rw [← h2]; unfold flagN
          by_cases q : 2 ≤ c.toNat / 16
          · simp [q]; omega
          · simp [q]; omega
        rw [ofNat_toNat _ (by rw [mod16]; omega), mod16, hf]; omega
      · rename_i ho
        split at h
        · rename_i hz
          injection h with h
          injection h with h1 h2
          subst h1
          refine ⟨right_hal l, ?_⟩
          rw [pck_even _ _ (by rw [hal_len]; omega), whL_hal]
          congr 1
          refine UInt8.toNat_inj.1 ?_
          have hf : flagN leaf = c.toNat / 16 := by
            rw [← h2]; unfold flagN
            by_cases q : 2 ≤ c.toNat / 16
            · simp [q]; omega
            · simp [q]; omega
          rw [ofNat_toNat _ (by omega), hf]; omega
        · cases h
end Go.Proofs.YtjdhdeffiigpbaaDoor.Nb
