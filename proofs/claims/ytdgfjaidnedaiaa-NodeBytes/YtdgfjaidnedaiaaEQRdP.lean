/-
  Bytes read as a node by the document's own reader (what is short leaves the rest as it is): pure.
-/
import Derived.Test.YtdgfjaidnedaiaaEReadW
namespace Go.Proofs.Ytdgfjaidnedaiaa
open Go Go.RowKit Go.Lib

def takeQ (n : Nat) (s : PS) : List UInt8 × PS := if n ≤ s.1.length then (s.1.take n, (s.1.drop n, s.2)) else ([], (s.1, false))
def numQ (n : Nat) (s : PS) : Nat × PS := (beVal (takeQ n s).1, (takeQ n s).2)
def cellQ (leaf : Bool) (s : PS) : Cl × PS :=
  let a := numQ 1 s
  let b := takeQ a.1 a.2
  if leaf = true then
    let c := numQ 1 b.2
    if c.1 ≠ 1 then
      let d := numQ 1 c.2
      let e := takeQ d.1 d.2
      (⟨txt b.1, txt e.1, 0, (e.1.length : Nat)⟩, e.2)
    else
      let d := numQ 4 c.2
      let e := numQ 4 d.2
      (⟨txt b.1, ⟨#[]⟩, (d.1 : Nat), (e.1 : Nat)⟩, e.2)
  else
    let c := numQ 4 b.2
    (⟨txt b.1, ⟨#[]⟩, (c.1 : Nat), 0⟩, c.2)
def parseQ (leaf : Bool) : Nat → PS → List Cl → List Cl × PS
  | 0, s, acc => (acc, s)
  | k + 1, s, acc => if s.2 = true then parseQ leaf k (cellQ leaf s).2 (acc ++ [(cellQ leaf s).1]) else (acc, s)
def readQ (leaf : Bool) (s : List UInt8) : List Cl × Bool := let a := numQ 2 (s, true); ((parseQ leaf a.1 a.2 []).1, (parseQ leaf a.1 a.2 []).2.2)
theorem takeQ_app (l r : List UInt8) (ok : Bool) : takeQ l.length (l ++ r, ok) = (l, (r, ok)) := by
  unfold takeQ
  rw [if_pos (by simp)]
  simp
theorem numQ_app (z x : Nat) (r : List UInt8) (ok : Bool) (h : beVal (beB z x) = x) : numQ z (beB z x ++ r, ok) = (x, (r, ok)) := by
  have := takeQ_app (beB z x) r ok
  rw [beB_len] at this
  unfold numQ
  rw [this, h]
theorem cellQ_app {leaf : Bool} {c : Cl} (hm : mayB leaf c = true) (r : List UInt8) (ok : Bool) : cellQ leaf (bytesC leaf c ++ r, ok) = (c, (r, ok)) := by
  obtain ⟨hks, hvs⟩ := mayB_short hm
  obtain ⟨ck, cv, cp, cs⟩ := c
  unfold mayB at hm
  rw [Bool.and_eq_true] at hm
  have h2 := hm.2
  dsimp only at h2 hks hvs
  have h1 : ∀ t, numQ 1 (beB 1 ck.size ++ t, ok) = (ck.size, (t, ok)) := fun t => numQ_app 1 _ t ok (beVal_one _ (by omega))
  have h3 : ∀ t, takeQ ck.size (ck.data.toList ++ t, ok) = (ck.data.toList, (t, ok)) := fun t => by
    have := takeQ_app ck.data.toList t ok
    have e : ck.data.toList.length = ck.size := by simp
    rw [e] at this
    exact this
  unfold bytesC cellQ
  dsimp only
  rw [List.append_assoc, List.append_assoc, h1, h3]
  dsimp only
  rw [txt_toList]
  cases leaf with
  | true =>
    simp only [if_true, true_and] at h2 ⊢
    by_cases hp : cp = 0
    · rw [if_pos hp] at h2 ⊢
      have h4 := of_decide_eq_true h2
      rw [List.append_assoc, List.append_assoc]
      rw [numQ_app 1 0 _ ok (beVal_one _ (by omega))]
      dsimp only
      rw [if_pos (by omega), numQ_app 1 cv.size _ ok (beVal_one _ (by omega))]
      dsimp only
      have h5 := takeQ_app cv.data.toList r ok
      have e : cv.data.toList.length = cv.size := by simp
      rw [e] at h5
      rw [h5]
      dsimp only
      rw [txt_toList, e, hp, h4.2]
    · rw [if_neg hp, Bool.and_eq_true] at h2
      rw [if_neg hp]
      have h4 := of_decide_eq_true h2.1
      have h5 := of_decide_eq_true h2.2
      rw [List.append_assoc, numQ_app 1 1 _ ok (beVal_one _ (by omega))]
      dsimp only
      rw [if_neg (by simp), List.append_assoc, numQ_app 4 _ _ ok (beVal_four _ (by omega))]
      dsimp only
      rw [numQ_app 4 _ _ ok (beVal_four _ (by omega))]
      dsimp only
      rw [Int.toNat_of_nonneg (by omega), Int.toNat_of_nonneg (by omega), empty_eq h4.2.2]
  | false =>
    simp only [Bool.false_eq_true, if_false, false_and] at h2 ⊢
    rw [Bool.and_eq_true] at h2
    have h4 := of_decide_eq_true h2.1
    have h5 := of_decide_eq_true h2.2
    rw [numQ_app 4 _ _ ok (beVal_four _ (by omega))]
    dsimp only
    rw [Int.toNat_of_nonneg (by omega), empty_eq h4.2.2, h5]
theorem parseQ_app {leaf : Bool} : ∀ (L : List Cl) (r : List UInt8) (acc : List Cl), (∀ c ∈ L, mayB leaf c = true) → parseQ leaf L.length (L.flatMap (bytesC leaf) ++ r, true) acc = (acc ++ L, (r, true))
  | [], r, acc, _ => by simp [parseQ]
  | c :: l, r, acc, h => by
    rw [List.length_cons, parseQ, if_pos rfl, List.flatMap_cons, List.append_assoc, cellQ_app (h c (List.mem_cons_self ..))]
    dsimp only
    rw [parseQ_app l r _ (fun x hx => h x (List.mem_cons_of_mem _ hx))]
    simp
theorem readQ_bytes {leaf : Bool} {L : List Cl} (h : OkL leaf L) (hl : L.length < 65536) : readQ leaf (bytesL leaf L) = (L, true) := by
  unfold readQ bytesL
  rw [numQ_app 2 _ _ true (beVal_two _ hl)]
  dsimp only
  have := parseQ_app L [] [] h.1
  rw [List.append_nil] at this
  rw [this]
  simp
theorem takeQ_len (n : Nat) (s : PS) : (takeQ n s).2.1.length ≤ s.1.length ∧ ((takeQ n s).2.2 = true → s.2 = true ∧ (takeQ n s).2.1.length + n = s.1.length) ∧ (takeQ n s).1.length ≤ n := by
  unfold takeQ
  by_cases h : n ≤ s.1.length
  · rw [if_pos h]
    refine ⟨by simp, fun h2 => ⟨h2, ?_⟩, by simp; omega⟩
    rw [List.length_drop]
    omega
  · rw [if_neg h]
    exact ⟨Nat.le_refl _, (fun h2 => by cases h2), Nat.zero_le _⟩
theorem parseQ_step {leaf : Bool} {k : Nat} {st : PS} {acc : List Cl} (h : st.2 = true) : parseQ leaf (k + 1) st acc = parseQ leaf k (cellQ leaf st).2 (acc ++ [(cellQ leaf st).1]) := by rw [parseQ, if_pos h]
theorem parseQ_stop {leaf : Bool} {k : Nat} {st : PS} {acc : List Cl} (h : ¬ (0 < k ∧ st.2 = true)) : parseQ leaf k st acc = (acc, st) := by
  cases k with
  | zero => rfl
  | succ k => rw [parseQ, if_neg fun q => h ⟨by omega, q⟩]
theorem numQ1_lt (s : PS) : (numQ 1 s).1 < 256 := by
  have h1 := beVal_lt (takeQ 1 s).1
  have h2 := (takeQ_len 1 s).2.2
  have h3 : 256 ^ (takeQ 1 s).1.length ≤ 256 ^ 1 := Nat.pow_le_pow_right (by omega) h2
  exact Nat.lt_of_lt_of_le h1 h3
theorem numQ_lt (n : Nat) (s : PS) : (numQ n s).1 < 256 ^ n := by
  have h1 := beVal_lt (takeQ n s).1
  have h2 := (takeQ_len n s).2.2
  have h3 : 256 ^ (takeQ n s).1.length ≤ 256 ^ n := Nat.pow_le_pow_right (by omega) h2
  exact Nat.lt_of_lt_of_le h1 h3
theorem cellQ_bound (leaf : Bool) (st : PS) : ((cellQ leaf st).1.k.size ≤ 255 ∧ (cellQ leaf st).1.v.size ≤ 255) ∧ ((cellQ leaf st).2.2 = true → (cellQ leaf st).2.1.length + 1 ≤ st.1.length) ∧ (cellQ leaf st).2.1.length ≤ st.1.length := by
  have a1 := numQ1_lt st
  have a2 := takeQ_len 1 st
  have b1 := takeQ_len (numQ 1 st).1 (numQ 1 st).2
  have hz : (⟨#[]⟩ : ByteArray).size = 0 := rfl
  have ha : (numQ 1 st).2 = (takeQ 1 st).2 := rfl
  rw [← ha] at a2
  unfold cellQ
  dsimp only
  generalize (numQ 1 st).2 = s1 at a2 b1
  generalize (numQ 1 st).1 = n1 at a1 b1
  generalize takeQ n1 s1 = T1 at b1
  obtain ⟨t1, s2⟩ := T1
  dsimp only at b1
  cases leaf with
  | true =>
    simp only [if_true]
    have c2 := takeQ_len 1 s2
    have hc : (numQ 1 s2).2 = (takeQ 1 s2).2 := rfl
    rw [← hc] at c2
    by_cases hc0 : (numQ 1 s2).1 ≠ 1
    · rw [if_pos hc0]
      dsimp only
      generalize (numQ 1 s2).2 = s3 at c2
      have d1 := numQ1_lt s3
      have d2 := takeQ_len 1 s3
      have hd : (numQ 1 s3).2 = (takeQ 1 s3).2 := rfl
      rw [← hd] at d2
      generalize (numQ 1 s3).2 = s4 at d2
      generalize (numQ 1 s3).1 = n4 at d1
      have e1 := takeQ_len n4 s4
      rw [txt_size, txt_size]
      refine ⟨⟨by omega, by omega⟩, fun h => ?_, by omega⟩
      have h4 := e1.2.1 h
      have h3 := d2.2.1 h4.1
      have h2 := c2.2.1 h3.1
      have h1 := b1.2.1 h2.1
      have h0 := a2.2.1 h1.1
      omega
    · rw [if_neg hc0]
      dsimp only
      generalize (numQ 1 s2).2 = s3 at c2
      have d2 := takeQ_len 4 s3
      have hd : (numQ 4 s3).2 = (takeQ 4 s3).2 := rfl
      rw [← hd] at d2
      generalize (numQ 4 s3).2 = s4 at d2
      have e2 := takeQ_len 4 s4
      have he : (numQ 4 s4).2 = (takeQ 4 s4).2 := rfl
      rw [← he] at e2
      rw [txt_size]
      refine ⟨⟨by omega, by rw [hz]; omega⟩, fun h => ?_, by omega⟩
      have h4 := e2.2.1 h
      have h3 := d2.2.1 h4.1
      have h2 := c2.2.1 h3.1
      have h1 := b1.2.1 h2.1
      have h0 := a2.2.1 h1.1
      omega
  | false =>
    simp only [Bool.false_eq_true, if_false]
    have c2 := takeQ_len 4 s2
    have hc : (numQ 4 s2).2 = (takeQ 4 s2).2 := rfl
    rw [← hc] at c2
    rw [txt_size]
    refine ⟨⟨by omega, by rw [hz]; omega⟩, fun h => ?_, by omega⟩
    have h2 := c2.2.1 h
    have h1 := b1.2.1 h2.1
    have h0 := a2.2.1 h1.1
    omega
theorem parseQ_bound (leaf : Bool) : ∀ (k : Nat) (st : PS) (acc : List Cl), Short 255 acc → (parseQ leaf k st acc).1.length ≤ acc.length + st.1.length + 1 ∧ Short 255 (parseQ leaf k st acc).1
  | 0, st, acc, h => ⟨by rw [parseQ]; dsimp only; omega, by rw [parseQ]; exact h⟩
  | k + 1, st, acc, h => by
    by_cases ho : st.2 = true
    · rw [parseQ_step ho]
      obtain ⟨h1, h2, h3⟩ := cellQ_bound leaf st
      have hs : Short 255 (acc ++ [(cellQ leaf st).1]) := fun c hc => by
        rcases List.mem_append.1 hc with q | q
        · exact h c q
        · rw [List.mem_singleton.1 q]; exact h1
      generalize (cellQ leaf st).1 = c at hs
      generalize (cellQ leaf st).2 = st2 at h2 h3
      cases ho2 : st2.2 with
      | true =>
        obtain ⟨i1, i2⟩ := parseQ_bound leaf k st2 (acc ++ [c]) hs
        have := h2 ho2
        refine ⟨?_, i2⟩
        rw [List.length_append, List.length_singleton] at i1
        omega
      | false =>
        rw [parseQ_stop (fun q => by rw [ho2] at q; exact absurd q.2 (by decide))]
        refine ⟨?_, hs⟩
        rw [List.length_append, List.length_singleton]
        omega
    · rw [parseQ_stop (fun q => ho q.2)]
      exact ⟨by dsimp only; omega, h⟩
theorem readQ_bound (leaf : Bool) (s : List UInt8) : (readQ leaf s).1.length ≤ s.length + 1 ∧ Short 255 (readQ leaf s).1 := by
  unfold readQ
  dsimp only
  obtain ⟨h1, h2⟩ := parseQ_bound leaf (numQ 2 (s, true)).1 (numQ 2 (s, true)).2 [] (fun c hc => by simp at hc)
  refine ⟨?_, h2⟩
  have : (numQ 2 (s, true)).2.1.length ≤ s.length := (takeQ_len 2 (s, true)).1
  rw [List.length_nil] at h1
  omega
/-- The node whose bytes a text is. -/
theorem IsOf.readQ {leaf : Bool} {s : List UInt8} {L : List Cl} (h : IsOf leaf s L) : readQ leaf s = (L, true) := by
  rw [← h.2.2]
  exact readQ_bytes h.1 (by have := ok_small h.2.1; omega)
end Go.Proofs.Ytdgfjaidnedaiaa
