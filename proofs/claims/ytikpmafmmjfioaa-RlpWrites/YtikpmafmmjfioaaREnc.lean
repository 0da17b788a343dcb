/-
  How things are written, by lists; that they are read again, and that what is read is written as it was.
-/
import Derived.Test.YtikpmafmmjfioaaRItem
namespace Go.Proofs.Ytikpmafmmjfioaa
open Go Go.RowKit

/-- A row of things, each written, so deep at most; none, if one may not be. -/
def encL : Row → Nat → Option (List ByteArray)
  | .nil, _ => some []
  | .item b s i r, d =>
    match (match d with
      | 0 => none
      | d + 1 => if b = true then (if s = [] then (encL i d).map (fun xs => listL (cat xs)) else none) else (if i.len = 0 then some (bytesL s) else none) : Option (List UInt8)), encL r d with
    | some x, some ys => some (⟨x.toArray⟩ :: ys)
    | _, _ => none
/-- One thing. -/
def encOne (b : Bool) (s : List UInt8) (i : Row) : Nat → Option (List UInt8)
  | 0 => none
  | d + 1 => if b = true then (if s = [] then (encL i d).map (fun xs => listL (cat xs)) else none) else (if i.len = 0 then some (bytesL s) else none)
theorem encL_cons (b : Bool) (s : List UInt8) (i r : Row) (d : Nat) : encL (.item b s i r) d = match encOne b s i d, encL r d with
    | some x, some ys => some (⟨x.toArray⟩ :: ys)
    | _, _ => none := by
  cases d <;> rfl
theorem encL_none : ∀ (r : Row) (k d : Nat), k < r.len → encOne (r.at k).1 (r.at k).2.1 (r.at k).2.2 d = none → encL r d = none
  | .nil, k, _, h, _ => by simp [Row.len] at h
  | .item b s i r, 0, d, _, h => by
    rw [encL_cons]
    have h : encOne b s i d = none := h
    rw [h]
  | .item b s i r, k + 1, d, hk, h => by
    rw [encL_cons, encL_none r k d (by simpa [Row.len] using hk) h]
    cases encOne b s i d <;> rfl
theorem encL_all : ∀ (r : Row) (d : Nat) (xs : List ByteArray), xs.length = r.len → (∀ k (hk : k < xs.length), encOne (r.at k).1 (r.at k).2.1 (r.at k).2.2 d = some xs[k].data.toList) → encL r d = some xs
  | .nil, d, xs, h, _ => by
    have : xs = [] := List.eq_nil_of_length_eq_zero (by simpa [Row.len] using h)
    subst this; rfl
  | .item b s i r, d, [], h, _ => by simp [Row.len] at h
  | .item b s i r, d, x :: xs, h, hall => by
    have h0 : encOne b s i d = some x.data.toList := hall 0 (by simp)
    have ih := encL_all r d xs (by simpa [Row.len] using h) (fun k hk => hall (k + 1) (by simpa using hk))
    rw [encL_cons, h0, ih] <;> rfl
theorem cat_cons (x : ByteArray) (xs : List ByteArray) : cat (x :: xs) = x.data.toList ++ cat xs := by simp [cat]
theorem encL_len : ∀ (r : Row) (d : Nat) (xs : List ByteArray), encL r d = some xs → xs.length = r.len ∧ (cat xs).length ≤ 100 * r.wt
  | .nil, d, xs, h => by cases h; simp [Row.len, Row.wt, cat]
  | .item b s i r, d, xs, h => by
    rw [encL_cons] at h
    cases h1 : encOne b s i d with
    | none => rw [h1] at h; cases h
    | some x =>
      cases h2 : encL r d with
      | none => rw [h1, h2] at h; cases h
      | some ys =>
        rw [h1, h2] at h
        cases h
        obtain ⟨l1, l2⟩ := encL_len r d ys h2
        have hx : x.length ≤ 100 * (1 + s.length / 64 + i.wt) := by
          cases d with
          | zero => cases h1
          | succ d =>
            unfold encOne at h1
            cases b with
            | true =>
              simp only [if_true] at h1
              split at h1
              · cases h3 : encL i d with
                | none => rw [h3] at h1; cases h1
                | some zs =>
                  rw [h3] at h1
                  cases h1
                  obtain ⟨_, l3⟩ := encL_len i d zs h3
                  have := listL_len (cat zs)
                  show (listL (cat zs)).length ≤ _
                  omega
              · cases h1
            | false =>
              simp only [Bool.false_eq_true, if_false] at h1
              split at h1
              · cases h1
                have := bytesL_len s
                omega
              · cases h1
        rw [cat_cons, List.length_append, List.length_cons, Row.len, Row.wt, l1]
        show _ ∧ x.length + _ ≤ _
        omega
theorem encOne_len {b : Bool} {s : List UInt8} {i : Row} {d : Nat} {x : List UInt8} (h : encOne b s i d = some x) : x.length ≤ 100 * (1 + s.length / 64 + i.wt) := by
  have h2 : encL (.item b s i .nil) d = some [⟨x.toArray⟩] := by rw [encL_cons, h]; rfl
  have := (encL_len _ _ _ h2).2
  rw [cat_cons] at this
  simp [Row.wt, cat] at this
  omega
theorem split_small (p r : List UInt8) (b : Bool) (hp : p.length < 4611686018427387904) : split ((if b = true then listL p else bytesL p) ++ r) = some (p, b, r) := by
  cases b with
  | true => exact split_list p r hp
  | false => exact split_bytes p r hp
/-- What was written is read again. -/
theorem things_enc : ∀ (r : Row) (d : Nat) (xs : List ByteArray), r.wt ≤ 100000 → encL r d = some xs → things d (cat xs) = some r
  | .nil, d, xs, _, h => by cases h; rfl
  | .item b s i r, d, xs, hw, h => by
    rw [Row.wt] at hw
    rw [encL_cons] at h
    cases h1 : encOne b s i d with
    | none => rw [h1] at h; cases h
    | some x =>
      cases h2 : encL r d with
      | none => rw [h1, h2] at h; cases h
      | some ys =>
        rw [h1, h2] at h
        cases h
        have ih := things_enc r d ys (by omega) h2
        rw [cat_cons]
        show things d (x ++ cat ys) = _
        cases d with
        | zero => cases h1
        | succ d =>
          unfold encOne at h1
          cases b with
          | true =>
            simp only [if_true] at h1
            split at h1
            · rename_i hs
              subst hs
              cases h3 : encL i d with
              | none => rw [h3] at h1; cases h1
              | some zs =>
                rw [h3] at h1
                cases h1
                have ih2 := things_enc i d zs (by omega) h3
                have l3 := (encL_len i d zs h3).2
                have hsp := split_list (cat zs) (cat ys) (by omega)
                have h0 : listL (cat zs) ++ cat ys ≠ [] := fun e => by rw [e] at hsp; cases hsp
                rw [things_list h0 hsp, ih2, ih]
                rfl
            · cases h1
          | false =>
            simp only [Bool.false_eq_true, if_false] at h1
            split at h1
            · rename_i hi
              cases h1
              have := Row.len_zero hi
              subst this
              have hsp := split_bytes s (cat ys) (by omega)
              have h0 : bytesL s ++ cat ys ≠ [] := fun e => by rw [e] at hsp; cases hsp
              rw [things_text h0 hsp, ih]
              rfl
            · cases h1
theorem decode_enc {b : Bool} {s : List UInt8} {i : Row} {x : List UInt8} (hw : 1 + s.length / 64 + i.wt ≤ 2000) (h : encOne b s i 16 = some x) : decode x = some (.item b s i .nil) := by
  have h2 : encL (.item b s i .nil) 16 = some [⟨x.toArray⟩] := by rw [encL_cons, h]; rfl
  have ht := things_enc (.item b s i .nil) 16 _ (by rw [Row.wt, Row.wt]; omega) h2
  rw [show cat [(⟨x.toArray⟩ : ByteArray)] = x by simp [cat]] at ht
  have hsp : ∃ p bb, split x = some (p, bb, []) := by
    unfold encOne at h
    cases b with
    | true =>
      simp only [if_true] at h
      split at h
      · cases h3 : encL i 15 with
        | none => rw [h3] at h; cases h
        | some zs =>
          rw [h3] at h
          cases h
          have l3 := (encL_len i 15 zs h3).2
          have := split_list (cat zs) [] (by omega)
          rw [List.append_nil] at this
          exact ⟨_, _, this⟩
      · cases h
    | false =>
      simp only [Bool.false_eq_true, if_false] at h
      split at h
      · cases h
        have := split_bytes s [] (by omega)
        rw [List.append_nil] at this
        exact ⟨_, _, this⟩
      · cases h
  obtain ⟨p, bb, hsp⟩ := hsp
  unfold decode
  rw [hsp]
  exact ht
/-- What is read is written as it was, and weighs no more than its bytes. -/
theorem enc_things : ∀ (n d : Nat) (s : List UInt8) (r : Row), s.length ≤ n → things d s = some r → (∃ xs, encL r d = some xs ∧ cat xs = s) ∧ r.wt ≤ s.length := by
  intro n
  induction n with
  | zero =>
    intro d s r hn h
    have : s = [] := List.eq_nil_of_length_eq_zero (by omega)
    subst this
    rw [things_nil] at h
    cases h
    exact ⟨⟨[], rfl, rfl⟩, by simp [Row.wt]⟩
  | succ n ih =>
    intro d s r hn h
    by_cases h0 : s = []
    · subst h0
      rw [things_nil] at h
      cases h
      exact ⟨⟨[], rfl, rfl⟩, by simp [Row.wt]⟩
    · cases d with
      | zero => rw [things_deep h0] at h; cases h
      | succ d =>
        cases hs : split s with
        | none => rw [things_none h0 hs] at h; cases h
        | some q =>
          obtain ⟨p, b, t⟩ := q
          have hl := split_len hs
          have hbk := split_back hs
          have hlen := congrArg List.length hbk
          rw [List.length_append] at hlen
          cases b with
          | false =>
            rw [things_text h0 hs] at h
            cases ht : things (d + 1) t with
            | none => rw [ht] at h; cases h
            | some r2 =>
              rw [ht] at h
              cases h
              obtain ⟨⟨xs, e1, e2⟩, e3⟩ := ih (d + 1) t r2 (by omega) ht
              refine ⟨⟨⟨(bytesL p).toArray⟩ :: xs, ?_, ?_⟩, ?_⟩
              · rw [encL_cons, e1]; rfl
              · rw [cat_cons, e2]; exact hbk.symm
              · rw [Row.wt, Row.wt]; simp only [Bool.false_eq_true, if_false] at hlen; omega
          | true =>
            rw [things_list h0 hs] at h
            cases hp : things d p with
            | none => rw [hp] at h; cases h
            | some r1 =>
              cases ht : things (d + 1) t with
              | none => rw [hp, ht] at h; cases h
              | some r2 =>
                rw [hp, ht] at h
                cases h
                obtain ⟨⟨xs, e1, e2⟩, e3⟩ := ih (d + 1) t r2 (by omega) ht
                obtain ⟨⟨ys, g1, g2⟩, g3⟩ := ih d p r1 (by have := hl.2.2 rfl; omega) hp
                refine ⟨⟨⟨(listL p).toArray⟩ :: xs, ?_, ?_⟩, ?_⟩
                · rw [encL_cons, e1]
                  unfold encOne
                  simp only [if_true, g1, Option.map_some, g2]
                · rw [cat_cons, e2]; exact hbk.symm
                · rw [Row.wt]; simp only [if_true] at hlen; have h5 := hd_pos 192 p.length; have h6 : (listL p).length = (hd 192 p.length).length + p.length := by unfold listL; rw [List.length_append]
                  simp; omega
theorem enc_decode {l : List UInt8} {b : Bool} {s : List UInt8} {i : Row} (h : decode l = some (.item b s i .nil)) : encOne b s i 16 = some l ∧ 1 + s.length / 64 + i.wt ≤ l.length := by
  have ht : things 16 l = some (.item b s i .nil) := by
    unfold decode at h
    split at h
    · exact h
    · cases h
  obtain ⟨⟨xs, e1, e2⟩, e3⟩ := enc_things l.length 16 l _ (Nat.le_refl _) ht
  rw [Row.wt, Row.wt] at e3
  refine ⟨?_, by omega⟩
  rw [encL_cons] at e1
  cases h1 : encOne b s i 16 with
  | none => rw [h1] at e1; cases e1
  | some x =>
    rw [h1] at e1
    cases e1
    rw [← e2]
    simp [cat]
end Go.Proofs.Ytikpmafmmjfioaa
