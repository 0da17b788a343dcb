/-
  What the document reads is what is read.
-/
import Derived.Test.YtamijfdhaahalaaDoorSLeavesPure
namespace Go.Proofs.YtamijfdhaahalaaDoor
open Go Go.RowKit

/-- The texts of a row of four things. -/
def rowT : Row → Option (List UInt8 × List UInt8 × List UInt8 × List UInt8)
  | .item _ a _ (.item _ b _ (.item _ c _ (.item _ d _ .nil))) => some (a, b, c, d)
  | _ => none
/-- What the document makes of four texts. -/
def docA (s a b c d : List UInt8) : Option (Nat × ByteArray × ByteArray × Nat) :=
  if uintV d ≤ 2147483647 ∧ okA b c (uintV d : Nat) = true ∧ recL (uintV a) (bytesOf b) (bytesOf c) (uintV d) = s then some (uintV a, bytesOf b, bytesOf c, uintV d) else none
def docRead (s : List UInt8) : Option (Nat × ByteArray × ByteArray × Nat) := match decode s with
  | some (.item true _ r .nil) => (match rowT r with
    | some (a, b, c, d) => docA s a b c d
    | none => none)
  | _ => none
theorem texts_back : ∀ (k : Nat) (r : List UInt8) (q : List (List UInt8) × List UInt8), texts k r = some q → r = rowS (q.1.map bytesOf) ++ q.2
  | 0, r, q, h => by
    obtain rfl := Option.some.inj h
    rfl
  | k + 1, r, q, h => by
    rw [texts] at h
    split at h
    · next p t hs =>
      obtain ⟨q2, h2, rfl⟩ := Option.map_eq_some_iff.1 h
      have ih := texts_back k t q2 h2
      have hb := split_back hs
      rw [hb, ih]
      show bytesL p ++ _ = rowS ((p :: q2.1).map bytesOf) ++ q2.2
      rw [List.map_cons, rowS_cons, List.append_assoc]
      rfl
    · cases h
theorem texts_length : ∀ (k : Nat) (r : List UInt8) (q : List (List UInt8) × List UInt8), texts k r = some q → q.1.length = k
  | 0, r, q, h => by obtain rfl := Option.some.inj h; rfl
  | k + 1, r, q, h => by
    rw [texts] at h
    split at h
    · obtain ⟨q2, h2, rfl⟩ := Option.map_eq_some_iff.1 h
      show q2.1.length + 1 = k + 1
      rw [texts_length k _ q2 h2]
    · cases h
theorem quad_back {s : List UInt8} {ps : List (List UInt8)} (h : quad s = some ps) : s = listL (rowS (ps.map bytesOf)) ∧ ps.length = 4 := by
  unfold quad at h
  split at h
  · next row hs =>
    split at h
    · next ps2 ht =>
      obtain rfl := Option.some.inj h
      have h1 := texts_back 4 row _ ht
      have h2 := split_back hs
      have h3 := texts_length 4 row _ ht
      simp only [List.append_nil] at h1 h2
      exact ⟨by rw [h2, h1]; rfl, h3⟩
    · cases h
  · cases h
theorem uintV_lt64 (l : List UInt8) : uintV l < 18446744073709551616 := uintV_lt l
theorem bytesOf_data (l : List UInt8) : (bytesOf l).data.toList = l := rfl
theorem docA_some {s a b c d : List UInt8} {x : Nat × ByteArray × ByteArray × Nat} (h : docA s a b c d = some x) : readA s = some x := by
  unfold docA at h
  split at h
  · next hc =>
    obtain ⟨h1, h2, h3⟩ := hc
    have := read_back (n := uintV a) (k := uintV d) (b := bytesOf b) (c := bytesOf c) (uintV_lt a) h2
    rw [h3] at this
    rw [this]
    exact h
  · cases h
theorem docRead_some {s : List UInt8} {x : Nat × ByteArray × ByteArray × Nat} (h : docRead s = some x) : readA s = some x := by
  unfold docRead at h
  split at h
  · split at h
    · exact docA_some h
    · cases h
  · cases h
/-- The row of four texts that a list is. -/
theorem decode_four {xs : List ByteArray} {x y u v : ByteArray} (he : xs = [x, y, u, v]) (hx : ∀ q ∈ xs, q.size < 10000) : decode (listL (rowS xs)) = some (.item true [] (row4 x.data.toList y.data.toList u.data.toList v.data.toList) .nil) := by
  subst he
  have hl := rowS_len 10000 _ (fun q hq => Nat.le_of_lt (hx q hq))
  simp only [List.length_cons, List.length_nil] at hl
  have hs := split_list (rowS [x, y, u, v]) [] (by omega)
  rw [List.append_nil] at hs
  have hne : listL (rowS [x, y, u, v]) ≠ [] := by
    intro e
    rw [e] at hs
    cases hs
  have ht : things 15 (rowS [x, y, u, v]) = some (row4 x.data.toList y.data.toList u.data.toList v.data.toList) := by
    rw [things_row 14 _ _ (hx x (by simp)), things_row 14 _ _ (hx y (by simp)), things_row 14 _ _ (hx u (by simp)), things_row 14 _ _ (hx v (by simp)), rowS_nil, things_nil]
    rfl
  unfold decode
  rw [hs]
  show things (15 + 1) _ = _
  rw [things_list hne hs, ht]
  show (things 16 []).map _ = _
  rw [things_nil]
  rfl
theorem read_rec {s : List UInt8} {n k : Nat} {b c : ByteArray} (h : readA s = some (n, b, c, k)) : n < 18446744073709551616 ∧ okA b.data.toList c.data.toList k = true ∧ s = recL n b c k := by
  unfold readA at h
  split at h
  · next ps hq =>
    obtain ⟨h1, h4⟩ := quad_back hq
    match ps, h4 with
    | [p0, p1, p2, p3], _ =>
      unfold acctOf at h
      split at h
      · next n' k' e0 e3 =>
        simp only at e0 e3 h
        split at h
        · next hok =>
          simp only [Option.some.injEq, Prod.mk.injEq] at h
          obtain ⟨rfl, rfl, rfl, rfl⟩ := h
          have e0' : uint p0 = some n' := e0
          have e3' : uint p3 = some k' := e3
          refine ⟨?_, hok, ?_⟩
          · have := uintV_lt p0
            rwa [(uintV_eq e0').1] at this
          · rw [h1]
            unfold recL
            rw [num_uint e0', num_uint e3']
            rfl
        · cases h
      · cases h
  · cases h
theorem docRead_eq (s : List UInt8) : docRead s = readA s := by
  cases hr : readA s with
  | none =>
    cases hd : docRead s with
    | none => rfl
    | some x => rw [docRead_some hd] at hr; cases hr
  | some x =>
    obtain ⟨n, b, c, k⟩ := x
    obtain ⟨hn, hok, hs⟩ := read_rec hr
    obtain ⟨o1, o2, o3, o4⟩ := (okA_iff b c k).1 hok
    have hbs := right_size o1
    have h1 := num_size n
    have h2 := num_size k
    have hdec : decode s = some (.item true [] (row4 (num n) b.data.toList c.data.toList (num k)) .nil) := by
      rw [hs]
      unfold recL
      exact decode_four rfl (by
        intro q hq
        simp only [List.mem_cons, List.mem_nil_iff, or_false] at hq
        rcases hq with rfl | rfl | rfl | rfl <;> omega)
    unfold docRead
    rw [hdec]
    show docA s (num n) b.data.toList c.data.toList (num k) = _
    have e0 := (uintV_eq (uint_num n hn)).1
    have e3 := (uintV_eq (uint_num k (by omega))).1
    unfold docA
    rw [e0, e3, bytesOf_list, bytesOf_list, if_pos ⟨by omega, hok, hs.symm⟩]
end Go.Proofs.YtamijfdhaahalaaDoor
