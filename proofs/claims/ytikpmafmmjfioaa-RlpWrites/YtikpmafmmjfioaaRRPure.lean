/-
  RlpRows: things written one behind the other, by lists; rows of texts that a walk owns.
-/
import Derived.Test.YtikpmafmmjfioaaRBack
import Derived.Test.YtikpmafmmjfioaaAwake2
import Derived.Test.YtikpmafmmjfioaaSameW
import Derived.Laws.AppendOwn
import Derived.Laws.OwnMore
import Derived.Lib.SmallJoins
namespace Go.Proofs.Ytikpmafmmjfioaa
open Go Go.RowKit

/-- One text, written as bytes or as a list of itself. -/
def enc1 (q : ByteArray × Bool) : List UInt8 := if q.2 then listL (bytesL q.1.data.toList) else bytesL q.1.data.toList
def encS (q : ByteArray × Bool) : ByteArray := ⟨(enc1 q).toArray⟩
def encs (qs : List (ByteArray × Bool)) : List UInt8 := (qs.map enc1).flatten
def rowOf : List (ByteArray × Bool) → Row
  | [] => .nil
  | (t, false) :: qs => .item false t.data.toList .nil (rowOf qs)
  | (t, true) :: qs => .item true [] (.item false t.data.toList .nil .nil) (rowOf qs)
theorem rowOf_len : ∀ qs, (rowOf qs).len = qs.length
  | [] => rfl
  | (t, false) :: qs => by rw [rowOf, Row.len, rowOf_len qs]; rfl
  | (t, true) :: qs => by rw [rowOf, Row.len, rowOf_len qs]; rfl
theorem bytesL_len (l : List UInt8) : (bytesL l).length ≤ l.length + 9 := by
  unfold bytesL
  split
  · omega
  · rw [List.length_append]; have := hd_len 128 l.length; omega
theorem listL_len (l : List UInt8) : (listL l).length ≤ l.length + 9 := by
  unfold listL; rw [List.length_append]; have := hd_len 192 l.length; omega
theorem enc1_len (q : ByteArray × Bool) (h : q.1.size ≤ 300) : (enc1 q).length ≤ 318 := by
  have h1 := bytesL_len q.1.data.toList
  have h2 := listL_len (bytesL q.1.data.toList)
  rw [sizeB] at h1
  unfold enc1
  split <;> omega
theorem encs_len : ∀ qs : List (ByteArray × Bool), (∀ q ∈ qs, q.1.size ≤ 300) → (encs qs).length ≤ 318 * qs.length
  | [], _ => by simp [encs]
  | q :: qs, h => by
    have h1 := encs_len qs fun r hr => h r (by simp [hr])
    have h2 := enc1_len q (h q (by simp))
    have e : encs (q :: qs) = enc1 q ++ encs qs := by simp [encs]
    rw [e, List.length_append, List.length_cons]; omega
theorem encs_cons (q : ByteArray × Bool) (qs : List (ByteArray × Bool)) : encs (q :: qs) = enc1 q ++ encs qs := by simp [encs]
theorem encs_snoc (q : ByteArray × Bool) (qs : List (ByteArray × Bool)) : encs (qs ++ [q]) = encs qs ++ enc1 q := by simp [encs]
theorem cat_encS : ∀ qs : List (ByteArray × Bool), cat (qs.map encS) = encs qs
  | [] => rfl
  | q :: qs => by
    have := cat_encS qs
    unfold cat at this ⊢
    rw [encs_cons, List.map_cons, List.map_cons, List.flatten_cons, this]
    rfl
/-- The payload of a thing. -/
def payl (q : ByteArray × Bool) : List UInt8 := if q.2 then bytesL q.1.data.toList else q.1.data.toList
theorem split_enc (q : ByteArray × Bool) (r : List UInt8) (h : q.1.size ≤ 300) : split (enc1 q ++ r) = some (payl q, q.2, r) := by
  obtain ⟨t, b⟩ := q
  have h1 := bytesL_len t.data.toList
  rw [sizeB] at h1
  have h : t.size ≤ 300 := h
  cases b with
  | false => show split (bytesL t.data.toList ++ r) = some (t.data.toList, false, r); exact split_bytes _ _ (by rw [sizeB]; omega)
  | true => show split (listL (bytesL t.data.toList) ++ r) = some (bytesL t.data.toList, true, r); exact split_list _ _ (by omega)
theorem enc1_ne (q : ByteArray × Bool) (r : List UInt8) (h : q.1.size ≤ 300) : enc1 q ++ r ≠ [] := fun e => by
  have := split_enc q r h
  rw [e] at this
  cases this
theorem bytesL_ne (t : List UInt8) (h : t.length ≤ 300) : bytesL t ≠ [] := fun e => by
  have := split_bytes t [] (by omega)
  rw [List.append_nil, e] at this
  cases this
theorem things_encs (m : Nat) : ∀ qs : List (ByteArray × Bool), (∀ q ∈ qs, q.1.size ≤ 300) → things (m + 2) (encs qs) = some (rowOf qs)
  | [], _ => rfl
  | (t, false) :: qs, h => by
    have ih := things_encs m qs fun r hr => h r (by simp [hr])
    have ht : t.size ≤ 300 := h (t, false) (by simp)
    have hs := split_enc (t, false) (encs qs) ht
    rw [encs_cons, things_text (enc1_ne _ _ ht) hs, ih]
    rfl
  | (t, true) :: qs, h => by
    have ih := things_encs m qs fun r hr => h r (by simp [hr])
    have ht : t.size ≤ 300 := h (t, true) (by simp)
    have hs := split_enc (t, true) (encs qs) ht
    have hb : things (m + 1) (bytesL t.data.toList) = some (.item false t.data.toList .nil .nil) := by
      have h1 := split_bytes t.data.toList [] (by rw [sizeB]; omega)
      rw [List.append_nil] at h1
      rw [things_text (bytesL_ne _ (by rw [sizeB]; omega)) h1, things_nil]; rfl
    rw [encs_cons, things_list (enc1_ne _ _ ht) hs, show payl (t, true) = bytesL t.data.toList from rfl, hb, ih]
    rfl
theorem decode_encs (qs : List (ByteArray × Bool)) (h : ∀ q ∈ qs, q.1.size ≤ 300) (hl : qs.length ≤ 40) : decode (listL (encs qs)) = some (.item true [] (rowOf qs) .nil) := by
  have h1 := encs_len qs h
  have hs := split_list (encs qs) [] (by omega)
  rw [List.append_nil] at hs
  have h0 : listL (encs qs) ≠ [] := fun e => by rw [e] at hs; cases hs
  unfold decode
  rw [hs]
  show things 16 _ = _
  rw [things_list h0 hs, things_encs 13 qs h, things_nil]
  rfl
theorem rowOf_at : ∀ (qs : List (ByteArray × Bool)) (k : Nat) (hk : k < qs.length), (rowOf qs).at k = (qs[k].2, if qs[k].2 then [] else qs[k].1.data.toList, if qs[k].2 then .item false qs[k].1.data.toList .nil .nil else .nil)
  | [], k, h => by simp at h
  | (t, false) :: qs, 0, _ => rfl
  | (t, true) :: qs, 0, _ => rfl
  | (t, false) :: qs, k + 1, h => by
    have := rowOf_at qs k (by simpa using h)
    simpa [rowOf, Row.at] using this
  | (t, true) :: qs, k + 1, h => by
    have := rowOf_at qs k (by simpa using h)
    simpa [rowOf, Row.at] using this

def strs (qs : List ByteArray) : List Value := qs.map fun q => .string q
theorem strs_length (qs : List ByteArray) : (strs qs).length = qs.length := by simp [strs]
theorem strs_snoc (qs : List ByteArray) (q : ByteArray) : strs (qs ++ [q]) = strs qs ++ [.string q] := by simp [strs]
theorem underStrings : Try.prog.underlying 25 = some (.slice 9) := by kernel_rfl
theorem infoStr : ∃ i, Try.prog.info? 9 = some i ∧ i.zero = some (.string ⟨#[]⟩) ∧ i.size = 1 ∧ i.bytes = 16 := by
  refine ⟨_, rfl, ?_, ?_, ?_⟩ <;> kernel_rfl
theorem one_str (w : World) (a : Value) (j : Nat) (u : Value) (h : [a][j]? = some u) : (w.alloc (.cells #[a] 9)).cell? ((⟨w.heap.size, 0, none⟩ : Addr).add j) = some u := by
  rw [add_plain, Nat.zero_add]
  match j, h with
  | 0, h => injection h with h; subst h; exact (World.rowIs_alloc w #[a] 9 (fun _ => a) (fun i hi => by
      have : i < 1 := hi
      have : i = 0 := by omega
      subst this; rfl)).cell (i := 0) (by simp)
  | j + 1, h => simp at h
/-- A slice that reads as a list of values, in blocks that are there. -/
def Reads (w : World) (v : Value) (vs : List Value) : Prop := ∃ a c, v = .slice a vs.length c ∧ ∀ i (hi : i < vs.length), ∃ b o, a = some ⟨b, o, none⟩ ∧ b < w.heap.size ∧ w.cell? ⟨b, o + i, none⟩ = some vs[i]
theorem reads_owned {w : World} {base n : Nat} {e : TypeId} {v : Value} {xs : List Value} (h : w.ownsRow base e 1 v n xs) : xs.length = n ∧ ((v = .slice none 0 0 ∧ n = 0) ∨ ∃ g c, v = .slice (some ⟨g, 0, none⟩) n c ∧ base ≤ g ∧ g < w.heap.size ∧ n ≤ c ∧ ∀ i (hi : i < xs.length), w.cell? ⟨g, i, none⟩ = some xs[i]) := by
  have hn : xs.length = n := by have := h.1; omega
  refine ⟨hn, ?_⟩
  rcases h.2 with ⟨rfl, h0⟩ | ⟨g, cap, cur, rfl, hg, hb, hc, _, hs, ht⟩
  · exact .inl ⟨rfl, h0⟩
  · have hlt : g < w.heap.size := by
      rcases Nat.lt_or_ge g w.heap.size with q | q
      · exact q
      · rw [Array.getElem?_eq_none q] at hb; cases hb
    refine .inr ⟨g, cap, rfl, hg, hlt, hc, fun i hi => ?_⟩
    have h1 : (cur.toList.take (n * 1))[i]? = xs[i]? := by rw [ht]
    rw [List.getElem?_take, if_pos (by omega), Array.getElem?_toList, List.getElem?_eq_getElem hi] at h1
    simp [World.cell?, hb, h1]
def Texts (w : World) (v : Value) (ps : List ByteArray) : Prop :=
  ∃ base cap, v = .slice base ps.length cap ∧ ∀ i (hi : i < ps.length), ∃ c o, base = some ⟨c, o, none⟩ ∧ c < w.heap.size ∧ w.cell? ⟨c, o + i, none⟩ = some (.string ps[i])
def Flags (w : World) (v : Value) (bs : List Bool) : Prop :=
  ∃ base cap, v = .slice base bs.length cap ∧ ∀ i (hi : i < bs.length), ∃ c o, base = some ⟨c, o, none⟩ ∧ c < w.heap.size ∧ w.cell? ⟨c, o + i, none⟩ = some (.bool bs[i])
theorem list_owned {w : World} {base n : Nat} {v : Value} {xs : List ByteArray} (h : w.ownsRow base 9 1 v n (strs xs)) (hn : n ≤ 100000) (hl : (cat xs).length ≤ 100000000) :
    Calls Try.prog 15 #[v] w fun e w' => e = .returned (.string ⟨(listL (cat xs)).toArray⟩) ∧ Below w.heap.size w w' := by
  obtain ⟨h1, h2⟩ := reads_owned h
  rw [strs_length] at h1
  rcases h2 with ⟨rfl, h0⟩ | ⟨g, c, rfl, _, hg, hc, hcell⟩
  · have : xs = [] := List.eq_nil_of_length_eq_zero (by omega)
    subst this
    exact list_none none 0 w
  · subst h1
    refine list_any g 0 c xs w (fun j x hj => ?_) hg hn hc hl
    obtain ⟨hlt, rfl⟩ := List.getElem?_eq_some_iff.1 hj
    have := hcell j (by rw [strs_length]; exact hlt)
    rw [Nat.zero_add, this]
    simp [strs]
end Go.Proofs.Ytikpmafmmjfioaa
