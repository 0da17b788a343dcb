/-
  KeccakParts: a row of texts that the walk owns, over the worlds of the hashes' calls.
-/
import Derived.Test.YtooednielegmnaaDoorTextsArg
import Derived.Test.YtooednielegmnaaDoorAwake
import Derived.Laws.AppendOwn
import Derived.Laws.OwnMore
import Derived.Lib.SmallJoins
namespace Go.Proofs.YtooednielegmnaaDoor
open Go.RowKit

def strs (qs : List ByteArray) : List Value := qs.map fun q => .string q
theorem strs_length (qs : List ByteArray) : (strs qs).length = qs.length := by simp [strs]
theorem strs_snoc (qs : List ByteArray) (q : ByteArray) : strs (qs ++ [q]) = strs qs ++ [.string q] := by simp [strs]
theorem cat_snoc (qs : List ByteArray) (q : ByteArray) : cat (qs ++ [q]) = cat qs ++ q.data.toList := by simp [cat]
theorem cat_bound : ∀ (qs : List ByteArray), (∀ q ∈ qs, q.size ≤ 600) → (cat qs).length ≤ 600 * qs.length
  | [], _ => by simp [cat]
  | q :: qs, h => by
    have h1 := cat_bound qs fun r hr => h r (by simp [hr])
    have h2 := h q (by simp)
    have h3 : q.data.toList.length = q.size := rfl
    have e : cat (q :: qs) = q.data.toList ++ cat qs := by simp [cat]
    rw [e, List.length_append, List.length_cons]
    omega

/-- A row that is not the block that turned stays. -/
theorem ownsRow_only {w w' : World} {base b size n : Nat} {e : TypeId} {v : Value} {xs : List Value} (h : w.ownsRow base e size v n xs) (k : Only b w w') (hb : b < base) : w'.ownsRow base e size v n xs :=
  h.kept (row := some b) ⟨k.os, k.tape, k.output, k.size, fun i hi hne => k.block i hi fun q => hne (by rw [q])⟩
    (.inr fun q => by have := (h.lt b q).1; omega)
theorem ownsRow_below {w w' : World} {base size n : Nat} {e : TypeId} {v : Value} {xs : List Value} (h : w.ownsRow base e size v n xs) (k : Below w.heap.size w w') : w'.ownsRow base e size v n xs := by
  cases hv : v.ownBlock with
  | none => exact h.kept (row := none) ⟨k.os, k.tape, k.output, k.size, fun i hi _ => k.block i hi⟩ (.inl hv)
  | some g => exact h.kept (row := none) ⟨k.os, k.tape, k.output, k.size, fun i hi _ => k.block i hi⟩ (.inr (by simp [hv]))

/-- An owned row of texts is read as the list that it holds. -/
theorem texts_owned {w : World} {base n : Nat} {v : Value} {qs : List ByteArray} (h : w.ownsRow base 9 1 v n (strs qs)) : Texts w v qs := by
  have hn : qs.length = n := by have := h.1; rw [strs_length] at this; omega
  rcases h.2 with ⟨rfl, h0⟩ | ⟨g, cap, cur, rfl, hg, hb, hc, _, _, ht⟩
  · exact ⟨none, 0, by rw [hn, h0], fun i hi => by omega⟩
  · have hlt : g < w.heap.size := by
      rcases Nat.lt_or_ge g w.heap.size with q | q
      · exact q
      · rw [Array.getElem?_eq_none q] at hb; cases hb
    refine ⟨some ⟨g, 0, none⟩, cap, by rw [hn], fun i hi => ⟨g, 0, rfl, hlt, ?_⟩⟩
    have hc := h.cellAt i (by omega)
    rw [Nat.zero_add, hc]
    simp [strs, List.getElem?_eq_getElem hi]

theorem one_text (w : World) (v : Value) (j : Nat) (u : Value) (h : [v][j]? = some u) : (w.alloc (.cells #[v] 9)).cell? ((⟨w.heap.size, 0, none⟩ : Addr).add j) = some u := by
  rw [Addr.add_mid, Nat.zero_add, (Holds.new w 9 #[v]).cell]
  cases j with
  | zero => simpa using h
  | succ j => simp at h

end Go.Proofs.YtooednielegmnaaDoor
