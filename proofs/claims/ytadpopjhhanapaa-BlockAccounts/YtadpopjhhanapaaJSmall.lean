/-
  Rows of things of bounded size; rows of writes of one's own.
-/
import Derived.Test.YtadpopjhhanapaaJWriteR
namespace Go.Proofs.Ytadpopjhhanapaa
open Go Go.RowKit

def Row.small (m : Nat) : Row → Prop
  | .nil => True
  | .item _ s i r => s.length ≤ m ∧ i.len ≤ m ∧ i.small m ∧ r.small m
theorem things_small {N : Nat} : ∀ (n : Nat) (most : Nat) (s : List UInt8), s.length ≤ n → n ≤ N → ∀ r, things most s = some r → r.small N := by
  intro n
  induction n with
  | zero =>
    intro most s h _ r hr
    have : s = [] := List.eq_nil_of_length_eq_zero (by omega)
    subst this
    rw [things_nil] at hr
    cases hr; trivial
  | succ n ih =>
    intro most s h hn r hr
    by_cases h0 : s = []
    · subst h0; rw [things_nil] at hr; cases hr; trivial
    · cases hs : split s with
      | none => rw [things_none h0 hs] at hr; cases hr
      | some q =>
        obtain ⟨p, l, t⟩ := q
        obtain ⟨a1, a2, a3⟩ := split_len hs
        cases most with
        | zero => rw [things_deep h0] at hr; cases hr
        | succ most =>
          cases l with
          | false =>
            rw [things_text h0 hs] at hr
            obtain ⟨q, hq, rfl⟩ := Option.map_eq_some_iff.1 hr
            exact ⟨by omega, Nat.zero_le _, trivial, ih (most + 1) t (by omega) (by omega) q hq⟩
          | true =>
            have a4 := a3 rfl
            rw [things_list h0 hs] at hr
            cases hp : things most p with
            | none => rw [hp] at hr; cases hr
            | some q =>
              rw [hp] at hr
              obtain ⟨q2, hq, rfl⟩ := Option.map_eq_some_iff.1 hr
              have := things_len p.length p (Nat.le_refl _) q hp
              exact ⟨Nat.zero_le _, by omega, ih most p (by omega) (by omega) q hp, ih (most + 1) t (by omega) (by omega) q2 hq⟩
theorem Row.small_nth {m : Nat} : ∀ {r : Row}, r.small m → ∀ k, (txtAt r k).size ≤ m ∧ (rowAt r k).len ≤ m ∧ (rowAt r k).small m
  | .nil, _, k => ⟨by unfold txtAt Row.nth; exact Nat.zero_le _, by unfold rowAt Row.nth; exact Nat.zero_le _, by unfold rowAt Row.nth; trivial⟩
  | .item b s i r, h, 0 => ⟨h.1, h.2.1, h.2.2.1⟩
  | .item b s i r, h, k + 1 => Row.small_nth (r := r) h.2.2.2 k

def wcells (L : List Wr) : List Value := L.flatMap fun x => (wrC x).toList
/-- A row of writes of the call's own; their slots lie in blocks of the call's too. -/
def OwnWr (w : World) (base : Nat) (v : Value) (L : List Wr) : Prop := w.ownsRow base 38 7 v L.length (wcells L) ∧ ∀ x ∈ L, WrOk w x ∧ ∀ b, x.s.ownBlock = some b → base ≤ b ∧ b < w.heap.size ∧ some b ≠ v.ownBlock
theorem wcells_app (L K : List Wr) : wcells (L ++ K) = wcells L ++ wcells K := by unfold wcells; rw [List.flatMap_append]
theorem wcells_get : ∀ (L : List Wr) (i : Nat) (x : Wr), L[i]? = some x → ∀ j, j < 7 → (wcells L)[i * 7 + j]? = (wrC x).toList[j]?
  | a :: l, 0, c, h, j, hj => by
    simp at h
    subst h
    have e : wcells (a :: l) = (wrC a).toList ++ wcells l := rfl
    rw [e, List.getElem?_append_left (by simp [wrC]; omega)]
    simp
  | a :: l, i + 1, c, h, j, hj => by
    have ih := wcells_get l i c (by simpa using h) j hj
    have e : wcells (a :: l) = (wrC a).toList ++ wcells l := rfl
    have e4 : (wrC a).toList.length = 7 := rfl
    rw [e, List.getElem?_append_right (by omega), e4, show (i + 1) * 7 + j - 7 = i * 7 + j by omega]
    exact ih
section
variable {w w' : World} {v : Value} {base : Nat} {L : List Wr}
theorem OwnWr.at (h : OwnWr w base v L) : WritesAt w v L := by
  refine ⟨fun x hx => (h.2 x hx).1, ?_⟩
  rcases h.1.2 with ⟨rfl, h0⟩ | ⟨g, cap, cur, rfl, h1, h2, h3, h4, h5, h6⟩
  · exact .inl ⟨List.eq_nil_of_length_eq_zero h0, none, 0, rfl⟩
  · refine .inr ⟨g, 0, cap, rfl, h3, fun i x hx => ?_⟩
    have hi := (List.getElem?_eq_some_iff.1 hx).1
    have key : ∀ j u, j < 7 → (wrC x).toList[j]? = some u → w.cell? ⟨g, i * 7 + j, none⟩ = some u := fun j u hj hu => by
      have q1 := wcells_get L i x hx j hj
      rw [hu, ← h6] at q1
      rw [List.getElem?_take, if_pos (by omega)] at q1
      exact (cell_of_row w g _ cur _ (0, 0) h2).trans (by simpa using q1)
    rw [Nat.zero_add]
    exact ⟨key 0 _ (by omega) rfl, key 1 _ (by omega) rfl, key 2 _ (by omega) rfl, key 3 _ (by omega) rfl, key 4 _ (by omega) rfl, key 5 _ (by omega) rfl, key 6 _ (by omega) rfl⟩
theorem OwnWr.below0 (h : OwnWr w base v L) (hb : Below w.heap.size w w') : OwnWr w' base v L := by
  refine ⟨?_, fun x hx => ⟨(h.2 x hx).1.below hb, fun b e => ⟨((h.2 x hx).2 b e).1, Nat.lt_of_lt_of_le ((h.2 x hx).2 b e).2.1 hb.size, ((h.2 x hx).2 b e).2.2⟩⟩⟩
  refine ⟨h.1.1, ?_⟩
  rcases h.1.2 with q | ⟨g, cap, cur, rfl, h1, h2, h3⟩
  · exact .inl q
  · exact .inr ⟨g, cap, cur, rfl, h1, (hb.block g (Array.getElem?_eq_some_iff.1 h2).1).trans h2, h3⟩
theorem OwnWr.nil (w : World) (base : Nat) : OwnWr w base (.slice none 0 0) [] := ⟨World.ownsRow_nil _ _ _ _, by simp⟩
theorem OwnWr.lt (h : OwnWr w base v L) : ∀ k, v.ownBlock = some k → base ≤ k ∧ k < w.heap.size := fun k hk => World.ownsRow.lt h.1 k hk
theorem OwnWr.kept0 (h : OwnWr w base v L) (hk : ∀ b, base ≤ b → b < w.heap.size → w'.heap[b]? = w.heap[b]?) (hs : w.heap.size ≤ w'.heap.size) : OwnWr w' base v L := by
  refine ⟨⟨h.1.1, ?_⟩, fun x hx => ⟨⟨(h.2 x hx).1.1.kept fun b hb => hk b ((h.2 x hx).2 b hb).1 ((h.2 x hx).2 b hb).2.1, (h.2 x hx).1.2⟩, fun b e => ⟨((h.2 x hx).2 b e).1, Nat.lt_of_lt_of_le ((h.2 x hx).2 b e).2.1 hs, ((h.2 x hx).2 b e).2.2⟩⟩⟩
  rcases h.1.2 with q | ⟨g, cap, cur, rfl, h1, h2, h3⟩
  · exact .inl q
  · exact .inr ⟨g, cap, cur, rfl, h1, (hk g h1 (Array.getElem?_eq_some_iff.1 h2).1).trans h2, h3⟩
theorem OwnWr.mono {b' : Nat} (h : OwnWr w base v L) (hb : b' ≤ base) : OwnWr w b' v L := by
  refine ⟨⟨h.1.1, ?_⟩, fun x hx => ⟨(h.2 x hx).1, fun b e => ⟨Nat.le_trans hb ((h.2 x hx).2 b e).1, ((h.2 x hx).2 b e).2⟩⟩⟩
  rcases h.1.2 with q | ⟨g, cap, cur, rfl, h1, h2, h3⟩
  · exact .inl q
  · exact .inr ⟨g, cap, cur, rfl, Nat.le_trans hb h1, h2, h3⟩
/-- One more behind it. -/
theorem OwnWr.snoc {v' : Value} {x : Wr} (h : OwnWr w base v L) (hx : WrOk w x ∧ ∀ b, x.s.ownBlock = some b → base ≤ b ∧ b < w.heap.size ∧ some b ≠ v.ownBlock)
    (hv : w'.ownsRow base 38 7 v' (L.length + 1) (wcells L ++ (wrC x).toList)) (hg : w.grownBy w' v.ownBlock) (hw : v'.ownBlock = v.ownBlock ∨ v'.ownBlock = some w.heap.size) : OwnWr w' base v' (L ++ [x]) := by
  refine ⟨by rw [List.length_append, wcells_app]; simpa [wcells] using hv, fun y hy => ?_⟩
  have hy2 : WrOk w y ∧ ∀ b, y.s.ownBlock = some b → base ≤ b ∧ b < w.heap.size ∧ some b ≠ v.ownBlock := by
    rcases List.mem_append.1 hy with hy | hy
    · exact h.2 y hy
    · rw [List.mem_singleton.1 hy]; exact hx
  refine ⟨⟨hy2.1.1.kept fun b hb => hg.block b (hy2.2 b hb).2.1 (hy2.2 b hb).2.2, hy2.1.2⟩, fun b hb => ?_⟩
  have h1 := hy2.2 b hb
  refine ⟨h1.1, Nat.lt_of_lt_of_le h1.2.1 hg.size, ?_⟩
  rcases hw with q | q
  · rw [q]; exact h1.2.2
  · rw [q]; intro e; injection e with e; omega
end
end Go.Proofs.Ytadpopjhhanapaa
