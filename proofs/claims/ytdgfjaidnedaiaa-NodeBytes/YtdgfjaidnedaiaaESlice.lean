/-
  Parts of rows of cells.
-/
import Derived.Test.YtdgfjaidnedaiaaEConcat
import Derived.Test.YtdgfjaidnedaiaaETree
import Derived.Test.YtdgfjaidnedaiaaEFindW
namespace Go.Proofs.Ytdgfjaidnedaiaa
open Go Go.RowKit

theorem elemCells : Try.prog.elem 22 = 27 := by kernel_rfl
theorem htCells : Try.prog.underlying 22 = some (.slice (Try.prog.elem 22)) := by rw [elemCells]; exact underCells
theorem sizeCellW (w : World) : (Go.sizeOf 27).run Try.prog w = .ok 4 w := by
  obtain ⟨i, h1, _, h3, _⟩ := infoCell
  simp [Go.sizeOf, typeInfo, h1, h3]
theorem CellsAt.cap {w : World} {p : Option Addr} {n c : Nat} {L : List Cl} (h : CellsAt w (.slice p n c) L) : n = L.length ∧ n ≤ c := by
  rcases h with ⟨rfl, q, c', e⟩ | ⟨b, o, c', e, h2, _⟩
  · injection e with _ e2 _
    subst e2
    exact ⟨rfl, Nat.zero_le _⟩
  · injection e with _ e2 e3
    subst e2 e3
    exact ⟨rfl, h2⟩
theorem cells_sliced {W : World} {p : Option Addr} {n c : Nat} {L : List Cl} (h : CellsAt W (.slice p n c) L) {lo hi mx : Nat} (h1 : lo ≤ hi) (h2 : hi ≤ n) (h3 : hi ≤ mx) : CellsAt W (sliced p lo hi mx 4) ((L.drop lo).take (hi - lo)) := by
  obtain ⟨hn, _⟩ := h.cap
  unfold sliced
  have hl : ((L.drop lo).take (hi - lo)).length = hi - lo := by rw [List.length_take, List.length_drop]; omega
  by_cases he : lo = hi
  · refine .inl ⟨List.eq_nil_of_length_eq_zero (by omega), _, _, by rw [show hi - lo = 0 by omega]⟩
  · rcases h with ⟨rfl, q, c', e⟩ | ⟨b, o, c', e, _, h5⟩
    · simp at hn; omega
    · injection e with e1 e2 e3
      subst e1
      rw [if_neg (by omega)]
      refine .inr ⟨b, o + lo * 4, mx - lo, by rw [hl]; simp [Addr.add_mid], by omega, fun i x hx => ?_⟩
      have hil := (List.getElem?_eq_some_iff.1 hx).1
      rw [hl] at hil
      rw [List.getElem?_take, if_pos hil, List.getElem?_drop] at hx
      have := h5 (lo + i) x hx
      rw [show o + lo * 4 + i * 4 = o + (lo + i) * 4 by omega]
      exact this
theorem sl_part (p : Option Addr) {n c : Nat} (lo hi : Nat) (h1 : lo ≤ hi) (h2 : hi ≤ n) (hnc : n ≤ c) :
    ∃ p' c', (∀ w, (Instr.sliceAt 22 (.slice p n c) (some (.int .i64 (lo : Int))) (some (.int .i64 (hi : Int))) (some (.int .i64 (hi : Int)))).run Try.prog w = .ok (.slice p' (hi - lo) c') w) ∧ ∀ W L, CellsAt W (.slice p n c) L → CellsAt W (.slice p' (hi - lo) c') ((L.drop lo).take (hi - lo)) := by
  refine ⟨if hi = lo then p else p.map (·.add (lo * 4)), hi - lo, fun w => ?_, fun W L h => cells_sliced h h1 h2 (Nat.le_refl hi)⟩
  rw [run_sliceAt_slice w _ _ _ _ _ htCells, run_slice_lhm w _ _ _ _ htCells .i64 .i64 .i64 (lo : Int) (hi : Int) (hi : Int) (by omega) (by omega) (by omega) (by omega), elemCells, sizeCellW]
  simp [sliced]
theorem sl_to (p : Option Addr) {n c : Nat} (hi : Nat) (h2 : hi ≤ n) (hnc : n ≤ c) :
    ∃ p' c', (∀ w, (Instr.sliceAt 22 (.slice p n c) none (some (.int .i64 (hi : Int))) none).run Try.prog w = .ok (.slice p' hi c') w) ∧ ∀ W L, CellsAt W (.slice p n c) L → CellsAt W (.slice p' hi c') (L.take hi) := by
  refine ⟨if c = 0 then p else p.map (·.add (0 * 4)), c, fun w => ?_, fun W L h => ?_⟩
  · rw [run_sliceAt_slice w _ _ _ _ _ htCells, run_slice_h w _ _ _ _ htCells .i64 (hi : Int) (by omega) (by omega), elemCells, sizeCellW]
    simp [sliced]
  · have := cells_sliced h (lo := 0) (hi := hi) (mx := c) (Nat.zero_le _) h2 (by omega)
    simpa [sliced] using this
theorem sl_from (p : Option Addr) {n c : Nat} (lo : Nat) (h2 : lo ≤ n) (hnc : n ≤ c) :
    ∃ p' c', (∀ w, (Instr.sliceAt 22 (.slice p n c) (some (.int .i64 (lo : Int))) none none).run Try.prog w = .ok (.slice p' (n - lo) c') w) ∧ ∀ W L, CellsAt W (.slice p n c) L → CellsAt W (.slice p' (n - lo) c') (L.drop lo) := by
  refine ⟨if c = lo then p else p.map (·.add (lo * 4)), c - lo, fun w => ?_, fun W L h => ?_⟩
  · rw [run_sliceAt_slice w _ _ _ _ _ htCells, run_slice_l w _ _ _ _ htCells .i64 (lo : Int) (by omega) (by omega), elemCells, sizeCellW]
    simp [sliced]
  · have := cells_sliced h (lo := lo) (hi := n) (mx := c) h2 (Nat.le_refl _) hnc
    have e : (L.drop lo).take (n - lo) = L.drop lo := List.take_of_length_le (by rw [List.length_drop, h.cap.1]; omega)
    rw [e] at this
    exact this
end Go.Proofs.Ytdgfjaidnedaiaa
