/-
  awake: the chapter's examples.
-/
import Derived.Test.YtiokbhbggpibpaaBAwakeP
import Derived.Test.YtiokbhbggpibpaaBReadBad
namespace Go.Proofs.Ytiokbhbggpibpaa
open Go Go.RowKit Go.Maps

theorem read1 (w : World) : Calls Try.prog 28 #[.string ⟨#[0, 0, 0, 0]⟩] w fun e w' => e = .returned (.tuple #[.pointer none, .int .i64 10]) ∧ Below w.heap.size w w' := by
  refine read_bad _ (fun h => absurd h (by decide)) w (by decide) (by decide) fun u p r h => ?_
  have := h.size
  revert this
  decide
theorem read2 (w : World) : Calls Try.prog 28 #[.string ⟨#[0, 0, 0, 1, 5, 5]⟩] w fun e w' => e = .returned (.tuple #[.pointer none, .int .i64 10]) ∧ Below w.heap.size w w' := by
  refine read_bad _ (fun h => absurd h (by decide)) w (by decide) (by decide) fun u p r h => ?_
  have := (h.list (by decide)).1
  revert this
  unfold Rises
  decide

theorem OwnInts.two {w : World} {base : Nat} {v : Value} {a b : Nat} (h : OwnInts w base v [a, b]) : ∃ g cap, v = .slice (some ⟨g, 0, none⟩) 2 cap ∧ w.cell? ⟨g, 1, none⟩ = some (.int .i64 (b : Nat)) ∧ ∃ cs, w.heap[g]? = some (.cells cs 3 (0, 0)) := by
  have hc := h
  rcases h.2 with ⟨_, h0⟩ | ⟨g, cap, cur, hv, _, hb, _⟩
  · cases h0
  · subst hv
    refine ⟨g, cap, rfl, ?_, cur, hb⟩
    exact hc.cells (g := g) rfl 1 (.int .i64 (b : Nat)) rfl

theorem ints0 (w : World) : IntsAt (w.alloc (.cells #[.int .i64 5, .int .i64 300, .int .i64 5, .int .i64 (-1)] 3)) (.slice (some ⟨w.heap.size, 0, none⟩) 4 4) [5, 300, 5, -1] := by
  refine .inr ⟨w.heap.size, 0, 4, rfl, fun i hi => ?_⟩
  have hh := Holds.new w 3 #[.int .i64 5, .int .i64 300, .int .i64 5, .int .i64 (-1)]
  rw [Nat.zero_add, hh.cell i]
  match i, hi with
  | 0, _ => rfl
  | 1, _ => rfl
  | 2, _ => rfl
  | 3, _ => rfl
end Go.Proofs.Ytiokbhbggpibpaa
