/-
  KeccakOne walked.
-/
import Derived.Test.YtooednielegmnaaDoorQuiet
import Derived.Test.YtooednielegmnaaDoorInj
namespace Go.Proofs.YtooednielegmnaaDoor
open Go.RowKit

/-- Whether two states are alike, as '==' tells it. -/
def sameB (s r : Nat → BitVec 64) : Bool := (List.range 25).all fun i => lane (s i) == lane (r i)
theorem sameB_iff (s r : Nat → BitVec 64) : sameB s r = true ↔ Same s r := by
  unfold sameB
  rw [List.all_eq_true]
  constructor
  · intro h i hi
    have := h i (by simpa using hi)
    exact lane_inj (by simpa using this)
  · intro h i hi
    rw [h i (by simpa using hi)]; simp
theorem sameB_perm (s r : Nat → BitVec 64) : sameB (perm s) (perm r) = sameB s r := by
  rw [Bool.eq_iff_iff, sameB_iff, sameB_iff]
  exact ⟨perm_inj, Same.onPerm⟩

set_option maxRecDepth 4000 in
set_option maxHeartbeats 1000000 in
theorem one_walk (s r : Nat → BitVec 64) (w : World) (hT : Tabs w) :
    Calls Tryd.prog 6 #[.agg (lanesA s), .agg (lanesA r)] w fun e w' => e = .returned (.bool true) ∧ Below w.heap.size w w' := by
  go_enter Tryd.func6, Tryd.ntmps6
  go_wp2
  obtain ⟨w1, hw1⟩ : ∃ w1, w1 = (w.alloc (.cells (lanesA s) 23)).alloc (.cells (lanesA r) 23) := ⟨_, rfl⟩
  rw [← hw1]
  have hB1 : Below w.heap.size w w1 := by rw [hw1]; exact ((Below.refl _ _).alloc (Nat.le_refl _) _).alloc (by simp) _
  obtain ⟨n, hn⟩ : ∃ n, n = w.heap.size := ⟨_, rfl⟩
  have g1 : Holds w1 n 23 (lanesA s) := by rw [hw1, hn]; exact (Holds.new _ _ _).alloc _
  have g2 : Holds w1 (n + 1) 23 (lanesA r) := by
    have h := Holds.new (w.alloc (.cells (lanesA s) 23)) 23 (lanesA r)
    rw [World.size_alloc, ← hn, ← hw1] at h
    exact h
  have hT1 := hT.below hB1
  rw [← hn]
  clear hw1 hn
  refine wp_region_class (fun w' => Below w1.heap.size w1 w') mixed (by kernel_rfl) (Below.refl _ _).drew ?_
  refine wpQ_call rfl 9 #[] (fun _ => by go_simp) (.bool true) (fun w2 h2 => (awake_any w2 (hT1.below h2)).mono fun e w3 ⟨he, h3⟩ => ⟨he, h2.trans (h3.mono h2.size)⟩) ?_
  refine wpQ_val rfl (.bool true) (fun _ => by go_simp) ?_
  simp only [Act.put, List.setIfInBounds_toArray, List.set_cons_succ, List.set_cons_zero]
  refine wpQ_load rfl 23 _ rfl n rfl 23 (lanesA s) _ (fun w2 h2 => Below.holds h2 g1) Tryd.underlying23 rfl (by rw [lanesA_size]; exact info25) ?_
  refine wpQ_call rfl 10 #[.agg (lanesA s)] (fun _ => by go_simp) (.agg (lanesA (perm s))) (fun w2 h2 => (permute_any s w2 (hT1.below h2)).mono fun e w3 ⟨he, h3⟩ => ⟨he, h2.trans (h3.mono h2.size)⟩) ?_
  simp only [Act.put, List.setIfInBounds_toArray, List.set_cons_succ, List.set_cons_zero]
  refine wpQ_load rfl 23 _ rfl (n + 1) rfl 23 (lanesA r) _ (fun w2 h2 => Below.holds h2 g2) Tryd.underlying23 rfl (by rw [lanesA_size]; exact info25) ?_
  refine wpQ_call rfl 10 #[.agg (lanesA r)] (fun _ => by go_simp) (.agg (lanesA (perm r))) (fun w2 h2 => (permute_any r w2 (hT1.below h2)).mono fun e w3 ⟨he, h3⟩ => ⟨he, h2.trans (h3.mono h2.size)⟩) ?_
  simp only [Act.put, List.setIfInBounds_toArray, List.set_cons_succ, List.set_cons_zero]
  have e1 := fun w2 => eql_states w2 (perm s) (perm r)
  have e2 := fun w2 => eql_states w2 s r
  rw [show ((List.range 25).all fun i => lane (perm s i) == lane (perm r i)) = sameB s r from sameB_perm s r] at e1
  rw [show ((List.range 25).all fun i => lane (s i) == lane (r i)) = sameB s r from rfl] at e2
  generalize sameB s r = q at e1 e2
  generalize lanesA (perm s) = c1 at e1 ⊢
  generalize lanesA (perm r) = c2 at e1 ⊢
  refine wpQ_eql rfl 23 _ _ _ rfl c1 c2 rfl rfl q guardState e1 ?_
  refine wpQ_load rfl 23 _ rfl n rfl 23 (lanesA s) _ (fun w2 h2 => Below.holds h2 g1) Tryd.underlying23 rfl (by rw [lanesA_size]; exact info25) ?_
  refine wpQ_load rfl 23 _ rfl (n + 1) rfl 23 (lanesA r) _ (fun w2 h2 => Below.holds h2 g2) Tryd.underlying23 rfl (by rw [lanesA_size]; exact info25) ?_
  simp only [Act.put, List.setIfInBounds_toArray, List.set_cons_succ, List.set_cons_zero]
  generalize lanesA s = c3 at e2 ⊢
  generalize lanesA r = c4 at e2 ⊢
  refine wpQ_eql rfl 23 _ _ _ rfl c3 c4 rfl rfl q guardState e2 ?_
  refine wpQ_val rfl (.bool true) (fun _ => by go_simp) ?_
  refine wpQ_val rfl (.bool true) (fun _ => by go_simp) ?_
  refine wpQ_val rfl (.bool true) (fun _ => by go_simp) ?_
  refine wpQuiet_nil ?_
  intro w9 h9
  simp only [Act.put, List.setIfInBounds_toArray, List.set_cons_succ, List.set_cons_zero]
  go_wp2
  go_ret
  exact ⟨rfl, hB1.trans (h9.mono hB1.size)⟩

end Go.Proofs.YtooednielegmnaaDoor
