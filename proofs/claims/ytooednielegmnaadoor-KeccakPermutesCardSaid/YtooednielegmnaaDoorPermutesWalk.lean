/-
  KeccakPermutes walked.
-/
import Derived.Test.YtooednielegmnaaDoorRefPerm
import Derived.Test.YtooednielegmnaaDoorQuiet
namespace Go.Proofs.YtooednielegmnaaDoor
open Go.RowKit

set_option maxRecDepth 4000 in
set_option maxHeartbeats 1000000 in
theorem permutes_walk (s : Nat → BitVec 64) (w : World) (hT : Tabs w) :
    Calls Tryd.prog 3 #[.agg (lanesA s)] w fun e w' => e = .returned (.bool true) ∧ Below w.heap.size w w' := by
  go_enter Tryd.func3, Tryd.ntmps3
  go_wp2
  obtain ⟨w1, hw1⟩ : ∃ w1, w1 = w.alloc (.cells (lanesA s) 23) := ⟨_, rfl⟩
  rw [← hw1]
  have hB1 : Below w.heap.size w w1 := by rw [hw1]; exact (Below.refl _ _).alloc (Nat.le_refl _) _
  obtain ⟨n, hn⟩ : ∃ n, n = w.heap.size := ⟨_, rfl⟩
  have g1 : Holds w1 n 23 (lanesA s) := by rw [hw1, hn]; exact Holds.new _ _ _
  have hT1 := hT.below hB1
  rw [← hn]
  clear hw1 hn
  refine wp_region_class (fun w' => Below w1.heap.size w1 w') mixed (by kernel_rfl) (Below.refl _ _).drew ?_
  refine wpQ_call rfl 9 #[] (fun _ => by go_simp) (.bool true) (fun w2 h2 => (awake_any w2 (hT1.below h2)).mono fun e w3 ⟨he, h3⟩ => ⟨he, h2.trans (h3.mono h2.size)⟩) ?_
  refine wpQ_val rfl (.bool true) (fun _ => by go_simp) ?_
  simp only [Act.put, List.setIfInBounds_toArray, List.set_cons_succ, List.set_cons_zero]
  refine wpQ_load rfl 23 _ rfl n rfl 23 (lanesA s) _ (fun w2 h2 => Below.holds h2 g1) Tryd.underlying23 rfl (by rw [lanesA_size]; exact info25) ?_
  refine wpQ_call rfl 10 #[.agg (lanesA s)] (fun _ => by go_simp) (.agg (lanesA (perm s))) (fun w2 h2 => (permute_any s w2 (hT1.below h2)).mono fun e w3 ⟨he, h3⟩ => ⟨he, h2.trans (h3.mono h2.size)⟩) ?_
  simp only [Act.put, List.setIfInBounds_toArray, List.set_cons_succ, List.set_cons_zero]
  refine wpQ_load rfl 23 _ rfl n rfl 23 (lanesA s) _ (fun w2 h2 => Below.holds h2 g1) Tryd.underlying23 rfl (by rw [lanesA_size]; exact info25) ?_
  refine wpQ_call rfl 11 #[.agg (lanesA s)] (fun _ => by go_simp) (.agg (lanesA (perm s))) (fun w2 h2 => (refPermute_any s w2).mono fun e w3 ⟨he, h3⟩ => ⟨he, h2.trans (h3.mono h2.size)⟩) ?_
  simp only [Act.put, List.setIfInBounds_toArray, List.set_cons_succ, List.set_cons_zero]
  have e1 := fun w2 => eql_states_of (s := perm s) (r := perm s) (fun _ _ => rfl) w2
  generalize lanesA (perm s) = c1 at e1 ⊢
  refine wpQ_eql rfl 23 _ _ _ rfl c1 c1 rfl rfl true guardState e1 ?_
  refine wpQ_val rfl (.bool true) (fun _ => by go_simp) ?_
  refine wpQ_val rfl (.bool true) (fun _ => by go_simp) ?_
  refine wpQuiet_nil ?_
  intro w9 h9
  simp only [Act.put, List.setIfInBounds_toArray, List.set_cons_succ, List.set_cons_zero]
  go_wp2
  go_ret
  exact ⟨rfl, hB1.trans (h9.mono hB1.size)⟩

end Go.Proofs.YtooednielegmnaaDoor
