/-
  DiskNil's walk.
-/
import Derived.Test.YtcdfhalofidnoaaDAwake
namespace Go.Proofs.Ytcdfhalofidnoaa
open Go Go.RowKit Go.Maps

theorem own_zero (w0 w : World) (hB : Below w0.heap.size w0 w) : Own w0 (w.alloc (.cells (dcells ⟨w.heap.size, none, .slice none 0 0, none⟩ Dev.none) 60)) w.heap.size Dev.none := by
  refine ⟨_, rfl, zero_at w, ?_, below_new hB (below_new1 _ _)⟩
  rintro k (rfl | hk | ⟨_, _, hk, _⟩)
  · exact hB.size
  · cases hk
  · cases hk

set_option maxRecDepth 100000 in
set_option maxHeartbeats 4000000 in
theorem nil_walk (n : Int) (w : World) : Calls Try.prog 6 #[.int .i64 n] w fun e w' => e = .returned (.bool true) ∧ Below w.heap.size w w' := by
  have hq := ptr_eql
  have hnot := run_not
  have F1 : ∀ w, ∃ S, Calls Try.prog 29 #[.int .u8 1] w fun e w' => e = .returned (.string S) ∧ Below w.heap.size w w' := fun w => ⟨_, fill_any 1 w⟩
  have oz := own_zero w w (Below.refl _ _)
  unfold dcells Dev.none at oz
  dsimp only at oz
  obtain ⟨W0, hW0⟩ : ∃ W, w.alloc (.cells #[.int .i64 0, .map none, .slice none 0 0, .int .i64 0, .bool false, .bool false, .int .i64 0, .map none, .int .i64 0] 60) = W := ⟨_, rfl⟩
  rw [hW0] at oz
  obtain ⟨z, hz⟩ : ∃ z, w.heap.size = z := ⟨_, rfl⟩
  rw [hz] at oz
  have oz0 : Own w W0 z Dev.none := oz
  clear oz
  have e1 : Dev.none.read 0 = (⟨#[]⟩, 1, Dev.none) := rfl
  have e2 : Dev.none.sync.1 = 0 := rfl
  go_enter Try.func6, Try.ntmps6
  go_wp2_with fail
  refine (limit_nil n _).mono ?_
  rintro e w1 ⟨rfl, rfl⟩
  go_wp2_with fail
  refine (arm_nil n _).mono ?_
  rintro e w1 ⟨rfl, rfl⟩
  go_wp2_with fail
  refine (fail_nil _ _).mono ?_
  rintro e w1 ⟨rfl, rfl⟩
  go_wp2_with fail
  refine (clear_nil _).mono ?_
  rintro e w1 ⟨rfl, rfl⟩
  go_wp2_with fail
  refine (crash_nil _ _).mono ?_
  rintro e w1 ⟨rfl, rfl⟩
  go_wp2_with fail
  refine (read_nil n _).mono ?_
  rintro e w1 ⟨rfl, rfl⟩
  have o1 := (oz0.below (below_new1 _ (.cells #[.int .i64 n] 3))).below (below_new1 _ (.cells #[.int .i64 n] 3))
  have hrd := own_read o1 (Dev.none_ok 0) (by omega) 0 (by omega)
  rw [e1] at hrd
  go_wp2_with fail
  refine hrd.mono ?_
  rintro e w2 ⟨rfl, o2⟩
  clear hrd
  go_wp2_with fail
  refine (awake_any _).mono ?_
  rintro e w3 ⟨rfl, hB3⟩
  go_wp2_with fail
  obtain ⟨S, hS⟩ := F1 w3
  refine hS.mono ?_
  rintro e w4 ⟨rfl, hB4⟩
  have o4 := (o2.below hB3).below hB4
  go_wp2_with fail
  refine (write_nil n S _).mono ?_
  rintro e w5 ⟨rfl, rfl⟩
  go_wp2_with fail
  refine (sync_nil _).mono ?_
  rintro e w6 ⟨rfl, rfl⟩
  go_wp2_with fail
  refine (on_nil _).mono ?_
  rintro e w6 ⟨rfl, rfl⟩
  go_wp2_with fail
  refine (pages_nil _).mono ?_
  rintro e w6 ⟨rfl, rfl⟩
  go_wp2_with fail
  refine (used_nil _).mono ?_
  rintro e w6 ⟨rfl, rfl⟩
  go_wp2_with fail
  refine (ops_nil _).mono ?_
  rintro e w6 ⟨rfl, rfl⟩
  go_wp2_with fail
  have hpg := own_pages o4
  rw [show Dev.none.size = 0 from rfl] at hpg
  refine hpg.mono ?_
  rintro e w6 ⟨rfl, rfl⟩
  go_wp2_with fail
  refine (copy_nil _).mono ?_
  rintro e w6 ⟨rfl, rfl⟩
  go_wp2_with fail
  have hon := own_on o4
  rw [show (!Dev.none.off) = true from rfl] at hon
  refine hon.mono ?_
  rintro e w6 ⟨rfl, rfl⟩
  have hsy := own_sync o4 (Dev.none_ok 0) (by omega)
  rw [e2] at hsy
  go_wp2_with fail
  refine hsy.mono ?_
  rintro e w6 ⟨rfl, o6⟩
  go_wp2_with fail
  go_ret
  exact ⟨rfl, o6.all⟩
end Go.Proofs.Ytcdfhalofidnoaa
