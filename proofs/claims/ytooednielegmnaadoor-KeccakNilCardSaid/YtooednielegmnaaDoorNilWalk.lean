/-
  What the calls on no hash do; KeccakNil.
-/
import Derived.Test.YtooednielegmnaaDoorAwake
namespace Go.Proofs.YtooednielegmnaaDoor
open Go.RowKit

set_option maxHeartbeats 400000 in
theorem reset_nil (w : World) : Calls Tryd.prog 18 #[.pointer none] w fun e w' => e = .returned (.tuple #[]) ∧ w' = w := by
  go_enter Tryd.func18, Tryd.ntmps18
  go_wp2
  go_end0
  exact ⟨rfl, rfl⟩

set_option maxHeartbeats 400000 in
theorem write_nil (p : ByteArray) (w : World) : Calls Tryd.prog 15 #[.pointer none, .string p] w fun e w' => e = .returned (.int .i64 0) ∧ w' = w := by
  go_enter Tryd.func15, Tryd.ntmps15
  go_wp2
  go_ret
  exact ⟨rfl, rfl⟩

set_option maxHeartbeats 400000 in
theorem len_nil (w : World) : Calls Tryd.prog 17 #[.pointer none] w fun e w' => e = .returned (.int .i64 0) ∧ w' = w := by
  go_enter Tryd.func17, Tryd.ntmps17
  go_wp2
  go_ret
  exact ⟨rfl, rfl⟩

theorem zeroSum : ∀ w, (zeroValue 27).run Tryd.prog w = .ok (.agg (bytesA 32 fun _ => 0)) w := (zero_of_info (n := 32) (by kernel_rfl)).1

set_option maxRecDepth 4000 in
set_option maxHeartbeats 400000 in
theorem sum_nil (w : World) : Calls Tryd.prog 16 #[.pointer none] w fun e w' => e = .returned (.agg (bytesA 32 fun _ => 0)) ∧ Below w.heap.size w w' := by
  go_enter Tryd.func16, Tryd.ntmps16
  go_wp2_with (first
    | (refine wpList_storeH rfl 27 _ _ rfl w.heap.size (bytesA 32 fun _ => 0) rfl rfl 27 (bytesA 32 fun _ => 0) (Holds.new _ _ _) (by rw [bytesA_size]; exact info32) rfl (bytesA_one _ _) ?_
       intro w1 h1 o1 z1)
    | fail)
  exact bodyPost_ret (results_cellH rfl _ _ w.heap.size 27 (bytesA 32 fun _ => 0) _ rfl h1 Tryd.underlying27 rfl (by rw [bytesA_size]; exact info32)) rfl
    ⟨rfl, Only.fresh ((Below.refl _ _).alloc (Nat.le_refl _) _) o1 (Nat.le_refl _)⟩

set_option maxRecDepth 4000 in
set_option maxHeartbeats 400000 in
theorem nil_walk (s : ByteArray) (w : World) (hT : Tabs w) :
    Calls Tryd.prog 7 #[.string s] w fun e w' => e = .returned (.bool true) ∧ Below w.heap.size w w' := by
  have HE : Hid (∀ w, (Op.equalIn 10000 27 (.agg (bytesA 32 fun _ => 0)) (.agg (bytesA 32 fun _ => 0))).run Tryd.prog w = .ok true w) := fun w => eql_sums_same w _
  go_enter Tryd.func7, Tryd.ntmps7
  go_wp2_with fail
  refine (reset_nil _).mono ?_
  rintro e w1 ⟨rfl, rfl⟩
  go_wp2_with fail
  refine (awake_any _ hT).mono ?_
  rintro e w2 ⟨rfl, hB2⟩
  go_wp2_with fail
  refine (write_nil _ _).mono ?_
  rintro e w3 ⟨rfl, rfl⟩
  go_wp2_with fail
  refine (sum_nil _).mono ?_
  rintro e w4 ⟨rfl, hB4⟩
  dsimp only
  go_wp2_with (first
    | (refine wpList_eql rfl 27 _ _ _ rfl (bytesA 32 fun _ => 0) (bytesA 32 fun _ => 0) rfl rfl true guardSum (HE.out _) ?_)
    | (go_at_call 17; refine (len_nil _).mono ?_; rintro e w5 ⟨rfl, rfl⟩))
  go_ret
  exact ⟨rfl, hB2.trans (hB4.mono hB2.size)⟩

end Go.Proofs.YtooednielegmnaaDoor
