/-
  What the calls of New, Len, Reset and Sum do.
-/
import Derived.Test.YtooednielegmnaaDoorWrite
namespace Go.Proofs.YtooednielegmnaaDoor
open Go.RowKit

theorem infoHash : (Tryd.prog.info? 36).map (·.size) = some 162 := by kernel_rfl
theorem zeroHash : ∀ w, (zeroValue 36).run Tryd.prog w = .ok (.agg (hashA (fun _ => 0) (fun _ => 0) 0)) w := (zero_of_info (n := 162) (by kernel_rfl)).1

set_option maxRecDepth 4000 in
set_option maxHeartbeats 400000 in
theorem new_any (w : World) :
    Calls Tryd.prog 14 #[] w fun e w' => e = .returned (.pointer (some ⟨w.heap.size, 0, none⟩)) ∧ Below w.heap.size w w' ∧ Hashes w' w.heap.size [] := by
  have hz := zeroHash
  go_enter Tryd.func14, Tryd.ntmps14
  go_wp2
  go_ret
  exact ⟨rfl, (Below.refl _ _).alloc (Nat.le_refl _) _, Hashes.zero (Holds.new _ _ _)⟩

set_option maxHeartbeats 400000 in
theorem len_any (b : Nat) (M : List UInt8) (w : World) (hb : Hashes w b M) :
    Calls Tryd.prog 17 #[.pointer (some ⟨b, 0, none⟩)] w fun e w' => e = .returned (.int .i64 M.length) ∧ w' = w := by
  obtain ⟨s, B, h1, _, _⟩ := hb
  have hnum := h1.hashNum
  go_enter Tryd.func17, Tryd.ntmps17
  go_wp2
  go_ret
  exact ⟨rfl, rfl⟩

set_option maxRecDepth 4000 in
set_option maxHeartbeats 400000 in
theorem reset_any (b : Nat) (M : List UInt8) (w : World) (hb : Hashes w b M) :
    Calls Tryd.prog 18 #[.pointer (some ⟨b, 0, none⟩)] w fun e w' => e = .returned (.tuple #[]) ∧ Only b w w' ∧ Hashes w' b [] := by
  obtain ⟨s, B, h1, _, _⟩ := hb
  have hz := zeroHash
  go_enter Tryd.func18, Tryd.ntmps18
  go_wp2_with (first
    | (refine wpList_storeH rfl 36 _ _ rfl b (hashA (fun _ => 0) (fun _ => 0) 0) rfl rfl 36 _ h1 (by rw [hashA_size]; exact infoHash) (by rw [hashA_size, hashA_size]) (hashA_one _ _ _) ?_
       intro w1 g1 o1 z1)
    | fail)
  go_end0
  exact ⟨rfl, o1, Hashes.zero g1⟩

end Go.Proofs.YtooednielegmnaaDoor
