/-
  The answers that the document fixes: awake is true.
-/
import Derived.Test.YtamijfdhaahalaaDoorSReadA
import Derived.Test.YtamijfdhaahalaaDoorSCombW
namespace Go.Proofs.YtamijfdhaahalaaDoor
open Go Go.RowKit

theorem ak1 : addS (⟨#[255]⟩ : ByteArray).data.toList (⟨#[1]⟩ : ByteArray).data.toList = [1, 0] := by kernel_rfl
theorem ak1e : addE (⟨#[255]⟩ : ByteArray).data.toList (⟨#[1]⟩ : ByteArray).data.toList = 0 := by kernel_rfl
theorem ak2 : subS (⟨#[1, 0]⟩ : ByteArray).data.toList (⟨#[1]⟩ : ByteArray).data.toList = [255] := by kernel_rfl
theorem ak2e : subE (⟨#[1, 0]⟩ : ByteArray).data.toList (⟨#[1]⟩ : ByteArray).data.toList = 0 := by kernel_rfl
theorem ak3 : subS (⟨#[1]⟩ : ByteArray).data.toList (⟨#[2]⟩ : ByteArray).data.toList = [] := by kernel_rfl
theorem ak3e : subE (⟨#[1]⟩ : ByteArray).data.toList (⟨#[2]⟩ : ByteArray).data.toList = 11 := by kernel_rfl
theorem ak4 : recL 1 ⟨#[5]⟩ ⟨#[]⟩ 3 = [196, 1, 5, 128, 3] := by kernel_rfl
theorem ak4o : okA (⟨#[5]⟩ : ByteArray).data.toList (⟨#[]⟩ : ByteArray).data.toList ((3 : Nat) : Int) = true := by kernel_rfl
theorem ak5 : readA (⟨#[196, 1, 5, 128, 3]⟩ : ByteArray).data.toList = some (1, ⟨#[5]⟩, ⟨#[]⟩, 3) := by kernel_rfl
theorem ak6 : trimL (⟨#[0, 0, 5]⟩ : ByteArray).data.toList = [5] := by kernel_rfl
theorem ak7 : cmpN (val (⟨#[0, 5]⟩ : ByteArray).data.toList) (val (⟨#[5]⟩ : ByteArray).data.toList) = 0 := by kernel_rfl
theorem ak8 : cmpN (val (⟨#[1, 0]⟩ : ByteArray).data.toList) (val (⟨#[255]⟩ : ByteArray).data.toList) = 1 := by kernel_rfl

set_option maxRecDepth 8000 in
set_option maxHeartbeats 4000000 in
theorem awake_any (w : World) : Calls Tryd.prog 9 #[] w fun e w' => e = .returned (.bool true) ∧ Below w.heap.size w w' := by
  have hrec : ∀ w, Calls Tryd.prog 22 #[.agg #[.int .u64 1, .string ⟨#[5]⟩, .string ⟨#[]⟩, .int .i64 3]] w fun e w' => e = .returned (.tuple #[.string ⟨#[196, 1, 5, 128, 3]⟩, .int .i64 0]) ∧ Below w.heap.size w w' := fun w => by
    have h := record_ok 1 3 ⟨#[5]⟩ ⟨#[]⟩ w (by omega) ak4o
    rw [ak4] at h
    exact h
  have HREC : Hid (∀ w, Calls Tryd.prog 22 #[.agg #[.int .u64 1, .string ⟨#[5]⟩, .string ⟨#[]⟩, .int .i64 3]] w fun e w' => e = .returned (.tuple #[.string ⟨#[196, 1, 5, 128, 3]⟩, .int .i64 0]) ∧ Below w.heap.size w w') := hrec
  clear hrec
  have hread : ∀ w, Calls Tryd.prog 24 #[.string ⟨#[196, 1, 5, 128, 3]⟩] w fun e w' => e = .returned (.tuple #[.agg (acct 1 ⟨#[5]⟩ ⟨#[]⟩ 3), .int .i64 0]) ∧ Below w.heap.size w w' := fun w => by
    have h := sread_any ⟨#[196, 1, 5, 128, 3]⟩ w (by decide)
    rw [ak5] at h
    exact h
  have HREAD : Hid (∀ w, Calls Tryd.prog 24 #[.string ⟨#[196, 1, 5, 128, 3]⟩] w fun e w' => e = .returned (.tuple #[.agg (acct 1 ⟨#[5]⟩ ⟨#[]⟩ 3), .int .i64 0]) ∧ Below w.heap.size w w') := hread
  clear hread
  have HNW : Hid (∀ w : World, Holds (w.alloc (.cells #[.int .u64 0, .string ⟨#[]⟩, .string ⟨#[]⟩, .int .i64 0] 33)) w.heap.size 33 (acct 0 ⟨#[]⟩ ⟨#[]⟩ 0)) := fun w => Holds.new w _ _
  go_enter Tryd.func9, Tryd.ntmps9
  go_wp2_with fail
  refine (sadd_any ⟨#[255]⟩ ⟨#[1]⟩ _).mono ?_
  rintro e w1 ⟨rfl, hB⟩
  rw [ak1, ak1e]
  go_wp2_with fail
  refine (ssub_any ⟨#[1, 0]⟩ ⟨#[1]⟩ _).mono ?_
  rintro e w2 ⟨rfl, h2⟩
  replace hB := hB.trans (h2.mono hB.size)
  clear h2
  rw [ak2, ak2e]
  go_wp2_with fail
  refine (ssub_any ⟨#[1]⟩ ⟨#[2]⟩ _).mono ?_
  rintro e w3 ⟨rfl, h2⟩
  replace hB := hB.trans (h2.mono hB.size)
  clear h2
  rw [ak3, ak3e]
  go_wp2_with fail
  refine (HREC.out _).mono ?_
  rintro e w4 ⟨rfl, h2⟩
  replace hB := hB.trans (h2.mono hB.size)
  clear h2
  go_wp2_with fail
  refine (HREAD.out _).mono ?_
  rintro e w5 ⟨rfl, h2⟩
  replace hB := hB.trans (h2.mono hB.size)
  have hBa := hB.alloc hB.size (.cells #[.int .u64 0, .string ⟨#[]⟩, .string ⟨#[]⟩, .int .i64 0] 33)
  have hle := hB.size
  clear h2 hB
  go_wp2_with (first
    | (refine wpList_storeH rfl 33 _ _ rfl w5.heap.size (acct 1 ⟨#[5]⟩ ⟨#[]⟩ 3) rfl rfl 33 _ (HNW.out w5) infoAcct rfl (acct_one _ _ _ _) ?_
       intro w6 h6 o6 z6
       have hB := Only.fresh hBa o6 hle
       have c3 : w6.cell? ⟨w5.heap.size, 3, none⟩ = some (.int .i64 3) := h6.cell 3
       have HB : Hid (Below w.heap.size w w6) := hB
       clear h6 o6 z6 hB hBa hle)
    | fail)
  refine (trim_any ⟨#[0, 0, 5]⟩ _).mono ?_
  rintro e w7 ⟨rfl, rfl⟩
  rw [ak6]
  go_wp2_with fail
  refine (cmp_any ⟨#[0, 5]⟩ ⟨#[5]⟩ _).mono ?_
  rintro e w7 ⟨rfl, rfl⟩
  rw [ak7]
  go_wp2_with fail
  refine (cmp_any ⟨#[1, 0]⟩ ⟨#[255]⟩ _).mono ?_
  rintro e w7 ⟨rfl, rfl⟩
  rw [ak8]
  go_wp2_with fail
  go_ret
  exact ⟨rfl, HB.out⟩
end Go.Proofs.YtamijfdhaahalaaDoor
