/-
  The law's awake: the chapter's examples.
-/
import Derived.Test.YtbidoangdnmjfaaDoorMRecW
namespace Go.Proofs.YtbidoangdnmjfaaDoor
open Go Go.RowKit Go.Lib

theorem aw_rec : recE 32770 0 0 [] = ⟨#[128, 2, 0, 0, 0, 0]⟩ := by decide +kernel
theorem aw_chk : chkM 32770 0 0 0 = 0 ∧ chkM 1 0 0 0 = 1 := by decide +kernel
theorem aw_of : ofM [1, 15] = 32770 := by decide +kernel
theorem aw_cnt : cntM 32770 = 2 := by decide +kernel
theorem aw_has : hasM 32770 15 = true := by decide +kernel
theorem IntsM.two {w : World} {b : Nat} {t : TypeId} {x y : Int} (h : Holds w b t #[.int .i64 x, .int .i64 y]) : IntsM w (.slice (some ⟨b, 0, none⟩) 2 2) [x, y] := .inr ⟨b, 0, 2, rfl, fun i z hz => by
  match i with
  | 0 => simp at hz; rw [← hz]; exact h.cell 0
  | 1 => simp at hz; rw [← hz]; exact h.cell 1
  | k + 2 => simp at hz⟩
set_option maxRecDepth 8000 in
set_option maxHeartbeats 1000000 in
theorem awake_any {w : World} (hT : DbAt w) : Calls Tryd.prog 8 #[] w fun e w' => e = .returned (.bool true) ∧ Below w.heap.size w w' := by
  have h1 := mrecord_any (w := w) (s := 32770) (t := 0) (h := 0) (v := .slice none 0 0) (L := []) (by decide) (by decide) (by decide) (.nil none 0) (by simp) hT
  rw [aw_rec, show ([] : List H32).length = 0 from rfl, aw_chk.1] at h1
  unfold brV at h1
  go_enter Tryd.func8, Tryd.ntmps8
  go_wp2_with fail
  refine h1.mono ?_
  rintro e w1 ⟨rfl, hB1⟩
  clear h1
  have hT1 := hT.below hB1
  have h2 := of_any (IntsM.two (Holds.new w1 3 #[.int .i64 1, .int .i64 15])) (by simp)
  rw [aw_of] at h2
  go_wp2_with fail
  refine h2.mono ?_
  rintro e w2 ⟨rfl, hw2⟩
  have hB2 : Below w1.heap.size w1 w2 := by rw [hw2]; exact below_new1 _ _
  clear hw2 h2
  have hT2 := hT1.below hB2
  have h3 := count_any (m := 32770) (by decide) hT2
  rw [aw_cnt] at h3
  go_wp2_with fail
  refine h3.mono ?_
  rintro e w3 ⟨rfl, hB3⟩
  clear h3
  have hT3 := hT2.below hB3
  have h4 := mcheck_any (w := w3) (s := 1) (t := 0) (h := 0) (n := 0) (c := 0) (p := none) (by decide) (by decide) (by decide) (by decide) hT3
  rw [aw_chk.2] at h4
  unfold brV at h4
  have hbq : (ByteArray.mk #[128, 2, 0, 0, 0, 0] == ByteArray.mk #[128, 2, 0, 0, 0, 0]) = true := by decide +kernel
  go_wp2_with fail
  refine h4.mono ?_
  rintro e w4 ⟨rfl, hB4⟩
  clear h4
  have h5 := mhas_any (m := 32770) (by decide) 15 w4
  rw [aw_has] at h5
  go_wp2_with fail
  refine h5.mono ?_
  rintro e w5 ⟨rfl, hB5⟩
  clear h5
  go_wp2_with fail
  go_ret
  exact ⟨rfl, below_new (below_new (below_new (below_new hB1 hB2) hB3) hB4) hB5⟩
end Go.Proofs.YtbidoangdnmjfaaDoor
