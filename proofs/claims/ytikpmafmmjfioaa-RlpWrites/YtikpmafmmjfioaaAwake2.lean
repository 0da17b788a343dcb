/-
  The answers that the document fixes: awake is true.
-/
import Derived.Test.YtikpmafmmjfioaaDecodeW
import Derived.Test.YtikpmafmmjfioaaListW
namespace Go.Proofs.Ytikpmafmmjfioaa
open Go Go.RowKit

theorem dec1 : decode [129, 97] = none := by kernel_rfl
theorem dec2 : decode [184, 1, 128] = none := by kernel_rfl
theorem dec3 : decode [200, 131, 99, 97, 116, 131, 100, 111, 103] = some (.item true [] (.item false [99, 97, 116] .nil (.item false [100, 111, 103] .nil .nil)) .nil) := by kernel_rfl
theorem by0 : bytesL [] = [128] := by kernel_rfl
theorem by1 : bytesL [97] = [97] := by kernel_rfl
theorem by2 : bytesL [100, 111, 103] = [131, 100, 111, 103] := by kernel_rfl
theorem by3 : bytesL [99, 97, 116] = [131, 99, 97, 116] := by kernel_rfl
theorem li2 : listL [131, 99, 97, 116, 131, 100, 111, 103] = [200, 131, 99, 97, 116, 131, 100, 111, 103] := by kernel_rfl
theorem nu1 : num 1024 = [4, 0] := by kernel_rfl
theorem two_texts (w : World) (x y : ByteArray) (j : Nat) (u : ByteArray) (h : [x, y][j]? = some u) : (w.alloc (.cells #[.string x, .string y] 9)).cell? ⟨w.heap.size, 0 + j, none⟩ = some (.string u) := by
  rw [Nat.zero_add, World.cell?_alloc_mark]
  match j, h with
  | 0, h => simpa using h
  | 1, h => simpa using h
  | j + 2, h => simp at h

set_option maxRecDepth 8000 in
set_option maxHeartbeats 4000000 in
theorem awake_any (w : World) : Calls Try.prog 9 #[] w fun e w' => e = .returned (.bool true) ∧ Below w.heap.size w w' := by
  go_enter Try.func9, Try.ntmps9
  go_wp2_with fail
  refine (decode_any ⟨#[129, 97]⟩ _ (by decide)).mono ?_
  rintro e w1 ⟨he, hB1⟩
  rw [show (⟨#[129, 97]⟩ : ByteArray).data.toList = [129, 97] from rfl, dec1] at he
  obtain rfl : e = _ := he
  go_wp2_with fail
  refine (decode_any ⟨#[184, 1, 128]⟩ _ (by decide)).mono ?_
  rintro e w2 ⟨he, hB2⟩
  rw [show (⟨#[184, 1, 128]⟩ : ByteArray).data.toList = [184, 1, 128] from rfl, dec2] at he
  obtain rfl : e = _ := he
  have hBB2 := hB1.trans ((one_alloc hB2).mono hB1.size)
  clear hB1 hB2
  go_wp2_with fail
  refine (decode_any ⟨#[200, 131, 99, 97, 116, 131, 100, 111, 103]⟩ _ (by decide)).mono ?_
  rintro e w3 ⟨he, hB3⟩
  rw [show (⟨#[200, 131, 99, 97, 116, 131, 100, 111, 103]⟩ : ByteArray).data.toList = [200, 131, 99, 97, 116, 131, 100, 111, 103] from rfl, dec3] at he
  obtain ⟨a, c, rfl, _, _, hl⟩ := he
  obtain ⟨bk, o, _, _, rfl, hS, _, _, _, _, _, _, hrest⟩ := hl
  obtain ⟨bk2, o2, _, _, hq, _, _, g1, _, _, _, _, _⟩ := hrest
  cases hq
  have hBB3 := hBB2.trans ((one_alloc hB3).mono hBB2.size)
  have hk3 : bk < w3.heap.size := hS.2
  clear hB3 hS hBB2
  have hl2 : (Row.item false [99, 97, 116] .nil (.item false [100, 111, 103] .nil .nil)).len = 2 := rfl
  rw [hl2]
  go_wp2_with fail
  refine (uint_any ⟨#[0, 1]⟩ _ (by decide)).mono ?_
  rintro e w4 ⟨rfl, rfl⟩
  rw [show uintV (⟨#[0, 1]⟩ : ByteArray).data.toList = 0 from by kernel_rfl, show uintB (⟨#[0, 1]⟩ : ByteArray).data.toList = false from by kernel_rfl]
  obtain ⟨W, hW⟩ : ∃ W, W = w3.alloc (.cells #[.bool true, .string ⟨#[]⟩, .slice (some ⟨bk, o, none⟩) 2 c] 24) := ⟨_, rfl⟩
  have hb5 : Holds W w3.heap.size 24 #[.bool true, .string ⟨#[]⟩, .slice (some ⟨bk, o, none⟩) 2 c] := by rw [hW]; exact Holds.new _ _ _
  have hBW : Below w.heap.size w W := by rw [hW]; exact hBB3.alloc hBB3.size _
  have hgW : W.cell? ⟨bk, o + 3 + 1, none⟩ = some (.string ⟨#[100, 111, 103]⟩) := by rw [hW, World.cell?_alloc_past _ _ _ hk3]; exact g1
  have HC : Hid (Holds W w3.heap.size 24 #[.bool true, .string ⟨#[]⟩, .slice (some ⟨bk, o, none⟩) 2 c] ∧ Below w.heap.size w W ∧ W.cell? ⟨bk, o + 3 + 1, none⟩ = some (.string ⟨#[100, 111, 103]⟩) ∧ bk < W.heap.size) := ⟨hb5, hBW, hgW, by rw [hW, World.size_alloc]; omega⟩
  clear hBB3 hk3 g1 hb5 hBW hgW hl2
  go_wp2_with fail
  rw [← hW]
  clear hW
  refine (bytes_any ⟨#[]⟩ _ (by decide)).mono ?_
  rintro e va ⟨rfl, hva⟩
  rw [show (⟨#[]⟩ : ByteArray).data.toList = [] from rfl, by0]
  go_wp2_with fail
  refine (bytes_any ⟨#[97]⟩ _ (by decide)).mono ?_
  rintro e vb ⟨rfl, hvb⟩
  rw [show (⟨#[97]⟩ : ByteArray).data.toList = [97] from rfl, by1]
  go_wp2_with fail
  refine (bytes_any ⟨#[100, 111, 103]⟩ _ (by decide)).mono ?_
  rintro e vc ⟨rfl, hvc⟩
  rw [show (⟨#[100, 111, 103]⟩ : ByteArray).data.toList = [100, 111, 103] from rfl, by2]
  go_wp2_with fail
  refine (list_none none 0 _).mono ?_
  rintro e vd ⟨rfl, hvd⟩
  go_wp2_with fail
  refine (bytes_any ⟨#[99, 97, 116]⟩ _ (by decide)).mono ?_
  rintro e ve ⟨rfl, hve⟩
  rw [show (⟨#[99, 97, 116]⟩ : ByteArray).data.toList = [99, 97, 116] from rfl, by3]
  go_wp2_with fail
  refine (bytes_any ⟨#[100, 111, 103]⟩ _ (by decide)).mono ?_
  rintro e vf ⟨rfl, hvf⟩
  rw [show (⟨#[100, 111, 103]⟩ : ByteArray).data.toList = [100, 111, 103] from rfl, by2]
  go_wp2_with fail
  refine (list_any vf.heap.size 0 2 [⟨#[131, 99, 97, 116]⟩, ⟨#[131, 100, 111, 103]⟩] _ (two_texts vf _ _) (by simp) (by decide) (by decide) (by decide)).mono ?_
  rintro e vg ⟨rfl, hvg⟩
  rw [show cat [⟨#[131, 99, 97, 116]⟩, ⟨#[131, 100, 111, 103]⟩] = [131, 99, 97, 116, 131, 100, 111, 103] from rfl, li2]
  have hvf2 := one_alloc hvg
  have hBV : Below W.heap.size W vg := by
    have h1 := hva.trans (hvb.mono hva.size)
    have h2 := h1.trans (hvc.mono h1.size)
    have h3 := h2.trans (hvd.mono h2.size)
    have h4 := h3.trans (hve.mono h3.size)
    have h5 := h4.trans (hvf.mono h4.size)
    exact h5.trans (hvf2.mono h5.size)
  have hH := below_holds hBV HC.out.1
  have c0 := hH.cell 0
  have c2 := hH.cell 2
  have cd : vg.cell? ⟨bk, o + 3 + 1, none⟩ = some (.string ⟨#[100, 111, 103]⟩) := by rw [hBV.cell (p := ⟨bk, o + 3 + 1, none⟩) HC.out.2.2.2]; exact HC.out.2.2.1
  have HBV : Hid (Below w.heap.size w vg) := HC.out.2.1.trans (hBV.mono HC.out.2.1.size)
  clear hva hvb hvc hvd hve hvf hvg hvf2 hBV hH
  go_wp2_with fail
  refine (number_any 1024 _ (by omega)).mono ?_
  rintro e vh ⟨rfl, hvh⟩
  rw [nu1]
  go_wp2_with fail
  go_ret
  exact ⟨rfl, HBV.out.trans (hvh.mono HBV.out.size)⟩
end Go.Proofs.Ytikpmafmmjfioaa
