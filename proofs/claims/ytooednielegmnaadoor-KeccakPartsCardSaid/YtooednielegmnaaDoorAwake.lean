/-
  What the call of awake does: true, and nothing that was there has turned.
-/
import Derived.Test.YtooednielegmnaaDoorSumParts
import Derived.Test.YtooednielegmnaaDoorEqLaws
namespace Go.Proofs.YtooednielegmnaaDoor
open Go.RowKit

theorem texts_none (w : World) : Texts w (.slice none 0 0) [] := ⟨none, 0, rfl, fun i hi => by simp at hi⟩

theorem texts_two (w : World) (m : Nat) (hm : m = w.heap.size) (p q : ByteArray) : Texts (w.alloc (.cells #[.string p, .string q] 9)) (.slice (some ⟨m, 0, none⟩) 2 2) [p, q] := by
  subst hm
  refine ⟨some ⟨w.heap.size, 0, none⟩, 2, rfl, fun i hi => ⟨w.heap.size, 0, rfl, by simp, ?_⟩⟩
  rw [(Holds.new w 9 #[.string p, .string q]).cell]
  have : i = 0 ∨ i = 1 := by simp at hi; omega
  rcases this with rfl | rfl <;> rfl
theorem cat_abc : cat [⟨#[97]⟩, ⟨#[98, 99]⟩] = [97, 98, 99] := by decide

set_option maxRecDepth 4000 in
set_option maxHeartbeats 400000 in
theorem awake_any (w : World) (hT : Tabs w) :
    Calls Tryd.prog 9 #[] w fun e w' => e = .returned (.bool true) ∧ Below w.heap.size w w' := by
  go_enter Tryd.func9, Tryd.ntmps9
  go_wp2_with fail
  refine (new_any _).mono ?_
  rintro e w1 ⟨rfl, hB1, hh1⟩
  have hT1 := hT.below hB1
  obtain ⟨n, hn⟩ : ∃ n, n = w.heap.size := ⟨_, rfl⟩
  have HN : Hid (n = w.heap.size) := hn
  rw [← hn] at hh1 ⊢
  clear hn
  go_wp2_with fail
  refine (sumParts_any _ [] _ (texts_none _) hT1 (by decide) (by decide)).mono ?_
  rintro e w2 ⟨rfl, hB2⟩
  have hh2 := hh1.below hB2
  have hT2 := hT1.below hB2
  have hBB2 := hB1.trans (hB2.mono hB1.size)
  have a0 := bytesA_get 32 (hashOf (cat [])) 0 (by omega)
  have a1 := bytesA_get 32 (hashOf (cat [])) 1 (by omega)
  have a31 := bytesA_get 32 (hashOf (cat [])) 31 (by omega)
  have hin : (Tryd.prog.info? 27).map (·.size) = some (bytesA 32 (hashOf (cat []))).size := by rw [bytesA_size]; exact info32
  have hzs : (bytesA 32 (fun _ => 0)).size = (bytesA 32 (hashOf (cat []))).size := by rw [bytesA_size, bytesA_size]
  have hon := bytesA_one 32 (hashOf (cat []))
  rw [show cat [] = [] from rfl] at a0 a1 a31 hin hzs hon ⊢
  rw [nil_0] at a0
  rw [nil_1] at a1
  rw [nil_31] at a31
  generalize bytesA 32 (hashOf []) = cs0 at a0 a1 a31 hin hzs hon ⊢
  dsimp only
  go_wp2_with (first
    | (refine wpList_storeH rfl 27 _ _ rfl w2.heap.size cs0 rfl rfl 27 (bytesA 32 (fun _ => 0)) (Holds.new _ _ _) hin hzs hon ?_
       intro w3 h3 o3 z3)
    | fail)
  have hB3 : Below w2.heap.size w2 w3 := Only.fresh ((Below.refl _ _).alloc (Nat.le_refl _) _) o3 (Nat.le_refl _)
  have hh3 := hh2.below hB3
  have hT3 := hT2.below hB3
  have hBB3 := hBB2.trans (hB3.mono hBB2.size)
  obtain ⟨m, hm⟩ : ∃ m, m = w2.heap.size := ⟨_, rfl⟩
  have hz3 : m + 1 = w3.heap.size := by rw [z3, hm]; simp
  rw [← hm] at h3 ⊢
  have HZ3 : Hid (m + 1 = w3.heap.size) := hz3
  have hnm : n < m := by rw [hm]; exact hh2.lt
  clear hm z3 o3 hB1 hB2 hh1 hT1 hh2 hT2 hBB2 hin hzs hon hB3 hz3
  refine (sumParts_any _ _ _ (texts_two w3 (m + 1) HZ3.out _ _) (hT3.below ((Below.refl _ _).alloc (Nat.le_refl _) _)) (by rw [cat_abc]; decide) (by decide)).mono ?_
  rintro e w4 ⟨rfl, hB4⟩
  have hB4' : Below w3.heap.size w3 w4 := ((Below.refl _ _).alloc (Nat.le_refl _) _).trans (hB4.mono (by simp))
  have hh4 := hh3.below hB4'
  have hT4 := hT3.below hB4'
  have hBB4 := hBB3.trans (hB4'.mono hBB3.size)
  have h4 := Below.holds hB4' h3
  rw [cat_abc]
  have b0 := bytesA_get 32 (hashOf [97, 98, 99]) 0 (by omega)
  have b31 := bytesA_get 32 (hashOf [97, 98, 99]) 31 (by omega)
  have hin : (Tryd.prog.info? 27).map (·.size) = some (bytesA 32 (hashOf [97, 98, 99])).size := by rw [bytesA_size]; exact info32
  have hzs : (bytesA 32 (fun _ => 0)).size = (bytesA 32 (hashOf [97, 98, 99])).size := by rw [bytesA_size, bytesA_size]
  have hon := bytesA_one 32 (hashOf [97, 98, 99])
  have heq := fun w => eql_sums_same w (hashOf [97, 98, 99])
  rw [abc_0] at b0
  rw [abc_31] at b31
  generalize hcs : bytesA 32 (hashOf [97, 98, 99]) = cs1 at b0 b31 hin hzs hon heq ⊢
  have HCS : Hid (bytesA 32 (hashOf [97, 98, 99]) = cs1) := hcs
  have HE : Hid (∀ w, (Op.equalIn 10000 27 (.agg cs1) (.agg cs1)).run Tryd.prog w = .ok true w) := heq
  clear hcs heq
  clear hB4 hB4' hh3 hT3 hBB3 h3
  dsimp only
  go_wp2_with (first
    | (refine wpList_storeH rfl 27 _ _ rfl w4.heap.size cs1 rfl rfl 27 (bytesA 32 (fun _ => 0)) (Holds.new _ _ _) hin hzs hon ?_
       intro w5 h5 o5 z5)
    | fail)
  have hB5 : Below w4.heap.size w4 w5 := Only.fresh ((Below.refl _ _).alloc (Nat.le_refl _) _) o5 (Nat.le_refl _)
  have hh5 := hh4.below hB5
  have hT5 := hT4.below hB5
  have hBB5 := hBB4.trans (hB5.mono hBB4.size)
  have k5 := Below.holds hB5 h4
  obtain ⟨q, hq⟩ : ∃ q, q = w4.heap.size := ⟨_, rfl⟩
  rw [← hq] at h5 ⊢
  have hmq : m < q := by rw [hq]; exact h4.lt
  have hn3 : 3 ≤ n := by have := hT.size; have := HN.out; omega
  clear hq z5 o5 hh4 hT4 hBB4 hB5 h4
  refine (write_any n [] _ w5 hh5 hT5 hn3 (by decide)).mono ?_
  rintro e w6 ⟨rfl, o6, hh6⟩
  have hT6 := hT5.only hn3 o6
  have hBB6 : Below w.heap.size w w6 := Only.fresh hBB5 o6 (by have := HN.out; omega)
  have k6 := o6.holds k5 (by omega)
  have h6 := o6.holds h5 (by omega)
  rw [show (((⟨#[97, 98, 99]⟩ : ByteArray).size : Nat) : Int) = 3 from rfl]
  clear o6 hh5 hT5 hBB5 k5 h5
  dsimp only
  go_wp2_with fail
  refine (sum_any n [97, 98, 99] w6 hh6 hT6 (by decide)).mono ?_
  rintro e w7 ⟨rfl, hB7⟩
  rw [HCS.out]
  have hh7 : Hashes w7 n [97, 98, 99] := Hashes.below hh6 hB7
  have hBB7 := hBB6.trans (hB7.mono hBB6.size)
  have k7 := Below.holds hB7 k6
  have h7 := Below.holds hB7 h6
  clear hh6 hT6 hBB6 k6 h6 hB7
  dsimp only
  go_wp2_with (first
    | (refine wpList_storeH rfl 27 _ _ rfl w7.heap.size cs1 rfl rfl 27 (bytesA 32 (fun _ => 0)) (Holds.new _ _ _) hin hzs hon ?_
       intro w8 h8 o8 z8
       have hB8 : Below w7.heap.size w7 w8 := Only.fresh ((Below.refl _ _).alloc (Nat.le_refl _) _) o8 (Nat.le_refl _)
       have k8 := Below.holds hB8 k7
       have q8 := Below.holds hB8 h7
       have hh8 := hh7.below hB8
       have hBB8 := hBB7.trans (hB8.mono hBB7.size)
       have ca0 : w8.cell? ⟨m, 0, none⟩ = some (.int .u8 197) := (k8.cell 0).trans a0
       have ca1 : w8.cell? ⟨m, 1, none⟩ = some (.int .u8 210) := (k8.cell 1).trans a1
       have ca31 : w8.cell? ⟨m, 31, none⟩ = some (.int .u8 112) := (k8.cell 31).trans a31
       have cb0 : w8.cell? ⟨q, 0, none⟩ = some (.int .u8 78) := (q8.cell 0).trans b0
       have cb31 : w8.cell? ⟨q, 31, none⟩ = some (.int .u8 69) := (q8.cell 31).trans b31
       clear z8 o8 hB8 k7 h7 hh7 hBB7 k8 a0 a1 a31 b0 b31)
    | (refine wpList_loadG rfl 27 (.tmp 5) rfl w7.heap.size rfl 27 cs1 _ h8 Tryd.underlying27 rfl hin ?_)
    | (refine wpList_loadG rfl 27 (.tmp 3) rfl q rfl 27 cs1 _ q8 Tryd.underlying27 rfl hin ?_)
    | (refine wpList_eql rfl 27 _ _ _ rfl cs1 cs1 rfl rfl true guardSum (HE.out _) ?_)
    | (go_at_call 17; refine (len_any n [97, 98, 99] _ hh8).mono ?_; rintro e w9 ⟨rfl, rfl⟩))
  go_ret
  exact ⟨rfl, hBB8⟩

end Go.Proofs.YtooednielegmnaaDoor
