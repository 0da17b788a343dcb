/-
  KeccakAnew walked.
-/
import Derived.Test.YtooednielegmnabDoorAwake
namespace Go.Proofs.YtooednielegmnabDoor
open Go.RowKit

theorem cut_size (s : ByteArray) (n : Nat) (h : n < s.size) : (s.extract 0 n).size = n := by
  rw [ByteArray.size_extract]; omega
theorem texts_one (w : World) (m : Nat) (hm : m = w.heap.size) (p : ByteArray) : Texts (w.alloc (.cells #[.string p] 9)) (.slice (some ⟨m, 0, none⟩) 1 1) [p] := by
  subst hm
  refine ⟨some ⟨w.heap.size, 0, none⟩, 1, rfl, fun i hi => ⟨w.heap.size, 0, rfl, by simp, ?_⟩⟩
  rw [(Holds.new w 9 #[.string p]).cell]
  have : i = 0 := by simp at hi; omega
  subst this
  rfl
theorem cat_one (p : ByteArray) : cat [p] = p.data.toList := by simp [cat]

set_option maxRecDepth 4000 in
set_option maxHeartbeats 2000000 in
theorem anew_walk (x y : ByteArray) (w : World) (hT : Tabs w) :
    Calls Tryd.prog 3 #[.string x, .string y] w fun e w' => e = .returned (.bool true) ∧ Below w.heap.size w w' := by
  go_enter Tryd.func3, Tryd.ntmps3
  go_wp2_with fail
  refine (awake_any _ hT).mono ?_
  rintro e w1 ⟨rfl, hB1⟩
  have hT1 := hT.below hB1
  by_cases hx : 600 < x.size
  · have hxi : (600 : Int) < x.size := by omega
    have hxs := cut_size x 600 hx
    generalize hxX : x.extract 0 600 = X at hxs
    by_cases hy : 600 < y.size
    · have hyi : (600 : Int) < y.size := by omega
      have hys := cut_size y 600 hy
      generalize hyX : y.extract 0 600 = Y at hys
      go_wp2_with fail
      clear hxX
      clear hyX
      refine (new_any _).mono ?_
      rintro e w2 ⟨rfl, hB2, hh2⟩
      obtain ⟨n, hn⟩ : ∃ n, n = w1.heap.size := ⟨_, rfl⟩
      have hn1 : w.heap.size ≤ n := hn ▸ hB1.size
      have hnl := hh2.lt
      rw [← hn] at hh2 hnl ⊢
      have hT2 := hT1.below hB2
      have hBB2 := hB1.trans (hB2.mono hB1.size)
      clear hn hB2
      go_wp2_with fail
      refine (new_any _).mono ?_
      rintro e w3 ⟨rfl, hB3, hg3⟩
      obtain ⟨m, hm⟩ : ∃ m, m = w2.heap.size := ⟨_, rfl⟩
      rw [← hm] at hg3 hnl ⊢
      have hh3 := hh2.below hB3
      have hT3 := hT2.below hB3
      have hBB3 := hBB2.trans (hB3.mono hBB2.size)
      have hn3 : 3 ≤ n := by have := hT.size; omega
      clear hm hB3 hh2 hT2 hBB2
      go_wp2_with fail
      refine (write_any n [] X w3 hh3 hT3 hn3 (by simp; omega)).mono ?_
      rintro e w4 ⟨rfl, o4, hh4⟩
      have hg4 := hg3.only o4 (by omega)
      have hT4 := hT3.only hn3 o4
      have hBB4 : Below w.heap.size w w4 := Only.fresh hBB3 o4 hn1
      clear o4 hh3 hg3 hT3 hBB3
      go_wp2_with fail
      refine (write_any m [] Y w4 hg4 hT4 (by omega) (by simp; omega)).mono ?_
      rintro e w5 ⟨rfl, o5, hg5⟩
      have hh5 := hh4.only o5 (by omega)
      have hT5 := hT4.only (by omega) o5
      have hBB5 : Below w.heap.size w w5 := Only.fresh hBB4 o5 (by omega)
      clear o5 hh4 hg4 hT4 hBB4
      go_wp2_with fail
      refine (reset_any n _ w5 hh5).mono ?_
      rintro e w6 ⟨rfl, o6, hh6⟩
      have hg6 := hg5.only o6 (by omega)
      have hT6 := hT5.only hn3 o6
      have hBB6 : Below w.heap.size w w6 := Only.fresh hBB5 o6 hn1
      clear o6 hh5 hg5 hT5 hBB5
      go_wp2_with fail
      refine (write_any n [] Y w6 hh6 hT6 hn3 (by simp; omega)).mono ?_
      rintro e w7 ⟨rfl, o7, hh7⟩
      have hg7 := hg6.only o7 (by omega)
      have hT7 := hT6.only hn3 o7
      have hBB7 : Below w.heap.size w w7 := Only.fresh hBB6 o7 hn1
      clear o7 hh6 hg6 hT6 hBB6
      rw [List.nil_append] at hg7 hh7
      have hyl : Y.data.toList.length = Y.size := rfl
      have hyb : Y.data.toList.length < 4611686018427387904 := by omega
      have hcat := cat_one Y
      have hcl : (cat [Y]).length < 4611686018427387904 := by rw [hcat]; exact hyb
      have heq := fun w => eql_sums_same w (hashOf Y.data.toList)
      generalize hcs : bytesA 32 (hashOf Y.data.toList) = cs at heq
      have HCS : Hid (bytesA 32 (hashOf Y.data.toList) = cs) := hcs
      have HE : Hid (∀ w, (Op.equalIn 10000 26 (.agg cs) (.agg cs)).run Tryd.prog w = .ok true w) := heq
      have HCT : Hid (cat [Y] = Y.data.toList) := hcat
      clear hcs heq hcat hyl
      go_wp2_with fail
      refine (sum_any n _ w7 hh7 hT7 hyb).mono ?_
      rintro e w8 ⟨rfl, hB8⟩
      rw [HCS.out]
      have hh8 := hh7.below hB8
      have hg8 := hg7.below hB8
      have hT8 := hT7.below hB8
      have hBB8 := hBB7.trans (hB8.mono hBB7.size)
      clear hB8 hh7 hg7 hT7 hBB7
      dsimp only
      go_wp2_with fail
      refine (sum_any m _ w8 hg8 hT8 hyb).mono ?_
      rintro e w9 ⟨rfl, hB9⟩
      rw [HCS.out]
      have hh9 := hh8.below hB9
      have hg9 := hg8.below hB9
      have hT9 := hT8.below hB9
      have hBB9 := hBB8.trans (hB9.mono hBB8.size)
      clear hB9 hh8 hg8 hT8 hBB8
      dsimp only
      go_wp2_with (first
        | (refine wpList_eql rfl 26 _ _ _ rfl cs cs rfl rfl true guardSum (HE.out _) ?_)
        | fail)
      refine (sum_any n _ w9 hh9 hT9 hyb).mono ?_
      rintro e w10 ⟨rfl, hB10⟩
      rw [HCS.out]
      have hh10 := hh9.below hB10
      have hg10 := hg9.below hB10
      have hT10 := hT9.below hB10
      have hBB10 := hBB9.trans (hB10.mono hBB9.size)
      clear hB10 hh9 hg9 hT9 hBB9
      dsimp only
      go_wp2_with fail
      refine (sumParts_any _ [Y] _ (texts_one w10 _ rfl Y) (hT10.below ((Below.refl _ _).alloc (Nat.le_refl _) _)) hcl (by simp)).mono ?_
      rintro e w11 ⟨rfl, hB11⟩
      rw [HCT.out, HCS.out]
      have hB11' : Below w10.heap.size w10 w11 := ((Below.refl _ _).alloc (Nat.le_refl _) _).trans (hB11.mono (by simp))
      have hh11 := hh10.below hB11'
      have hg11 := hg10.below hB11'
      have hBB11 := hBB10.trans (hB11'.mono hBB10.size)
      clear hB11 hB11' hh10 hg10 hT10 hBB10
      dsimp only
      go_wp2_with (first
        | (refine wpList_eql rfl 26 _ _ _ rfl cs cs rfl rfl true guardSum (HE.out _) ?_)
        | fail)
      refine (len_any n _ w11 hh11).mono ?_
      rintro e w12 ⟨rfl, rfl⟩
      go_wp2_with fail
      refine (len_any m _ w12 hg11).mono ?_
      rintro e w13 ⟨rfl, rfl⟩
      go_wp2
      go_ret
      exact ⟨rfl, hBB11⟩
    · have hyi : ¬ (600 : Int) < y.size := by omega
      obtain ⟨Y, hyX⟩ : ∃ Y, Y = y := ⟨_, rfl⟩
      subst hyX
      go_wp2_with fail
      clear hxX
      refine (new_any _).mono ?_
      rintro e w2 ⟨rfl, hB2, hh2⟩
      obtain ⟨n, hn⟩ : ∃ n, n = w1.heap.size := ⟨_, rfl⟩
      have hn1 : w.heap.size ≤ n := hn ▸ hB1.size
      have hnl := hh2.lt
      rw [← hn] at hh2 hnl ⊢
      have hT2 := hT1.below hB2
      have hBB2 := hB1.trans (hB2.mono hB1.size)
      clear hn hB2
      go_wp2_with fail
      refine (new_any _).mono ?_
      rintro e w3 ⟨rfl, hB3, hg3⟩
      obtain ⟨m, hm⟩ : ∃ m, m = w2.heap.size := ⟨_, rfl⟩
      rw [← hm] at hg3 hnl ⊢
      have hh3 := hh2.below hB3
      have hT3 := hT2.below hB3
      have hBB3 := hBB2.trans (hB3.mono hBB2.size)
      have hn3 : 3 ≤ n := by have := hT.size; omega
      clear hm hB3 hh2 hT2 hBB2
      go_wp2_with fail
      refine (write_any n [] X w3 hh3 hT3 hn3 (by simp; omega)).mono ?_
      rintro e w4 ⟨rfl, o4, hh4⟩
      have hg4 := hg3.only o4 (by omega)
      have hT4 := hT3.only hn3 o4
      have hBB4 : Below w.heap.size w w4 := Only.fresh hBB3 o4 hn1
      clear o4 hh3 hg3 hT3 hBB3
      go_wp2_with fail
      refine (write_any m [] Y w4 hg4 hT4 (by omega) (by simp; omega)).mono ?_
      rintro e w5 ⟨rfl, o5, hg5⟩
      have hh5 := hh4.only o5 (by omega)
      have hT5 := hT4.only (by omega) o5
      have hBB5 : Below w.heap.size w w5 := Only.fresh hBB4 o5 (by omega)
      clear o5 hh4 hg4 hT4 hBB4
      go_wp2_with fail
      refine (reset_any n _ w5 hh5).mono ?_
      rintro e w6 ⟨rfl, o6, hh6⟩
      have hg6 := hg5.only o6 (by omega)
      have hT6 := hT5.only hn3 o6
      have hBB6 : Below w.heap.size w w6 := Only.fresh hBB5 o6 hn1
      clear o6 hh5 hg5 hT5 hBB5
      go_wp2_with fail
      refine (write_any n [] Y w6 hh6 hT6 hn3 (by simp; omega)).mono ?_
      rintro e w7 ⟨rfl, o7, hh7⟩
      have hg7 := hg6.only o7 (by omega)
      have hT7 := hT6.only hn3 o7
      have hBB7 : Below w.heap.size w w7 := Only.fresh hBB6 o7 hn1
      clear o7 hh6 hg6 hT6 hBB6
      rw [List.nil_append] at hg7 hh7
      have hyl : Y.data.toList.length = Y.size := rfl
      have hyb : Y.data.toList.length < 4611686018427387904 := by omega
      have hcat := cat_one Y
      have hcl : (cat [Y]).length < 4611686018427387904 := by rw [hcat]; exact hyb
      have heq := fun w => eql_sums_same w (hashOf Y.data.toList)
      generalize hcs : bytesA 32 (hashOf Y.data.toList) = cs at heq
      have HCS : Hid (bytesA 32 (hashOf Y.data.toList) = cs) := hcs
      have HE : Hid (∀ w, (Op.equalIn 10000 26 (.agg cs) (.agg cs)).run Tryd.prog w = .ok true w) := heq
      have HCT : Hid (cat [Y] = Y.data.toList) := hcat
      clear hcs heq hcat hyl
      go_wp2_with fail
      refine (sum_any n _ w7 hh7 hT7 hyb).mono ?_
      rintro e w8 ⟨rfl, hB8⟩
      rw [HCS.out]
      have hh8 := hh7.below hB8
      have hg8 := hg7.below hB8
      have hT8 := hT7.below hB8
      have hBB8 := hBB7.trans (hB8.mono hBB7.size)
      clear hB8 hh7 hg7 hT7 hBB7
      dsimp only
      go_wp2_with fail
      refine (sum_any m _ w8 hg8 hT8 hyb).mono ?_
      rintro e w9 ⟨rfl, hB9⟩
      rw [HCS.out]
      have hh9 := hh8.below hB9
      have hg9 := hg8.below hB9
      have hT9 := hT8.below hB9
      have hBB9 := hBB8.trans (hB9.mono hBB8.size)
      clear hB9 hh8 hg8 hT8 hBB8
      dsimp only
      go_wp2_with (first
        | (refine wpList_eql rfl 26 _ _ _ rfl cs cs rfl rfl true guardSum (HE.out _) ?_)
        | fail)
      refine (sum_any n _ w9 hh9 hT9 hyb).mono ?_
      rintro e w10 ⟨rfl, hB10⟩
      rw [HCS.out]
      have hh10 := hh9.below hB10
      have hg10 := hg9.below hB10
      have hT10 := hT9.below hB10
      have hBB10 := hBB9.trans (hB10.mono hBB9.size)
      clear hB10 hh9 hg9 hT9 hBB9
      dsimp only
      go_wp2_with fail
      refine (sumParts_any _ [Y] _ (texts_one w10 _ rfl Y) (hT10.below ((Below.refl _ _).alloc (Nat.le_refl _) _)) hcl (by simp)).mono ?_
      rintro e w11 ⟨rfl, hB11⟩
      rw [HCT.out, HCS.out]
      have hB11' : Below w10.heap.size w10 w11 := ((Below.refl _ _).alloc (Nat.le_refl _) _).trans (hB11.mono (by simp))
      have hh11 := hh10.below hB11'
      have hg11 := hg10.below hB11'
      have hBB11 := hBB10.trans (hB11'.mono hBB10.size)
      clear hB11 hB11' hh10 hg10 hT10 hBB10
      dsimp only
      go_wp2_with (first
        | (refine wpList_eql rfl 26 _ _ _ rfl cs cs rfl rfl true guardSum (HE.out _) ?_)
        | fail)
      refine (len_any n _ w11 hh11).mono ?_
      rintro e w12 ⟨rfl, rfl⟩
      go_wp2_with fail
      refine (len_any m _ w12 hg11).mono ?_
      rintro e w13 ⟨rfl, rfl⟩
      go_wp2
      go_ret
      exact ⟨rfl, hBB11⟩
  · have hxi : ¬ (600 : Int) < x.size := by omega
    obtain ⟨X, hxX⟩ : ∃ X, X = x := ⟨_, rfl⟩
    subst hxX
    by_cases hy : 600 < y.size
    · have hyi : (600 : Int) < y.size := by omega
      have hys := cut_size y 600 hy
      generalize hyX : y.extract 0 600 = Y at hys
      go_wp2_with fail
      clear hyX
      refine (new_any _).mono ?_
      rintro e w2 ⟨rfl, hB2, hh2⟩
      obtain ⟨n, hn⟩ : ∃ n, n = w1.heap.size := ⟨_, rfl⟩
      have hn1 : w.heap.size ≤ n := hn ▸ hB1.size
      have hnl := hh2.lt
      rw [← hn] at hh2 hnl ⊢
      have hT2 := hT1.below hB2
      have hBB2 := hB1.trans (hB2.mono hB1.size)
      clear hn hB2
      go_wp2_with fail
      refine (new_any _).mono ?_
      rintro e w3 ⟨rfl, hB3, hg3⟩
      obtain ⟨m, hm⟩ : ∃ m, m = w2.heap.size := ⟨_, rfl⟩
      rw [← hm] at hg3 hnl ⊢
      have hh3 := hh2.below hB3
      have hT3 := hT2.below hB3
      have hBB3 := hBB2.trans (hB3.mono hBB2.size)
      have hn3 : 3 ≤ n := by have := hT.size; omega
      clear hm hB3 hh2 hT2 hBB2
      go_wp2_with fail
      refine (write_any n [] X w3 hh3 hT3 hn3 (by simp; omega)).mono ?_
      rintro e w4 ⟨rfl, o4, hh4⟩
      have hg4 := hg3.only o4 (by omega)
      have hT4 := hT3.only hn3 o4
      have hBB4 : Below w.heap.size w w4 := Only.fresh hBB3 o4 hn1
      clear o4 hh3 hg3 hT3 hBB3
      go_wp2_with fail
      refine (write_any m [] Y w4 hg4 hT4 (by omega) (by simp; omega)).mono ?_
      rintro e w5 ⟨rfl, o5, hg5⟩
      have hh5 := hh4.only o5 (by omega)
      have hT5 := hT4.only (by omega) o5
      have hBB5 : Below w.heap.size w w5 := Only.fresh hBB4 o5 (by omega)
      clear o5 hh4 hg4 hT4 hBB4
      go_wp2_with fail
      refine (reset_any n _ w5 hh5).mono ?_
      rintro e w6 ⟨rfl, o6, hh6⟩
      have hg6 := hg5.only o6 (by omega)
      have hT6 := hT5.only hn3 o6
      have hBB6 : Below w.heap.size w w6 := Only.fresh hBB5 o6 hn1
      clear o6 hh5 hg5 hT5 hBB5
      go_wp2_with fail
      refine (write_any n [] Y w6 hh6 hT6 hn3 (by simp; omega)).mono ?_
      rintro e w7 ⟨rfl, o7, hh7⟩
      have hg7 := hg6.only o7 (by omega)
      have hT7 := hT6.only hn3 o7
      have hBB7 : Below w.heap.size w w7 := Only.fresh hBB6 o7 hn1
      clear o7 hh6 hg6 hT6 hBB6
      rw [List.nil_append] at hg7 hh7
      have hyl : Y.data.toList.length = Y.size := rfl
      have hyb : Y.data.toList.length < 4611686018427387904 := by omega
      have hcat := cat_one Y
      have hcl : (cat [Y]).length < 4611686018427387904 := by rw [hcat]; exact hyb
      have heq := fun w => eql_sums_same w (hashOf Y.data.toList)
      generalize hcs : bytesA 32 (hashOf Y.data.toList) = cs at heq
      have HCS : Hid (bytesA 32 (hashOf Y.data.toList) = cs) := hcs
      have HE : Hid (∀ w, (Op.equalIn 10000 26 (.agg cs) (.agg cs)).run Tryd.prog w = .ok true w) := heq
      have HCT : Hid (cat [Y] = Y.data.toList) := hcat
      clear hcs heq hcat hyl
      go_wp2_with fail
      refine (sum_any n _ w7 hh7 hT7 hyb).mono ?_
      rintro e w8 ⟨rfl, hB8⟩
      rw [HCS.out]
      have hh8 := hh7.below hB8
      have hg8 := hg7.below hB8
      have hT8 := hT7.below hB8
      have hBB8 := hBB7.trans (hB8.mono hBB7.size)
      clear hB8 hh7 hg7 hT7 hBB7
      dsimp only
      go_wp2_with fail
      refine (sum_any m _ w8 hg8 hT8 hyb).mono ?_
      rintro e w9 ⟨rfl, hB9⟩
      rw [HCS.out]
      have hh9 := hh8.below hB9
      have hg9 := hg8.below hB9
      have hT9 := hT8.below hB9
      have hBB9 := hBB8.trans (hB9.mono hBB8.size)
      clear hB9 hh8 hg8 hT8 hBB8
      dsimp only
      go_wp2_with (first
        | (refine wpList_eql rfl 26 _ _ _ rfl cs cs rfl rfl true guardSum (HE.out _) ?_)
        | fail)
      refine (sum_any n _ w9 hh9 hT9 hyb).mono ?_
      rintro e w10 ⟨rfl, hB10⟩
      rw [HCS.out]
      have hh10 := hh9.below hB10
      have hg10 := hg9.below hB10
      have hT10 := hT9.below hB10
      have hBB10 := hBB9.trans (hB10.mono hBB9.size)
      clear hB10 hh9 hg9 hT9 hBB9
      dsimp only
      go_wp2_with fail
      refine (sumParts_any _ [Y] _ (texts_one w10 _ rfl Y) (hT10.below ((Below.refl _ _).alloc (Nat.le_refl _) _)) hcl (by simp)).mono ?_
      rintro e w11 ⟨rfl, hB11⟩
      rw [HCT.out, HCS.out]
      have hB11' : Below w10.heap.size w10 w11 := ((Below.refl _ _).alloc (Nat.le_refl _) _).trans (hB11.mono (by simp))
      have hh11 := hh10.below hB11'
      have hg11 := hg10.below hB11'
      have hBB11 := hBB10.trans (hB11'.mono hBB10.size)
      clear hB11 hB11' hh10 hg10 hT10 hBB10
      dsimp only
      go_wp2_with (first
        | (refine wpList_eql rfl 26 _ _ _ rfl cs cs rfl rfl true guardSum (HE.out _) ?_)
        | fail)
      refine (len_any n _ w11 hh11).mono ?_
      rintro e w12 ⟨rfl, rfl⟩
      go_wp2_with fail
      refine (len_any m _ w12 hg11).mono ?_
      rintro e w13 ⟨rfl, rfl⟩
      go_wp2
      go_ret
      exact ⟨rfl, hBB11⟩
    · have hyi : ¬ (600 : Int) < y.size := by omega
      obtain ⟨Y, hyX⟩ : ∃ Y, Y = y := ⟨_, rfl⟩
      subst hyX
      go_wp2_with fail
      refine (new_any _).mono ?_
      rintro e w2 ⟨rfl, hB2, hh2⟩
      obtain ⟨n, hn⟩ : ∃ n, n = w1.heap.size := ⟨_, rfl⟩
      have hn1 : w.heap.size ≤ n := hn ▸ hB1.size
      have hnl := hh2.lt
      rw [← hn] at hh2 hnl ⊢
      have hT2 := hT1.below hB2
      have hBB2 := hB1.trans (hB2.mono hB1.size)
      clear hn hB2
      go_wp2_with fail
      refine (new_any _).mono ?_
      rintro e w3 ⟨rfl, hB3, hg3⟩
      obtain ⟨m, hm⟩ : ∃ m, m = w2.heap.size := ⟨_, rfl⟩
      rw [← hm] at hg3 hnl ⊢
      have hh3 := hh2.below hB3
      have hT3 := hT2.below hB3
      have hBB3 := hBB2.trans (hB3.mono hBB2.size)
      have hn3 : 3 ≤ n := by have := hT.size; omega
      clear hm hB3 hh2 hT2 hBB2
      go_wp2_with fail
      refine (write_any n [] X w3 hh3 hT3 hn3 (by simp; omega)).mono ?_
      rintro e w4 ⟨rfl, o4, hh4⟩
      have hg4 := hg3.only o4 (by omega)
      have hT4 := hT3.only hn3 o4
      have hBB4 : Below w.heap.size w w4 := Only.fresh hBB3 o4 hn1
      clear o4 hh3 hg3 hT3 hBB3
      go_wp2_with fail
      refine (write_any m [] Y w4 hg4 hT4 (by omega) (by simp; omega)).mono ?_
      rintro e w5 ⟨rfl, o5, hg5⟩
      have hh5 := hh4.only o5 (by omega)
      have hT5 := hT4.only (by omega) o5
      have hBB5 : Below w.heap.size w w5 := Only.fresh hBB4 o5 (by omega)
      clear o5 hh4 hg4 hT4 hBB4
      go_wp2_with fail
      refine (reset_any n _ w5 hh5).mono ?_
      rintro e w6 ⟨rfl, o6, hh6⟩
      have hg6 := hg5.only o6 (by omega)
      have hT6 := hT5.only hn3 o6
      have hBB6 : Below w.heap.size w w6 := Only.fresh hBB5 o6 hn1
      clear o6 hh5 hg5 hT5 hBB5
      go_wp2_with fail
      refine (write_any n [] Y w6 hh6 hT6 hn3 (by simp; omega)).mono ?_
      rintro e w7 ⟨rfl, o7, hh7⟩
      have hg7 := hg6.only o7 (by omega)
      have hT7 := hT6.only hn3 o7
      have hBB7 : Below w.heap.size w w7 := Only.fresh hBB6 o7 hn1
      clear o7 hh6 hg6 hT6 hBB6
      rw [List.nil_append] at hg7 hh7
      have hyl : Y.data.toList.length = Y.size := rfl
      have hyb : Y.data.toList.length < 4611686018427387904 := by omega
      have hcat := cat_one Y
      have hcl : (cat [Y]).length < 4611686018427387904 := by rw [hcat]; exact hyb
      have heq := fun w => eql_sums_same w (hashOf Y.data.toList)
      generalize hcs : bytesA 32 (hashOf Y.data.toList) = cs at heq
      have HCS : Hid (bytesA 32 (hashOf Y.data.toList) = cs) := hcs
      have HE : Hid (∀ w, (Op.equalIn 10000 26 (.agg cs) (.agg cs)).run Tryd.prog w = .ok true w) := heq
      have HCT : Hid (cat [Y] = Y.data.toList) := hcat
      clear hcs heq hcat hyl
      go_wp2_with fail
      refine (sum_any n _ w7 hh7 hT7 hyb).mono ?_
      rintro e w8 ⟨rfl, hB8⟩
      rw [HCS.out]
      have hh8 := hh7.below hB8
      have hg8 := hg7.below hB8
      have hT8 := hT7.below hB8
      have hBB8 := hBB7.trans (hB8.mono hBB7.size)
      clear hB8 hh7 hg7 hT7 hBB7
      dsimp only
      go_wp2_with fail
      refine (sum_any m _ w8 hg8 hT8 hyb).mono ?_
      rintro e w9 ⟨rfl, hB9⟩
      rw [HCS.out]
      have hh9 := hh8.below hB9
      have hg9 := hg8.below hB9
      have hT9 := hT8.below hB9
      have hBB9 := hBB8.trans (hB9.mono hBB8.size)
      clear hB9 hh8 hg8 hT8 hBB8
      dsimp only
      go_wp2_with (first
        | (refine wpList_eql rfl 26 _ _ _ rfl cs cs rfl rfl true guardSum (HE.out _) ?_)
        | fail)
      refine (sum_any n _ w9 hh9 hT9 hyb).mono ?_
      rintro e w10 ⟨rfl, hB10⟩
      rw [HCS.out]
      have hh10 := hh9.below hB10
      have hg10 := hg9.below hB10
      have hT10 := hT9.below hB10
      have hBB10 := hBB9.trans (hB10.mono hBB9.size)
      clear hB10 hh9 hg9 hT9 hBB9
      dsimp only
      go_wp2_with fail
      refine (sumParts_any _ [Y] _ (texts_one w10 _ rfl Y) (hT10.below ((Below.refl _ _).alloc (Nat.le_refl _) _)) hcl (by simp)).mono ?_
      rintro e w11 ⟨rfl, hB11⟩
      rw [HCT.out, HCS.out]
      have hB11' : Below w10.heap.size w10 w11 := ((Below.refl _ _).alloc (Nat.le_refl _) _).trans (hB11.mono (by simp))
      have hh11 := hh10.below hB11'
      have hg11 := hg10.below hB11'
      have hBB11 := hBB10.trans (hB11'.mono hBB10.size)
      clear hB11 hB11' hh10 hg10 hT10 hBB10
      dsimp only
      go_wp2_with (first
        | (refine wpList_eql rfl 26 _ _ _ rfl cs cs rfl rfl true guardSum (HE.out _) ?_)
        | fail)
      refine (len_any n _ w11 hh11).mono ?_
      rintro e w12 ⟨rfl, rfl⟩
      go_wp2_with fail
      refine (len_any m _ w12 hg11).mono ?_
      rintro e w13 ⟨rfl, rfl⟩
      go_wp2
      go_ret
      exact ⟨rfl, hBB11⟩

end Go.Proofs.YtooednielegmnabDoor
