/-
  KeccakSums walked.
-/
import Derived.Test.YtooednielegmnaaDoorRefSum
import Derived.Test.YtooednielegmnaaDoorAwake
namespace Go.Proofs.YtooednielegmnaaDoor
open Go.RowKit

theorem cut_size (s : ByteArray) (n : Nat) (h : n < s.size) : (s.extract 0 n).size = n := by
  rw [ByteArray.size_extract]; omega
theorem texts_one (w : World) (m : Nat) (hm : m = w.heap.size) (p : ByteArray) : Texts (w.alloc (.cells #[.string p] 9)) (.slice (some ⟨m, 0, none⟩) 1 1) [p] := by
  subst hm
  refine ⟨some ⟨w.heap.size, 0, none⟩, 1, rfl, fun i hi => ⟨w.heap.size, 0, rfl, by simp, ?_⟩⟩
  rw [(Holds.new w 9 #[.string p]).cell]
  have : i = 0 := by simp at hi; omega
  subst this
  rfl
theorem cat_one (p : ByteArray) : cat [p] = p.data.toList := by simp [cat]

set_option maxRecDepth 4000 in
set_option maxHeartbeats 1000000 in
theorem sums_walk (x : ByteArray) (w : World) (hT : Tabs w) :
    Calls Tryd.prog 4 #[.string x] w fun e w' => e = .returned (.bool true) ∧ Below w.heap.size w w' := by
  go_enter Tryd.func4, Tryd.ntmps4
  go_wp2_with fail
  refine (awake_any _ hT).mono ?_
  rintro e w1 ⟨rfl, hB1⟩
  have hT1 := hT.below hB1
  by_cases hx : 3000 < x.size
  · have hxi : (3000 : Int) < x.size := by omega
    have hxs := cut_size x 3000 hx
    generalize hxX : x.extract 0 3000 = X at hxs
    have hX : X.size ≤ 3000 := by omega
    clear hxs
    go_wp2_with fail
    have hxl : X.data.toList.length = X.size := rfl
    have hyb : (cat [X]).length < 4611686018427387904 := by rw [cat_one]; omega
    refine (sumParts_any _ [X] _ (texts_one w1 _ rfl X) (hT1.below ((Below.refl _ _).alloc (Nat.le_refl _) _)) hyb (by simp)).mono ?_
    rintro e w2 ⟨rfl, hB2⟩
    have hB2' : Below w1.heap.size w1 w2 := ((Below.refl _ _).alloc (Nat.le_refl _) _).trans (hB2.mono (by simp))
    have hBB2 := hB1.trans (hB2'.mono hB1.size)
    rw [cat_one]
    have heq := fun w => eql_sums_same w (hashOf X.data.toList)
    generalize hcs : bytesA 32 (hashOf X.data.toList) = cs at heq ⊢
    have HCS : Hid (bytesA 32 (hashOf X.data.toList) = cs) := hcs
    have HE : Hid (∀ w, (Op.equalIn 10000 27 (.agg cs) (.agg cs)).run Tryd.prog w = .ok true w) := heq
    clear hcs heq hB2 hB2' hyb hxl
    dsimp only
    go_wp2_with fail
    refine (refSum_any X w2 hX).mono ?_
    rintro e w3 ⟨rfl, hB3⟩
    rw [HCS.out]
    dsimp only
    go_wp2_with (first
      | (refine wpList_eql rfl 27 _ _ _ rfl cs cs rfl rfl true guardSum (HE.out _) ?_)
      | fail)
    go_ret
    exact ⟨rfl, hBB2.trans (hB3.mono hBB2.size)⟩
  · have hxi : ¬ (3000 : Int) < x.size := by omega
    obtain ⟨X, hxX⟩ : ∃ X, X = x := ⟨_, rfl⟩
    subst hxX
    have hX : X.size ≤ 3000 := by omega
    go_wp2_with fail
    have hxl : X.data.toList.length = X.size := rfl
    have hyb : (cat [X]).length < 4611686018427387904 := by rw [cat_one]; omega
    refine (sumParts_any _ [X] _ (texts_one w1 _ rfl X) (hT1.below ((Below.refl _ _).alloc (Nat.le_refl _) _)) hyb (by simp)).mono ?_
    rintro e w2 ⟨rfl, hB2⟩
    have hB2' : Below w1.heap.size w1 w2 := ((Below.refl _ _).alloc (Nat.le_refl _) _).trans (hB2.mono (by simp))
    have hBB2 := hB1.trans (hB2'.mono hB1.size)
    rw [cat_one]
    have heq := fun w => eql_sums_same w (hashOf X.data.toList)
    generalize hcs : bytesA 32 (hashOf X.data.toList) = cs at heq ⊢
    have HCS : Hid (bytesA 32 (hashOf X.data.toList) = cs) := hcs
    have HE : Hid (∀ w, (Op.equalIn 10000 27 (.agg cs) (.agg cs)).run Tryd.prog w = .ok true w) := heq
    clear hcs heq hB2 hB2' hyb hxl
    dsimp only
    go_wp2_with fail
    refine (refSum_any X w2 hX).mono ?_
    rintro e w3 ⟨rfl, hB3⟩
    rw [HCS.out]
    dsimp only
    go_wp2_with (first
      | (refine wpList_eql rfl 27 _ _ _ rfl cs cs rfl rfl true guardSum (HE.out _) ?_)
      | fail)
    go_ret
    exact ⟨rfl, hBB2.trans (hB3.mono hBB2.size)⟩

end Go.Proofs.YtooednielegmnaaDoor
