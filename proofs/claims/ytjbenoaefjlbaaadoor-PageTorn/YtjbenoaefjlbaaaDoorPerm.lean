/-
  What the call of Permute does.
-/
import Derived.Test.YtjbenoaefjlbaaaDoorMove
namespace Go.Proofs.YtjbenoaefjlbaaaDoor
open Go.RowKit

theorem lanesA_iota (k : Nat) (s : Nat → BitVec 64) : (lanesA s).setIfInBounds 0 (.int .u64 (lane (s 0 ^^^ rcs k))) = lanesA (iota k s) := by
  rw [lanesA_set s 0 _ (by omega)]; rfl

set_option maxRecDepth 4000 in
set_option maxHeartbeats 1000000 in
theorem permute_any (s : Nat → BitVec 64) (w : World) (hT : Tabs w) :
    Calls Tryd.prog 47 #[.agg (lanesA s)] w fun e w' => e = .returned (.agg (lanesA (perm s))) ∧ Below w.heap.size w w' := by
  go_enter Tryd.func47, Tryd.ntmps47
  go_wp2
  obtain ⟨n, hn⟩ : ∃ n, n = w.heap.size := ⟨_, rfl⟩
  have hn3 : 4 ≤ n := hn ▸ hT.size
  rw [← hn]
  have HN : Hid (n = w.heap.size) := hn
  clear hn
  go_loopw [4] (fun y wr => ∃ k : Nat, k ≤ 24 ∧ y = .int .i64 k ∧ Below w.heap.size w wr ∧ Holds wr n 56 (lanesA (rounds k s)) ∧ (∃ q, Holds wr (n + 1) 56 (lanesA q))) (fun y _ => 24 - (intOf y).toNat)
  case atStart =>
    refine ⟨0, by omega, rfl, ((Below.refl _ _).alloc (Nat.le_refl _) _).alloc (by simp) _, ?_, fun _ => 0, ?_⟩
    · rw [HN.out]; exact (Holds.new w 56 (lanesA s)).alloc _
    · have h := Holds.new (w.alloc (.cells (lanesA s) 56)) 56 (lanesA fun _ => 0)
      rw [World.size_alloc, ← HN.out] at h
      exact h
  case round =>
    obtain ⟨k, hk, rfl, hB, hh, q, hq⟩ := hrel
    have hTr := hT.below hB
    clear hT
    by_cases hlt : k < 24
    · have hk1 : (k : Int) < 24 := by omega
      have hnq : n + 1 ≠ n := by omega
      go_wp2_with fail
      refine (mixColumns_any _ _ _ _ hh).mono ?_
      rintro e w1 ⟨rfl, o1, h1⟩
      have hT1 := hTr.only hn3 o1
      go_wp2_with fail
      refine (moveLanes_any _ _ _ _ h1 hT1 hn3).mono ?_
      rintro e w2 ⟨rfl, o2, h2⟩
      have hT2 := hT1.only hn3 o2
      go_wp2_with fail
      refine (mixRows_any _ _ _ _ h2).mono ?_
      rintro e w3 ⟨rfl, o3, h3⟩
      have hT3 := hT2.only hn3 o3
      have o4 := (o1.trans o2).trans o3
      clear hTr hT1 hT2 o1 o2 o3 h1 h2
      have hc := hT3.rc k hlt
      have h0 := h3.laneAt 0 (by omega)
      have hf := h3.frozen
      have hb0 : n ≠ 0 := by omega
      have HH : Hid (Holds w3 n 56 (lanesA (chi (rhopi (theta (rounds k s)))))) := h3
      clear h3 hT3
      go_wp2
      go_region
      go_wp2
      go_roundw
      case rel =>
        refine ⟨k + 1, by omega, rfl, ?_, ?_, q, ?_⟩
        · exact Only.fresh hB ((o4.set 0 _).drew) (by rw [HN.out]; exact Nat.le_refl _)
        · rw [lane_xor]
          exact Holds.drew ((Holds.set HH.out 0 _).congr (lanesA_iota k _))
        · exact ((o4.set 0 _).drew).holds hq hnq
      case measure => simp [intOf]; omega
    · have hk5 : ¬ (k : Int) < 24 := by omega
      have hkk : k = 24 := by omega
      subst hkk
      go_wp2_with (first
        | (refine wpList_loadH rfl 56 _ rfl n rfl 56 (lanesA (rounds 24 s)) _ hh Tryd.underlying56 rfl (by rw [lanesA_size]; exact info25) ?_)
        | (refine wpList_storeH rfl 56 _ _ rfl (n + 1) (lanesA (rounds 24 s)) rfl rfl 56 (lanesA q) hq (by rw [lanesA_size]; exact info25) (by rw [lanesA_size, lanesA_size]) (lanesA_one _) ?_
           intro w1 h1 o1 z1))
      exact bodyPost_ret (results_cellH rfl _ _ (n + 1) 56 (lanesA (rounds 24 s)) _ rfl h1 Tryd.underlying56 rfl (by rw [lanesA_size]; exact info25)) rfl
        ⟨rfl, Only.fresh hB o1 (by rw [HN.out]; omega)⟩

end Go.Proofs.YtjbenoaefjlbaaaDoor
