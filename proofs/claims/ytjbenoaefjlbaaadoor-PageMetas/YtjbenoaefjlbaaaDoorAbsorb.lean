/-
  What the calls of absorb and squeeze do.
-/
import Derived.Test.YtjbenoaefjlbaaaDoorPerm
import Derived.Test.YtjbenoaefjlbaaaDoorBytes
namespace Go.Proofs.YtjbenoaefjlbaaaDoor
open Go.RowKit

theorem info136 : (Tryd.prog.info? 57).map (·.size) = some 136 := by kernel_rfl
theorem info32 : (Tryd.prog.info? 44).map (·.size) = some 32 := by kernel_rfl

set_option maxRecDepth 4000 in
set_option maxHeartbeats 1000000 in
theorem absorb_any (s : Nat → BitVec 64) (B : Nat → UInt8) (w : World) (hT : Tabs w) :
    Calls Tryd.prog 37 #[.agg (lanesA s), .agg (bytesA 136 B)] w fun e w' => e = .returned (.agg (lanesA (soak s B))) ∧ Below w.heap.size w w' := by
  go_enter Tryd.func37, Tryd.ntmps37
  go_wp2
  obtain ⟨n, hn⟩ : ∃ n, n = w.heap.size := ⟨_, rfl⟩
  have hn3 : 4 ≤ n := hn ▸ hT.size
  rw [← hn]
  have HN : Hid (n = w.heap.size) := hn
  clear hn
  go_loopw [8] (fun y wr => ∃ k : Nat, k ≤ 17 ∧ y = .int .i64 k ∧ Below w.heap.size w wr ∧ Holds wr n 56 (lanesA (mixUp s B k)) ∧ Holds wr (n + 1) 57 (bytesA 136 B) ∧ (∃ q, Holds wr (n + 2) 56 (lanesA q))) (fun y _ => 17 - (intOf y).toNat)
  case atStart =>
    refine ⟨0, by omega, rfl, (((Below.refl _ _).alloc (Nat.le_refl _) _).alloc (by simp) _).alloc (by simp; omega) _, ?_, ?_, fun _ => 0, ?_⟩
    · rw [HN.out]; exact (((Holds.new w 56 (lanesA s)).alloc _).alloc _).congr (lanesA_congr fun i _ => by simp [mixUp])
    · have h := Holds.new (w.alloc (.cells (lanesA s) 56)) 57 (bytesA 136 B)
      rw [World.size_alloc, ← HN.out] at h
      exact h.alloc _
    · have h := Holds.new ((w.alloc (.cells (lanesA s) 56)).alloc (.cells (bytesA 136 B) 57)) 56 (lanesA fun _ => 0)
      rw [World.size_alloc, World.size_alloc, ← HN.out] at h
      exact h
  case round =>
    obtain ⟨k, hk, rfl, hB, hh, hy, q, hq⟩ := hrel
    by_cases hlt : k < 17
    · have hk1 : (k : Int) < 17 := by omega
      have hcb := fun j (hj : j < 8) => hy.byteCell (8 * k + j) (by omega)
      have hck := hh.laneAt k (by omega)
      rw [show mixUp s B k k = s k by simp [mixUp]] at hck
      have hf := hh.frozen
      have HH : Hid (Holds wr n 56 (lanesA (mixUp s B k))) := hh
      have HY : Hid (Holds wr (n + 1) 57 (bytesA 136 B)) := hy
      clear hh hy
      go_wp2
      go_loop [6, 11] (fun l y => ∃ j : Nat, j ≤ 8 ∧ y = .int .i64 j ∧ l = .int .u64 (lane (laneUp B k j))) (fun _ y => 8 - (intOf y).toNat)
      case atStart => exact ⟨0, by omega, rfl, rfl⟩
      case round =>
        obtain ⟨j, hj, rfl, rfl⟩ := hrel
        by_cases hjl : j < 8
        · have hcj := hcb j hjl
          clear hcb
          have hj1 : (j : Int) < 8 := by omega
          obtain ⟨c, hc⟩ : ∃ c, B (8 * k + j) = c := ⟨_, rfl⟩
          rw [hc] at hcj
          have HC : Hid (B (8 * k + j) = c) := hc
          have hc0 := oct_nn c
          have hc1 := oct_le c
          clear hc
          go_wp2
          go_round
          case rel =>
            refine ⟨j + 1, by omega, rfl, ?_⟩
            have e : bits BinOp.or IntKind.u64 (lane (laneUp B k j)) (IntKind.u64.wrap (oct c * 2 ^ (8 * j))) = lane (laneUp B k (j + 1)) := by
              rw [oct_wide, lane_shl, lane_or, ← HC.out]; rfl
            rw [e]
          case measure => simp [intOf]; omega
        · have hj5 : ¬ (j : Int) < 8 := by omega
          have hjj : j = 8 := by omega
          subst hjj
          clear hcb
          go_wp2
          go_roundw
          case rel =>
            refine ⟨k + 1, by omega, rfl, ?_, ?_, ?_, q, ?_⟩
            · exact Only.fresh hB ((Only.refl n wr).set k _) (by rw [HN.out]; exact Nat.le_refl _)
            · rw [lane_xor]; exact mixUp_step s B n 56 k wr (by omega) HH.out
            · exact Holds.other HY.out _ _ (by simp)
            · exact Holds.other hq _ _ (by simp)
          case measure => simp [intOf]; omega
    · have hk5 : ¬ (k : Int) < 17 := by omega
      have hkk : k = 17 := by omega
      subst hkk
      have hTr := hT.below hB
      go_wp2_with (first
        | (refine wpList_loadH rfl 56 _ rfl n rfl 56 (lanesA (mixUp s B 17)) _ hh Tryd.underlying56 rfl (by rw [lanesA_size]; exact info25) ?_)
        | fail)
      refine (permute_any _ _ hTr).mono ?_
      rintro e w1 ⟨rfl, hB1⟩
      have hq1 : Holds w1 (n + 1 + 1) 56 (lanesA q) := Below.holds hB1 hq
      go_wp2_with (first
        | (refine wpList_storeH rfl 56 _ _ rfl (n + 1 + 1) (lanesA (perm (mixUp s B 17))) rfl rfl 56 (lanesA q) hq1 (by rw [lanesA_size]; exact info25) (by rw [lanesA_size, lanesA_size]) (lanesA_one _) ?_
           intro w2 h2 o2 z2)
        | fail)
      exact bodyPost_ret (results_cellH rfl _ _ (n + 1 + 1) 56 (lanesA (perm (mixUp s B 17))) _ rfl h2 Tryd.underlying56 rfl (by rw [lanesA_size]; exact info25)) rfl
        ⟨rfl, Only.fresh (hB.trans (hB1.mono hB.size)) o2 (by rw [HN.out]; omega)⟩

set_option maxRecDepth 4000 in
set_option maxHeartbeats 1000000 in
theorem squeeze_any (s : Nat → BitVec 64) (w : World) :
    Calls Tryd.prog 38 #[.agg (lanesA s)] w fun e w' => e = .returned (.agg (bytesA 32 (byteAt s))) ∧ Below w.heap.size w w' := by
  go_enter Tryd.func38, Tryd.ntmps38
  go_wp2
  obtain ⟨n, hn⟩ : ∃ n, n = w.heap.size := ⟨_, rfl⟩
  rw [← hn]
  have HN : Hid (n = w.heap.size) := hn
  clear hn
  go_loopw [5] (fun y wr => ∃ k : Nat, k ≤ 32 ∧ y = .int .i64 k ∧ Below w.heap.size w wr ∧ Holds wr n 56 (lanesA s) ∧ (∃ q, Holds wr (n + 1) 44 (bytesA 32 q)) ∧ Holds wr (n + 2) 44 (bytesA 32 (fun i => if i < k then byteAt s i else 0))) (fun y _ => 32 - (intOf y).toNat)
  case atStart =>
    refine ⟨0, by omega, rfl, (((Below.refl _ _).alloc (Nat.le_refl _) _).alloc (by simp) _).alloc (by simp; omega) _, ?_, ⟨fun _ => 0, ?_⟩, ?_⟩
    · rw [HN.out]; exact (((Holds.new w 56 (lanesA s)).alloc _).alloc _)
    · have h := Holds.new (w.alloc (.cells (lanesA s) 56)) 44 (bytesA 32 fun _ => 0)
      rw [World.size_alloc, ← HN.out] at h
      exact h.alloc _
    · have h := Holds.new ((w.alloc (.cells (lanesA s) 56)).alloc (.cells (bytesA 32 fun _ => 0) 44)) 44 (bytesA 32 fun _ => 0)
      rw [World.size_alloc, World.size_alloc, ← HN.out] at h
      exact h
  case round =>
    obtain ⟨k, hk, rfl, hB, hh, ⟨q, hq⟩, hr⟩ := hrel
    by_cases hlt : k < 32
    · have hk1 : (k : Int) < 32 := by omega
      have hck := hh.laneAt (k / 8) (by omega)
      have hrk := hr.byteCell k hlt
      have hf := hr.frozen
      have HH : Hid (Holds wr n 56 (lanesA s)) := hh
      have HR : Hid (Holds wr (n + 2) 44 (bytesA 32 (fun i => if i < k then byteAt s i else 0))) := hr
      have hl0 := lane_nn (s (k / 8))
      have hl1 := lane_lt (s (k / 8))
      clear hh hr
      go_wp2
      go_roundw
      case rel =>
        rw [byteAt_mod]
        refine ⟨k + 1, by omega, rfl, ?_, ?_, ⟨q, ?_⟩, ?_⟩
        · exact Only.fresh hB ((Only.refl (n + 1 + 1) wr).set k _) (by rw [HN.out]; omega)
        · exact Holds.other HH.out _ _ (by simp; omega)
        · exact Holds.other hq _ _ (by simp)
        · refine (Holds.byteSet HR.out k (byteAt s k)).congr (bytesA_congr fun i _ => ?_)
          by_cases e : i = k
          · subst e; simp
          · by_cases c : i < k
            · simp [e, c, show i < k + 1 by omega]
            · simp [e, c, show ¬ i < k + 1 by omega]
      case measure => simp [intOf]; omega
    · have hk5 : ¬ (k : Int) < 32 := by omega
      have hkk : k = 32 := by omega
      subst hkk
      have hr2 : Holds wr (n + 1 + 1) 44 (bytesA 32 (byteAt s)) := hr.congr (bytesA_congr fun i hi => by simp [hi])
      go_wp2_with (first
        | (refine wpList_loadH rfl 44 _ rfl (n + 1 + 1) rfl 44 (bytesA 32 (byteAt s)) _ hr2 Tryd.underlying44 rfl (by rw [bytesA_size]; exact info32) ?_)
        | (refine wpList_storeH rfl 44 _ _ rfl (n + 1) (bytesA 32 (byteAt s)) rfl rfl 44 (bytesA 32 q) hq (by rw [bytesA_size]; exact info32) (by rw [bytesA_size, bytesA_size]) (bytesA_one _ _) ?_
           intro w2 h2 o2 z2))
      exact bodyPost_ret (results_cellH rfl _ _ (n + 1) 44 (bytesA 32 (byteAt s)) _ rfl h2 Tryd.underlying44 rfl (by rw [bytesA_size]; exact info32)) rfl
        ⟨rfl, Only.fresh hB o2 (by rw [HN.out]; omega)⟩

end Go.Proofs.YtjbenoaefjlbaaaDoor
