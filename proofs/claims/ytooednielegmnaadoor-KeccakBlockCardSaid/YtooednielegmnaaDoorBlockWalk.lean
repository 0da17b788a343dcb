/-
  KeccakBlock walked.
-/
import Derived.Test.YtooednielegmnaaDoorAwake
import Derived.Test.YtooednielegmnaaDoorBlockPure
import Derived.Test.YtooednielegmnaaDoorQTail
namespace Go.Proofs.YtooednielegmnaaDoor
open Go.RowKit

theorem cut_size (s : ByteArray) (n : Nat) (h : n < s.size) : (s.extract 0 n).size = n := by
  rw [ByteArray.size_extract]; omega
theorem texts_one (w : World) (m : Nat) (hm : m = w.heap.size) (p : ByteArray) : Texts (w.alloc (.cells #[.string p] 9)) (.slice (some ⟨m, 0, none⟩) 1 1) [p] := by
  subst hm
  refine ⟨some ⟨w.heap.size, 0, none⟩, 1, rfl, fun i hi => ⟨w.heap.size, 0, rfl, by simp, ?_⟩⟩
  rw [(Holds.new w 9 #[.string p]).cell]
  have : i = 0 := by simp at hi; omega
  subst this
  rfl
theorem cat_one (p : ByteArray) : cat [p] = p.data.toList := by simp [cat]
theorem Below.drewNB {B : Nat} {a w : World} (h : Below B a w) (n : Nat) : Below B a (w.drewN n) := ⟨h.os, h.tape, h.output, h.size, h.block⟩

set_option maxRecDepth 4000 in
set_option maxHeartbeats 4000000 in
theorem block_walk (x : ByteArray) (w : World) (hT : Tabs w) :
    Calls Tryd.prog 8 #[.string x] w fun e w' => e = .returned (.bool true) ∧ Below w.heap.size w w' := by
  have hzb := zeroBlock
  go_enter Tryd.func8, Tryd.ntmps8
  go_wp2_with fail
  refine (awake_any _ hT).mono ?_
  rintro e w1 ⟨rfl, hB1⟩
  by_cases hx : 135 < x.size
  · have hxi : (135 : Int) < x.size := by omega
    have hxs := cut_size x 135 hx
    generalize hxX : x.extract 0 135 = X at hxs
    have hX : X.size ≤ 135 := by omega
    clear hxs
    go_wp2_with fail
    obtain ⟨b, hb⟩ : ∃ b, b = w1.heap.size := ⟨_, rfl⟩
    have hbw : w.heap.size ≤ b := hb ▸ hB1.size
    rw [← hb]
    have HB0 : Hid (b = w1.heap.size) := hb
    clear hb
    go_loopw [5] (fun y w2 => ∃ k : Nat, k ≤ X.size ∧ y = .int .i64 k ∧ Below w.heap.size w w2 ∧ Below b w1 w2 ∧ b + 1 = w2.heap.size ∧ Holds w2 b 34 (bytesA 136 fun j => if j < k then X.data.toList.getD j 0 else 0)) (fun y _ => X.size - (intOf y).toNat)
    case atStart =>
      refine ⟨0, by omega, rfl, hB1.alloc hB1.size _, (Below.refl _ _).alloc (Nat.le_of_eq HB0.out) _, by rw [World.size_alloc, HB0.out], ?_⟩
      rw [HB0.out]; exact (Holds.new w1 34 (bytesA 136 fun _ => 0)).congr (bytesA_congr fun j _ => by simp)
    case round =>
      obtain ⟨k, hk, rfl, hB, hBb, hsz, hh⟩ := hrel
      by_cases hlt : k < X.size
      · have hk1 : (k : Int) < X.size := by omega
        have hk2 : (k : Int) < 136 := by omega
        have hc := hh.byteCell k (by omega)
        have hf := hh.frozen
        have HG := byte_get X k hlt
        have HG2 : Hid _ := HG
        have HH : Hid _ := hh
        have HSZ : Hid (b + 1 = wr.heap.size) := hsz
        clear hh HG hsz
        go_wp2
        go_roundw
        case rel =>
          rw [HG2.out]
          exact ⟨k + 1, by omega, rfl, hB.setCell hbw _, hBb.setCell (Nat.le_refl _) _, by rw [World.size_setCell]; exact HSZ.out, text_step X b 34 wr k hlt HH.out⟩
        case measure => simp [intOf]; omega
      · have hkk : k = X.size := by omega
        subst hkk
        have hTr : Tabs wr := hT.below hB
        rw [short_bytes X] at hh
        obtain ⟨M, hM⟩ : ∃ M, M = X.data.toList := ⟨_, rfl⟩
        have hMl : M.length = X.size := by rw [hM]; rfl
        rw [← hM] at hh
        obtain ⟨L, hXL⟩ : ∃ L, X.size = L := ⟨_, rfl⟩
        have hL135 : L ≤ 135 := by omega
        have HML : Hid (L = M.length % 136) := by unfold Hid; omega
        have HMS : Hid (M.length < 136) := by unfold Hid; omega
        have HMX : Hid (M = X.data.toList) := hM
        rw [hXL] at hh
        have hLi : (L : Int) < 136 := by omega
        have hcm := hh.byteCell L (by omega)
        have hce := hh.byteCell 135 (by omega)
        have hf := hh.frozen
        have HG : Hid (Holds wr b 34 (bytesA 136 (over (fun _ => 0) 0 (firstB (fun j => M.getD j 0) L)))) := hh
        have H3 : Hid (∀ j, j < L → (fun j => M.getD j 0) j = M.getD (136 * (M.length / 136) + j) 0) := fun j hj => by
          show M.getD j 0 = M.getD (136 * (M.length / 136) + j) 0
          rw [show M.length / 136 = 0 by have := HMS.out; omega, Nat.mul_zero, Nat.zero_add]
        have hsz2 : wr.heap.size = b + 1 := hsz.symm
        obtain ⟨Bf, hBf⟩ : ∃ Bf : Nat → UInt8, Bf = fun j => M.getD j 0 := ⟨_, rfl⟩
        rw [← hBf] at hcm hce HG H3
        clear hh hM hMl hsz hk hlt hBf hX
        by_cases hl : L = 135
        · subst hl
          go_wp2_with fail
          have G2 := ((Holds.byteSet HG.out 135 (over (fun _ => 0) 0 (firstB Bf 135) 135 ^^^ 1)).byteSet 135 (over (fun _ => 0) 0 (firstB Bf 135) 135 ^^^ 1 ^^^ 128)).congr (bytesA_congr (C := lastB M) fun j _ => by
            rw [← lastB_eq M Bf 135 HML.out H3.out j]
            by_cases c : j = 135
            · simp [c]
            · simp [c])
          have o2 := ((Only.refl b wr).set 135 (.int .u8 (oct (over (fun _ => 0) 0 (firstB Bf 135) 135 ^^^ 1)))).set 135 (.int .u8 (oct (over (fun _ => 0) 0 (firstB Bf 135) 135 ^^^ 1 ^^^ 128)))
          have z2 : ((wr.setCell ⟨b, 135, none⟩ (.int .u8 (oct (over (fun _ => 0) 0 (firstB Bf 135) 135 ^^^ 1)))).setCell ⟨b, 135, none⟩ (.int .u8 (oct (over (fun _ => 0) 0 (firstB Bf 135) 135 ^^^ 1 ^^^ 128)))).heap.size = b + 1 := by rw [World.size_setCell, World.size_setCell]; exact hsz2
          rw [oct_xor1, oct_xor128]
          generalize (wr.setCell ⟨b, 135, none⟩ (.int .u8 (oct (over (fun _ => 0) 0 (firstB Bf 135) 135 ^^^ 1)))).setCell ⟨b, 135, none⟩ (.int .u8 (oct (over (fun _ => 0) 0 (firstB Bf 135) 135 ^^^ 1 ^^^ 128))) = w2 at G2 o2 z2 ⊢
          have hB2 : Below w.heap.size w w2 := Only.fresh hB o2 hbw
          have hT2 : Tabs w2 := hTr.only (by have := hT.size; omega) o2
          have HZ2 : Hid (w2.heap.size = b + 1) := z2
          clear hcm hce hf HG H3 o2 hTr hB hBb z2 hsz2 HML
          go_loopw [7] (fun y w3 => ∃ k : Nat, k ≤ 136 ∧ y = .int .i64 k ∧ Below w.heap.size w w3 ∧ Below w2.heap.size w2 w3 ∧ Holds w3 (b + 1) 23 (lanesA (fillUp (lastB M) k))) (fun y _ => 136 - (intOf y).toNat)
          case atStart =>
            refine ⟨0, by omega, rfl, hB2.alloc hB2.size _, (Below.refl _ _).alloc (Nat.le_refl _) _, ?_⟩
            have h := Holds.new w2 23 (lanesA fun _ => 0)
            rw [HZ2.out] at h
            exact h.congr (lanesA_congr fun j _ => by rw [fill_none])
          case round =>
            obtain ⟨k, hk, rfl, hB3, hBB3, h3⟩ := hrel
            have g3 := Below.holds hBB3 G2
            by_cases hlt : k < 136
            · have hk1 : (k : Int) < 136 := by omega
              have ca := h3.laneAt (k / 8) (by omega)
              rw [fill_old] at ca
              have cb := g3.byteCell k hlt
              have hf := h3.frozen
              obtain ⟨c, hc⟩ : ∃ c, lastB M k = c := ⟨_, rfl⟩
              have hstep := fill_step (lastB M) (b + 1) 23 wr.drew k hlt h3.drew
              rw [hc] at cb hstep
              have c0 := oct_nn c
              have c1 := oct_le c
              have hbb : b + 1 ≠ b := by omega
              have HST : Hid _ := hstep
              have HB3 : Hid (Below w.heap.size w wr) := hB3
              have HBB3 : Hid (Below w2.heap.size w2 wr) := hBB3
              clear hc hstep h3 g3 hB3 hBB3
              go_wp2_with fail
              refine wp_region_qtail 17 mixed (by kernel_rfl) ?_
              simp only [List.take_succ_cons, List.take_zero, List.drop_succ_cons, List.drop_zero]
              repeat (go_big_quiet_step (fail))
              refine wpQuiet_nil ?_
              go_wp2
              go_roundw
              case rel =>
                have e : bits BinOp.or IntKind.u64 (lane (laneUp (lastB M) (k / 8) (k % 8))) (IntKind.u64.wrap (oct c * 2 ^ (8 * (k % 8)))) = lane (laneUp (lastB M) (k / 8) (k % 8) ||| wide c <<< (8 * (k % 8))) := by
                  rw [oct_wide, lane_shl, lane_or]
                rw [e]
                exact ⟨k + 1, by omega, rfl, Below.setCell (Below.drew HB3.out) (by show _ ≤ b + 1; omega) _, Below.setCell (Below.drew HBB3.out) (by rw [HZ2.out]; exact Nat.le_refl _) _, HST.out⟩
              case measure => simp [intOf]; omega
            · have hk1 : ¬ (k : Int) < 136 := by omega
              have hkk : k = 136 := by omega
              subst hkk
              have h4 : Holds wr (b + 1) 23 (lanesA (mixUp (fun _ => 0) (lastB M) 17)) := h3.congr (lanesA_congr fun j _ => fill_all _ j)
              have hT3 := hT2.below hBB3
              clear h3 g3 hBB3 hk G2 hT2 hB2
              go_wp2_with (first
                | (refine wpList_loadH rfl 23 _ rfl (b + 1) rfl 23 (lanesA (mixUp (fun _ => 0) (lastB M) 17)) _ h4 Tryd.underlying23 rfl (by rw [lanesA_size]; exact info25) ?_)
                | fail)
              refine (permute_any _ _ hT3).mono ?_
              rintro e w4 ⟨rfl, hB4⟩
              have h5 := Below.holds hB4 h4
              have hT4 := hT3.below hB4
              have hBB4 := hB3.trans (hB4.mono hB3.size)
              have hin : (Tryd.prog.info? 23).map (·.size) = some (lanesA (perm (mixUp (fun _ => 0) (lastB M) 17))).size := by rw [lanesA_size]; exact info25
              have hzs : (lanesA (mixUp (fun _ => 0) (lastB M) 17)).size = (lanesA (perm (mixUp (fun _ => 0) (lastB M) 17))).size := by rw [lanesA_size, lanesA_size]
              have hon := lanesA_one (perm (mixUp (fun _ => 0) (lastB M) 17))
              generalize hcz : lanesA (perm (mixUp (fun _ => 0) (lastB M) 17)) = cz at hin hzs hon ⊢
              have HCZ : Hid (lanesA (perm (mixUp (fun _ => 0) (lastB M) 17)) = cz) := hcz
              clear hcz h4 hT3 hB3 hB4
              dsimp only
              go_wp2_with (first
                | (refine wpList_storeH rfl 23 _ _ rfl (b + 1) cz rfl rfl 23 _ h5 hin hzs hon ?_
                   intro w5 g5 o5 z5
                   have hT5 := hT4.only (b := b + 1) (by have := hT.size; omega) o5
                   have hBB5 : Below w.heap.size w w5 := Only.fresh hBB4 o5 (by omega)
                   clear hBB4 hT4 h5 z5 o5)
                | fail)
              have hyb : (cat [X]).length < 4611686018427387904 := by rw [cat_one, ← HMX.out]; have := HMS.out; omega
              refine (sumParts_any _ [X] _ (texts_one w5 _ rfl X) (hT5.below ((Below.refl _ _).alloc (Nat.le_refl _) _)) hyb (by simp)).mono ?_
              rintro e w6 ⟨rfl, hB6⟩
              have hB6' : Below w5.heap.size w5 w6 := ((Below.refl _ _).alloc (Nat.le_refl _) _).trans (hB6.mono (by simp))
              have g6 := Below.holds hB6' g5
              have hBB6 := hBB5.trans (hB6'.mono hBB5.size)
              rw [cat_one, ← HMX.out]
              have hin2 : (Tryd.prog.info? 27).map (·.size) = some (bytesA 32 (hashOf M)).size := by rw [bytesA_size]; exact info32
              have hzs2 : (bytesA 32 (fun _ => 0)).size = (bytesA 32 (hashOf M)).size := by rw [bytesA_size, bytesA_size]
              have hon2 := bytesA_one 32 (hashOf M)
              generalize hcs : bytesA 32 (hashOf M) = cs at hin2 hzs2 hon2 ⊢
              have HCS : Hid (bytesA 32 (hashOf M) = cs) := hcs
              clear hcs hB6 hB6' g5 hBB5 hT5 hyb hin hzs hon
              dsimp only
              go_wp2_with (first
                | (refine wpList_storeH rfl 27 _ _ rfl w6.heap.size cs rfl rfl 27 (bytesA 32 (fun _ => 0)) (Holds.new _ _ _) hin2 hzs2 hon2 ?_
                   intro w7 g7 o7 z7)
                | fail)
              have hB7 : Below w6.heap.size w6 w7 := Only.fresh ((Below.refl _ _).alloc (Nat.le_refl _) _) o7 (Nat.le_refl _)
              have h7 := Below.holds hB7 g6
              have hBB7 := hBB6.trans (hB7.mono hBB6.size)
              rw [← HCZ.out] at h7
              rw [← HCS.out] at g7
              obtain ⟨r, hr⟩ : ∃ r, r = w6.heap.size := ⟨_, rfl⟩
              rw [← hr] at g7 ⊢
              have HSH : Hid (∀ i, hashOf M i = byteAt (perm (mixUp (fun _ => 0) (lastB M) 17)) i) := fun i => by rw [hash_short M HMS.out]; rfl
              generalize perm (mixUp (fun _ => 0) (lastB M) 17) = Z at h7 HSH
              clear hr o7 z7 hB7 g6 hBB6 hin2 hzs2 hon2 HCZ HCS
              go_loopw [9] (fun y w8 => ∃ k : Nat, k ≤ 32 ∧ y = .int .i64 k ∧ Below w.heap.size w w8 ∧ Holds w8 (b + 1) 23 (lanesA Z) ∧ Holds w8 r 27 (bytesA 32 (hashOf M))) (fun y _ => 32 - (intOf y).toNat)
              case atStart => exact ⟨0, by omega, rfl, hBB7, h7, g7⟩
              case round =>
                clear hBB7 h7 g7
                obtain ⟨k, hk, rfl, hB8, h8, g8⟩ := hrel
                by_cases hlt : k < 32
                · have hk1 : (k : Int) < 32 := by omega
                  have ca := h8.laneAt (k / 8) (by omega)
                  have cb := g8.byteCell k hlt
                  rw [HSH.out k] at cb
                  have heq := byteAt_mod Z k
                  have hl0 := lane_nn (Z (k / 8))
                  have hl1 := lane_lt (Z (k / 8))
                  have HH8 : Hid (Holds wr (b + 1) 23 (lanesA Z)) := h8
                  have HG8 : Hid (Holds wr r 27 (bytesA 32 (hashOf M))) := g8
                  clear h8 g8
                  go_wp2_with fail
                  go_quiet (fail)
                  go_wp2
                  go_roundw
                  case rel => exact ⟨k + 1, by omega, rfl, Below.drewNB hB8 _, Holds.drewN HH8.out _, Holds.drewN HG8.out _⟩
                  case measure => simp [intOf]; omega
                · have hk1 : ¬ (k : Int) < 32 := by omega
                  have hkk : k = 32 := by omega
                  subst hkk
                  go_wp2
                  go_ret
                  exact ⟨rfl, hB8⟩
        · go_wp2_with fail
          have G2 := ((Holds.byteSet HG.out L (over (fun _ => 0) 0 (firstB Bf L) L ^^^ 1)).byteSet 135 (over (fun _ => 0) 0 (firstB Bf L) 135 ^^^ 128)).congr (bytesA_congr (C := lastB M) fun j _ => by
            rw [← lastB_eq M Bf L HML.out H3.out j, if_neg (c := 135 = L) (fun q => hl q.symm)])
          have o2 := ((Only.refl b wr).set L (.int .u8 (oct (over (fun _ => 0) 0 (firstB Bf L) L ^^^ 1)))).set 135 (.int .u8 (oct (over (fun _ => 0) 0 (firstB Bf L) 135 ^^^ 128)))
          have z2 : ((wr.setCell ⟨b, L, none⟩ (.int .u8 (oct (over (fun _ => 0) 0 (firstB Bf L) L ^^^ 1)))).setCell ⟨b, 135, none⟩ (.int .u8 (oct (over (fun _ => 0) 0 (firstB Bf L) 135 ^^^ 128)))).heap.size = b + 1 := by rw [World.size_setCell, World.size_setCell]; exact hsz2
          rw [oct_xor1, oct_xor128]
          generalize (wr.setCell ⟨b, L, none⟩ (.int .u8 (oct (over (fun _ => 0) 0 (firstB Bf L) L ^^^ 1)))).setCell ⟨b, 135, none⟩ (.int .u8 (oct (over (fun _ => 0) 0 (firstB Bf L) 135 ^^^ 128))) = w2 at G2 o2 z2 ⊢
          have hB2 : Below w.heap.size w w2 := Only.fresh hB o2 hbw
          have hT2 : Tabs w2 := hTr.only (by have := hT.size; omega) o2
          have HZ2 : Hid (w2.heap.size = b + 1) := z2
          clear hcm hce hf HG H3 o2 hTr hB hBb z2 hsz2 HML
          go_loopw [7] (fun y w3 => ∃ k : Nat, k ≤ 136 ∧ y = .int .i64 k ∧ Below w.heap.size w w3 ∧ Below w2.heap.size w2 w3 ∧ Holds w3 (b + 1) 23 (lanesA (fillUp (lastB M) k))) (fun y _ => 136 - (intOf y).toNat)
          case atStart =>
            refine ⟨0, by omega, rfl, hB2.alloc hB2.size _, (Below.refl _ _).alloc (Nat.le_refl _) _, ?_⟩
            have h := Holds.new w2 23 (lanesA fun _ => 0)
            rw [HZ2.out] at h
            exact h.congr (lanesA_congr fun j _ => by rw [fill_none])
          case round =>
            obtain ⟨k, hk, rfl, hB3, hBB3, h3⟩ := hrel
            have g3 := Below.holds hBB3 G2
            by_cases hlt : k < 136
            · have hk1 : (k : Int) < 136 := by omega
              have ca := h3.laneAt (k / 8) (by omega)
              rw [fill_old] at ca
              have cb := g3.byteCell k hlt
              have hf := h3.frozen
              obtain ⟨c, hc⟩ : ∃ c, lastB M k = c := ⟨_, rfl⟩
              have hstep := fill_step (lastB M) (b + 1) 23 wr.drew k hlt h3.drew
              rw [hc] at cb hstep
              have c0 := oct_nn c
              have c1 := oct_le c
              have hbb : b + 1 ≠ b := by omega
              have HST : Hid _ := hstep
              have HB3 : Hid (Below w.heap.size w wr) := hB3
              have HBB3 : Hid (Below w2.heap.size w2 wr) := hBB3
              clear hc hstep h3 g3 hB3 hBB3
              go_wp2_with fail
              refine wp_region_qtail 17 mixed (by kernel_rfl) ?_
              simp only [List.take_succ_cons, List.take_zero, List.drop_succ_cons, List.drop_zero]
              repeat (go_big_quiet_step (fail))
              refine wpQuiet_nil ?_
              go_wp2
              go_roundw
              case rel =>
                have e : bits BinOp.or IntKind.u64 (lane (laneUp (lastB M) (k / 8) (k % 8))) (IntKind.u64.wrap (oct c * 2 ^ (8 * (k % 8)))) = lane (laneUp (lastB M) (k / 8) (k % 8) ||| wide c <<< (8 * (k % 8))) := by
                  rw [oct_wide, lane_shl, lane_or]
                rw [e]
                exact ⟨k + 1, by omega, rfl, Below.setCell (Below.drew HB3.out) (by show _ ≤ b + 1; omega) _, Below.setCell (Below.drew HBB3.out) (by rw [HZ2.out]; exact Nat.le_refl _) _, HST.out⟩
              case measure => simp [intOf]; omega
            · have hk1 : ¬ (k : Int) < 136 := by omega
              have hkk : k = 136 := by omega
              subst hkk
              have h4 : Holds wr (b + 1) 23 (lanesA (mixUp (fun _ => 0) (lastB M) 17)) := h3.congr (lanesA_congr fun j _ => fill_all _ j)
              have hT3 := hT2.below hBB3
              clear h3 g3 hBB3 hk G2 hT2 hB2
              go_wp2_with (first
                | (refine wpList_loadH rfl 23 _ rfl (b + 1) rfl 23 (lanesA (mixUp (fun _ => 0) (lastB M) 17)) _ h4 Tryd.underlying23 rfl (by rw [lanesA_size]; exact info25) ?_)
                | fail)
              refine (permute_any _ _ hT3).mono ?_
              rintro e w4 ⟨rfl, hB4⟩
              have h5 := Below.holds hB4 h4
              have hT4 := hT3.below hB4
              have hBB4 := hB3.trans (hB4.mono hB3.size)
              have hin : (Tryd.prog.info? 23).map (·.size) = some (lanesA (perm (mixUp (fun _ => 0) (lastB M) 17))).size := by rw [lanesA_size]; exact info25
              have hzs : (lanesA (mixUp (fun _ => 0) (lastB M) 17)).size = (lanesA (perm (mixUp (fun _ => 0) (lastB M) 17))).size := by rw [lanesA_size, lanesA_size]
              have hon := lanesA_one (perm (mixUp (fun _ => 0) (lastB M) 17))
              generalize hcz : lanesA (perm (mixUp (fun _ => 0) (lastB M) 17)) = cz at hin hzs hon ⊢
              have HCZ : Hid (lanesA (perm (mixUp (fun _ => 0) (lastB M) 17)) = cz) := hcz
              clear hcz h4 hT3 hB3 hB4
              dsimp only
              go_wp2_with (first
                | (refine wpList_storeH rfl 23 _ _ rfl (b + 1) cz rfl rfl 23 _ h5 hin hzs hon ?_
                   intro w5 g5 o5 z5
                   have hT5 := hT4.only (b := b + 1) (by have := hT.size; omega) o5
                   have hBB5 : Below w.heap.size w w5 := Only.fresh hBB4 o5 (by omega)
                   clear hBB4 hT4 h5 z5 o5)
                | fail)
              have hyb : (cat [X]).length < 4611686018427387904 := by rw [cat_one, ← HMX.out]; have := HMS.out; omega
              refine (sumParts_any _ [X] _ (texts_one w5 _ rfl X) (hT5.below ((Below.refl _ _).alloc (Nat.le_refl _) _)) hyb (by simp)).mono ?_
              rintro e w6 ⟨rfl, hB6⟩
              have hB6' : Below w5.heap.size w5 w6 := ((Below.refl _ _).alloc (Nat.le_refl _) _).trans (hB6.mono (by simp))
              have g6 := Below.holds hB6' g5
              have hBB6 := hBB5.trans (hB6'.mono hBB5.size)
              rw [cat_one, ← HMX.out]
              have hin2 : (Tryd.prog.info? 27).map (·.size) = some (bytesA 32 (hashOf M)).size := by rw [bytesA_size]; exact info32
              have hzs2 : (bytesA 32 (fun _ => 0)).size = (bytesA 32 (hashOf M)).size := by rw [bytesA_size, bytesA_size]
              have hon2 := bytesA_one 32 (hashOf M)
              generalize hcs : bytesA 32 (hashOf M) = cs at hin2 hzs2 hon2 ⊢
              have HCS : Hid (bytesA 32 (hashOf M) = cs) := hcs
              clear hcs hB6 hB6' g5 hBB5 hT5 hyb hin hzs hon
              dsimp only
              go_wp2_with (first
                | (refine wpList_storeH rfl 27 _ _ rfl w6.heap.size cs rfl rfl 27 (bytesA 32 (fun _ => 0)) (Holds.new _ _ _) hin2 hzs2 hon2 ?_
                   intro w7 g7 o7 z7)
                | fail)
              have hB7 : Below w6.heap.size w6 w7 := Only.fresh ((Below.refl _ _).alloc (Nat.le_refl _) _) o7 (Nat.le_refl _)
              have h7 := Below.holds hB7 g6
              have hBB7 := hBB6.trans (hB7.mono hBB6.size)
              rw [← HCZ.out] at h7
              rw [← HCS.out] at g7
              obtain ⟨r, hr⟩ : ∃ r, r = w6.heap.size := ⟨_, rfl⟩
              rw [← hr] at g7 ⊢
              have HSH : Hid (∀ i, hashOf M i = byteAt (perm (mixUp (fun _ => 0) (lastB M) 17)) i) := fun i => by rw [hash_short M HMS.out]; rfl
              generalize perm (mixUp (fun _ => 0) (lastB M) 17) = Z at h7 HSH
              clear hr o7 z7 hB7 g6 hBB6 hin2 hzs2 hon2 HCZ HCS
              go_loopw [9] (fun y w8 => ∃ k : Nat, k ≤ 32 ∧ y = .int .i64 k ∧ Below w.heap.size w w8 ∧ Holds w8 (b + 1) 23 (lanesA Z) ∧ Holds w8 r 27 (bytesA 32 (hashOf M))) (fun y _ => 32 - (intOf y).toNat)
              case atStart => exact ⟨0, by omega, rfl, hBB7, h7, g7⟩
              case round =>
                clear hBB7 h7 g7
                obtain ⟨k, hk, rfl, hB8, h8, g8⟩ := hrel
                by_cases hlt : k < 32
                · have hk1 : (k : Int) < 32 := by omega
                  have ca := h8.laneAt (k / 8) (by omega)
                  have cb := g8.byteCell k hlt
                  rw [HSH.out k] at cb
                  have heq := byteAt_mod Z k
                  have hl0 := lane_nn (Z (k / 8))
                  have hl1 := lane_lt (Z (k / 8))
                  have HH8 : Hid (Holds wr (b + 1) 23 (lanesA Z)) := h8
                  have HG8 : Hid (Holds wr r 27 (bytesA 32 (hashOf M))) := g8
                  clear h8 g8
                  go_wp2_with fail
                  go_quiet (fail)
                  go_wp2
                  go_roundw
                  case rel => exact ⟨k + 1, by omega, rfl, Below.drewNB hB8 _, Holds.drewN HH8.out _, Holds.drewN HG8.out _⟩
                  case measure => simp [intOf]; omega
                · have hk1 : ¬ (k : Int) < 32 := by omega
                  have hkk : k = 32 := by omega
                  subst hkk
                  go_wp2
                  go_ret
                  exact ⟨rfl, hB8⟩
  · have hxi : ¬ (135 : Int) < x.size := by omega
    obtain ⟨X, hxX⟩ : ∃ X, X = x := ⟨_, rfl⟩
    subst hxX
    have hX : X.size ≤ 135 := by omega
    go_wp2_with fail
    obtain ⟨b, hb⟩ : ∃ b, b = w1.heap.size := ⟨_, rfl⟩
    have hbw : w.heap.size ≤ b := hb ▸ hB1.size
    rw [← hb]
    have HB0 : Hid (b = w1.heap.size) := hb
    clear hb
    go_loopw [5] (fun y w2 => ∃ k : Nat, k ≤ X.size ∧ y = .int .i64 k ∧ Below w.heap.size w w2 ∧ Below b w1 w2 ∧ b + 1 = w2.heap.size ∧ Holds w2 b 34 (bytesA 136 fun j => if j < k then X.data.toList.getD j 0 else 0)) (fun y _ => X.size - (intOf y).toNat)
    case atStart =>
      refine ⟨0, by omega, rfl, hB1.alloc hB1.size _, (Below.refl _ _).alloc (Nat.le_of_eq HB0.out) _, by rw [World.size_alloc, HB0.out], ?_⟩
      rw [HB0.out]; exact (Holds.new w1 34 (bytesA 136 fun _ => 0)).congr (bytesA_congr fun j _ => by simp)
    case round =>
      obtain ⟨k, hk, rfl, hB, hBb, hsz, hh⟩ := hrel
      by_cases hlt : k < X.size
      · have hk1 : (k : Int) < X.size := by omega
        have hk2 : (k : Int) < 136 := by omega
        have hc := hh.byteCell k (by omega)
        have hf := hh.frozen
        have HG := byte_get X k hlt
        have HG2 : Hid _ := HG
        have HH : Hid _ := hh
        have HSZ : Hid (b + 1 = wr.heap.size) := hsz
        clear hh HG hsz
        go_wp2
        go_roundw
        case rel =>
          rw [HG2.out]
          exact ⟨k + 1, by omega, rfl, hB.setCell hbw _, hBb.setCell (Nat.le_refl _) _, by rw [World.size_setCell]; exact HSZ.out, text_step X b 34 wr k hlt HH.out⟩
        case measure => simp [intOf]; omega
      · have hkk : k = X.size := by omega
        subst hkk
        have hTr : Tabs wr := hT.below hB
        rw [short_bytes X] at hh
        obtain ⟨M, hM⟩ : ∃ M, M = X.data.toList := ⟨_, rfl⟩
        have hMl : M.length = X.size := by rw [hM]; rfl
        rw [← hM] at hh
        obtain ⟨L, hXL⟩ : ∃ L, X.size = L := ⟨_, rfl⟩
        have hL135 : L ≤ 135 := by omega
        have HML : Hid (L = M.length % 136) := by unfold Hid; omega
        have HMS : Hid (M.length < 136) := by unfold Hid; omega
        have HMX : Hid (M = X.data.toList) := hM
        rw [hXL] at hh
        have hLi : (L : Int) < 136 := by omega
        have hcm := hh.byteCell L (by omega)
        have hce := hh.byteCell 135 (by omega)
        have hf := hh.frozen
        have HG : Hid (Holds wr b 34 (bytesA 136 (over (fun _ => 0) 0 (firstB (fun j => M.getD j 0) L)))) := hh
        have H3 : Hid (∀ j, j < L → (fun j => M.getD j 0) j = M.getD (136 * (M.length / 136) + j) 0) := fun j hj => by
          show M.getD j 0 = M.getD (136 * (M.length / 136) + j) 0
          rw [show M.length / 136 = 0 by have := HMS.out; omega, Nat.mul_zero, Nat.zero_add]
        have hsz2 : wr.heap.size = b + 1 := hsz.symm
        obtain ⟨Bf, hBf⟩ : ∃ Bf : Nat → UInt8, Bf = fun j => M.getD j 0 := ⟨_, rfl⟩
        rw [← hBf] at hcm hce HG H3
        clear hh hM hMl hsz hk hlt hBf hX
        by_cases hl : L = 135
        · subst hl
          go_wp2_with fail
          have G2 := ((Holds.byteSet HG.out 135 (over (fun _ => 0) 0 (firstB Bf 135) 135 ^^^ 1)).byteSet 135 (over (fun _ => 0) 0 (firstB Bf 135) 135 ^^^ 1 ^^^ 128)).congr (bytesA_congr (C := lastB M) fun j _ => by
            rw [← lastB_eq M Bf 135 HML.out H3.out j]
            by_cases c : j = 135
            · simp [c]
            · simp [c])
          have o2 := ((Only.refl b wr).set 135 (.int .u8 (oct (over (fun _ => 0) 0 (firstB Bf 135) 135 ^^^ 1)))).set 135 (.int .u8 (oct (over (fun _ => 0) 0 (firstB Bf 135) 135 ^^^ 1 ^^^ 128)))
          have z2 : ((wr.setCell ⟨b, 135, none⟩ (.int .u8 (oct (over (fun _ => 0) 0 (firstB Bf 135) 135 ^^^ 1)))).setCell ⟨b, 135, none⟩ (.int .u8 (oct (over (fun _ => 0) 0 (firstB Bf 135) 135 ^^^ 1 ^^^ 128)))).heap.size = b + 1 := by rw [World.size_setCell, World.size_setCell]; exact hsz2
          rw [oct_xor1, oct_xor128]
          generalize (wr.setCell ⟨b, 135, none⟩ (.int .u8 (oct (over (fun _ => 0) 0 (firstB Bf 135) 135 ^^^ 1)))).setCell ⟨b, 135, none⟩ (.int .u8 (oct (over (fun _ => 0) 0 (firstB Bf 135) 135 ^^^ 1 ^^^ 128))) = w2 at G2 o2 z2 ⊢
          have hB2 : Below w.heap.size w w2 := Only.fresh hB o2 hbw
          have hT2 : Tabs w2 := hTr.only (by have := hT.size; omega) o2
          have HZ2 : Hid (w2.heap.size = b + 1) := z2
          clear hcm hce hf HG H3 o2 hTr hB hBb z2 hsz2 HML
          go_loopw [7] (fun y w3 => ∃ k : Nat, k ≤ 136 ∧ y = .int .i64 k ∧ Below w.heap.size w w3 ∧ Below w2.heap.size w2 w3 ∧ Holds w3 (b + 1) 23 (lanesA (fillUp (lastB M) k))) (fun y _ => 136 - (intOf y).toNat)
          case atStart =>
            refine ⟨0, by omega, rfl, hB2.alloc hB2.size _, (Below.refl _ _).alloc (Nat.le_refl _) _, ?_⟩
            have h := Holds.new w2 23 (lanesA fun _ => 0)
            rw [HZ2.out] at h
            exact h.congr (lanesA_congr fun j _ => by rw [fill_none])
          case round =>
            obtain ⟨k, hk, rfl, hB3, hBB3, h3⟩ := hrel
            have g3 := Below.holds hBB3 G2
            by_cases hlt : k < 136
            · have hk1 : (k : Int) < 136 := by omega
              have ca := h3.laneAt (k / 8) (by omega)
              rw [fill_old] at ca
              have cb := g3.byteCell k hlt
              have hf := h3.frozen
              obtain ⟨c, hc⟩ : ∃ c, lastB M k = c := ⟨_, rfl⟩
              have hstep := fill_step (lastB M) (b + 1) 23 wr.drew k hlt h3.drew
              rw [hc] at cb hstep
              have c0 := oct_nn c
              have c1 := oct_le c
              have hbb : b + 1 ≠ b := by omega
              have HST : Hid _ := hstep
              have HB3 : Hid (Below w.heap.size w wr) := hB3
              have HBB3 : Hid (Below w2.heap.size w2 wr) := hBB3
              clear hc hstep h3 g3 hB3 hBB3
              go_wp2_with fail
              refine wp_region_qtail 17 mixed (by kernel_rfl) ?_
              simp only [List.take_succ_cons, List.take_zero, List.drop_succ_cons, List.drop_zero]
              repeat (go_big_quiet_step (fail))
              refine wpQuiet_nil ?_
              go_wp2
              go_roundw
              case rel =>
                have e : bits BinOp.or IntKind.u64 (lane (laneUp (lastB M) (k / 8) (k % 8))) (IntKind.u64.wrap (oct c * 2 ^ (8 * (k % 8)))) = lane (laneUp (lastB M) (k / 8) (k % 8) ||| wide c <<< (8 * (k % 8))) := by
                  rw [oct_wide, lane_shl, lane_or]
                rw [e]
                exact ⟨k + 1, by omega, rfl, Below.setCell (Below.drew HB3.out) (by show _ ≤ b + 1; omega) _, Below.setCell (Below.drew HBB3.out) (by rw [HZ2.out]; exact Nat.le_refl _) _, HST.out⟩
              case measure => simp [intOf]; omega
            · have hk1 : ¬ (k : Int) < 136 := by omega
              have hkk : k = 136 := by omega
              subst hkk
              have h4 : Holds wr (b + 1) 23 (lanesA (mixUp (fun _ => 0) (lastB M) 17)) := h3.congr (lanesA_congr fun j _ => fill_all _ j)
              have hT3 := hT2.below hBB3
              clear h3 g3 hBB3 hk G2 hT2 hB2
              go_wp2_with (first
                | (refine wpList_loadH rfl 23 _ rfl (b + 1) rfl 23 (lanesA (mixUp (fun _ => 0) (lastB M) 17)) _ h4 Tryd.underlying23 rfl (by rw [lanesA_size]; exact info25) ?_)
                | fail)
              refine (permute_any _ _ hT3).mono ?_
              rintro e w4 ⟨rfl, hB4⟩
              have h5 := Below.holds hB4 h4
              have hT4 := hT3.below hB4
              have hBB4 := hB3.trans (hB4.mono hB3.size)
              have hin : (Tryd.prog.info? 23).map (·.size) = some (lanesA (perm (mixUp (fun _ => 0) (lastB M) 17))).size := by rw [lanesA_size]; exact info25
              have hzs : (lanesA (mixUp (fun _ => 0) (lastB M) 17)).size = (lanesA (perm (mixUp (fun _ => 0) (lastB M) 17))).size := by rw [lanesA_size, lanesA_size]
              have hon := lanesA_one (perm (mixUp (fun _ => 0) (lastB M) 17))
              generalize hcz : lanesA (perm (mixUp (fun _ => 0) (lastB M) 17)) = cz at hin hzs hon ⊢
              have HCZ : Hid (lanesA (perm (mixUp (fun _ => 0) (lastB M) 17)) = cz) := hcz
              clear hcz h4 hT3 hB3 hB4
              dsimp only
              go_wp2_with (first
                | (refine wpList_storeH rfl 23 _ _ rfl (b + 1) cz rfl rfl 23 _ h5 hin hzs hon ?_
                   intro w5 g5 o5 z5
                   have hT5 := hT4.only (b := b + 1) (by have := hT.size; omega) o5
                   have hBB5 : Below w.heap.size w w5 := Only.fresh hBB4 o5 (by omega)
                   clear hBB4 hT4 h5 z5 o5)
                | fail)
              have hyb : (cat [X]).length < 4611686018427387904 := by rw [cat_one, ← HMX.out]; have := HMS.out; omega
              refine (sumParts_any _ [X] _ (texts_one w5 _ rfl X) (hT5.below ((Below.refl _ _).alloc (Nat.le_refl _) _)) hyb (by simp)).mono ?_
              rintro e w6 ⟨rfl, hB6⟩
              have hB6' : Below w5.heap.size w5 w6 := ((Below.refl _ _).alloc (Nat.le_refl _) _).trans (hB6.mono (by simp))
              have g6 := Below.holds hB6' g5
              have hBB6 := hBB5.trans (hB6'.mono hBB5.size)
              rw [cat_one, ← HMX.out]
              have hin2 : (Tryd.prog.info? 27).map (·.size) = some (bytesA 32 (hashOf M)).size := by rw [bytesA_size]; exact info32
              have hzs2 : (bytesA 32 (fun _ => 0)).size = (bytesA 32 (hashOf M)).size := by rw [bytesA_size, bytesA_size]
              have hon2 := bytesA_one 32 (hashOf M)
              generalize hcs : bytesA 32 (hashOf M) = cs at hin2 hzs2 hon2 ⊢
              have HCS : Hid (bytesA 32 (hashOf M) = cs) := hcs
              clear hcs hB6 hB6' g5 hBB5 hT5 hyb hin hzs hon
              dsimp only
              go_wp2_with (first
                | (refine wpList_storeH rfl 27 _ _ rfl w6.heap.size cs rfl rfl 27 (bytesA 32 (fun _ => 0)) (Holds.new _ _ _) hin2 hzs2 hon2 ?_
                   intro w7 g7 o7 z7)
                | fail)
              have hB7 : Below w6.heap.size w6 w7 := Only.fresh ((Below.refl _ _).alloc (Nat.le_refl _) _) o7 (Nat.le_refl _)
              have h7 := Below.holds hB7 g6
              have hBB7 := hBB6.trans (hB7.mono hBB6.size)
              rw [← HCZ.out] at h7
              rw [← HCS.out] at g7
              obtain ⟨r, hr⟩ : ∃ r, r = w6.heap.size := ⟨_, rfl⟩
              rw [← hr] at g7 ⊢
              have HSH : Hid (∀ i, hashOf M i = byteAt (perm (mixUp (fun _ => 0) (lastB M) 17)) i) := fun i => by rw [hash_short M HMS.out]; rfl
              generalize perm (mixUp (fun _ => 0) (lastB M) 17) = Z at h7 HSH
              clear hr o7 z7 hB7 g6 hBB6 hin2 hzs2 hon2 HCZ HCS
              go_loopw [9] (fun y w8 => ∃ k : Nat, k ≤ 32 ∧ y = .int .i64 k ∧ Below w.heap.size w w8 ∧ Holds w8 (b + 1) 23 (lanesA Z) ∧ Holds w8 r 27 (bytesA 32 (hashOf M))) (fun y _ => 32 - (intOf y).toNat)
              case atStart => exact ⟨0, by omega, rfl, hBB7, h7, g7⟩
              case round =>
                clear hBB7 h7 g7
                obtain ⟨k, hk, rfl, hB8, h8, g8⟩ := hrel
                by_cases hlt : k < 32
                · have hk1 : (k : Int) < 32 := by omega
                  have ca := h8.laneAt (k / 8) (by omega)
                  have cb := g8.byteCell k hlt
                  rw [HSH.out k] at cb
                  have heq := byteAt_mod Z k
                  have hl0 := lane_nn (Z (k / 8))
                  have hl1 := lane_lt (Z (k / 8))
                  have HH8 : Hid (Holds wr (b + 1) 23 (lanesA Z)) := h8
                  have HG8 : Hid (Holds wr r 27 (bytesA 32 (hashOf M))) := g8
                  clear h8 g8
                  go_wp2_with fail
                  go_quiet (fail)
                  go_wp2
                  go_roundw
                  case rel => exact ⟨k + 1, by omega, rfl, Below.drewNB hB8 _, Holds.drewN HH8.out _, Holds.drewN HG8.out _⟩
                  case measure => simp [intOf]; omega
                · have hk1 : ¬ (k : Int) < 32 := by omega
                  have hkk : k = 32 := by omega
                  subst hkk
                  go_wp2
                  go_ret
                  exact ⟨rfl, hB8⟩
        · go_wp2_with fail
          have G2 := ((Holds.byteSet HG.out L (over (fun _ => 0) 0 (firstB Bf L) L ^^^ 1)).byteSet 135 (over (fun _ => 0) 0 (firstB Bf L) 135 ^^^ 128)).congr (bytesA_congr (C := lastB M) fun j _ => by
            rw [← lastB_eq M Bf L HML.out H3.out j, if_neg (c := 135 = L) (fun q => hl q.symm)])
          have o2 := ((Only.refl b wr).set L (.int .u8 (oct (over (fun _ => 0) 0 (firstB Bf L) L ^^^ 1)))).set 135 (.int .u8 (oct (over (fun _ => 0) 0 (firstB Bf L) 135 ^^^ 128)))
          have z2 : ((wr.setCell ⟨b, L, none⟩ (.int .u8 (oct (over (fun _ => 0) 0 (firstB Bf L) L ^^^ 1)))).setCell ⟨b, 135, none⟩ (.int .u8 (oct (over (fun _ => 0) 0 (firstB Bf L) 135 ^^^ 128)))).heap.size = b + 1 := by rw [World.size_setCell, World.size_setCell]; exact hsz2
          rw [oct_xor1, oct_xor128]
          generalize (wr.setCell ⟨b, L, none⟩ (.int .u8 (oct (over (fun _ => 0) 0 (firstB Bf L) L ^^^ 1)))).setCell ⟨b, 135, none⟩ (.int .u8 (oct (over (fun _ => 0) 0 (firstB Bf L) 135 ^^^ 128))) = w2 at G2 o2 z2 ⊢
          have hB2 : Below w.heap.size w w2 := Only.fresh hB o2 hbw
          have hT2 : Tabs w2 := hTr.only (by have := hT.size; omega) o2
          have HZ2 : Hid (w2.heap.size = b + 1) := z2
          clear hcm hce hf HG H3 o2 hTr hB hBb z2 hsz2 HML
          go_loopw [7] (fun y w3 => ∃ k : Nat, k ≤ 136 ∧ y = .int .i64 k ∧ Below w.heap.size w w3 ∧ Below w2.heap.size w2 w3 ∧ Holds w3 (b + 1) 23 (lanesA (fillUp (lastB M) k))) (fun y _ => 136 - (intOf y).toNat)
          case atStart =>
            refine ⟨0, by omega, rfl, hB2.alloc hB2.size _, (Below.refl _ _).alloc (Nat.le_refl _) _, ?_⟩
            have h := Holds.new w2 23 (lanesA fun _ => 0)
            rw [HZ2.out] at h
            exact h.congr (lanesA_congr fun j _ => by rw [fill_none])
          case round =>
            obtain ⟨k, hk, rfl, hB3, hBB3, h3⟩ := hrel
            have g3 := Below.holds hBB3 G2
            by_cases hlt : k < 136
            · have hk1 : (k : Int) < 136 := by omega
              have ca := h3.laneAt (k / 8) (by omega)
              rw [fill_old] at ca
              have cb := g3.byteCell k hlt
              have hf := h3.frozen
              obtain ⟨c, hc⟩ : ∃ c, lastB M k = c := ⟨_, rfl⟩
              have hstep := fill_step (lastB M) (b + 1) 23 wr.drew k hlt h3.drew
              rw [hc] at cb hstep
              have c0 := oct_nn c
              have c1 := oct_le c
              have hbb : b + 1 ≠ b := by omega
              have HST : Hid _ := hstep
              have HB3 : Hid (Below w.heap.size w wr) := hB3
              have HBB3 : Hid (Below w2.heap.size w2 wr) := hBB3
              clear hc hstep h3 g3 hB3 hBB3
              go_wp2_with fail
              refine wp_region_qtail 17 mixed (by kernel_rfl) ?_
              simp only [List.take_succ_cons, List.take_zero, List.drop_succ_cons, List.drop_zero]
              repeat (go_big_quiet_step (fail))
              refine wpQuiet_nil ?_
              go_wp2
              go_roundw
              case rel =>
                have e : bits BinOp.or IntKind.u64 (lane (laneUp (lastB M) (k / 8) (k % 8))) (IntKind.u64.wrap (oct c * 2 ^ (8 * (k % 8)))) = lane (laneUp (lastB M) (k / 8) (k % 8) ||| wide c <<< (8 * (k % 8))) := by
                  rw [oct_wide, lane_shl, lane_or]
                rw [e]
                exact ⟨k + 1, by omega, rfl, Below.setCell (Below.drew HB3.out) (by show _ ≤ b + 1; omega) _, Below.setCell (Below.drew HBB3.out) (by rw [HZ2.out]; exact Nat.le_refl _) _, HST.out⟩
              case measure => simp [intOf]; omega
            · have hk1 : ¬ (k : Int) < 136 := by omega
              have hkk : k = 136 := by omega
              subst hkk
              have h4 : Holds wr (b + 1) 23 (lanesA (mixUp (fun _ => 0) (lastB M) 17)) := h3.congr (lanesA_congr fun j _ => fill_all _ j)
              have hT3 := hT2.below hBB3
              clear h3 g3 hBB3 hk G2 hT2 hB2
              go_wp2_with (first
                | (refine wpList_loadH rfl 23 _ rfl (b + 1) rfl 23 (lanesA (mixUp (fun _ => 0) (lastB M) 17)) _ h4 Tryd.underlying23 rfl (by rw [lanesA_size]; exact info25) ?_)
                | fail)
              refine (permute_any _ _ hT3).mono ?_
              rintro e w4 ⟨rfl, hB4⟩
              have h5 := Below.holds hB4 h4
              have hT4 := hT3.below hB4
              have hBB4 := hB3.trans (hB4.mono hB3.size)
              have hin : (Tryd.prog.info? 23).map (·.size) = some (lanesA (perm (mixUp (fun _ => 0) (lastB M) 17))).size := by rw [lanesA_size]; exact info25
              have hzs : (lanesA (mixUp (fun _ => 0) (lastB M) 17)).size = (lanesA (perm (mixUp (fun _ => 0) (lastB M) 17))).size := by rw [lanesA_size, lanesA_size]
              have hon := lanesA_one (perm (mixUp (fun _ => 0) (lastB M) 17))
              generalize hcz : lanesA (perm (mixUp (fun _ => 0) (lastB M) 17)) = cz at hin hzs hon ⊢
              have HCZ : Hid (lanesA (perm (mixUp (fun _ => 0) (lastB M) 17)) = cz) := hcz
              clear hcz h4 hT3 hB3 hB4
              dsimp only
              go_wp2_with (first
                | (refine wpList_storeH rfl 23 _ _ rfl (b + 1) cz rfl rfl 23 _ h5 hin hzs hon ?_
                   intro w5 g5 o5 z5
                   have hT5 := hT4.only (b := b + 1) (by have := hT.size; omega) o5
                   have hBB5 : Below w.heap.size w w5 := Only.fresh hBB4 o5 (by omega)
                   clear hBB4 hT4 h5 z5 o5)
                | fail)
              have hyb : (cat [X]).length < 4611686018427387904 := by rw [cat_one, ← HMX.out]; have := HMS.out; omega
              refine (sumParts_any _ [X] _ (texts_one w5 _ rfl X) (hT5.below ((Below.refl _ _).alloc (Nat.le_refl _) _)) hyb (by simp)).mono ?_
              rintro e w6 ⟨rfl, hB6⟩
              have hB6' : Below w5.heap.size w5 w6 := ((Below.refl _ _).alloc (Nat.le_refl _) _).trans (hB6.mono (by simp))
              have g6 := Below.holds hB6' g5
              have hBB6 := hBB5.trans (hB6'.mono hBB5.size)
              rw [cat_one, ← HMX.out]
              have hin2 : (Tryd.prog.info? 27).map (·.size) = some (bytesA 32 (hashOf M)).size := by rw [bytesA_size]; exact info32
              have hzs2 : (bytesA 32 (fun _ => 0)).size = (bytesA 32 (hashOf M)).size := by rw [bytesA_size, bytesA_size]
              have hon2 := bytesA_one 32 (hashOf M)
              generalize hcs : bytesA 32 (hashOf M) = cs at hin2 hzs2 hon2 ⊢
              have HCS : Hid (bytesA 32 (hashOf M) = cs) := hcs
              clear hcs hB6 hB6' g5 hBB5 hT5 hyb hin hzs hon
              dsimp only
              go_wp2_with (first
                | (refine wpList_storeH rfl 27 _ _ rfl w6.heap.size cs rfl rfl 27 (bytesA 32 (fun _ => 0)) (Holds.new _ _ _) hin2 hzs2 hon2 ?_
                   intro w7 g7 o7 z7)
                | fail)
              have hB7 : Below w6.heap.size w6 w7 := Only.fresh ((Below.refl _ _).alloc (Nat.le_refl _) _) o7 (Nat.le_refl _)
              have h7 := Below.holds hB7 g6
              have hBB7 := hBB6.trans (hB7.mono hBB6.size)
              rw [← HCZ.out] at h7
              rw [← HCS.out] at g7
              obtain ⟨r, hr⟩ : ∃ r, r = w6.heap.size := ⟨_, rfl⟩
              rw [← hr] at g7 ⊢
              have HSH : Hid (∀ i, hashOf M i = byteAt (perm (mixUp (fun _ => 0) (lastB M) 17)) i) := fun i => by rw [hash_short M HMS.out]; rfl
              generalize perm (mixUp (fun _ => 0) (lastB M) 17) = Z at h7 HSH
              clear hr o7 z7 hB7 g6 hBB6 hin2 hzs2 hon2 HCZ HCS
              go_loopw [9] (fun y w8 => ∃ k : Nat, k ≤ 32 ∧ y = .int .i64 k ∧ Below w.heap.size w w8 ∧ Holds w8 (b + 1) 23 (lanesA Z) ∧ Holds w8 r 27 (bytesA 32 (hashOf M))) (fun y _ => 32 - (intOf y).toNat)
              case atStart => exact ⟨0, by omega, rfl, hBB7, h7, g7⟩
              case round =>
                clear hBB7 h7 g7
                obtain ⟨k, hk, rfl, hB8, h8, g8⟩ := hrel
                by_cases hlt : k < 32
                · have hk1 : (k : Int) < 32 := by omega
                  have ca := h8.laneAt (k / 8) (by omega)
                  have cb := g8.byteCell k hlt
                  rw [HSH.out k] at cb
                  have heq := byteAt_mod Z k
                  have hl0 := lane_nn (Z (k / 8))
                  have hl1 := lane_lt (Z (k / 8))
                  have HH8 : Hid (Holds wr (b + 1) 23 (lanesA Z)) := h8
                  have HG8 : Hid (Holds wr r 27 (bytesA 32 (hashOf M))) := g8
                  clear h8 g8
                  go_wp2_with fail
                  go_quiet (fail)
                  go_wp2
                  go_roundw
                  case rel => exact ⟨k + 1, by omega, rfl, Below.drewNB hB8 _, Holds.drewN HH8.out _, Holds.drewN HG8.out _⟩
                  case measure => simp [intOf]; omega
                · have hk1 : ¬ (k : Int) < 32 := by omega
                  have hkk : k = 32 := by omega
                  subst hkk
                  go_wp2
                  go_ret
                  exact ⟨rfl, hB8⟩

end Go.Proofs.YtooednielegmnaaDoor
