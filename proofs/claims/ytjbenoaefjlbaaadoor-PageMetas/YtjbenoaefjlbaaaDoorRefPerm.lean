/-
  What the call of the document's Permute does.
-/
import Derived.Test.YtjbenoaefjlbaaaDoorRefCon
import Derived.Test.YtjbenoaefjlbaaaDoorGrid
import Derived.Test.YtjbenoaefjlbaaaDoorQTail
import Derived.Test.YtjbenoaefjlbaaaDoorQuiet
namespace Go.Proofs.YtjbenoaefjlbaaaDoor
open Go.RowKit

theorem mixedP : Tryd.prog.follows .mixedOrders = true := by kernel_rfl
theorem refRot_one (x : BitVec 64) (w : World) :
    Calls Tryd.prog 46 #[.int .u64 (lane x), .int .i64 1] w fun e w' => e = .returned (.int .u64 (lane (rotl x 1))) ∧ w' = w :=
  refRot_any x 1 w (by omega)

set_option maxRecDepth 8000 in
set_option maxHeartbeats 4000000 in
theorem refPermute_any (s : Nat → BitVec 64) (w : World) :
    Calls Tryd.prog 36 #[.agg (lanesA s)] w fun e w' => e = .returned (.agg (lanesA (perm s))) ∧ Below w.heap.size w w' := by
  go_enter Tryd.func36, Tryd.ntmps36
  go_wp2_with fail
  obtain ⟨w0, hw0⟩ : ∃ w0, w0 = (w.alloc (.cells (lanesA s) 56)).alloc (.cells (lanesA fun _ => 0) 56) := ⟨_, rfl⟩
  obtain ⟨n, hn⟩ : ∃ n, n = w.heap.size := ⟨_, rfl⟩
  have hB0 : Below w.heap.size w w0 := by rw [hw0]; exact ((Below.refl _ _).alloc (Nat.le_refl _) _).alloc (by simp) _
  have ga0 : Holds w0 n 56 (lanesA s) := by rw [hw0, hn]; exact (Holds.new w 56 (lanesA s)).alloc _
  have gr0 : Holds w0 (n + 1) 56 (lanesA fun _ => 0) := by
    have h := Holds.new (w.alloc (.cells (lanesA s) 56)) 56 (lanesA fun _ => 0)
    rw [World.size_alloc, ← hn, ← hw0] at h
    exact h
  change Calls _ _ _ ((w.alloc (.cells (lanesA s) 56)).alloc (.cells (lanesA fun _ => 0) 56)) _
  rw [← hw0, ← hn]
  have HN : Hid (n = w.heap.size) := hn
  clear hw0 hn
  refine (refOffsets_any w0).mono ?_
  rintro e w1 ⟨rfl, hB1⟩
  have ga1 := Below.holds hB1 ga0
  have gr1 := Below.holds hB1 gr0
  have hBB1 := hB0.trans (hB1.mono hB0.size)
  have hin : (Tryd.prog.info? 85).map (·.size) = some (intsA 25 offs).size := by rw [intsA_size]; exact info46
  have hzs : (intsA 25 fun _ => 0).size = (intsA 25 offs).size := by rw [intsA_size, intsA_size]
  have hon := intsA_one 25 offs
  generalize hcs : intsA 25 offs = cs at hin hzs hon ⊢
  have HCS : Hid (intsA 25 offs = cs) := hcs
  clear hcs hB1 ga0 gr0 hB0
  dsimp only
  go_wp2_with (first
    | (refine wpList_storeH rfl 85 _ _ rfl w1.heap.size cs rfl rfl 85 (intsA 25 fun _ => 0) (Holds.new _ _ _) hin hzs hon ?_
       intro w2 go2 oo2 zz2)
    | fail)
  have hB2 : Below w1.heap.size w1 w2 := Only.fresh ((Below.refl _ _).alloc (Nat.le_refl _) _) oo2 (Nat.le_refl _)
  have ga2 := Below.holds hB2 ga1
  have gr2 := Below.holds hB2 gr1
  have hBB2 := hBB1.trans (hB2.mono hBB1.size)
  obtain ⟨p, hp⟩ : ∃ p, p = w1.heap.size := ⟨_, rfl⟩
  have hnp : n + 1 < p := by rw [hp]; exact gr1.lt
  rw [← hp] at go2 ⊢
  rw [← HCS.out] at go2
  clear hp hB2 zz2 oo2 ga1 gr1 hBB1 hin hzs hon HCS
  refine (refConstants_any w2).mono ?_
  rintro e w3 ⟨rfl, hB3⟩
  have ga3 := Below.holds hB3 ga2
  have gr3 := Below.holds hB3 gr2
  have go3 := Below.holds hB3 go2
  have hBB3 := hBB2.trans (hB3.mono hBB2.size)
  have hin : (Tryd.prog.info? 87).map (·.size) = some (lanes24 rcs).size := by rw [lanes24_size]; exact info24
  have hzs : (lanes24 fun _ => 0).size = (lanes24 rcs).size := by rw [lanes24_size, lanes24_size]
  have hon := lanes24_one rcs
  generalize hcs : lanes24 rcs = cs2 at hin hzs hon ⊢
  have HCS : Hid (lanes24 rcs = cs2) := hcs
  clear hcs hB3 ga2 gr2 go2 hBB2
  dsimp only
  go_wp2_with (first
    | (refine wpList_storeH rfl 87 _ _ rfl w3.heap.size cs2 rfl rfl 87 (lanes24 fun _ => 0) (Holds.new _ _ _) hin hzs hon ?_
       intro w4 gc4 oo4 zz4)
    | fail)
  have hB4 : Below w3.heap.size w3 w4 := Only.fresh ((Below.refl _ _).alloc (Nat.le_refl _) _) oo4 (Nat.le_refl _)
  have ga4 := Below.holds hB4 ga3
  have gr4 := Below.holds hB4 gr3
  have go4 := Below.holds hB4 go3
  have hBB4 := hBB3.trans (hB4.mono hBB3.size)
  obtain ⟨q, hq⟩ : ∃ q, q = w3.heap.size := ⟨_, rfl⟩
  have hpq : p < q := by rw [hq]; exact go3.lt
  rw [← hq] at gc4 ⊢
  rw [← HCS.out] at gc4
  clear hq hB4 zz4 oo4 ga3 gr3 go3 hBB3 hin hzs hon HCS
  go_loopw [5] (fun y wr => ∃ k : Nat, k ≤ 24 ∧ y = .int .i64 k ∧ Below w.heap.size w wr ∧ Holds wr n 56 (lanesA (rounds k s)) ∧ (∃ g, Holds wr (n + 1) 56 (lanesA g)) ∧ Holds wr p 85 (intsA 25 offs) ∧ Holds wr q 87 (lanes24 rcs)) (fun y _ => 24 - (intOf y).toNat)
  case atStart => exact ⟨0, by omega, rfl, hBB4, ga4, ⟨_, gr4⟩, go4, gc4⟩
  case round =>
    clear hBB4 ga4 gr4 go4 gc4
    obtain ⟨k, hk, rfl, hB, ha, ⟨g, hg⟩, ho, hc⟩ := hrel
    by_cases hlt : k < 24
    · have hk1 : (k : Int) < 24 := by omega
      obtain ⟨S, hS⟩ : ∃ S, S = rounds k s := ⟨_, rfl⟩
      rw [← hS] at ha
      have HS : Hid (S = rounds k s) := hS
      have hnl := ha.lt
      have hpl := ho.lt
      have hql := hc.lt
      clear hS
      go_wp2_with fail
      obtain ⟨m, hm⟩ : ∃ m, m = wr.heap.size := ⟨_, rfl⟩
      obtain ⟨wa, hwa⟩ : ∃ wa, wa = wr.alloc (.cells (lanes5 fun _ => 0) 89) := ⟨_, rfl⟩
      have hBa : Below wr.heap.size wr wa := by rw [hwa]; exact (Below.refl _ _).alloc (Nat.le_refl _) _
      have gm : Holds wa m 89 (lanes5 fun _ => 0) := by rw [hwa, hm]; exact Holds.new _ _ _
      have gaA := Below.holds hBa ha
      have grA := Below.holds hBa hg
      have goA := Below.holds hBa ho
      have gcA := Below.holds hBa hc
      have hBA := hB.trans (hBa.mono hB.size)
      change Code.wp _ _ _ _ (wr.alloc (.cells (lanes5 fun _ => 0) 89))
      rw [← hwa, ← hm]
      rw [← hm] at hnl hpl hql
      have hnw : w.heap.size ≤ n := Nat.le_of_eq HN.out.symm
      clear hwa hm hBa ha hg ho hc hB
      go_loopw [7] (fun y w2 => ∃ x : Nat, x ≤ 5 ∧ y = .int .i64 x ∧ Only m wa w2 ∧ Holds w2 m 89 (lanes5 fun i => if i < x then par S i else 0)) (fun y _ => 5 - (intOf y).toNat)
      case atStart => exact ⟨0, by omega, rfl, Only.refl _ _, gm.congr (lanes5_congr fun i _ => by simp)⟩
      case round =>
        clear gm
        obtain ⟨x, hx, rfl, o2, hm2⟩ := hrel
        by_cases hx5 : x < 5
        · have hxi : (x : Int) < 5 := by omega
          have hA2 := o2.holds gaA (by omega)
          have c0 := hA2.laneAt x (by omega)
          have c1 := hA2.laneAt (x + 5) (by omega)
          have c2 := hA2.laneAt (x + 10) (by omega)
          have c3 := hA2.laneAt (x + 15) (by omega)
          have c4 := hA2.laneAt (x + 20) (by omega)
          have cm := hm2.cell x
          rw [lanes5_get _ _ hx5] at cm
          have hf := hm2.frozen
          have hmn : m ≠ n := by omega
          have bx0 : (0 : Int) ≤ x := by omega
          have bx1 : (x : Int) + 5 < 25 := by omega
          have bx2 : (x : Int) + 10 < 25 := by omega
          have bx3 : (x : Int) + 15 < 25 := by omega
          have bx4 : (x : Int) + 20 < 25 := by omega
          have HM2 : Hid _ := hm2
          clear hA2 hm2
          go_wp2
          refine wp_region_qtail 25 mixedP (by kernel_rfl) ?_
          simp only [List.take_succ_cons, List.take_zero, List.drop_succ_cons, List.drop_zero]
          repeat (go_big_quiet_step (fail))
          refine wpQuiet_nil ?_
          go_wp2
          go_roundw
          case rel =>
            simp only [lane_xor]
            exact ⟨x + 1, by omega, rfl, (o2.set _ _).drew, Holds.drew (par_step S m 89 _ x HM2.out)⟩
          case measure => simp [intOf]; omega
        · have hxi : ¬ (x : Int) < 5 := by omega
          have hxx : x = 5 := by omega
          subst hxx
          go_wp2_with fail
          have hm3 : Holds wr m 89 (lanes5 (par S)) := hm2.congr (lanes5_congr fun i hi => by simp [hi])
          have ga3 := o2.holds gaA (by omega)
          have gr3 := o2.holds grA (by omega)
          have go3 := o2.holds goA (by omega)
          have gc3 := o2.holds gcA (by omega)
          have hB3 : Below w.heap.size w wr := Only.fresh hBA o2 (by omega)
          obtain ⟨wb, hwb⟩ : ∃ wb, wb = wr := ⟨_, rfl⟩
          rw [← hwb] at hm3 ga3 gr3 go3 gc3 hB3 ⊢
          clear hwb hm2 o2 gaA grA goA gcA hBA hx
          go_loopw [8] (fun y w3 => ∃ x : Nat, x ≤ 5 ∧ y = .int .i64 x ∧ Only n wb w3 ∧ Holds w3 n 56 (lanesA fun i => if doneB x 0 i then theta S i else S i)) (fun y _ => 5 - (intOf y).toNat)
          case atStart => exact ⟨0, by omega, rfl, Only.refl _ _, ga3.congr (lanesA_congr fun i _ => by simp [done_none])⟩
          case round =>
            clear ga3
            obtain ⟨x, hx, rfl, o4, h4⟩ := hrel
            by_cases hx5 : x < 5
            · have hxi : (x : Int) < 5 := by omega
              have hm4 := o4.holds hm3 (by omega)
              obtain ⟨x4, hx4⟩ : ∃ x4, x4 = (x + 4) % 5 := ⟨_, rfl⟩
              obtain ⟨x1, hx1⟩ : ∃ x1, x1 = (x + 1) % 5 := ⟨_, rfl⟩
              have e4 : ((x : Int) + 4) % 5 = (x4 : Int) := by omega
              have e1 : ((x : Int) + 1) % 5 = (x1 : Int) := by omega
              have l4 : (x4 : Int) < 5 := by omega
              have l1 : (x1 : Int) < 5 := by omega
              have c4 := hm4.cell x4
              rw [lanes5_get _ _ (by omega)] at c4
              have c1 := hm4.cell x1
              rw [lanes5_get _ _ (by omega)] at c1
              have HD : Hid (par S x4 ^^^ rotl (par S x1) 1 = dif S x) := by rw [hx4, hx1]; rfl
              clear hx4 hx1 hm4
              go_wp2_with fail
              go_quiet ((go_at_call 46; exact Calls.quiet_of_same (refRot_one _ _)))
              go_wp2_with fail
              rw [lane_xor, HD.out]
              clear c4 c1 e4 e1 l4 l1 HD
              have o4q := o4.drewN nq
              have h4q := h4.drewN nq
              clear o4 h4
              go_loopw [10] (fun y w4 => ∃ yy : Nat, yy ≤ 5 ∧ y = .int .i64 yy ∧ Only n wb w4 ∧ Holds w4 n 56 (lanesA fun i => if doneB x yy i then theta S i else S i)) (fun y _ => 5 - (intOf y).toNat)
              case atStart => exact ⟨0, by omega, rfl, o4q, h4q⟩
              case round =>
                clear o4q h4q
                obtain ⟨y, hy, rfl, o5, h5⟩ := hrel
                by_cases hy5 : y < 5
                · have hyi : (y : Int) < 5 := by omega
                  have cc := h5.laneAt (x + 5 * y) (by omega)
                  rw [done_not x y hx5, if_neg (by simp)] at cc
                  have hf := h5.frozen
                  have H5 : Hid (Holds wr n 56 (lanesA fun i => if doneB x y i then theta S i else S i)) := h5
                  clear h5
                  go_wp2
                  go_roundw
                  case rel =>
                    rw [lane_xor]
                    exact ⟨y + 1, by omega, rfl, o5.set _ _, grid_step (theta S) S n 56 _ x y hx5 hy5 H5.out _ (theta_xy S x y hx5)⟩
                  case measure => simp [intOf]; omega
                · have hyi : ¬ (y : Int) < 5 := by omega
                  have hyy : y = 5 := by omega
                  subst hyy
                  have h6 : Holds wr n 56 (lanesA fun i => if doneB (x + 1) 0 i then theta S i else S i) := h5.congr (lanesA_congr fun i hi => by rw [done_col x i hi])
                  clear h5 hy
                  go_wp2
                  go_roundw
                  case rel => exact ⟨x + 1, by omega, rfl, o5, h6⟩
                  case measure => simp [intOf]; omega
            · have hxi : ¬ (x : Int) < 5 := by omega
              have hxx : x = 5 := by omega
              subst hxx
              obtain ⟨T, hT⟩ : ∃ T, T = theta S := ⟨_, rfl⟩
              have gt : Holds wr n 56 (lanesA T) := h4.congr (lanesA_congr fun i _ => by rw [done_all, hT]; rfl)
              have HT : Hid (T = theta S) := hT
              have gr4 := o4.holds gr3 (by omega)
              have go4 := o4.holds go3 (by omega)
              have gc4 := o4.holds gc3 (by omega)
              have hB4 : Below w.heap.size w wr := Only.fresh hB3 o4 (by omega)
              clear hT h4 o4 gr3 go3 gc3 hB3 hm3 hx
              go_wp2_with fail
              obtain ⟨b, hb⟩ : ∃ b, b = wr.heap.size := ⟨_, rfl⟩
              obtain ⟨wd, hwd⟩ : ∃ wd, wd = wr.alloc (.cells (lanesA fun _ => 0) 56) := ⟨_, rfl⟩
              have hBd : Below wr.heap.size wr wd := by rw [hwd]; exact (Below.refl _ _).alloc (Nat.le_refl _) _
              have gb : Holds wd b 56 (lanesA fun _ => 0) := by rw [hwd, hb]; exact Holds.new _ _ _
              have gaD := Below.holds hBd gt
              have grD := Below.holds hBd gr4
              have goD := Below.holds hBd go4
              have gcD := Below.holds hBd gc4
              have hBD := hB4.trans (hBd.mono hB4.size)
              have hnb : n < b := by rw [hb]; exact gt.lt
              have hrb : n + 1 < b := by rw [hb]; exact gr4.lt
              have hpb : p < b := by rw [hb]; exact go4.lt
              have hqb : q < b := by rw [hb]; exact gc4.lt
              change Code.wp _ _ _ _ (wr.alloc (.cells (lanesA fun _ => 0) 56))
              rw [← hwd, ← hb]
              clear hwd hb hBd gt gr4 go4 gc4 hB4 hnl hpl hql
              go_loopw [12] (fun y w5 => ∃ x : Nat, x ≤ 5 ∧ y = .int .i64 x ∧ Only b wd w5 ∧ Holds w5 b 56 (lanesA fun j => if doneB x 0 (srcs j) then rhopi T j else 0)) (fun y _ => 5 - (intOf y).toNat)
              case atStart => exact ⟨0, by omega, rfl, Only.refl _ _, gb.congr (lanesA_congr fun i _ => by simp [done_none])⟩
              case round =>
                clear gb
                obtain ⟨x, hx, rfl, o5, h5⟩ := hrel
                by_cases hx5 : x < 5
                · have hxi : (x : Int) < 5 := by omega
                  go_wp2_with fail
                  go_loopw [13] (fun y w6 => ∃ yy : Nat, yy ≤ 5 ∧ y = .int .i64 yy ∧ Only b wd w6 ∧ Holds w6 b 56 (lanesA fun j => if doneB x yy (srcs j) then rhopi T j else 0)) (fun y _ => 5 - (intOf y).toNat)
                  case atStart => exact ⟨0, by omega, rfl, o5, h5⟩
                  case round =>
                    clear o5 h5
                    obtain ⟨y, hy, rfl, o6, h6⟩ := hrel
                    by_cases hy5 : y < 5
                    · have hyi : (y : Int) < 5 := by omega
                      have hstep := pi_step T (fun _ => 0) b 56 wr.drew x y hx5 hy5 h6.drew
                      have cc := (o6.holds gaD (by omega)).laneAt (x + 5 * y) (by omega)
                      have co := (o6.holds goD (by omega)).cell (x + 5 * y)
                      rw [intsA_get 25 _ _ (by omega)] at co
                      have HOL : Hid (offs (x + 5 * y) < 64) := offs_lt _ (by omega)
                      obtain ⟨z, hz⟩ : ∃ z, z = (2 * x + 3 * y) % 5 := ⟨_, rfl⟩
                      rw [← hz] at hstep
                      have ez : (2 * (x : Int) + 3 * (y : Int)) % 5 = (z : Int) := by omega
                      have hz5 : (z : Int) < 5 := by omega
                      have cb := h6.laneAt (y + 5 * z) (by omega)
                      have hf := h6.frozen
                      have HST : Hid _ := hstep
                      clear hz h6 hstep
                      go_wp2_with fail
                      refine wp_region_qtail 23 mixedP (by kernel_rfl) ?_
                      simp only [List.take_succ_cons, List.take_zero, List.drop_succ_cons, List.drop_zero]
                      repeat (go_big_quiet_step (fail))
                      refine wpQ_call rfl 46 #[.int .u64 (lane (T (x + 5 * y))), .int .i64 ((offs (x + 5 * y) : Nat) : Int)] (fun _ => by go_simp) (.int .u64 (lane (rotl (T (x + 5 * y)) (offs (x + 5 * y))))) (fun w7 h7 => (refRot_any _ _ w7 HOL.out).mono fun e w8 ⟨he, h8⟩ => ⟨he, h8.trans h7⟩) ?_
                      simp only [Act.put, List.setIfInBounds_toArray, List.set_cons_succ, List.set_cons_zero]
                      repeat (go_big_quiet_step (fail))
                      refine wpQuiet_nil ?_
                      go_wp2
                      go_roundw
                      case rel => exact ⟨y + 1, by omega, rfl, (o6.drew.set _ _), HST.out⟩
                      case measure => simp [intOf]; omega
                    · have hyi : ¬ (y : Int) < 5 := by omega
                      have hyy : y = 5 := by omega
                      subst hyy
                      have h7 : Holds wr b 56 (lanesA fun j => if doneB (x + 1) 0 (srcs j) then rhopi T j else 0) := h6.congr (lanesA_congr fun j hj => by rw [done_col x _ (srcs_lt j hj)])
                      clear h6 hy
                      go_wp2
                      go_roundw
                      case rel => exact ⟨x + 1, by omega, rfl, o6, h7⟩
                      case measure => simp [intOf]; omega
                · have hxi : ¬ (x : Int) < 5 := by omega
                  have hxx : x = 5 := by omega
                  subst hxx
                  obtain ⟨R, hR⟩ : ∃ R, R = rhopi T := ⟨_, rfl⟩
                  have gbR : Holds wr b 56 (lanesA R) := h5.congr (lanesA_congr fun i _ => by rw [done_all, hR]; rfl)
                  have HR : Hid (R = rhopi T) := hR
                  have ga5 := o5.holds gaD (by omega)
                  have gr5 := o5.holds grD (by omega)
                  have go5 := o5.holds goD (by omega)
                  have gc5 := o5.holds gcD (by omega)
                  have hB5 : Below w.heap.size w wr := Only.fresh hBD o5 (by omega)
                  clear hR h5 o5 gaD grD goD gcD hBD hx
                  go_wp2_with fail
                  obtain ⟨we, hwe⟩ : ∃ we, we = wr := ⟨_, rfl⟩
                  rw [← hwe] at gbR ga5 gr5 go5 gc5 hB5 ⊢
                  clear hwe
                  go_loopw [14] (fun y w5 => ∃ x : Nat, x ≤ 5 ∧ y = .int .i64 x ∧ Only n we w5 ∧ Holds w5 n 56 (lanesA fun i => if doneB x 0 i then chi R i else T i)) (fun y _ => 5 - (intOf y).toNat)
                  case atStart => exact ⟨0, by omega, rfl, Only.refl _ _, ga5.congr (lanesA_congr fun i _ => by simp [done_none])⟩
                  case round =>
                    clear ga5
                    obtain ⟨x, hx, rfl, o5, h5⟩ := hrel
                    by_cases hx5 : x < 5
                    · have hxi : (x : Int) < 5 := by omega
                      go_wp2_with fail
                      go_loopw [15] (fun y w6 => ∃ yy : Nat, yy ≤ 5 ∧ y = .int .i64 yy ∧ Only n we w6 ∧ Holds w6 n 56 (lanesA fun i => if doneB x yy i then chi R i else T i)) (fun y _ => 5 - (intOf y).toNat)
                      case atStart => exact ⟨0, by omega, rfl, o5, h5⟩
                      case round =>
                        clear o5 h5
                        obtain ⟨y, hy, rfl, o6, h6⟩ := hrel
                        by_cases hy5 : y < 5
                        · have hyi : (y : Int) < 5 := by omega
                          have hb6 := o6.holds gbR (by omega)
                          obtain ⟨x1, hx1⟩ : ∃ x1, x1 = (x + 1) % 5 := ⟨_, rfl⟩
                          obtain ⟨x2, hx2⟩ : ∃ x2, x2 = (x + 2) % 5 := ⟨_, rfl⟩
                          have e1 : ((x : Int) + 1) % 5 = (x1 : Int) := by omega
                          have e2 : ((x : Int) + 2) % 5 = (x2 : Int) := by omega
                          have l1 : (x1 : Int) < 5 := by omega
                          have l2 : (x2 : Int) < 5 := by omega
                          have c0 := hb6.laneAt (x + 5 * y) (by omega)
                          have c1 := hb6.laneAt (x1 + 5 * y) (by omega)
                          have c2 := hb6.laneAt (x2 + 5 * y) (by omega)
                          have cn := h6.laneAt (x + 5 * y) (by omega)
                          have HC : Hid (R (x + 5 * y) ^^^ (~~~ R (x1 + 5 * y) &&& R (x2 + 5 * y)) = chi R (x + 5 * y)) := by rw [hx1, hx2]; exact chi_xy R x y hx5
                          have hf := h6.frozen
                          have H6 : Hid (Holds wr n 56 (lanesA fun i => if doneB x y i then chi R i else T i)) := h6
                          clear hx1 hx2 hb6 h6
                          go_wp2_with fail
                          refine wp_region_qtail 30 mixedP (by kernel_rfl) ?_
                          simp only [List.take_succ_cons, List.take_zero, List.drop_succ_cons, List.drop_zero]
                          repeat (go_big_quiet_step (fail))
                          refine wpQuiet_nil ?_
                          go_wp2
                          go_roundw
                          case rel =>
                            simp only [lane_notK, lane_and, lane_xor]
                            exact ⟨y + 1, by omega, rfl, (o6.drew.set _ _), grid_step (chi R) T n 56 _ x y hx5 hy5 (Holds.drew H6.out) _ HC.out⟩
                          case measure => simp [intOf]; omega
                        · have hyi : ¬ (y : Int) < 5 := by omega
                          have hyy : y = 5 := by omega
                          subst hyy
                          have h7 : Holds wr n 56 (lanesA fun i => if doneB (x + 1) 0 i then chi R i else T i) := h6.congr (lanesA_congr fun i hi => by rw [done_col x i hi])
                          clear h6 hy
                          go_wp2
                          go_roundw
                          case rel => exact ⟨x + 1, by omega, rfl, o6, h7⟩
                          case measure => simp [intOf]; omega
                    · have hxi : ¬ (x : Int) < 5 := by omega
                      have hxx : x = 5 := by omega
                      subst hxx
                      have gz : Holds wr n 56 (lanesA (chi R)) := h5.congr (lanesA_congr fun i _ => by rw [done_all]; rfl)
                      have gr6 := o5.holds gr5 (by omega)
                      have go6 := o5.holds go5 (by omega)
                      have gc6 := o5.holds gc5 (by omega)
                      have hB6 : Below w.heap.size w wr := Only.fresh hB5 o5 hnw
                      have cr := gc6.cell k
                      rw [lanes24_get _ _ hlt] at cr
                      have c0 := gz.laneAt 0 (by omega)
                      have hf := gz.frozen
                      have hnq : n ≠ q := by omega
                      have HZ : Hid (Holds wr n 56 (lanesA (chi R))) := gz
                      clear h5 o5 gr5 go5 gc5 hB5 gbR hx gz
                      go_wp2_with fail
                      go_region
                      go_wp2
                      go_roundw
                      case rel =>
                        rw [lane_xor]
                        refine ⟨k + 1, by omega, rfl, Only.fresh hB6 ((Only.refl _ _).set 0 _).drew hnw, ?_, ⟨g, Holds.drew (Holds.other gr6 _ _ (by simp))⟩, Holds.drew (Holds.other go6 _ _ (by simp; omega)), Holds.drew (Holds.other gc6 _ _ (by simp; omega))⟩
                        have e : rounds (k + 1) s = iota k (chi R) := by rw [HR.out, HT.out, HS.out]; rfl
                        rw [e]
                        exact Holds.drew ((Holds.set HZ.out 0 _).congr (lanesA_iota k _))
                      case measure => simp [intOf]; omega
    · have hk1 : ¬ (k : Int) < 24 := by omega
      have hkk : k = 24 := by omega
      subst hkk
      have hin : (Tryd.prog.info? 56).map (·.size) = some (lanesA (rounds 24 s)).size := by rw [lanesA_size]; exact info25
      have hzs : (lanesA g).size = (lanesA (rounds 24 s)).size := by rw [lanesA_size, lanesA_size]
      have hon := lanesA_one (rounds 24 s)
      generalize hcz : lanesA (rounds 24 s) = cz at hin hzs hon ha
      have HCZ : Hid (lanesA (rounds 24 s) = cz) := hcz
      clear hcz
      go_wp2_with (first
        | (refine wpList_loadH rfl 56 _ rfl n rfl 56 cz _ ha Tryd.underlying56 rfl hin ?_)
        | (refine wpList_storeH rfl 56 _ _ rfl (n + 1) cz rfl rfl 56 _ hg hin hzs hon ?_
           intro w1 h1 o1 z1))
      rw [← HCZ.out] at h1 hin
      exact bodyPost_ret (results_cellH rfl _ _ (n + 1) 56 (lanesA (rounds 24 s)) _ rfl h1 Tryd.underlying56 rfl hin) rfl
        ⟨rfl, Only.fresh hB o1 (by have := HN.out; omega)⟩

end Go.Proofs.YtjbenoaefjlbaaaDoor
