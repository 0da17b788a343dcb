/-
  What the call of a hash's Sum does.
-/
import Derived.Test.YtjbenoaefjlbaaaDoorHashSum
namespace Go.Proofs.YtjbenoaefjlbaaaDoor
open Go.RowKit

theorem zeroBlock : ∀ w, (zeroValue 57).run Tryd.prog w = .ok (.agg (bytesA 136 fun _ => 0)) w := (zero_of_info (n := 136) (by kernel_rfl)).1

set_option maxRecDepth 4000 in
set_option maxHeartbeats 1000000 in
theorem sum_any (b : Nat) (M : List UInt8) (w : World) (hb : Hashes w b M) (hT : Tabs w) (hM : M.length < 4611686018427387904) :
    Calls Tryd.prog 29 #[.pointer (some ⟨b, 0, none⟩)] w fun e w' => e = .returned (.agg (bytesA 32 (hashOf M))) ∧ Below w.heap.size w w' := by
  have hz := zeroBlock
  obtain ⟨s, B, h1, h2, h3⟩ := hb
  obtain ⟨z, hzz⟩ : ∃ z, z = M.length := ⟨_, rfl⟩
  obtain ⟨m, hm⟩ : ∃ m, m = z % 136 := ⟨_, rfl⟩
  have htm : (z : Int).tmod 136 = (m : Int) := by rw [Int.tmod_eq_emod_of_nonneg (by omega)]; omega
  have hm1 : (m : Int) < 136 := by omega
  have hm2 : m < 136 := by omega
  have HZ : Hid (z = M.length) := hzz
  have HM : Hid (m = z % 136) := hm
  have hM1 : (z : Int) < 4611686018427387904 := by omega
  have hbl := h1.lt
  have hs3 := hT.size
  clear hzz hm
  go_enter Tryd.func29, Tryd.ntmps29
  go_wp2
  obtain ⟨w0, hw0⟩ : ∃ w0, w0 = (w.alloc (.cells (bytesA 32 fun _ => 0) 44)).alloc (.cells (bytesA 136 fun _ => 0) 57) := ⟨_, rfl⟩
  change Code.wp _ _ _ _ ((w.alloc (.cells (bytesA 32 fun _ => 0) 44)).alloc (.cells (bytesA 136 fun _ => 0) 57))
  rw [← hw0]
  have hB0 : Below w.heap.size w w0 := by rw [hw0]; exact ((Below.refl _ _).alloc (Nat.le_refl _) _).alloc (by simp) _
  obtain ⟨n, hn⟩ : ∃ n, n = w.heap.size := ⟨_, rfl⟩
  have gr : Holds w0 n 44 (bytesA 32 fun _ => 0) := by rw [hw0, hn]; exact (Holds.new _ _ _).alloc _
  have gl : Holds w0 (n + 1) 57 (bytesA 136 fun _ => 0) := by
    have h := Holds.new (w.alloc (.cells (bytesA 32 fun _ => 0) 44)) 57 (bytesA 136 fun _ => 0)
    rw [World.size_alloc, ← hn, ← hw0] at h
    exact h
  have gh : Holds w0 b 59 (hashA s B M.length) := Below.holds hB0 h1
  have hTr := hT.below hB0
  rw [← hn] at hbl ⊢
  have HN : Hid (n = w.heap.size) := hn
  have hnum := gh.hashNum
  rw [← HZ.out] at hnum
  have hbn : b ≠ n + 1 := by omega
  clear hn hw0 h1 hz hT
  refine wp_region_tail 10 mixed (by kernel_rfl) ?_
  simp only [List.take_succ_cons, List.take_zero, List.drop_succ_cons, List.drop_zero]
  repeat (first
    | (refine wpStill_whole rfl _ rfl (n + 1) 0 rfl ?_)
    | (refine wpStill_upto rfl _ _ rfl b 25 m hm2 rfl rfl ?_)
    | still_step)
  refine wpStill_nil ?_
  refine wpList_copyRow rfl _ _ 42 42 rfl 5 underBytes infoU8 (n + 1) 0 136 136 rfl b 25 m 136 rfl (firstB B m) (by rw [firstB_length]; exact (Nat.min_eq_left (by omega)).symm) (gh.drew.hashFirst m hm2) 57 (bytesA 136 fun _ => 0) gl.drew (by rw [bytesA_size]; omega) ?_
  rw [firstB_length, bytesA_over 136 _ 0 _ (by rw [firstB_length]; omega)]
  intro w1 g1 o1 z1
  have gh1 : Holds w1 b 59 (hashA s B M.length) := o1.holds gh.drew hbn
  have gr1 : Holds w1 n 44 (bytesA 32 fun _ => 0) := o1.holds gr.drew (by omega)
  have hT1 : Tabs w1 := (hTr.only (b := n + 1) (by have := HN.out; omega) ((Only.refl _ _).drew.trans o1))
  have oB : Only (n + 1) w0 w1 := (Only.refl _ _).drew.trans o1
  have hf := g1.frozen
  have hcm := g1.byteCell m hm2
  have hce := g1.byteCell 135 (by omega)
  have HG : Hid (Holds w1 (n + 1) 57 (bytesA 136 (over (fun _ => 0) 0 (firstB B m)))) := g1
  have H3 : Hid (∀ j, j < m → B j = M.getD (136 * (M.length / 136) + j) 0) := by
    have e1 := HM.out
    rw [HZ.out] at e1
    intro j hj
    exact h3 j (by omega)
  clear g1 o1 z1 h3 gh gr gl hnum hTr
  by_cases hl : m = 135
  · subst hl
    go_wp2
    have G2 := ((Holds.byteSet HG.out 135 (over (fun _ => 0) 0 (firstB B 135) 135 ^^^ 1)).byteSet 135 (over (fun _ => 0) 0 (firstB B 135) 135 ^^^ 1 ^^^ 128)).congr (bytesA_congr (C := lastB M) fun j _ => by
      rw [← lastB_eq M B 135 (by rw [HM.out, HZ.out]) H3.out j]
      by_cases c : j = 135
      · simp [c]
      · simp [c])
    have o2 := ((Only.refl (n + 1) w1).set 135 (.int .u8 (oct (over (fun _ => 0) 0 (firstB B 135) 135 ^^^ 1)))).set 135 (.int .u8 (oct (over (fun _ => 0) 0 (firstB B 135) 135 ^^^ 1 ^^^ 128)))
    rw [oct_xor1, oct_xor128]
    generalize (w1.setCell ⟨n + 1, 135, none⟩ (.int .u8 (oct (over (fun _ => 0) 0 (firstB B 135) 135 ^^^ 1)))).setCell ⟨n + 1, 135, none⟩ (.int .u8 (oct (over (fun _ => 0) 0 (firstB B 135) 135 ^^^ 1 ^^^ 128))) = w2 at G2 o2 ⊢
    have gl2 : Holds w2 (n + 1) 57 (bytesA 136 (lastB M)) := G2
    have gls := gl2.drew.byteRow
    have ghs := (o2.holds gh1 hbn).drew.hashState
    have hT2 : Tabs w2 := hT1.only (b := n + 1) (by have := HN.out; omega) o2
    have gr2 : Holds w2 n 44 (bytesA 32 fun _ => 0) := o2.holds gr1 (by omega)
    refine wp_region_tail 5 mixed (by kernel_rfl) ?_
    simp only [List.take_succ_cons, List.take_zero, List.drop_succ_cons, List.drop_zero]
    repeat (first
      | (refine wpStill_load rfl 56 _ rfl b 0 rfl (lanesA s) _ ghs Tryd.underlying56 rfl (by rw [lanesA_size]; exact info25) ?_)
      | (refine wpStill_load rfl 57 _ rfl (n + 1) 0 rfl (bytesA 136 (lastB M)) _ gls Tryd.underlying57 rfl (by rw [bytesA_size]; exact info136) ?_)
      | still_step)
    refine wpStill_nil ?_
    go_wp2_with fail
    refine (absorb_any _ _ _ (hT2.below (Below.refl _ _).drew)).mono ?_
    rintro e w3 ⟨rfl, hB3⟩
    go_wp2_with fail
    refine (squeeze_any _ _).mono ?_
    rintro e w4 ⟨rfl, hB4⟩
    have gr4 : Holds w4 n 44 (bytesA 32 fun _ => 0) := Below.holds hB4 (Below.holds hB3 gr2.drew)
    have hin : (Tryd.prog.info? 44).map (·.size) = some (bytesA 32 (byteAt (soak s (lastB M)))).size := by rw [bytesA_size]; exact info32
    have hzs : (bytesA 32 (fun _ => 0)).size = (bytesA 32 (byteAt (soak s (lastB M)))).size := by rw [bytesA_size, bytesA_size]
    have hon := bytesA_one 32 (byteAt (soak s (lastB M)))
    have hfin : bytesA 32 (byteAt (soak s (lastB M))) = bytesA 32 (hashOf M) := bytesA_congr fun i hi => by
      have := soak_congr (B := lastB M) (C := lastB M) h2 (fun _ _ => rfl)
      unfold hashOf byteAt
      rw [this (i / 8) (by omega)]
    generalize bytesA 32 (byteAt (soak s (lastB M))) = cs at hin hzs hon hfin ⊢
    dsimp only
    go_wp2_with (first
      | (refine wpList_storeH rfl 44 _ _ rfl n cs rfl rfl 44 _ gr4 hin hzs hon ?_
         intro w5 h5 o5 z5)
      | fail)
    rw [hfin] at h5
    have hB2 : Below w.heap.size w w2 := Only.fresh hB0 (oB.trans o2) (by have := HN.out; omega)
    have hB5 : Below w.heap.size w w5 := Only.fresh ((hB2.trans ((hB3.mono hB2.drew.size).drewL)).trans (hB4.mono (Nat.le_trans hB2.size hB3.size))) o5 (by have := HN.out; omega)
    exact bodyPost_ret (results_cellH rfl _ _ n 44 (bytesA 32 (hashOf M)) _ rfl h5 Tryd.underlying44 rfl (by rw [bytesA_size]; exact info32)) rfl ⟨rfl, hB5⟩
  · go_wp2
    have G2 := ((Holds.byteSet HG.out m (over (fun _ => 0) 0 (firstB B m) m ^^^ 1)).byteSet 135 (over (fun _ => 0) 0 (firstB B m) 135 ^^^ 128)).congr (bytesA_congr (C := lastB M) fun j _ => by
      rw [← lastB_eq M B m (by rw [HM.out, HZ.out]) H3.out j, if_neg (c := 135 = m) (fun q => hl q.symm)])
    have o2 := ((Only.refl (n + 1) w1).set m (.int .u8 (oct (over (fun _ => 0) 0 (firstB B m) m ^^^ 1)))).set 135 (.int .u8 (oct (over (fun _ => 0) 0 (firstB B m) 135 ^^^ 128)))
    rw [oct_xor1, oct_xor128]
    generalize (w1.setCell ⟨n + 1, m, none⟩ (.int .u8 (oct (over (fun _ => 0) 0 (firstB B m) m ^^^ 1)))).setCell ⟨n + 1, 135, none⟩ (.int .u8 (oct (over (fun _ => 0) 0 (firstB B m) 135 ^^^ 128))) = w2 at G2 o2 ⊢
    have gl2 : Holds w2 (n + 1) 57 (bytesA 136 (lastB M)) := G2
    have gls := gl2.drew.byteRow
    have ghs := (o2.holds gh1 hbn).drew.hashState
    have hT2 : Tabs w2 := hT1.only (b := n + 1) (by have := HN.out; omega) o2
    have gr2 : Holds w2 n 44 (bytesA 32 fun _ => 0) := o2.holds gr1 (by omega)
    refine wp_region_tail 5 mixed (by kernel_rfl) ?_
    simp only [List.take_succ_cons, List.take_zero, List.drop_succ_cons, List.drop_zero]
    repeat (first
      | (refine wpStill_load rfl 56 _ rfl b 0 rfl (lanesA s) _ ghs Tryd.underlying56 rfl (by rw [lanesA_size]; exact info25) ?_)
      | (refine wpStill_load rfl 57 _ rfl (n + 1) 0 rfl (bytesA 136 (lastB M)) _ gls Tryd.underlying57 rfl (by rw [bytesA_size]; exact info136) ?_)
      | still_step)
    refine wpStill_nil ?_
    go_wp2_with fail
    refine (absorb_any _ _ _ (hT2.below (Below.refl _ _).drew)).mono ?_
    rintro e w3 ⟨rfl, hB3⟩
    go_wp2_with fail
    refine (squeeze_any _ _).mono ?_
    rintro e w4 ⟨rfl, hB4⟩
    have gr4 : Holds w4 n 44 (bytesA 32 fun _ => 0) := Below.holds hB4 (Below.holds hB3 gr2.drew)
    have hin : (Tryd.prog.info? 44).map (·.size) = some (bytesA 32 (byteAt (soak s (lastB M)))).size := by rw [bytesA_size]; exact info32
    have hzs : (bytesA 32 (fun _ => 0)).size = (bytesA 32 (byteAt (soak s (lastB M)))).size := by rw [bytesA_size, bytesA_size]
    have hon := bytesA_one 32 (byteAt (soak s (lastB M)))
    have hfin : bytesA 32 (byteAt (soak s (lastB M))) = bytesA 32 (hashOf M) := bytesA_congr fun i hi => by
      have := soak_congr (B := lastB M) (C := lastB M) h2 (fun _ _ => rfl)
      unfold hashOf byteAt
      rw [this (i / 8) (by omega)]
    generalize bytesA 32 (byteAt (soak s (lastB M))) = cs at hin hzs hon hfin ⊢
    dsimp only
    go_wp2_with (first
      | (refine wpList_storeH rfl 44 _ _ rfl n cs rfl rfl 44 _ gr4 hin hzs hon ?_
         intro w5 h5 o5 z5)
      | fail)
    rw [hfin] at h5
    have hB2 : Below w.heap.size w w2 := Only.fresh hB0 (oB.trans o2) (by have := HN.out; omega)
    have hB5 : Below w.heap.size w w5 := Only.fresh ((hB2.trans ((hB3.mono hB2.drew.size).drewL)).trans (hB4.mono (Nat.le_trans hB2.size hB3.size))) o5 (by have := HN.out; omega)
    exact bodyPost_ret (results_cellH rfl _ _ n 44 (bytesA 32 (hashOf M)) _ rfl h5 Tryd.underlying44 rfl (by rw [bytesA_size]; exact info32)) rfl ⟨rfl, hB5⟩

end Go.Proofs.YtjbenoaefjlbaaaDoor
