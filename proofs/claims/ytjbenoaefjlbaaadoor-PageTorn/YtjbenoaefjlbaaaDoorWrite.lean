/-
  What the call of Write does.
-/
import Derived.Test.YtjbenoaefjlbaaaDoorAbsorb
import Derived.Test.YtjbenoaefjlbaaaDoorSliceLaws
namespace Go.Proofs.YtjbenoaefjlbaaaDoor
open Go.RowKit

theorem mixed : Tryd.prog.follows .mixedOrders = true := by kernel_rfl

set_option maxRecDepth 4000 in
set_option maxHeartbeats 2000000 in
theorem write_any (b : Nat) (M : List UInt8) (p : ByteArray) (w : World) (hb : Hashes w b M) (hT : Tabs w) (hb3 : 4 ≤ b) (hM : M.length + p.size < 4611686018427387904) :
    Calls Tryd.prog 28 #[.pointer (some ⟨b, 0, none⟩), .string p] w fun e w' => e = .returned (.int .i64 p.size) ∧ Only b w w' ∧ Hashes w' b (M ++ p.data.toList) := by
  go_enter Tryd.func28, Tryd.ntmps28
  go_wp2
  go_loopw [5] (fun y wr => ∃ (k : Nat) (r : ByteArray), k + r.size = p.size ∧ r.data.toList = p.data.toList.drop k ∧ y = .string r ∧ Only b w wr ∧ Hashes wr b (M ++ p.data.toList.take k)) (fun y _ => textLen y)
  case atStart => exact ⟨0, p, by omega, by simp, rfl, Only.refl _ _, by simpa using hb⟩
  case round =>
    obtain ⟨k, r, hk, hr, rfl, ho, hh⟩ := hrel
    by_cases hlt : 0 < r.size
    · obtain ⟨N, hN⟩ : ∃ N, N = M ++ p.data.toList.take k := ⟨_, rfl⟩
      rw [← hN] at hh
      obtain ⟨s, B, h1, h2, h3⟩ := hh
      have hnum := h1.hashNum
      have hNl : N.length = M.length + k := by rw [hN, List.length_append, List.length_take]; have : p.data.toList.length = p.size := rfl; omega
      have hz : N.length + r.size < 4611686018427387904 := by omega
      obtain ⟨z, hzz⟩ : ∃ z, z = N.length := ⟨_, rfl⟩
      rw [← hzz] at hz hnum
      have hf := h1.frozen
      have HZ : Hid (z = N.length) := hzz
      have HK : Hid (k + r.size = p.size) := hk
      have HR : Hid (r.data.toList = p.data.toList.drop k) := hr
      have HNN : Hid (N = M ++ p.data.toList.take k) := hN
      have hrs : (0 : Int) < r.size := by omega
      have hz1 : (z : Int) < 4611686018427387904 := by omega
      obtain ⟨m, hm⟩ : ∃ m, m = z % 136 := ⟨_, rfl⟩
      have htm : (z : Int).tmod 136 = (m : Int) := by rw [Int.tmod_eq_emod_of_nonneg (by omega)]; omega
      have hm1 : (m : Int) < 136 := by omega
      have hm2 : m < 136 := by omega
      have HM : Hid (m = z % 136) := hm
      clear hzz hNl hm hk hr hN
      go_wp2
      refine wp_region_tail 10 mixed (by kernel_rfl) ?_
      simp only [List.take_succ_cons, List.take_zero, List.drop_succ_cons, List.drop_zero]
      repeat (first
        | (refine wpStill_from rfl _ _ rfl b 25 m hm2 rfl rfl ?_)
        | still_step)
      refine wpStill_nil ?_
      obtain ⟨n, hn⟩ : ∃ n, n = Nat.min r.size (136 - m) := ⟨_, rfl⟩
      refine wpList_copyStr rfl _ _ 42 9 rfl 5 underBytes infoU8 b (25 + m) (136 - m) (136 - m) rfl r rfl 59 (hashA s B N.length) h1.drew (by rw [hashA_size]; omega) ?_
      rw [← hn]
      intro w1 g1 o1 z1
      have hnr : n ≤ r.size := hn ▸ Nat.min_le_left _ _
      have hnm : n ≤ 136 - m := hn ▸ Nat.min_le_right _ _
      have hn0 : 0 < n := by rw [hn]; exact Nat.lt_min.2 ⟨hlt, by omega⟩
      have hll : (r.data.toList.take n).length = n := by rw [List.length_take]; exact Nat.min_eq_left hnr
      rw [hashA_over s B N.length m (r.data.toList.take n) (by rw [hll]; omega)] at g1
      have o2 := ho.trans ((Only.refl b wr).drew.trans o1)
      have HL : Hid ((r.data.toList.take n).length = n) := hll
      have hnum1 := g1.hashNum
      rw [← HZ.out] at hnum1
      have hf1 := g1.frozen
      have hni : (n : Int) ≤ r.size := by omega
      have hnz : (z : Int) + n < 4611686018427387904 := by omega
      clear hll hn hnum hf o1 z1 ho h1
      by_cases hfull : m + n = 136
      · have htm2 : ((z : Int) + n).tmod 136 = 0 := by have := HM.out; rw [Int.tmod_eq_emod_of_nonneg (by omega)]; omega
        have HF : Hid (m + n = 136) := hfull
        clear hfull
        go_wp2
        have g2 := (g1.set 161 (.int .i64 ((z + n : Nat) : Int))).drew
        rw [hashA_num] at g2
        have o3 := (o2.set 161 (.int .i64 ((z + n : Nat) : Int))).drew
        have hT2 := hT.only hb3 o3
        refine wp_region_any mixed ?_
        obtain ⟨w2, hw2⟩ : ∃ w2, w2 = (w1.setCell ⟨b, 161, none⟩ (.int .i64 ((z + n : Nat) : Int))).drew := ⟨_, rfl⟩
        rw [← hw2] at g2 o3 hT2
        change wpAny _ _ _ _ _ _ _ (World.drew (w1.setCell ⟨b, 161, none⟩ (.int .i64 ((z + n : Nat) : Int))))
        rw [← hw2]
        clear hw2
        have g2s := g2.hashState
        have g2b := g2.hashBlock
        refine wpAny_take (i := 0) (oi := ⟨some 41, .move (.tmp 0), _, _, _, none⟩) (v := .pointer (some ⟨b, 0, none⟩)) rfl (by kernel_rfl) (by kernel_rfl) (by kernel_rfl) (fun _ _ _ h => h) (Or.inl ⟨by rfl, fun _ => by go_simp⟩) ?_
        refine wpAny_take (i := 1) (oi := ⟨some 42, .move (.tmp 0), _, _, _, none⟩) (v := .pointer (some ⟨b, 0, none⟩)) rfl (by kernel_rfl) (by kernel_rfl) (by kernel_rfl) (fun _ _ _ h => h) (Or.inl ⟨by rfl, fun _ => by go_simp⟩) ?_
        refine wpAny_take (i := 2) (oi := ⟨some 43, .nilCheck (.tmp 42), _, _, _, none⟩) (v := .pointer (some ⟨b, 0, none⟩)) rfl (by kernel_rfl) (by kernel_rfl) (by kernel_rfl) (fun _ _ _ h => h) (Or.inl ⟨by rfl, fun _ => by go_simp⟩) ?_
        refine wpAny_take (i := 3) (oi := ⟨some 44, .fieldAddr 59 (.tmp 43) 0, _, _, _, none⟩) (v := .pointer (some ⟨b, 0, none⟩)) rfl (by kernel_rfl) (by kernel_rfl) (by kernel_rfl) (fun _ _ _ h => h) (Or.inl ⟨by rfl, fun _ => by go_simp⟩) ?_
        refine wpAny_take (i := 5) (oi := ⟨some 46, .move (.tmp 0), _, _, _, none⟩) (v := .pointer (some ⟨b, 0, none⟩)) rfl (by kernel_rfl) (by kernel_rfl) (by kernel_rfl) (fun _ _ _ h => h) (Or.inl ⟨by rfl, fun _ => by go_simp⟩) ?_
        refine wpAny_take (i := 6) (oi := ⟨some 47, .nilCheck (.tmp 46), _, _, _, none⟩) (v := .pointer (some ⟨b, 0, none⟩)) rfl (by kernel_rfl) (by kernel_rfl) (by kernel_rfl) (fun _ _ _ h => h) (Or.inl ⟨by rfl, fun _ => by go_simp⟩) ?_
        refine wpAny_take (i := 7) (oi := ⟨some 48, .fieldAddr 59 (.tmp 47) 1, _, _, _, none⟩) (v := .pointer (some ⟨b, 25, none⟩)) rfl (by kernel_rfl) (by kernel_rfl) (by kernel_rfl) (fun _ _ _ h => h) (Or.inl ⟨by rfl, fun _ => by go_simp⟩) ?_
        simp only [Act.put, List.setIfInBounds_toArray, List.set_cons_succ, List.set_cons_zero]
        refine wpAny_two (o := ⟨some 45, .load 56 (.tmp 44), _, _, _, none⟩) (o' := ⟨some 49, .load 57 (.tmp 48), _, _, _, none⟩) 4 8 rfl rfl (by kernel_rfl) (fun K hK => ?_) (fun K hK => ?_)
        · refine step_load rfl 56 _ rfl b 0 rfl (lanesA s) _ g2s Tryd.underlying56 rfl (by rw [lanesA_size]; exact info25) (hK _ _ ?_)
          clear hK K
          simp only [Act.put, List.setIfInBounds_toArray, List.set_cons_succ, List.set_cons_zero]
          refine wpAny_one (o := ⟨some 49, .load 57 (.tmp 48), _, _, _, none⟩) 8 rfl (by kernel_rfl) (fun K hK => ?_)
          refine step_load rfl 57 _ rfl b 25 rfl (bytesA 136 (over B m (r.data.toList.take n))) _ g2b Tryd.underlying57 rfl (by rw [bytesA_size]; exact info136) (hK _ _ ?_)
          clear hK K
          simp only [Act.put, List.setIfInBounds_toArray, List.set_cons_succ, List.set_cons_zero]
          refine wpAny_one (o := ⟨some 50, .call { callee := .value (.func 37), args := #[.tmp 45, .tmp 49], argTypes := #[56, 57] }, _, _, _, none⟩) 9 rfl (by kernel_rfl) (fun K hK => ?_)
          go_simp
          refine (absorb_any _ _ _ hT2).mono ?_
          rintro e w3 ⟨rfl, hB3⟩
          refine hK _ _ ?_
          clear hK K
          refine wpAny_take (i := 10) (oi := ⟨some 51, .nilCheck (.tmp 41), _, _, _, none⟩) (v := .pointer (some ⟨b, 0, none⟩)) rfl (by kernel_rfl) (by kernel_rfl) (by kernel_rfl) (fun _ _ _ h => h) (Or.inl ⟨by rfl, fun _ => by go_simp⟩) ?_
          refine wpAny_take (i := 11) (oi := ⟨some 52, .fieldAddr 59 (.tmp 51) 0, _, _, _, none⟩) (v := .pointer (some ⟨b, 0, none⟩)) rfl (by kernel_rfl) (by kernel_rfl) (by kernel_rfl) (fun _ _ _ h => h) (Or.inl ⟨by rfl, fun _ => by go_simp⟩) ?_
          simp only [Act.put, List.setIfInBounds_toArray, List.set_cons_succ, List.set_cons_zero]
          have g3 := Below.holds hB3 g2
          have hst := hashA_state s (soak s (over B m (r.data.toList.take n))) (over B m (r.data.toList.take n)) (z + n)
          have hsz : 0 + (lanesA (soak s (over B m (r.data.toList.take n)))).size ≤ (hashA s (over B m (r.data.toList.take n)) (z + n)).size := by rw [lanesA_size, hashA_size]; omega
          have hin : (Tryd.prog.info? 56).map (·.size) = some (lanesA (soak s (over B m (r.data.toList.take n)))).size := by rw [lanesA_size]; exact info25
          have hon := lanesA_one (soak s (over B m (r.data.toList.take n)))
          generalize lanesA (soak s (over B m (r.data.toList.take n))) = cs at hst hsz hin hon ⊢
          refine wpAny_one (o := ⟨none, .store 56 (.tmp 52) (.tmp 50), _, _, _, none⟩) 12 rfl (by kernel_rfl) (fun K hK => ?_)
          refine step_store rfl 56 (.tmp 52) (.tmp 50) rfl b 0 cs rfl rfl 59 _ _ g3 hst hsz hin hon ?_
          intro w4 h4 o4 _
          refine hK _ _ ?_
          clear hK K
          refine wpAny_done (by kernel_rfl) ?_ _
          simp only [Act.put]
          have o5 := (o3.below hB3).trans o4
          clear g3 hB3 o4 g2 g2s g2b hT2 o3
          go_wp2
          go_roundw
          case rel =>
            refine ⟨k + n, r.extract n r.size, ?_, ?_, rfl, o5, ?_⟩
            · rw [rest_size]; have := HK.out; omega
            · rw [rest_toList, HR.out, List.drop_drop]
            · have e : M ++ p.data.toList.take (k + n) = N ++ r.data.toList.take n := by rw [HNN.out, HR.out, List.append_assoc, ← List.take_add]
              rw [e]
              have hmm := HM.out
              rw [HZ.out] at hmm h4
              subst hmm
              refine Hashes.full (B := B) (s := s) (B' := over B (N.length % 136) (r.data.toList.take n)) ?_ h2 h3 ?_
              · rw [HL.out]; exact h4
              · rw [HL.out]; exact HF.out
          case measure => show (r.extract n r.size).size < r.size; rw [rest_size]; omega
        · refine step_load rfl 57 _ rfl b 25 rfl (bytesA 136 (over B m (r.data.toList.take n))) _ g2b Tryd.underlying57 rfl (by rw [bytesA_size]; exact info136) (hK _ _ ?_)
          clear hK K
          simp only [Act.put, List.setIfInBounds_toArray, List.set_cons_succ, List.set_cons_zero]
          refine wpAny_one (o := ⟨some 45, .load 56 (.tmp 44), _, _, _, none⟩) 4 rfl (by kernel_rfl) (fun K hK => ?_)
          refine step_load rfl 56 _ rfl b 0 rfl (lanesA s) _ g2s Tryd.underlying56 rfl (by rw [lanesA_size]; exact info25) (hK _ _ ?_)
          clear hK K
          simp only [Act.put, List.setIfInBounds_toArray, List.set_cons_succ, List.set_cons_zero]
          refine wpAny_one (o := ⟨some 50, .call { callee := .value (.func 37), args := #[.tmp 45, .tmp 49], argTypes := #[56, 57] }, _, _, _, none⟩) 9 rfl (by kernel_rfl) (fun K hK => ?_)
          go_simp
          refine (absorb_any _ _ _ hT2).mono ?_
          rintro e w3 ⟨rfl, hB3⟩
          refine hK _ _ ?_
          clear hK K
          refine wpAny_take (i := 10) (oi := ⟨some 51, .nilCheck (.tmp 41), _, _, _, none⟩) (v := .pointer (some ⟨b, 0, none⟩)) rfl (by kernel_rfl) (by kernel_rfl) (by kernel_rfl) (fun _ _ _ h => h) (Or.inl ⟨by rfl, fun _ => by go_simp⟩) ?_
          refine wpAny_take (i := 11) (oi := ⟨some 52, .fieldAddr 59 (.tmp 51) 0, _, _, _, none⟩) (v := .pointer (some ⟨b, 0, none⟩)) rfl (by kernel_rfl) (by kernel_rfl) (by kernel_rfl) (fun _ _ _ h => h) (Or.inl ⟨by rfl, fun _ => by go_simp⟩) ?_
          simp only [Act.put, List.setIfInBounds_toArray, List.set_cons_succ, List.set_cons_zero]
          have g3 := Below.holds hB3 g2
          have hst := hashA_state s (soak s (over B m (r.data.toList.take n))) (over B m (r.data.toList.take n)) (z + n)
          have hsz : 0 + (lanesA (soak s (over B m (r.data.toList.take n)))).size ≤ (hashA s (over B m (r.data.toList.take n)) (z + n)).size := by rw [lanesA_size, hashA_size]; omega
          have hin : (Tryd.prog.info? 56).map (·.size) = some (lanesA (soak s (over B m (r.data.toList.take n)))).size := by rw [lanesA_size]; exact info25
          have hon := lanesA_one (soak s (over B m (r.data.toList.take n)))
          generalize lanesA (soak s (over B m (r.data.toList.take n))) = cs at hst hsz hin hon ⊢
          refine wpAny_one (o := ⟨none, .store 56 (.tmp 52) (.tmp 50), _, _, _, none⟩) 12 rfl (by kernel_rfl) (fun K hK => ?_)
          refine step_store rfl 56 (.tmp 52) (.tmp 50) rfl b 0 cs rfl rfl 59 _ _ g3 hst hsz hin hon ?_
          intro w4 h4 o4 _
          refine hK _ _ ?_
          clear hK K
          refine wpAny_done (by kernel_rfl) ?_ _
          simp only [Act.put]
          have o5 := (o3.below hB3).trans o4
          clear g3 hB3 o4 g2 g2s g2b hT2 o3
          go_wp2
          go_roundw
          case rel =>
            refine ⟨k + n, r.extract n r.size, ?_, ?_, rfl, o5, ?_⟩
            · rw [rest_size]; have := HK.out; omega
            · rw [rest_toList, HR.out, List.drop_drop]
            · have e : M ++ p.data.toList.take (k + n) = N ++ r.data.toList.take n := by rw [HNN.out, HR.out, List.append_assoc, ← List.take_add]
              rw [e]
              have hmm := HM.out
              rw [HZ.out] at hmm h4
              subst hmm
              refine Hashes.full (B := B) (s := s) (B' := over B (N.length % 136) (r.data.toList.take n)) ?_ h2 h3 ?_
              · rw [HL.out]; exact h4
              · rw [HL.out]; exact HF.out
          case measure => show (r.extract n r.size).size < r.size; rw [rest_size]; omega
      · obtain ⟨q, hq⟩ : ∃ q, q = m + n := ⟨_, rfl⟩
        have htm2 : ((z : Int) + n).tmod 136 = (q : Int) := by have := HM.out; rw [Int.tmod_eq_emod_of_nonneg (by omega)]; omega
        have hq0 : ((q : Int) == 0) = false := by simp; omega
        have HQ : Hid (q = m + n) := hq
        have HF : Hid (m + n ≠ 136) := hfull
        clear hq hfull
        go_wp2
        go_roundw
        case rel =>
          refine ⟨k + n, r.extract n r.size, ?_, ?_, rfl, o2.set _ _, ?_⟩
          · rw [rest_size]; have := HK.out; omega
          · rw [rest_toList, HR.out, List.drop_drop]
          · have e : M ++ p.data.toList.take (k + n) = N ++ r.data.toList.take n := by rw [HNN.out, HR.out, List.append_assoc, ← List.take_add]
            rw [e]
            have g2 := g1.set 161 (.int .i64 ((z + n : Nat) : Int))
            rw [hashA_num] at g2
            have hmm := HM.out
            rw [HZ.out] at hmm g2 ⊢
            subst hmm
            refine Hashes.more (B := B) (s := s) ?_ h2 h3 ?_
            · rw [HL.out]; exact g2
            · rw [HL.out]; have := HF.out; omega
        case measure => show (r.extract n r.size).size < r.size; rw [rest_size]; omega
    · have hr0 : r.size = 0 := by omega
      have hk2 : k = p.size := by omega
      subst hk2
      have hr1 : ¬ (0 : Int) < r.size := by omega
      have hr2 : (r.size : Int) = 0 := by omega
      go_wp2
      go_ret
      refine ⟨rfl, ho, ?_⟩
      have e : p.data.toList.take p.size = p.data.toList := List.take_of_length_le (Nat.le_refl _)
      rw [e] at hh
      exact hh

end Go.Proofs.YtjbenoaefjlbaaaDoor
