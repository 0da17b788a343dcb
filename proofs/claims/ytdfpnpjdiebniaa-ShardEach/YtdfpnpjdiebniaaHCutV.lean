/-
  What Cut does of chunks that are a set's.
-/
import Derived.Test.YtdfpnpjdiebniaaHCutW2
namespace Go.Proofs.Ytdfpnpjdiebniaa
open Go Go.RowKit

set_option maxRecDepth 8000 in
set_option maxHeartbeats 8000000 in
theorem hcut_ok {w : World} {v : Value} {ps : List (List Nat)} (hv : ChunksAt w v (chk ps)) (hg : Good ps) (hl : ps.length ≤ 10000) (f : Int) (hf : f ≤ 9223372036854775807) :
    Calls Try.prog 20 #[v, .int .i64 f] w fun e w' => ∃ v' L, e = .returned (.tuple #[v', .int .i64 0]) ∧ SplitOf (lessF f ps.flatten) L ∧ OwnChunks w' w.heap.size v' L ∧ Below w.heap.size w w' := by
  have hrd := hread_ok hv hg (by omega)
  obtain ⟨p0, c0, rfl⟩ := hv.shape
  rw [chk_len] at hv hrd ⊢
  obtain ⟨m, hm⟩ : ∃ m, ps.length = m := ⟨_, rfl⟩
  have HM : Hid (ps.length = m) := hm
  rw [hm] at hv hrd hl ⊢
  clear hm
  have hmi : (m : Int) ≤ 10000 := by omega
  go_enter Try.func20, Try.ntmps20
  go_wp2_with fail
  refine hrd.mono ?_
  rintro e w1 ⟨q, Bs, rfl, hq, hS, hB1⟩
  clear hrd
  have F0 : Hid (Holds w1 q 29 (ptrs Bs).toArray ∧ SetsAt w1 w.heap.size Bs ps ∧ Below w.heap.size w w1) := ⟨hq, hS, hB1⟩
  have hbl : Bs.length = m := by rw [hS.len, HM.out]
  have HBL : Hid (Bs.length = m) := hbl
  clear hq hS hB1 hbl
  go_wp2_with fail
  go_loopw [8] (fun y wr => ∃ j : Nat, y = .int .i64 ((j : Int) - 1) ∧ j ≤ m ∧ Holds wr q 29 (ptrs Bs).toArray ∧ SetsAt wr w.heap.size (Bs.take j) (ps.take j) ∧ Hid (∀ (i : Nat) p, j ≤ i → ps[i]? = some p → lessF f p = []) ∧ Below w.heap.size w wr) (fun y _ => (intOf y + 1).toNat)
  case atStart => exact ⟨m, by go_num, Nat.le_refl _, F0.out.1, by rw [List.take_of_length_le (by rw [HBL.out]; exact Nat.le_refl _), List.take_of_length_le (by rw [HM.out]; exact Nat.le_refl _)]; exact F0.out.2.1, fun i p hi hp => by (have := (List.getElem?_eq_some_iff.1 hp).1; rw [HM.out] at this; omega), F0.out.2.2⟩
  case round =>
    clear F0
    obtain ⟨j, rfl, hj, hq, hS, HR, hB⟩ := hrel
    by_cases hz : j = 0
    · have hji : (j : Int) - 1 = -1 := by omega
      have HF : Hid (SplitOf (lessF f ps.flatten) []) := by
        refine ⟨[], trivial, ?_, rfl⟩
        rw [less_flat fun p hp => ?_]
        · rfl
        · obtain ⟨i, hi⟩ := List.mem_iff_getElem?.1 hp
          exact HR.out i p (by omega) hi
      clear hz hq hS HR
      go_wp2_with fail
      go_ret2
      exact ⟨_, _, rfl, HF.out, OwnChunks.nil _ _, hB⟩
    · obtain ⟨k, hk⟩ : ∃ k, j - 1 = k := ⟨_, rfl⟩
      have hji : (j : Int) - 1 = (k : Int) := by omega
      have hkm : (k : Int) < m := by omega
      have hk0 : (k : Int) ≥ 0 := by omega
      have hkj : k < j := by omega
      have HKJ : Hid (k + 1 = j) := by show _ = _; omega
      have hkl : k < m := by omega
      obtain ⟨p, hp⟩ : ∃ p, ps[k]? = some p := ⟨_, List.getElem?_eq_getElem (by rw [HM.out]; exact hkl)⟩
      obtain ⟨⟨bt, mt⟩, hbt⟩ : ∃ x, Bs[k]? = some x := ⟨_, List.getElem?_eq_getElem (by rw [HBL.out]; exact hkl)⟩
      obtain ⟨hpn, hp1, hp64⟩ := hg.at hp
      have hbtj : (Bs.take j)[k]? = some (bt, mt) := by rw [List.getElem?_take, if_pos hkj]; exact hbt
      have hset := hS.sets k _ _ hbtj (by rw [List.getElem?_take, if_pos hkj]; exact hp)
      have hlo := hS.low _ (List.mem_of_getElem? hbtj)
      have hlowm : ∀ m, mt = some m → w.heap.size ≤ m := fun m h => hlo m (.inr h)
      have hcq : wr.cell? ⟨q, k, none⟩ = some (.pointer (some ⟨bt, 0, none⟩)) := by
        rw [hq.cell k]
        unfold ptrs
        simp [hbt]
      have hct := cut_any hset.view f hf
      generalize ((card (ofN p) : Nat) : Int) - ((card (cutM (ofN p) f.toNat) : Nat) : Int) = cc at hct
      rw [hji]
      clear hz hk hji
      go_wp2_with fail
      refine hct.mono ?_
      rintro e w2 ⟨rfl, hv2, hO2⟩
      clear hct
      have hmem := cut_ofN hpn f
      have hln := len_any hv2
      rw [card_len, hmem] at hln
      have hq2 := hO2.holds hq (hset.neH hq)
      have hS2 := hS.cut hbtj hO2
      rw [List.take_take, List.take_take, Nat.min_eq_left (by omega)] at hS2
      have hB2 := onlyM_below hB hO2 hlowm
      have hll : (lessF f p).length ≤ 64 := Nat.le_trans (lessF_sub f p).length_le hp64
      by_cases hne : lessF f p = []
      · have hl0 : (lessF f p).length = 0 := by rw [hne]; rfl
        rw [hl0] at hln
        have HR2 : Hid (∀ (i : Nat) p, k ≤ i → ps[i]? = some p → lessF f p = []) := fun i p' hi hp' => by
          rcases Nat.lt_or_ge k i with h | h
          · exact HR.out i p' (by have := HKJ.out; omega) hp'
          · have : i = k := by omega
            subst this
            have e := Option.some.inj (hp.symm.trans hp')
            rw [← e]; exact hne
        clear hne hl0 HR hS hq hset hlo hB hcq hmem
        go_wp2_with fail
        refine hln.mono ?_
        rintro e w3 ⟨rfl, hB3⟩
        clear hln
        have F3 : Hid (Holds w3 q 29 (ptrs Bs).toArray ∧ SetsAt w3 w.heap.size (Bs.take k) (ps.take k) ∧ Below w.heap.size w w3) := ⟨below_holds hB3 hq2, hS2.below hB3, below_new hB2 hB3⟩
        clear hq2 hS2 hB2 hB3 hv2
        go_wp2_with fail
        go_roundw
        case rel => exact ⟨k, by go_num, by omega, F3.out.1, F3.out.2.1, HR2, F3.out.2.2⟩
        case measure => simp [intOf]
      · have hpos : 0 < (lessF f p).length := List.length_pos_iff.2 hne
        have hsp := fun W (hW : Below w2.heap.size w2 W) => hsplit_any (hv2.below hW) (by rw [hmem]; omega)
        rw [hmem] at hsp
        have HS := fun L (h : SplitOf (lessF f p) L) => cut_split hg hp hne (fun i q hi hq => HR.out i q (by have := HKJ.out; omega) hq) h
        obtain ⟨hsl, hrow⟩ := chunks_to hv k (by rw [chk_len, HM.out]; omega)
        have hspl : ∀ L, SplitOf (lessF f p) L → L.length ≤ 1000 := fun L h => split_len h (by omega)
        generalize hlf : (lessF f p).length = ln at hln hpos hll
        generalize lessF f p = pf at hsp HS hspl
        clear hlf hne HR hS hq hset hlo hB hcq hmem hS2 hq2
        go_wp2_with fail
        refine hln.mono ?_
        rintro e w3 ⟨rfl, hB3⟩
        clear hln
        go_wp2_with fail
        refine wp_region_plan (fun _ => True) [.take 0, .take 1, .take 2, .take 3, .one 4, .one 5, .one 6, .one 7, .one 8] mixedP (by kernel_rfl) rfl (by kernel_rfl) (fun _ _ _ d _ h => by cases d <;> exact h) trivial ?_
        refine plan_valG (some 35) rfl rfl rfl (.slice p0 m c0) (fun _ => by go_simp) ?_
        go_frame
        refine plan_valG (some 36) rfl rfl rfl (.int .i64 (k : Int)) (fun _ => by go_simp) ?_
        go_frame
        refine plan_valG (some 37) rfl rfl rfl (.slice p0 k c0) (fun _ => by go_simp) ?_
        go_frame
        refine plan_valG (some 38) rfl rfl rfl (.pointer (some ⟨bt, 0, none⟩)) (fun _ => by go_simp) ?_
        go_frame
        refine plan_callG (some 39) rfl rfl rfl (f := 12) (vs := #[.pointer (some ⟨bt, 0, none⟩)]) (by go_simp) ((hsp _ (below_new hB3 (below_drewH _))).mono ?_)
        rintro e w5 ⟨v5, L5, rfl, hs5, ho5, hB5⟩
        clear hsp
        refine ⟨_, rfl, trivial, ?_⟩
        go_frame
        obtain ⟨p5, c5, rfl⟩ := ho5.at.shape
        have hB5' := below_new (below_new (below_new hB2 hB3) (below_drewH w3)) hB5
        obtain ⟨hfin, hfull⟩ := HS L5 hs5
        rw [hfull] at hrow
        have hl5 := hspl L5 hs5
        have hfl : (fulls (ps.take k)).length ≤ 10000 := by unfold fulls; rw [List.length_map, List.length_take]; omega
        generalize fulls (ps.take k) = FK at hrow hfin hfl
        refine plan_one (some 40) rfl rfl rfl (v := .slice (some ⟨w5.heap.size, 0, none⟩) 2 2) (w' := w5.alloc (.cells #[.slice p0 k c0, .slice p5 L5.length c5] 23)) (by go_simp) trivial ?_
        go_frame
        have hB6 := below_new1 w5 (.cells #[.slice p0 k c0, .slice p5 L5.length c5] 23)
        have hrow0 := (hrow.below hB5').below hB6
        have hcc := concat_any (w := w5.alloc (.cells #[.slice p0 k c0, .slice p5 L5.length c5] 23)) (q := w5.heap.size) (vs := [.slice p0 k c0, .slice p5 L5.length c5]) (ls := [FK, L5]) (Holds.new _ _ _) rfl (fun i v l hv hl => by
          match i with
          | 0 => simp at hv hl; rw [← hv, ← hl]; exact hrow0
          | 1 => simp at hv hl; rw [← hv, ← hl]; exact ho5.at.below hB6
          | j + 2 => simp at hv) (by simp; omega) (by simp)
        refine plan_callG (some 41) rfl rfl rfl (f := 40) (vs := #[.slice (some ⟨w5.heap.size, 0, none⟩) 2 2]) (by go_simp) (hcc.mono ?_)
        rintro e w7 ⟨v7, rfl, ho7, hB7⟩
        clear hcc
        refine ⟨_, rfl, trivial, ?_⟩
        go_frame
        refine plan_one (some 4) rfl rfl rfl (v := v7) (w' := w7) rfl trivial ?_
        go_frame
        refine plan_one (some 5) rfl rfl rfl (v := .int .i64 0) (w' := w7) rfl trivial ?_
        go_frame
        have HF : Hid (SplitOf (lessF f ps.flatten) (FK ++ L5) ∧ OwnChunks w7 w.heap.size v7 (FK ++ L5) ∧ Below w.heap.size w w7) := by
          have hsz := hB5'.size
          have hsz6 := hB6.size
          refine ⟨hfin, ?_, below_new (below_new hB5' hB6) hB7⟩
          have : [FK, L5].flatten = FK ++ L5 := by simp
          rw [← this]
          exact ho7.mono (by omega)
        clear ho7 hs5 ho5 hB7 hB6 hB5' hB5 hfin
        refine then_normalH ?_
        go_at_K
        go_wp2_with fail
        go_ret2
        exact ⟨_, _, rfl, HF.out.1, HF.out.2.1, HF.out.2.2⟩
end Go.Proofs.Ytdfpnpjdiebniaa
