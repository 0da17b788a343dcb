/-
  ShardTail's walk.
-/
import Derived.Test.YtdfpnpjdiebniaaHTailP
namespace Go.Proofs.Ytdfpnpjdiebniaa
open Go Go.RowKit

theorem ldStrH {w : World} {ad : Addr} {x : ByteArray} (h : w.cell? ad = some (.string x)) : (loadVar 9 ad).run Try.prog w = .ok (.string x) w := by simp [go_sem, h]
set_option maxRecDepth 100000 in
set_option maxHeartbeats 8000000 in
theorem tail_walk {w : World} {p : Option Addr} {n c : Nat} {l : List Int} (hx : IntsAt w (.slice p n c) l) (hn : n = l.length) (hnc : n ≤ c) (hc : c ≤ 9223372036854775807) (hr : ∀ x ∈ l, -9223372036854775808 ≤ x ∧ x ≤ 9223372036854775807) (f : Int) :
    Calls Try.prog 8 #[.slice p n c, .int .i64 f] w fun e w' => e = .returned (.bool true) ∧ Below w.heap.size w w' := by
  have hnot := run_notH
  have hni : (n : Int) ≤ 9223372036854775807 := by omega
  have HNL : Hid (n = l.length) := hn
  clear hn
  go_enter Try.func8, Try.ntmps8
  go_wp2_with fail
  refine (awake6_any _).mono ?_
  rintro e w1 ⟨rfl, hB1⟩
  go_wp2_with fail
  refine (new_any (w := w1) (v := .slice none 0 0) (l := []) (.inl ⟨rfl, none, 0, rfl⟩) (by simp) (by simp)).mono ?_
  rintro e w2 ⟨b, rfl, mo, hs, hb, hm, hB2⟩
  have hs1 := hB1.size
  have hbw : w.heap.size ≤ b := by omega
  have F0 : Hid (SetAt w2 b mo (ofInts (under (l.take 0))) ∧ (∀ j, mo = some j → w.heap.size ≤ j) ∧ Below w.heap.size w w2) := ⟨hs, fun j e => by have := hm j e; omega, below_new hB1 hB2⟩
  clear hs hm hB1 hB2 hs1 hb
  go_wp2_with fail
  go_loopw [7] (fun y wr => ∃ (k : Nat) (mo : Option Nat), y = .int .i64 (k : Nat) ∧ k ≤ 300 ∧ k ≤ n ∧ SetAt wr b mo (ofInts (under (l.take k))) ∧ (∀ j, mo = some j → w.heap.size ≤ j) ∧ Below w.heap.size w wr) (fun y _ => 300 - (intOf y).toNat)
  case atStart => exact ⟨0, mo, rfl, by omega, by omega, F0.out.1, F0.out.2.1, F0.out.2.2⟩
  case round =>
    clear F0
    obtain ⟨k, mo, rfl, hk3, hkn, hs, hm, hB⟩ := hrel
    by_cases hi : k < n ∧ k < 300
    · obtain ⟨hi1, hi2⟩ := hi
      have hi1i : (k : Int) < n := by omega
      have hi2i : (k : Int) < 300 := by omega
      obtain ⟨t, ht⟩ : ∃ t, l[k]? = some t := ⟨_, List.getElem?_eq_getElem (by have := HNL.out; omega)⟩
      obtain ⟨gx, ox, rfl, ex⟩ := (hx.below hB).get ht
      have htr := hr t (List.mem_of_getElem? ht)
      have HU : Hid (under (l.take (k + 1)) = if t < 1073741824 then under (l.take k) ++ [t] else under (l.take k)) := under_take ht
      by_cases htl : t < 1073741824
      · have had := add_any hs t htr.2
        rw [addM_ofInts] at had
        generalize addB (ofInts (under (l.take k))) t = ab at had
        go_wp2_with fail
        refine had.mono ?_
        rintro e w3 ⟨rfl, mo3, hs3, hn3, ho3⟩
        clear had
        have F3 : Hid (SetAt w3 b mo3 (ofInts (under (l.take (k + 1)))) ∧ (∀ j, mo3 = some j → w.heap.size ≤ j) ∧ Below w.heap.size w w3) := by
          refine ⟨?_, fun j e => ?_, OnlyS.fresh hB ho3 hbw hm⟩
          · rw [HU.out, if_pos htl]; exact hs3
          · have hz := hB.size
            rcases hn3 with rfl | ⟨j', rfl, hj'⟩
            · exact hm j e
            · injection e with e
              omega
        clear hs3 hn3 ho3 hs hm hB
        go_wp2_with fail
        exact ⟨⟨k + 1, mo3, by go_num, by omega, by omega, F3.out.1, F3.out.2.1, F3.out.2.2⟩, by simp [intOf]; omega⟩
      · have F3 : Hid (SetAt wr b mo (ofInts (under (l.take (k + 1)))) ∧ (∀ j, mo = some j → w.heap.size ≤ j) ∧ Below w.heap.size w wr) := by
          refine ⟨?_, hm, hB⟩
          rw [HU.out, if_neg htl]; exact hs
        clear hs hm hB
        go_wp2_with fail
        exact ⟨⟨k + 1, mo, by go_num, by omega, by omega, F3.out.1, F3.out.2.1, F3.out.2.2⟩, by simp [intOf]; omega⟩
    · have hix : ¬ (k : Int) < n ∨ ((k : Int) < n ∧ ¬ (k : Int) < 300) := by omega
      have hcar : (memFrom (ofInts (under (l.take k))) 0).length ≤ 300 := by
        have h1 := ints_card (under (l.take k))
        have h2 := under_len (l.take k)
        rw [List.length_take] at h2
        omega
      have hub := under_bound (l.take k)
      have hnum := nums_of (ofInts_bound (under (l.take k)))
      have hmem : ∀ x ∈ memFrom (ofInts (under (l.take k))) 0, x < 1073741824 := fun x hx => hub x ((mem_memFrom (ofInts_bound _)).1 hx).2
      have hsp := hsplit_any hs.view (by omega)
      have hgr := fun W (hW : Below wr.heap.size wr W) => great_any (hs.below hW).view
      rw [← ofN_mem (ofInts_bound (under (l.take k)))] at hgr
      generalize memFrom (ofInts (under (l.take k))) 0 = m at hcar hnum hmem hsp hgr
      have hta := Int.tmod_lt_of_pos f (show (0 : Int) < 100000 by decide)
      have htb := Int.lt_tmod_of_pos f (show (0 : Int) < 100000 by decide)
      obtain ⟨kk, hkk⟩ : ∃ kk : Nat, kk = (f.tmod 100000).natAbs := ⟨_, rfl⟩
      clear hx hr hs hm hub
      rcases hix with hia | ⟨hia, hib⟩
      · as_aux_lemma =>
        go_wp2_with fail
        refine hsp.mono ?_
        rintro e w3 ⟨v3, L, rfl, hL, ho3, hB3⟩
        clear hsp
        have hLl := len_of hnum hL
        obtain ⟨p3, c3, rfl⟩ := ho3.at.shape
        go_wp2_with fail
        refine (hgr w3 hB3).mono ?_
        rintro e w4 ⟨g, okg, rfl, hgo, hB4⟩
        clear hgr
        have hgl := great_getLast hnum hgo
        have HGL : Hid (g = m.getLastD 0) := hgl
        have hgb : g ≤ 1073741824 := by
          rw [hgl]
          cases hq : m with
          | nil => simp
          | cons a t => have := hmem _ (last_mem (p := m) (by rw [hq]; simp)); rw [hq] at this; omega
        have hle : ∀ x ∈ m, x ≤ g := fun x hx => by
          rw [hgl]
          refine last_maxH hnum ?_ x hx
          exact List.length_pos_of_mem hx
        clear hgl hgo
        obtain ⟨n2, hn2⟩ : ∃ n2, g + kk + 1 = n2 := ⟨_, rfl⟩
        have hsum : ((g : Int) + (kk : Int)) + 1 = (n2 : Int) := by omega
        have hgi : (g : Int) ≤ 1073741824 := by omega
        have hki : (kk : Int) ≤ 100000 := by omega
        have hapd := append_of hnum (by omega) hL (ho3.at.below hB4) (n := n2) (by omega) (fun x hx => by have := hle x hx; omega)
        have hBw4 := below_new (below_new hB hB3) hB4
        have hv4 := ho3.at.below hB4
        clear hn2 hle
        by_cases hneg : f.tmod 100000 < 0
        · have hmv : -(f.tmod 100000) = (kk : Int) := by omega
          clear hkk
          as_aux_lemma =>
            go_wp2_with fail
            refine hapd.mono ?_
            rintro e w5 ⟨v5, L', rfl, hL', ho5, hB5⟩
            clear hapd
            obtain ⟨p5, c5, rfl⟩ := ho5.at.shape
            have hcase := tail_cases hnum hL hL'
            rw [← HGL.out] at hcase
            have hBw5 := below_new hBw4 hB5
            have hv5 := hv4.below hB5
            have hu5 := ho5.at
            clear hL hL' ho5 ho3 hB5 hB4 hB3 hv4 hBw4 hnum hmem
            rcases hcase with ⟨rfl, d, rfl⟩ | ⟨K, d, d', rfl, rfl⟩ | ⟨K, d, d', rfl, rfl⟩
            · skip
              as_aux_lemma =>
                obtain ⟨gm, om, hpe, hnn, d0, d1⟩ := hu5.at (i := 0) rfl
                subst hpe
                clear hnn
                dsimp only at d0 d1
                have d0' : w5.cell? ⟨gm, om, none⟩ = some (.int .i64 2147483647) := d0
                clear d0 d1 hv5 hu5 hLl
                go_wp2_with fail
                go_loopw [14] (fun y W => y = .int .i64 0 ∧ W = w5) (fun _ _ => 0)
                case atStart => exact ⟨rfl, rfl⟩
                case round =>
                  rename World => W
                  obtain ⟨rfl, hW⟩ := hrel
                  have hW' := hW.symm
                  clear hW
                  subst hW'
                  go_wp2_with fail
                  refine wp_region_planD (fun _ => True) [.take 0, .take 1, .take 2, .take 3, .drop 4, .drop 5, .drop 6, .drop 7, .drop 8, .take 9, .take 10, .drop 11, .drop 12, .drop 13, .drop 14, .drop 15, .drop 16, .drop 17, .drop 18, .drop 19, .drop 20, .drop 21, .drop 22, .drop 23, .drop 24, .drop 25, .drop 26, .drop 27, .drop 28, .drop 29, .drop 30, .drop 31, .drop 32, .drop 33, .drop 34, .drop 35, .drop 36, .take 37] mixedP (by kernel_rfl) rfl (by kernel_rfl) (fun _ _ _ d _ h => by cases d <;> exact h) trivial ?_
                  refine planD_val (some 93) rfl rfl rfl (.slice p3 0 c3) (fun _ => by go_simp) ?_
                  go_frame
                  refine planD_val (some 94) rfl rfl rfl (.int .i64 0) (fun _ => by go_simp) ?_
                  go_frame
                  refine planD_val (some 95) rfl rfl rfl (.bool false) (fun _ => by go_simp) ?_
                  go_frame
                  refine planD_val (some 96) rfl rfl rfl (.bool false) (fun _ => by go_simp) ?_
                  go_frame
                  refine planD_drop (some 97) rfl rfl rfl ?_
                  go_frame
                  refine planD_drop (some 98) rfl rfl rfl ?_
                  go_frame
                  refine planD_drop (some 99) rfl rfl rfl ?_
                  go_frame
                  refine planD_drop (some 100) rfl rfl rfl ?_
                  go_frame
                  refine planD_drop (some 101) rfl rfl rfl ?_
                  go_frame
                  refine planD_val (some 102) rfl rfl rfl (.bool false) (fun _ => by go_simp) ?_
                  go_frame
                  refine planD_val (some 103) rfl rfl rfl (.bool false) (fun _ => by go_simp) ?_
                  go_frame
                  refine planD_drop (some 104) rfl rfl rfl ?_
                  go_frame
                  refine planD_drop (some 105) rfl rfl rfl ?_
                  go_frame
                  refine planD_drop (some 106) rfl rfl rfl ?_
                  go_frame
                  refine planD_drop (some 107) rfl rfl rfl ?_
                  go_frame
                  refine planD_drop (some 108) rfl rfl rfl ?_
                  go_frame
                  refine planD_drop (some 109) rfl rfl rfl ?_
                  go_frame
                  refine planD_drop (some 110) rfl rfl rfl ?_
                  go_frame
                  refine planD_drop (some 111) rfl rfl rfl ?_
                  go_frame
                  refine planD_drop (some 112) rfl rfl rfl ?_
                  go_frame
                  refine planD_drop (some 113) rfl rfl rfl ?_
                  go_frame
                  refine planD_drop (some 114) rfl rfl rfl ?_
                  go_frame
                  refine planD_drop (some 115) rfl rfl rfl ?_
                  go_frame
                  refine planD_drop (some 116) rfl rfl rfl ?_
                  go_frame
                  refine planD_drop (some 117) rfl rfl rfl ?_
                  go_frame
                  refine planD_drop (some 118) rfl rfl rfl ?_
                  go_frame
                  refine planD_drop (some 119) rfl rfl rfl ?_
                  go_frame
                  refine planD_drop (some 120) rfl rfl rfl ?_
                  go_frame
                  refine planD_drop (some 121) rfl rfl rfl ?_
                  go_frame
                  refine planD_drop (some 122) rfl rfl rfl ?_
                  go_frame
                  refine planD_drop (some 123) rfl rfl rfl ?_
                  go_frame
                  refine planD_drop (some 124) rfl rfl rfl ?_
                  go_frame
                  refine planD_drop (some 125) rfl rfl rfl ?_
                  go_frame
                  refine planD_drop (some 126) rfl rfl rfl ?_
                  go_frame
                  refine planD_drop (some 127) rfl rfl rfl ?_
                  go_frame
                  refine planD_drop (some 128) rfl rfl rfl ?_
                  go_frame
                  refine planD_drop (some 129) rfl rfl rfl ?_
                  go_frame
                  refine planD_val (some 130) rfl rfl rfl (.bool false) (fun _ => by go_simp) ?_
                  go_frame
                  refine then_normalH ?_
                  go_at_K
                  have HB : Hid (Below w.heap.size w w5.drew) := ⟨hBw5.os, hBw5.tape, hBw5.output, hBw5.size, hBw5.block⟩
                  have k0 : w5.drew.cell? ⟨gm, om, none⟩ = some (.int .i64 2147483647) := d0'
                  clear hBw5 d0'
                  go_wp2_with fail
                  go_ret
                  exact ⟨rfl, HB.out⟩
            · skip
              as_aux_lemma =>
                obtain ⟨kl, hkl⟩ : ∃ kl, K.length = kl := ⟨_, rfl⟩
                have HKL : Hid (K.length = kl) := hkl
                have hlL : (K ++ [((2147483647 : Int), d)]).length = kl + 1 := by rw [List.length_append, hkl]; rfl
                have hlM : (K ++ [((2147483647 : Int), d')]).length = kl + 1 := by rw [List.length_append, hkl]; rfl
                rw [hlL] at hv5 hLl ⊢
                rw [hlM] at hu5 ⊢
                obtain ⟨ll, hll⟩ : ∃ ll, kl + 1 = ll := ⟨_, rfl⟩
                rw [hll] at hv5 hLl ⊢
                rw [hll] at hu5
                have HLL : Hid (kl + 1 = ll) := hll
                have HLM : Hid (kl + 1 = ll) := hll
                have hlli : (ll : Int) ≤ 300 := by omega
                clear hll hkl hlL hlM
                go_wp2_with fail
                go_loopw [14] (fun y W => ∃ j : Nat, y = .int .i64 (j : Nat) ∧ j ≤ kl ∧ Below w5.heap.size w5 W) (fun y _ => kl - (intOf y).toNat)
                case atStart => exact ⟨0, rfl, Nat.zero_le _, Below.refl _ _⟩
                case round =>
                  rename World => W
                  obtain ⟨j, rfl, hj, hBW⟩ := hrel
                  have hvW := hv5.below hBW
                  have huW := hu5.below hBW
                  by_cases hjk : j < kl
                  · have hji : (j : Int) + 1 < ll := by have := HLL.out; omega
                    have hjm : (j : Int) < ll := by have := HLM.out; omega
                    have hjl : (j : Int) < ll := by omega
                    obtain ⟨⟨u, s⟩, hxk⟩ : ∃ x, K[j]? = some x := ⟨_, List.getElem?_eq_getElem (by rw [HKL.out]; exact hjk)⟩
                    obtain ⟨gl, ol, rfl, h1, c0, c1⟩ := hvW.at (i := j) (x := (u, s)) (by rw [List.getElem?_append_left (by rw [HKL.out]; exact hjk)]; exact hxk)
                    obtain ⟨gm, om, rfl, h2, d0, d1⟩ := huW.at (i := j) (x := (u, s)) (by rw [List.getElem?_append_left (by rw [HKL.out]; exact hjk)]; exact hxk)
                    clear h1 h2
                    dsimp only at c0 c1 d0 d1
                    have heq := fun w => eql_ck w u u s s
                    simp only [and_self, decide_true] at heq
                    have hgd := guardCk
                    clear hvW huW hxk
                    go_wp2_with fail
                    refine wp_region_plan (fun W => (W.cell? ⟨gl, ol + j * 2, none⟩ = some (.int .i64 u) ∧ W.cell? ⟨gl, ol + j * 2 + 1, none⟩ = some (.string s)) ∧ W.cell? ⟨gm, om + j * 2, none⟩ = some (.int .i64 u) ∧ W.cell? ⟨gm, om + j * 2 + 1, none⟩ = some (.string s)) [.take 0, .take 1, .take 2, .take 3, .take 4, .take 5, .take 6, .take 7, .take 8] mixedP (by kernel_rfl) rfl (by kernel_rfl) (fun _ _ _ d _ h => by cases d <;> exact h) ⟨⟨c0, c1⟩, d0, d1⟩ ?_
                    refine plan_valG (some 84) rfl rfl rfl (.slice (some ⟨gm, om, none⟩) ll c5) (fun _ => by go_simp) ?_
                    go_frame
                    refine plan_valG (some 85) rfl rfl rfl (.int .i64 (j : Nat)) (fun _ => by go_simp) ?_
                    go_frame
                    refine plan_valG (some 86) rfl rfl rfl (.pointer (some ⟨gm, om + j * 2, none⟩)) (fun _ => by go_simp) ?_
                    go_frame
                    refine plan_ldG (some 87) rfl rfl rfl _ _ rfl rfl (v := .agg #[.int .i64 u, .string s]) (fun W hW => ld_ck hW.2.1 hW.2.2) ?_
                    go_frame
                    refine plan_valG (some 88) rfl rfl rfl (.slice (some ⟨gl, ol, none⟩) ll c3) (fun _ => by go_simp) ?_
                    go_frame
                    refine plan_valG (some 89) rfl rfl rfl (.int .i64 (j : Nat)) (fun _ => by go_simp) ?_
                    go_frame
                    refine plan_valG (some 90) rfl rfl rfl (.pointer (some ⟨gl, ol + j * 2, none⟩)) (fun _ => by go_simp) ?_
                    go_frame
                    refine plan_ldG (some 91) rfl rfl rfl _ _ rfl rfl (v := .agg #[.int .i64 u, .string s]) (fun W hW => ld_ck hW.1.1 hW.1.2) ?_
                    go_frame
                    refine plan_valG (some 92) rfl rfl rfl (.bool false) (fun _ => by go_simp) ?_
                    go_frame
                    refine then_normalH ?_
                    go_at_K
                    have HB : Hid (Below w5.heap.size w5 W.drew) := ⟨hBW.os, hBW.tape, hBW.output, hBW.size, hBW.block⟩
                    clear hBW c0 c1 d0 d1
                    go_wp2_with fail
                    exact ⟨⟨j + 1, by go_num, by omega, HB.out⟩, by simp [intOf]; omega⟩
                  · have hji : ¬ (j : Int) + 1 < ll := by have := HLL.out; omega
                    obtain rfl : j = kl := by omega
                    have hBwW := below_new hBw5 hBW
                    obtain ⟨gm, om, rfl, h2, d0, d1⟩ := huW.at (i := j) (x := (2147483647, d')) (by rw [← HKL.out]; simp)
                    clear h2
                    dsimp only at d0 d1
                    have hjl2 : (j : Int) < ll := by have := HLL.out; omega
                    have hlj : (ll : Int) - 1 = (j : Int) := by have := HLL.out; omega
                    have hllp : 0 < ll := by have := HLL.out; omega
                    have hwj := wrapH j (by have := HLL.out; omega)
                    clear hvW huW hjk
                    go_wp2_with fail
                    refine wp_region_planD (fun _ => True) [.take 0, .take 1, .take 2, .take 3, .take 4, .take 5, .take 6, .take 7, .take 8, .take 9, .take 10, .drop 11, .drop 12, .drop 13, .drop 14, .drop 15, .drop 16, .drop 17, .drop 18, .drop 19, .drop 20, .drop 21, .drop 22, .drop 23, .drop 24, .drop 25, .drop 26, .drop 27, .drop 28, .drop 29, .drop 30, .drop 31, .drop 32, .drop 33, .drop 34, .drop 35, .drop 36, .take 37] mixedP (by kernel_rfl) rfl (by kernel_rfl) (fun _ _ _ d _ h => by cases d <;> exact h) trivial ?_
                    refine planD_val (some 93) rfl rfl rfl (.slice p3 ll c3) (fun _ => by go_simp) ?_
                    go_frame
                    refine planD_val (some 94) rfl rfl rfl (.int .i64 (ll : Nat)) (fun _ => by go_simp) ?_
                    go_frame
                    refine planD_val (some 95) rfl rfl rfl (.bool true) (fun _ => by go_simp) ?_
                    go_frame
                    refine planD_val (some 96) rfl rfl rfl (.bool true) (fun _ => by go_simp) ?_
                    go_frame
                    refine planD_val (some 97) rfl rfl rfl (.slice (some ⟨gm, om, none⟩) ll c5) (fun _ => by go_simp) ?_
                    go_frame
                    refine planD_val (some 98) rfl rfl rfl (.int .i64 (ll : Nat)) (fun _ => by go_simp) ?_
                    go_frame
                    refine planD_val (some 99) rfl rfl rfl (.slice p3 ll c3) (fun _ => by go_simp) ?_
                    go_frame
                    refine planD_val (some 100) rfl rfl rfl (.int .i64 (ll : Nat)) (fun _ => by go_simp) ?_
                    go_frame
                    refine planD_val (some 101) rfl rfl rfl (.bool false) (fun _ => by go_simp) ?_
                    go_frame
                    refine planD_val (some 102) rfl rfl rfl (.bool false) (fun _ => by go_simp) ?_
                    go_frame
                    refine planD_val (some 103) rfl rfl rfl (.bool false) (fun _ => by go_simp) ?_
                    go_frame
                    refine planD_drop (some 104) rfl rfl rfl ?_
                    go_frame
                    refine planD_drop (some 105) rfl rfl rfl ?_
                    go_frame
                    refine planD_drop (some 106) rfl rfl rfl ?_
                    go_frame
                    refine planD_drop (some 107) rfl rfl rfl ?_
                    go_frame
                    refine planD_drop (some 108) rfl rfl rfl ?_
                    go_frame
                    refine planD_drop (some 109) rfl rfl rfl ?_
                    go_frame
                    refine planD_drop (some 110) rfl rfl rfl ?_
                    go_frame
                    refine planD_drop (some 111) rfl rfl rfl ?_
                    go_frame
                    refine planD_drop (some 112) rfl rfl rfl ?_
                    go_frame
                    refine planD_drop (some 113) rfl rfl rfl ?_
                    go_frame
                    refine planD_drop (some 114) rfl rfl rfl ?_
                    go_frame
                    refine planD_drop (some 115) rfl rfl rfl ?_
                    go_frame
                    refine planD_drop (some 116) rfl rfl rfl ?_
                    go_frame
                    refine planD_drop (some 117) rfl rfl rfl ?_
                    go_frame
                    refine planD_drop (some 118) rfl rfl rfl ?_
                    go_frame
                    refine planD_drop (some 119) rfl rfl rfl ?_
                    go_frame
                    refine planD_drop (some 120) rfl rfl rfl ?_
                    go_frame
                    refine planD_drop (some 121) rfl rfl rfl ?_
                    go_frame
                    refine planD_drop (some 122) rfl rfl rfl ?_
                    go_frame
                    refine planD_drop (some 123) rfl rfl rfl ?_
                    go_frame
                    refine planD_drop (some 124) rfl rfl rfl ?_
                    go_frame
                    refine planD_drop (some 125) rfl rfl rfl ?_
                    go_frame
                    refine planD_drop (some 126) rfl rfl rfl ?_
                    go_frame
                    refine planD_drop (some 127) rfl rfl rfl ?_
                    go_frame
                    refine planD_drop (some 128) rfl rfl rfl ?_
                    go_frame
                    refine planD_drop (some 129) rfl rfl rfl ?_
                    go_frame
                    refine planD_val (some 130) rfl rfl rfl (.bool false) (fun _ => by go_simp) ?_
                    go_frame
                    refine then_normalH ?_
                    go_at_K
                    have HB : Hid (Below w.heap.size w W.drew) := ⟨hBwW.os, hBwW.tape, hBwW.output, hBwW.size, hBwW.block⟩
                    have k0 : W.drew.cell? ⟨gm, om + j * 2, none⟩ = some (.int .i64 2147483647) := d0
                    clear hBwW hBW d0 d1
                    go_wp2_with fail
                    go_ret
                    exact ⟨rfl, HB.out⟩
            · skip
              as_aux_lemma =>
                obtain ⟨kl, hkl⟩ : ∃ kl, K.length = kl := ⟨_, rfl⟩
                have HKL : Hid (K.length = kl) := hkl
                have hlL : (K ++ [((2147483647 : Int), d)]).length = kl + 1 := by rw [List.length_append, hkl]; rfl
                have hlM : (K ++ [((g : Int), d), ((2147483647 : Int), d')]).length = kl + 2 := by rw [List.length_append, hkl]; rfl
                rw [hlL] at hv5 hLl ⊢
                rw [hlM] at hu5 ⊢
                obtain ⟨ll, hll⟩ : ∃ ll, kl + 1 = ll := ⟨_, rfl⟩
                obtain ⟨lm, hlm⟩ : ∃ lm, kl + 2 = lm := ⟨_, rfl⟩
                rw [hll] at hv5 hLl ⊢
                rw [hlm] at hu5 ⊢
                have HLL : Hid (kl + 1 = ll) := hll
                have HLM : Hid (kl + 2 = lm) := hlm
                have hlli : (ll : Int) ≤ 300 := by omega
                have hlmi : (lm : Int) ≤ 301 := by omega
                have hl1 : ¬ (lm : Int) < ll := by omega
                have hl2 : ¬ (ll : Int) + 1 < lm := by omega
                clear hll hlm hkl hlL hlM
                go_wp2_with fail
                go_loopw [14] (fun y W => ∃ j : Nat, y = .int .i64 (j : Nat) ∧ j ≤ kl ∧ Below w5.heap.size w5 W) (fun y _ => kl - (intOf y).toNat)
                case atStart => exact ⟨0, rfl, Nat.zero_le _, Below.refl _ _⟩
                case round =>
                  rename World => W
                  obtain ⟨j, rfl, hj, hBW⟩ := hrel
                  have hvW := hv5.below hBW
                  have huW := hu5.below hBW
                  by_cases hjk : j < kl
                  · have hji : (j : Int) + 1 < ll := by have := HLL.out; omega
                    have hjm : (j : Int) < lm := by have := HLM.out; omega
                    have hjl : (j : Int) < ll := by omega
                    obtain ⟨⟨u, s⟩, hxk⟩ : ∃ x, K[j]? = some x := ⟨_, List.getElem?_eq_getElem (by rw [HKL.out]; exact hjk)⟩
                    obtain ⟨gl, ol, rfl, h1, c0, c1⟩ := hvW.at (i := j) (x := (u, s)) (by rw [List.getElem?_append_left (by rw [HKL.out]; exact hjk)]; exact hxk)
                    obtain ⟨gm, om, rfl, h2, d0, d1⟩ := huW.at (i := j) (x := (u, s)) (by rw [List.getElem?_append_left (by rw [HKL.out]; exact hjk)]; exact hxk)
                    clear h1 h2
                    dsimp only at c0 c1 d0 d1
                    have heq := fun w => eql_ck w u u s s
                    simp only [and_self, decide_true] at heq
                    have hgd := guardCk
                    clear hvW huW hxk
                    go_wp2_with fail
                    refine wp_region_plan (fun W => (W.cell? ⟨gl, ol + j * 2, none⟩ = some (.int .i64 u) ∧ W.cell? ⟨gl, ol + j * 2 + 1, none⟩ = some (.string s)) ∧ W.cell? ⟨gm, om + j * 2, none⟩ = some (.int .i64 u) ∧ W.cell? ⟨gm, om + j * 2 + 1, none⟩ = some (.string s)) [.take 0, .take 1, .take 2, .take 3, .take 4, .take 5, .take 6, .take 7, .take 8] mixedP (by kernel_rfl) rfl (by kernel_rfl) (fun _ _ _ d _ h => by cases d <;> exact h) ⟨⟨c0, c1⟩, d0, d1⟩ ?_
                    refine plan_valG (some 84) rfl rfl rfl (.slice (some ⟨gm, om, none⟩) lm c5) (fun _ => by go_simp) ?_
                    go_frame
                    refine plan_valG (some 85) rfl rfl rfl (.int .i64 (j : Nat)) (fun _ => by go_simp) ?_
                    go_frame
                    refine plan_valG (some 86) rfl rfl rfl (.pointer (some ⟨gm, om + j * 2, none⟩)) (fun _ => by go_simp) ?_
                    go_frame
                    refine plan_ldG (some 87) rfl rfl rfl _ _ rfl rfl (v := .agg #[.int .i64 u, .string s]) (fun W hW => ld_ck hW.2.1 hW.2.2) ?_
                    go_frame
                    refine plan_valG (some 88) rfl rfl rfl (.slice (some ⟨gl, ol, none⟩) ll c3) (fun _ => by go_simp) ?_
                    go_frame
                    refine plan_valG (some 89) rfl rfl rfl (.int .i64 (j : Nat)) (fun _ => by go_simp) ?_
                    go_frame
                    refine plan_valG (some 90) rfl rfl rfl (.pointer (some ⟨gl, ol + j * 2, none⟩)) (fun _ => by go_simp) ?_
                    go_frame
                    refine plan_ldG (some 91) rfl rfl rfl _ _ rfl rfl (v := .agg #[.int .i64 u, .string s]) (fun W hW => ld_ck hW.1.1 hW.1.2) ?_
                    go_frame
                    refine plan_valG (some 92) rfl rfl rfl (.bool false) (fun _ => by go_simp) ?_
                    go_frame
                    refine then_normalH ?_
                    go_at_K
                    have HB : Hid (Below w5.heap.size w5 W.drew) := ⟨hBW.os, hBW.tape, hBW.output, hBW.size, hBW.block⟩
                    clear hBW c0 c1 d0 d1
                    go_wp2_with fail
                    exact ⟨⟨j + 1, by go_num, by omega, HB.out⟩, by simp [intOf]; omega⟩
                  · have hji : ¬ (j : Int) + 1 < ll := by have := HLL.out; omega
                    obtain rfl : j = kl := by omega
                    have hBwW := below_new hBw5 hBW
                    obtain ⟨gm, om, rfl, h2, d0, d1⟩ := huW.at (i := j) (x := ((g : Int), d)) (by rw [← HKL.out]; simp)
                    obtain ⟨gm', om', e3, h3, d2, d3⟩ := huW.at (i := j + 1) (x := (2147483647, d')) (by rw [← HKL.out, List.getElem?_append_right (by omega), Nat.add_sub_cancel_left]; rfl)
                    injection e3 with e3
                    injection e3 with e31 e32
                    subst e31 e32
                    obtain ⟨gl, ol, rfl, h1, c0, c1⟩ := hvW.at (i := j) (x := (2147483647, d)) (by rw [← HKL.out]; simp)
                    clear h1 h2 h3
                    dsimp only at c0 c1 d0 d1 d2 d3
                    have hjl2 : (j : Int) < ll := by have := HLL.out; omega
                    have hjm2 : (j : Int) < lm := by have := HLM.out; omega
                    have hlj : (ll : Int) - 1 = (j : Int) := by have := HLL.out; omega
                    obtain ⟨jm, hjm⟩ : ∃ jm, j + 1 = jm := ⟨_, rfl⟩
                    rw [hjm] at d2 d3
                    have hlj2 : (lm : Int) - 1 = (jm : Int) := by have := HLM.out; omega
                    have hjm3 : (jm : Int) < lm := by omega
                    have hllp : 0 < ll := by have := HLL.out; omega
                    have hlmp : 0 < lm := by have := HLM.out; omega
                    have hgt : (ll : Int) < lm := by have := HLL.out; have := HLM.out; omega
                    have hwj := wrapH j (by have := HLL.out; omega)
                    have hwl := wrapH1 ll (by omega)
                    clear hvW huW hjk hjm
                    go_wp2_with fail
                    refine wp_region_plan (fun W => (W.cell? ⟨gm, om + j * 2, none⟩ = some (.int .i64 g) ∧ W.cell? ⟨gm, om + j * 2 + 1, none⟩ = some (.string d)) ∧ W.cell? ⟨gl, ol + j * 2 + 1, none⟩ = some (.string d)) [.take 0, .take 1, .take 2, .take 3, .take 4, .take 5, .take 6, .take 7, .take 8, .take 9, .take 10, .take 11, .take 12, .take 13, .take 14, .take 15, .take 16, .take 17, .take 18, .take 19, .take 20, .take 21, .take 22, .take 23, .take 24, .take 25, .take 26, .take 27, .take 28, .take 29, .take 30, .take 31, .take 32, .take 33, .take 34, .take 35, .take 36, .take 37] mixedP (by kernel_rfl) rfl (by kernel_rfl) (fun _ _ _ d _ h => by cases d <;> exact h) ⟨⟨d0, d1⟩, c1⟩ ?_
                    refine plan_valG (some 93) rfl rfl rfl (.slice (some ⟨gl, ol, none⟩) ll c3) (fun _ => by go_simp) ?_
                    go_frame
                    refine plan_valG (some 94) rfl rfl rfl (.int .i64 (ll : Nat)) (fun _ => by go_simp) ?_
                    go_frame
                    refine plan_valG (some 95) rfl rfl rfl (.bool true) (fun _ => by go_simp) ?_
                    go_frame
                    refine plan_valG (some 96) rfl rfl rfl (.bool true) (fun _ => by go_simp) ?_
                    go_frame
                    refine plan_valG (some 97) rfl rfl rfl (.slice (some ⟨gm, om, none⟩) lm c5) (fun _ => by go_simp) ?_
                    go_frame
                    refine plan_valG (some 98) rfl rfl rfl (.int .i64 (lm : Nat)) (fun _ => by go_simp) ?_
                    go_frame
                    refine plan_valG (some 99) rfl rfl rfl (.slice (some ⟨gl, ol, none⟩) ll c3) (fun _ => by go_simp) ?_
                    go_frame
                    refine plan_valG (some 100) rfl rfl rfl (.int .i64 (ll : Nat)) (fun _ => by go_simp) ?_
                    go_frame
                    refine plan_valG (some 101) rfl rfl rfl (.bool true) (fun _ => by go_simp) ?_
                    go_frame
                    refine plan_valG (some 102) rfl rfl rfl (.bool true) (fun _ => by go_simp) ?_
                    go_frame
                    refine plan_valG (some 103) rfl rfl rfl (.bool true) (fun _ => by go_simp) ?_
                    go_frame
                    refine plan_valG (some 104) rfl rfl rfl (.slice (some ⟨gm, om, none⟩) lm c5) (fun _ => by go_simp) ?_
                    go_frame
                    refine plan_valG (some 105) rfl rfl rfl (.slice (some ⟨gl, ol, none⟩) ll c3) (fun _ => by go_simp) ?_
                    go_frame
                    refine plan_valG (some 106) rfl rfl rfl (.int .i64 (ll : Nat)) (fun _ => by go_simp) ?_
                    go_frame
                    refine plan_valG (some 107) rfl rfl rfl (.int .i64 (j : Nat)) (fun _ => by go_simp) ?_
                    go_frame
                    refine plan_valG (some 108) rfl rfl rfl (.pointer (some ⟨gm, om + j * 2, none⟩)) (fun _ => by go_simp) ?_
                    go_frame
                    refine plan_valG (some 109) rfl rfl rfl (.pointer (some ⟨gm, om + j * 2 + 1, none⟩)) (fun _ => by go_simp) ?_
                    go_frame
                    refine plan_ldG (some 110) rfl rfl rfl _ _ rfl rfl (v := .string d) (fun W hW => ldStrH hW.1.2) ?_
                    go_frame
                    refine plan_valG (some 111) rfl rfl rfl (.slice (some ⟨gl, ol, none⟩) ll c3) (fun _ => by go_simp) ?_
                    go_frame
                    refine plan_valG (some 112) rfl rfl rfl (.slice (some ⟨gl, ol, none⟩) ll c3) (fun _ => by go_simp) ?_
                    go_frame
                    refine plan_valG (some 113) rfl rfl rfl (.int .i64 (ll : Nat)) (fun _ => by go_simp) ?_
                    go_frame
                    refine plan_valG (some 114) rfl rfl rfl (.int .i64 (j : Nat)) (fun _ => by go_simp) ?_
                    go_frame
                    refine plan_valG (some 115) rfl rfl rfl (.pointer (some ⟨gl, ol + j * 2, none⟩)) (fun _ => by go_simp) ?_
                    go_frame
                    refine plan_valG (some 116) rfl rfl rfl (.pointer (some ⟨gl, ol + j * 2 + 1, none⟩)) (fun _ => by go_simp) ?_
                    go_frame
                    refine plan_ldG (some 117) rfl rfl rfl _ _ rfl rfl (v := .string d) (fun W hW => ldStrH hW.2) ?_
                    go_frame
                    refine plan_valG (some 118) rfl rfl rfl (.bool false) (fun _ => by go_simp) ?_
                    go_frame
                    refine plan_valG (some 119) rfl rfl rfl (.bool false) (fun _ => by go_simp) ?_
                    go_frame
                    refine plan_valG (some 120) rfl rfl rfl (.slice (some ⟨gm, om, none⟩) lm c5) (fun _ => by go_simp) ?_
                    go_frame
                    refine plan_valG (some 121) rfl rfl rfl (.slice (some ⟨gl, ol, none⟩) ll c3) (fun _ => by go_simp) ?_
                    go_frame
                    refine plan_valG (some 122) rfl rfl rfl (.int .i64 (ll : Nat)) (fun _ => by go_simp) ?_
                    go_frame
                    refine plan_valG (some 123) rfl rfl rfl (.int .i64 (j : Nat)) (fun _ => by go_simp) ?_
                    go_frame
                    refine plan_valG (some 124) rfl rfl rfl (.pointer (some ⟨gm, om + j * 2, none⟩)) (fun _ => by go_simp) ?_
                    go_frame
                    refine plan_valG (some 125) rfl rfl rfl (.pointer (some ⟨gm, om + j * 2, none⟩)) (fun _ => by go_simp) ?_
                    go_frame
                    refine plan_ldG (some 126) rfl rfl rfl _ _ rfl rfl (v := .int .i64 (g : Nat)) (fun W hW => ldIntH hW.1.1) ?_
                    go_frame
                    refine plan_valG (some 127) rfl rfl rfl (.int .i64 (g : Nat)) (fun _ => by go_simp) ?_
                    go_frame
                    refine plan_valG (some 128) rfl rfl rfl (.bool false) (fun _ => by go_simp) ?_
                    go_frame
                    refine plan_valG (some 129) rfl rfl rfl (.bool false) (fun _ => by go_simp) ?_
                    go_frame
                    refine plan_valG (some 130) rfl rfl rfl (.bool false) (fun _ => by go_simp) ?_
                    go_frame
                    refine then_normalH ?_
                    go_at_K
                    have HB : Hid (Below w.heap.size w W.drew) := ⟨hBwW.os, hBwW.tape, hBwW.output, hBwW.size, hBwW.block⟩
                    have k0 : W.drew.cell? ⟨gm, om + jm * 2, none⟩ = some (.int .i64 2147483647) := d2
                    clear hBwW hBW d0 d1 d2 d3 c0 c1
                    go_wp2_with fail
                    go_ret
                    exact ⟨rfl, HB.out⟩
        · have hmv : f.tmod 100000 = (kk : Int) := by omega
          have hkn0 : ¬ (kk : Int) < 0 := by omega
          clear hkk hneg
          as_aux_lemma =>
            go_wp2_with fail
            refine hapd.mono ?_
            rintro e w5 ⟨v5, L', rfl, hL', ho5, hB5⟩
            clear hapd
            obtain ⟨p5, c5, rfl⟩ := ho5.at.shape
            have hcase := tail_cases hnum hL hL'
            rw [← HGL.out] at hcase
            have hBw5 := below_new hBw4 hB5
            have hv5 := hv4.below hB5
            have hu5 := ho5.at
            clear hL hL' ho5 ho3 hB5 hB4 hB3 hv4 hBw4 hnum hmem
            rcases hcase with ⟨rfl, d, rfl⟩ | ⟨K, d, d', rfl, rfl⟩ | ⟨K, d, d', rfl, rfl⟩
            · skip
              as_aux_lemma =>
                obtain ⟨gm, om, hpe, hnn, d0, d1⟩ := hu5.at (i := 0) rfl
                subst hpe
                clear hnn
                dsimp only at d0 d1
                have d0' : w5.cell? ⟨gm, om, none⟩ = some (.int .i64 2147483647) := d0
                clear d0 d1 hv5 hu5 hLl
                go_wp2_with fail
                go_loopw [14] (fun y W => y = .int .i64 0 ∧ W = w5) (fun _ _ => 0)
                case atStart => exact ⟨rfl, rfl⟩
                case round =>
                  rename World => W
                  obtain ⟨rfl, hW⟩ := hrel
                  have hW' := hW.symm
                  clear hW
                  subst hW'
                  go_wp2_with fail
                  refine wp_region_planD (fun _ => True) [.take 0, .take 1, .take 2, .take 3, .drop 4, .drop 5, .drop 6, .drop 7, .drop 8, .take 9, .take 10, .drop 11, .drop 12, .drop 13, .drop 14, .drop 15, .drop 16, .drop 17, .drop 18, .drop 19, .drop 20, .drop 21, .drop 22, .drop 23, .drop 24, .drop 25, .drop 26, .drop 27, .drop 28, .drop 29, .drop 30, .drop 31, .drop 32, .drop 33, .drop 34, .drop 35, .drop 36, .take 37] mixedP (by kernel_rfl) rfl (by kernel_rfl) (fun _ _ _ d _ h => by cases d <;> exact h) trivial ?_
                  refine planD_val (some 93) rfl rfl rfl (.slice p3 0 c3) (fun _ => by go_simp) ?_
                  go_frame
                  refine planD_val (some 94) rfl rfl rfl (.int .i64 0) (fun _ => by go_simp) ?_
                  go_frame
                  refine planD_val (some 95) rfl rfl rfl (.bool false) (fun _ => by go_simp) ?_
                  go_frame
                  refine planD_val (some 96) rfl rfl rfl (.bool false) (fun _ => by go_simp) ?_
                  go_frame
                  refine planD_drop (some 97) rfl rfl rfl ?_
                  go_frame
                  refine planD_drop (some 98) rfl rfl rfl ?_
                  go_frame
                  refine planD_drop (some 99) rfl rfl rfl ?_
                  go_frame
                  refine planD_drop (some 100) rfl rfl rfl ?_
                  go_frame
                  refine planD_drop (some 101) rfl rfl rfl ?_
                  go_frame
                  refine planD_val (some 102) rfl rfl rfl (.bool false) (fun _ => by go_simp) ?_
                  go_frame
                  refine planD_val (some 103) rfl rfl rfl (.bool false) (fun _ => by go_simp) ?_
                  go_frame
                  refine planD_drop (some 104) rfl rfl rfl ?_
                  go_frame
                  refine planD_drop (some 105) rfl rfl rfl ?_
                  go_frame
                  refine planD_drop (some 106) rfl rfl rfl ?_
                  go_frame
                  refine planD_drop (some 107) rfl rfl rfl ?_
                  go_frame
                  refine planD_drop (some 108) rfl rfl rfl ?_
                  go_frame
                  refine planD_drop (some 109) rfl rfl rfl ?_
                  go_frame
                  refine planD_drop (some 110) rfl rfl rfl ?_
                  go_frame
                  refine planD_drop (some 111) rfl rfl rfl ?_
                  go_frame
                  refine planD_drop (some 112) rfl rfl rfl ?_
                  go_frame
                  refine planD_drop (some 113) rfl rfl rfl ?_
                  go_frame
                  refine planD_drop (some 114) rfl rfl rfl ?_
                  go_frame
                  refine planD_drop (some 115) rfl rfl rfl ?_
                  go_frame
                  refine planD_drop (some 116) rfl rfl rfl ?_
                  go_frame
                  refine planD_drop (some 117) rfl rfl rfl ?_
                  go_frame
                  refine planD_drop (some 118) rfl rfl rfl ?_
                  go_frame
                  refine planD_drop (some 119) rfl rfl rfl ?_
                  go_frame
                  refine planD_drop (some 120) rfl rfl rfl ?_
                  go_frame
                  refine planD_drop (some 121) rfl rfl rfl ?_
                  go_frame
                  refine planD_drop (some 122) rfl rfl rfl ?_
                  go_frame
                  refine planD_drop (some 123) rfl rfl rfl ?_
                  go_frame
                  refine planD_drop (some 124) rfl rfl rfl ?_
                  go_frame
                  refine planD_drop (some 125) rfl rfl rfl ?_
                  go_frame
                  refine planD_drop (some 126) rfl rfl rfl ?_
                  go_frame
                  refine planD_drop (some 127) rfl rfl rfl ?_
                  go_frame
                  refine planD_drop (some 128) rfl rfl rfl ?_
                  go_frame
                  refine planD_drop (some 129) rfl rfl rfl ?_
                  go_frame
                  refine planD_val (some 130) rfl rfl rfl (.bool false) (fun _ => by go_simp) ?_
                  go_frame
                  refine then_normalH ?_
                  go_at_K
                  have HB : Hid (Below w.heap.size w w5.drew) := ⟨hBw5.os, hBw5.tape, hBw5.output, hBw5.size, hBw5.block⟩
                  have k0 : w5.drew.cell? ⟨gm, om, none⟩ = some (.int .i64 2147483647) := d0'
                  clear hBw5 d0'
                  go_wp2_with fail
                  go_ret
                  exact ⟨rfl, HB.out⟩
            · skip
              as_aux_lemma =>
                obtain ⟨kl, hkl⟩ : ∃ kl, K.length = kl := ⟨_, rfl⟩
                have HKL : Hid (K.length = kl) := hkl
                have hlL : (K ++ [((2147483647 : Int), d)]).length = kl + 1 := by rw [List.length_append, hkl]; rfl
                have hlM : (K ++ [((2147483647 : Int), d')]).length = kl + 1 := by rw [List.length_append, hkl]; rfl
                rw [hlL] at hv5 hLl ⊢
                rw [hlM] at hu5 ⊢
                obtain ⟨ll, hll⟩ : ∃ ll, kl + 1 = ll := ⟨_, rfl⟩
                rw [hll] at hv5 hLl ⊢
                rw [hll] at hu5
                have HLL : Hid (kl + 1 = ll) := hll
                have HLM : Hid (kl + 1 = ll) := hll
                have hlli : (ll : Int) ≤ 300 := by omega
                clear hll hkl hlL hlM
                go_wp2_with fail
                go_loopw [14] (fun y W => ∃ j : Nat, y = .int .i64 (j : Nat) ∧ j ≤ kl ∧ Below w5.heap.size w5 W) (fun y _ => kl - (intOf y).toNat)
                case atStart => exact ⟨0, rfl, Nat.zero_le _, Below.refl _ _⟩
                case round =>
                  rename World => W
                  obtain ⟨j, rfl, hj, hBW⟩ := hrel
                  have hvW := hv5.below hBW
                  have huW := hu5.below hBW
                  by_cases hjk : j < kl
                  · have hji : (j : Int) + 1 < ll := by have := HLL.out; omega
                    have hjm : (j : Int) < ll := by have := HLM.out; omega
                    have hjl : (j : Int) < ll := by omega
                    obtain ⟨⟨u, s⟩, hxk⟩ : ∃ x, K[j]? = some x := ⟨_, List.getElem?_eq_getElem (by rw [HKL.out]; exact hjk)⟩
                    obtain ⟨gl, ol, rfl, h1, c0, c1⟩ := hvW.at (i := j) (x := (u, s)) (by rw [List.getElem?_append_left (by rw [HKL.out]; exact hjk)]; exact hxk)
                    obtain ⟨gm, om, rfl, h2, d0, d1⟩ := huW.at (i := j) (x := (u, s)) (by rw [List.getElem?_append_left (by rw [HKL.out]; exact hjk)]; exact hxk)
                    clear h1 h2
                    dsimp only at c0 c1 d0 d1
                    have heq := fun w => eql_ck w u u s s
                    simp only [and_self, decide_true] at heq
                    have hgd := guardCk
                    clear hvW huW hxk
                    go_wp2_with fail
                    refine wp_region_plan (fun W => (W.cell? ⟨gl, ol + j * 2, none⟩ = some (.int .i64 u) ∧ W.cell? ⟨gl, ol + j * 2 + 1, none⟩ = some (.string s)) ∧ W.cell? ⟨gm, om + j * 2, none⟩ = some (.int .i64 u) ∧ W.cell? ⟨gm, om + j * 2 + 1, none⟩ = some (.string s)) [.take 0, .take 1, .take 2, .take 3, .take 4, .take 5, .take 6, .take 7, .take 8] mixedP (by kernel_rfl) rfl (by kernel_rfl) (fun _ _ _ d _ h => by cases d <;> exact h) ⟨⟨c0, c1⟩, d0, d1⟩ ?_
                    refine plan_valG (some 84) rfl rfl rfl (.slice (some ⟨gm, om, none⟩) ll c5) (fun _ => by go_simp) ?_
                    go_frame
                    refine plan_valG (some 85) rfl rfl rfl (.int .i64 (j : Nat)) (fun _ => by go_simp) ?_
                    go_frame
                    refine plan_valG (some 86) rfl rfl rfl (.pointer (some ⟨gm, om + j * 2, none⟩)) (fun _ => by go_simp) ?_
                    go_frame
                    refine plan_ldG (some 87) rfl rfl rfl _ _ rfl rfl (v := .agg #[.int .i64 u, .string s]) (fun W hW => ld_ck hW.2.1 hW.2.2) ?_
                    go_frame
                    refine plan_valG (some 88) rfl rfl rfl (.slice (some ⟨gl, ol, none⟩) ll c3) (fun _ => by go_simp) ?_
                    go_frame
                    refine plan_valG (some 89) rfl rfl rfl (.int .i64 (j : Nat)) (fun _ => by go_simp) ?_
                    go_frame
                    refine plan_valG (some 90) rfl rfl rfl (.pointer (some ⟨gl, ol + j * 2, none⟩)) (fun _ => by go_simp) ?_
                    go_frame
                    refine plan_ldG (some 91) rfl rfl rfl _ _ rfl rfl (v := .agg #[.int .i64 u, .string s]) (fun W hW => ld_ck hW.1.1 hW.1.2) ?_
                    go_frame
                    refine plan_valG (some 92) rfl rfl rfl (.bool false) (fun _ => by go_simp) ?_
                    go_frame
                    refine then_normalH ?_
                    go_at_K
                    have HB : Hid (Below w5.heap.size w5 W.drew) := ⟨hBW.os, hBW.tape, hBW.output, hBW.size, hBW.block⟩
                    clear hBW c0 c1 d0 d1
                    go_wp2_with fail
                    exact ⟨⟨j + 1, by go_num, by omega, HB.out⟩, by simp [intOf]; omega⟩
                  · have hji : ¬ (j : Int) + 1 < ll := by have := HLL.out; omega
                    obtain rfl : j = kl := by omega
                    have hBwW := below_new hBw5 hBW
                    obtain ⟨gm, om, rfl, h2, d0, d1⟩ := huW.at (i := j) (x := (2147483647, d')) (by rw [← HKL.out]; simp)
                    clear h2
                    dsimp only at d0 d1
                    have hjl2 : (j : Int) < ll := by have := HLL.out; omega
                    have hlj : (ll : Int) - 1 = (j : Int) := by have := HLL.out; omega
                    have hllp : 0 < ll := by have := HLL.out; omega
                    have hwj := wrapH j (by have := HLL.out; omega)
                    clear hvW huW hjk
                    go_wp2_with fail
                    refine wp_region_planD (fun _ => True) [.take 0, .take 1, .take 2, .take 3, .take 4, .take 5, .take 6, .take 7, .take 8, .take 9, .take 10, .drop 11, .drop 12, .drop 13, .drop 14, .drop 15, .drop 16, .drop 17, .drop 18, .drop 19, .drop 20, .drop 21, .drop 22, .drop 23, .drop 24, .drop 25, .drop 26, .drop 27, .drop 28, .drop 29, .drop 30, .drop 31, .drop 32, .drop 33, .drop 34, .drop 35, .drop 36, .take 37] mixedP (by kernel_rfl) rfl (by kernel_rfl) (fun _ _ _ d _ h => by cases d <;> exact h) trivial ?_
                    refine planD_val (some 93) rfl rfl rfl (.slice p3 ll c3) (fun _ => by go_simp) ?_
                    go_frame
                    refine planD_val (some 94) rfl rfl rfl (.int .i64 (ll : Nat)) (fun _ => by go_simp) ?_
                    go_frame
                    refine planD_val (some 95) rfl rfl rfl (.bool true) (fun _ => by go_simp) ?_
                    go_frame
                    refine planD_val (some 96) rfl rfl rfl (.bool true) (fun _ => by go_simp) ?_
                    go_frame
                    refine planD_val (some 97) rfl rfl rfl (.slice (some ⟨gm, om, none⟩) ll c5) (fun _ => by go_simp) ?_
                    go_frame
                    refine planD_val (some 98) rfl rfl rfl (.int .i64 (ll : Nat)) (fun _ => by go_simp) ?_
                    go_frame
                    refine planD_val (some 99) rfl rfl rfl (.slice p3 ll c3) (fun _ => by go_simp) ?_
                    go_frame
                    refine planD_val (some 100) rfl rfl rfl (.int .i64 (ll : Nat)) (fun _ => by go_simp) ?_
                    go_frame
                    refine planD_val (some 101) rfl rfl rfl (.bool false) (fun _ => by go_simp) ?_
                    go_frame
                    refine planD_val (some 102) rfl rfl rfl (.bool false) (fun _ => by go_simp) ?_
                    go_frame
                    refine planD_val (some 103) rfl rfl rfl (.bool false) (fun _ => by go_simp) ?_
                    go_frame
                    refine planD_drop (some 104) rfl rfl rfl ?_
                    go_frame
                    refine planD_drop (some 105) rfl rfl rfl ?_
                    go_frame
                    refine planD_drop (some 106) rfl rfl rfl ?_
                    go_frame
                    refine planD_drop (some 107) rfl rfl rfl ?_
                    go_frame
                    refine planD_drop (some 108) rfl rfl rfl ?_
                    go_frame
                    refine planD_drop (some 109) rfl rfl rfl ?_
                    go_frame
                    refine planD_drop (some 110) rfl rfl rfl ?_
                    go_frame
                    refine planD_drop (some 111) rfl rfl rfl ?_
                    go_frame
                    refine planD_drop (some 112) rfl rfl rfl ?_
                    go_frame
                    refine planD_drop (some 113) rfl rfl rfl ?_
                    go_frame
                    refine planD_drop (some 114) rfl rfl rfl ?_
                    go_frame
                    refine planD_drop (some 115) rfl rfl rfl ?_
                    go_frame
                    refine planD_drop (some 116) rfl rfl rfl ?_
                    go_frame
                    refine planD_drop (some 117) rfl rfl rfl ?_
                    go_frame
                    refine planD_drop (some 118) rfl rfl rfl ?_
                    go_frame
                    refine planD_drop (some 119) rfl rfl rfl ?_
                    go_frame
                    refine planD_drop (some 120) rfl rfl rfl ?_
                    go_frame
                    refine planD_drop (some 121) rfl rfl rfl ?_
                    go_frame
                    refine planD_drop (some 122) rfl rfl rfl ?_
                    go_frame
                    refine planD_drop (some 123) rfl rfl rfl ?_
                    go_frame
                    refine planD_drop (some 124) rfl rfl rfl ?_
                    go_frame
                    refine planD_drop (some 125) rfl rfl rfl ?_
                    go_frame
                    refine planD_drop (some 126) rfl rfl rfl ?_
                    go_frame
                    refine planD_drop (some 127) rfl rfl rfl ?_
                    go_frame
                    refine planD_drop (some 128) rfl rfl rfl ?_
                    go_frame
                    refine planD_drop (some 129) rfl rfl rfl ?_
                    go_frame
                    refine planD_val (some 130) rfl rfl rfl (.bool false) (fun _ => by go_simp) ?_
                    go_frame
                    refine then_normalH ?_
                    go_at_K
                    have HB : Hid (Below w.heap.size w W.drew) := ⟨hBwW.os, hBwW.tape, hBwW.output, hBwW.size, hBwW.block⟩
                    have k0 : W.drew.cell? ⟨gm, om + j * 2, none⟩ = some (.int .i64 2147483647) := d0
                    clear hBwW hBW d0 d1
                    go_wp2_with fail
                    go_ret
                    exact ⟨rfl, HB.out⟩
            · skip
              as_aux_lemma =>
                obtain ⟨kl, hkl⟩ : ∃ kl, K.length = kl := ⟨_, rfl⟩
                have HKL : Hid (K.length = kl) := hkl
                have hlL : (K ++ [((2147483647 : Int), d)]).length = kl + 1 := by rw [List.length_append, hkl]; rfl
                have hlM : (K ++ [((g : Int), d), ((2147483647 : Int), d')]).length = kl + 2 := by rw [List.length_append, hkl]; rfl
                rw [hlL] at hv5 hLl ⊢
                rw [hlM] at hu5 ⊢
                obtain ⟨ll, hll⟩ : ∃ ll, kl + 1 = ll := ⟨_, rfl⟩
                obtain ⟨lm, hlm⟩ : ∃ lm, kl + 2 = lm := ⟨_, rfl⟩
                rw [hll] at hv5 hLl ⊢
                rw [hlm] at hu5 ⊢
                have HLL : Hid (kl + 1 = ll) := hll
                have HLM : Hid (kl + 2 = lm) := hlm
                have hlli : (ll : Int) ≤ 300 := by omega
                have hlmi : (lm : Int) ≤ 301 := by omega
                have hl1 : ¬ (lm : Int) < ll := by omega
                have hl2 : ¬ (ll : Int) + 1 < lm := by omega
                clear hll hlm hkl hlL hlM
                go_wp2_with fail
                go_loopw [14] (fun y W => ∃ j : Nat, y = .int .i64 (j : Nat) ∧ j ≤ kl ∧ Below w5.heap.size w5 W) (fun y _ => kl - (intOf y).toNat)
                case atStart => exact ⟨0, rfl, Nat.zero_le _, Below.refl _ _⟩
                case round =>
                  rename World => W
                  obtain ⟨j, rfl, hj, hBW⟩ := hrel
                  have hvW := hv5.below hBW
                  have huW := hu5.below hBW
                  by_cases hjk : j < kl
                  · have hji : (j : Int) + 1 < ll := by have := HLL.out; omega
                    have hjm : (j : Int) < lm := by have := HLM.out; omega
                    have hjl : (j : Int) < ll := by omega
                    obtain ⟨⟨u, s⟩, hxk⟩ : ∃ x, K[j]? = some x := ⟨_, List.getElem?_eq_getElem (by rw [HKL.out]; exact hjk)⟩
                    obtain ⟨gl, ol, rfl, h1, c0, c1⟩ := hvW.at (i := j) (x := (u, s)) (by rw [List.getElem?_append_left (by rw [HKL.out]; exact hjk)]; exact hxk)
                    obtain ⟨gm, om, rfl, h2, d0, d1⟩ := huW.at (i := j) (x := (u, s)) (by rw [List.getElem?_append_left (by rw [HKL.out]; exact hjk)]; exact hxk)
                    clear h1 h2
                    dsimp only at c0 c1 d0 d1
                    have heq := fun w => eql_ck w u u s s
                    simp only [and_self, decide_true] at heq
                    have hgd := guardCk
                    clear hvW huW hxk
                    go_wp2_with fail
                    refine wp_region_plan (fun W => (W.cell? ⟨gl, ol + j * 2, none⟩ = some (.int .i64 u) ∧ W.cell? ⟨gl, ol + j * 2 + 1, none⟩ = some (.string s)) ∧ W.cell? ⟨gm, om + j * 2, none⟩ = some (.int .i64 u) ∧ W.cell? ⟨gm, om + j * 2 + 1, none⟩ = some (.string s)) [.take 0, .take 1, .take 2, .take 3, .take 4, .take 5, .take 6, .take 7, .take 8] mixedP (by kernel_rfl) rfl (by kernel_rfl) (fun _ _ _ d _ h => by cases d <;> exact h) ⟨⟨c0, c1⟩, d0, d1⟩ ?_
                    refine plan_valG (some 84) rfl rfl rfl (.slice (some ⟨gm, om, none⟩) lm c5) (fun _ => by go_simp) ?_
                    go_frame
                    refine plan_valG (some 85) rfl rfl rfl (.int .i64 (j : Nat)) (fun _ => by go_simp) ?_
                    go_frame
                    refine plan_valG (some 86) rfl rfl rfl (.pointer (some ⟨gm, om + j * 2, none⟩)) (fun _ => by go_simp) ?_
                    go_frame
                    refine plan_ldG (some 87) rfl rfl rfl _ _ rfl rfl (v := .agg #[.int .i64 u, .string s]) (fun W hW => ld_ck hW.2.1 hW.2.2) ?_
                    go_frame
                    refine plan_valG (some 88) rfl rfl rfl (.slice (some ⟨gl, ol, none⟩) ll c3) (fun _ => by go_simp) ?_
                    go_frame
                    refine plan_valG (some 89) rfl rfl rfl (.int .i64 (j : Nat)) (fun _ => by go_simp) ?_
                    go_frame
                    refine plan_valG (some 90) rfl rfl rfl (.pointer (some ⟨gl, ol + j * 2, none⟩)) (fun _ => by go_simp) ?_
                    go_frame
                    refine plan_ldG (some 91) rfl rfl rfl _ _ rfl rfl (v := .agg #[.int .i64 u, .string s]) (fun W hW => ld_ck hW.1.1 hW.1.2) ?_
                    go_frame
                    refine plan_valG (some 92) rfl rfl rfl (.bool false) (fun _ => by go_simp) ?_
                    go_frame
                    refine then_normalH ?_
                    go_at_K
                    have HB : Hid (Below w5.heap.size w5 W.drew) := ⟨hBW.os, hBW.tape, hBW.output, hBW.size, hBW.block⟩
                    clear hBW c0 c1 d0 d1
                    go_wp2_with fail
                    exact ⟨⟨j + 1, by go_num, by omega, HB.out⟩, by simp [intOf]; omega⟩
                  · have hji : ¬ (j : Int) + 1 < ll := by have := HLL.out; omega
                    obtain rfl : j = kl := by omega
                    have hBwW := below_new hBw5 hBW
                    obtain ⟨gm, om, rfl, h2, d0, d1⟩ := huW.at (i := j) (x := ((g : Int), d)) (by rw [← HKL.out]; simp)
                    obtain ⟨gm', om', e3, h3, d2, d3⟩ := huW.at (i := j + 1) (x := (2147483647, d')) (by rw [← HKL.out, List.getElem?_append_right (by omega), Nat.add_sub_cancel_left]; rfl)
                    injection e3 with e3
                    injection e3 with e31 e32
                    subst e31 e32
                    obtain ⟨gl, ol, rfl, h1, c0, c1⟩ := hvW.at (i := j) (x := (2147483647, d)) (by rw [← HKL.out]; simp)
                    clear h1 h2 h3
                    dsimp only at c0 c1 d0 d1 d2 d3
                    have hjl2 : (j : Int) < ll := by have := HLL.out; omega
                    have hjm2 : (j : Int) < lm := by have := HLM.out; omega
                    have hlj : (ll : Int) - 1 = (j : Int) := by have := HLL.out; omega
                    obtain ⟨jm, hjm⟩ : ∃ jm, j + 1 = jm := ⟨_, rfl⟩
                    rw [hjm] at d2 d3
                    have hlj2 : (lm : Int) - 1 = (jm : Int) := by have := HLM.out; omega
                    have hjm3 : (jm : Int) < lm := by omega
                    have hllp : 0 < ll := by have := HLL.out; omega
                    have hlmp : 0 < lm := by have := HLM.out; omega
                    have hgt : (ll : Int) < lm := by have := HLL.out; have := HLM.out; omega
                    have hwj := wrapH j (by have := HLL.out; omega)
                    have hwl := wrapH1 ll (by omega)
                    clear hvW huW hjk hjm
                    go_wp2_with fail
                    refine wp_region_plan (fun W => (W.cell? ⟨gm, om + j * 2, none⟩ = some (.int .i64 g) ∧ W.cell? ⟨gm, om + j * 2 + 1, none⟩ = some (.string d)) ∧ W.cell? ⟨gl, ol + j * 2 + 1, none⟩ = some (.string d)) [.take 0, .take 1, .take 2, .take 3, .take 4, .take 5, .take 6, .take 7, .take 8, .take 9, .take 10, .take 11, .take 12, .take 13, .take 14, .take 15, .take 16, .take 17, .take 18, .take 19, .take 20, .take 21, .take 22, .take 23, .take 24, .take 25, .take 26, .take 27, .take 28, .take 29, .take 30, .take 31, .take 32, .take 33, .take 34, .take 35, .take 36, .take 37] mixedP (by kernel_rfl) rfl (by kernel_rfl) (fun _ _ _ d _ h => by cases d <;> exact h) ⟨⟨d0, d1⟩, c1⟩ ?_
                    refine plan_valG (some 93) rfl rfl rfl (.slice (some ⟨gl, ol, none⟩) ll c3) (fun _ => by go_simp) ?_
                    go_frame
                    refine plan_valG (some 94) rfl rfl rfl (.int .i64 (ll : Nat)) (fun _ => by go_simp) ?_
                    go_frame
                    refine plan_valG (some 95) rfl rfl rfl (.bool true) (fun _ => by go_simp) ?_
                    go_frame
                    refine plan_valG (some 96) rfl rfl rfl (.bool true) (fun _ => by go_simp) ?_
                    go_frame
                    refine plan_valG (some 97) rfl rfl rfl (.slice (some ⟨gm, om, none⟩) lm c5) (fun _ => by go_simp) ?_
                    go_frame
                    refine plan_valG (some 98) rfl rfl rfl (.int .i64 (lm : Nat)) (fun _ => by go_simp) ?_
                    go_frame
                    refine plan_valG (some 99) rfl rfl rfl (.slice (some ⟨gl, ol, none⟩) ll c3) (fun _ => by go_simp) ?_
                    go_frame
                    refine plan_valG (some 100) rfl rfl rfl (.int .i64 (ll : Nat)) (fun _ => by go_simp) ?_
                    go_frame
                    refine plan_valG (some 101) rfl rfl rfl (.bool true) (fun _ => by go_simp) ?_
                    go_frame
                    refine plan_valG (some 102) rfl rfl rfl (.bool true) (fun _ => by go_simp) ?_
                    go_frame
                    refine plan_valG (some 103) rfl rfl rfl (.bool true) (fun _ => by go_simp) ?_
                    go_frame
                    refine plan_valG (some 104) rfl rfl rfl (.slice (some ⟨gm, om, none⟩) lm c5) (fun _ => by go_simp) ?_
                    go_frame
                    refine plan_valG (some 105) rfl rfl rfl (.slice (some ⟨gl, ol, none⟩) ll c3) (fun _ => by go_simp) ?_
                    go_frame
                    refine plan_valG (some 106) rfl rfl rfl (.int .i64 (ll : Nat)) (fun _ => by go_simp) ?_
                    go_frame
                    refine plan_valG (some 107) rfl rfl rfl (.int .i64 (j : Nat)) (fun _ => by go_simp) ?_
                    go_frame
                    refine plan_valG (some 108) rfl rfl rfl (.pointer (some ⟨gm, om + j * 2, none⟩)) (fun _ => by go_simp) ?_
                    go_frame
                    refine plan_valG (some 109) rfl rfl rfl (.pointer (some ⟨gm, om + j * 2 + 1, none⟩)) (fun _ => by go_simp) ?_
                    go_frame
                    refine plan_ldG (some 110) rfl rfl rfl _ _ rfl rfl (v := .string d) (fun W hW => ldStrH hW.1.2) ?_
                    go_frame
                    refine plan_valG (some 111) rfl rfl rfl (.slice (some ⟨gl, ol, none⟩) ll c3) (fun _ => by go_simp) ?_
                    go_frame
                    refine plan_valG (some 112) rfl rfl rfl (.slice (some ⟨gl, ol, none⟩) ll c3) (fun _ => by go_simp) ?_
                    go_frame
                    refine plan_valG (some 113) rfl rfl rfl (.int .i64 (ll : Nat)) (fun _ => by go_simp) ?_
                    go_frame
                    refine plan_valG (some 114) rfl rfl rfl (.int .i64 (j : Nat)) (fun _ => by go_simp) ?_
                    go_frame
                    refine plan_valG (some 115) rfl rfl rfl (.pointer (some ⟨gl, ol + j * 2, none⟩)) (fun _ => by go_simp) ?_
                    go_frame
                    refine plan_valG (some 116) rfl rfl rfl (.pointer (some ⟨gl, ol + j * 2 + 1, none⟩)) (fun _ => by go_simp) ?_
                    go_frame
                    refine plan_ldG (some 117) rfl rfl rfl _ _ rfl rfl (v := .string d) (fun W hW => ldStrH hW.2) ?_
                    go_frame
                    refine plan_valG (some 118) rfl rfl rfl (.bool false) (fun _ => by go_simp) ?_
                    go_frame
                    refine plan_valG (some 119) rfl rfl rfl (.bool false) (fun _ => by go_simp) ?_
                    go_frame
                    refine plan_valG (some 120) rfl rfl rfl (.slice (some ⟨gm, om, none⟩) lm c5) (fun _ => by go_simp) ?_
                    go_frame
                    refine plan_valG (some 121) rfl rfl rfl (.slice (some ⟨gl, ol, none⟩) ll c3) (fun _ => by go_simp) ?_
                    go_frame
                    refine plan_valG (some 122) rfl rfl rfl (.int .i64 (ll : Nat)) (fun _ => by go_simp) ?_
                    go_frame
                    refine plan_valG (some 123) rfl rfl rfl (.int .i64 (j : Nat)) (fun _ => by go_simp) ?_
                    go_frame
                    refine plan_valG (some 124) rfl rfl rfl (.pointer (some ⟨gm, om + j * 2, none⟩)) (fun _ => by go_simp) ?_
                    go_frame
                    refine plan_valG (some 125) rfl rfl rfl (.pointer (some ⟨gm, om + j * 2, none⟩)) (fun _ => by go_simp) ?_
                    go_frame
                    refine plan_ldG (some 126) rfl rfl rfl _ _ rfl rfl (v := .int .i64 (g : Nat)) (fun W hW => ldIntH hW.1.1) ?_
                    go_frame
                    refine plan_valG (some 127) rfl rfl rfl (.int .i64 (g : Nat)) (fun _ => by go_simp) ?_
                    go_frame
                    refine plan_valG (some 128) rfl rfl rfl (.bool false) (fun _ => by go_simp) ?_
                    go_frame
                    refine plan_valG (some 129) rfl rfl rfl (.bool false) (fun _ => by go_simp) ?_
                    go_frame
                    refine plan_valG (some 130) rfl rfl rfl (.bool false) (fun _ => by go_simp) ?_
                    go_frame
                    refine then_normalH ?_
                    go_at_K
                    have HB : Hid (Below w.heap.size w W.drew) := ⟨hBwW.os, hBwW.tape, hBwW.output, hBwW.size, hBwW.block⟩
                    have k0 : W.drew.cell? ⟨gm, om + jm * 2, none⟩ = some (.int .i64 2147483647) := d2
                    clear hBwW hBW d0 d1 d2 d3 c0 c1
                    go_wp2_with fail
                    go_ret
                    exact ⟨rfl, HB.out⟩
      · as_aux_lemma =>
        go_wp2_with fail
        refine hsp.mono ?_
        rintro e w3 ⟨v3, L, rfl, hL, ho3, hB3⟩
        clear hsp
        have hLl := len_of hnum hL
        obtain ⟨p3, c3, rfl⟩ := ho3.at.shape
        go_wp2_with fail
        refine (hgr w3 hB3).mono ?_
        rintro e w4 ⟨g, okg, rfl, hgo, hB4⟩
        clear hgr
        have hgl := great_getLast hnum hgo
        have HGL : Hid (g = m.getLastD 0) := hgl
        have hgb : g ≤ 1073741824 := by
          rw [hgl]
          cases hq : m with
          | nil => simp
          | cons a t => have := hmem _ (last_mem (p := m) (by rw [hq]; simp)); rw [hq] at this; omega
        have hle : ∀ x ∈ m, x ≤ g := fun x hx => by
          rw [hgl]
          refine last_maxH hnum ?_ x hx
          exact List.length_pos_of_mem hx
        clear hgl hgo
        obtain ⟨n2, hn2⟩ : ∃ n2, g + kk + 1 = n2 := ⟨_, rfl⟩
        have hsum : ((g : Int) + (kk : Int)) + 1 = (n2 : Int) := by omega
        have hgi : (g : Int) ≤ 1073741824 := by omega
        have hki : (kk : Int) ≤ 100000 := by omega
        have hapd := append_of hnum (by omega) hL (ho3.at.below hB4) (n := n2) (by omega) (fun x hx => by have := hle x hx; omega)
        have hBw4 := below_new (below_new hB hB3) hB4
        have hv4 := ho3.at.below hB4
        clear hn2 hle
        by_cases hneg : f.tmod 100000 < 0
        · have hmv : -(f.tmod 100000) = (kk : Int) := by omega
          clear hkk
          as_aux_lemma =>
            go_wp2_with fail
            refine hapd.mono ?_
            rintro e w5 ⟨v5, L', rfl, hL', ho5, hB5⟩
            clear hapd
            obtain ⟨p5, c5, rfl⟩ := ho5.at.shape
            have hcase := tail_cases hnum hL hL'
            rw [← HGL.out] at hcase
            have hBw5 := below_new hBw4 hB5
            have hv5 := hv4.below hB5
            have hu5 := ho5.at
            clear hL hL' ho5 ho3 hB5 hB4 hB3 hv4 hBw4 hnum hmem
            rcases hcase with ⟨rfl, d, rfl⟩ | ⟨K, d, d', rfl, rfl⟩ | ⟨K, d, d', rfl, rfl⟩
            · skip
              as_aux_lemma =>
                obtain ⟨gm, om, hpe, hnn, d0, d1⟩ := hu5.at (i := 0) rfl
                subst hpe
                clear hnn
                dsimp only at d0 d1
                have d0' : w5.cell? ⟨gm, om, none⟩ = some (.int .i64 2147483647) := d0
                clear d0 d1 hv5 hu5 hLl
                go_wp2_with fail
                go_loopw [14] (fun y W => y = .int .i64 0 ∧ W = w5) (fun _ _ => 0)
                case atStart => exact ⟨rfl, rfl⟩
                case round =>
                  rename World => W
                  obtain ⟨rfl, hW⟩ := hrel
                  have hW' := hW.symm
                  clear hW
                  subst hW'
                  go_wp2_with fail
                  refine wp_region_planD (fun _ => True) [.take 0, .take 1, .take 2, .take 3, .drop 4, .drop 5, .drop 6, .drop 7, .drop 8, .take 9, .take 10, .drop 11, .drop 12, .drop 13, .drop 14, .drop 15, .drop 16, .drop 17, .drop 18, .drop 19, .drop 20, .drop 21, .drop 22, .drop 23, .drop 24, .drop 25, .drop 26, .drop 27, .drop 28, .drop 29, .drop 30, .drop 31, .drop 32, .drop 33, .drop 34, .drop 35, .drop 36, .take 37] mixedP (by kernel_rfl) rfl (by kernel_rfl) (fun _ _ _ d _ h => by cases d <;> exact h) trivial ?_
                  refine planD_val (some 93) rfl rfl rfl (.slice p3 0 c3) (fun _ => by go_simp) ?_
                  go_frame
                  refine planD_val (some 94) rfl rfl rfl (.int .i64 0) (fun _ => by go_simp) ?_
                  go_frame
                  refine planD_val (some 95) rfl rfl rfl (.bool false) (fun _ => by go_simp) ?_
                  go_frame
                  refine planD_val (some 96) rfl rfl rfl (.bool false) (fun _ => by go_simp) ?_
                  go_frame
                  refine planD_drop (some 97) rfl rfl rfl ?_
                  go_frame
                  refine planD_drop (some 98) rfl rfl rfl ?_
                  go_frame
                  refine planD_drop (some 99) rfl rfl rfl ?_
                  go_frame
                  refine planD_drop (some 100) rfl rfl rfl ?_
                  go_frame
                  refine planD_drop (some 101) rfl rfl rfl ?_
                  go_frame
                  refine planD_val (some 102) rfl rfl rfl (.bool false) (fun _ => by go_simp) ?_
                  go_frame
                  refine planD_val (some 103) rfl rfl rfl (.bool false) (fun _ => by go_simp) ?_
                  go_frame
                  refine planD_drop (some 104) rfl rfl rfl ?_
                  go_frame
                  refine planD_drop (some 105) rfl rfl rfl ?_
                  go_frame
                  refine planD_drop (some 106) rfl rfl rfl ?_
                  go_frame
                  refine planD_drop (some 107) rfl rfl rfl ?_
                  go_frame
                  refine planD_drop (some 108) rfl rfl rfl ?_
                  go_frame
                  refine planD_drop (some 109) rfl rfl rfl ?_
                  go_frame
                  refine planD_drop (some 110) rfl rfl rfl ?_
                  go_frame
                  refine planD_drop (some 111) rfl rfl rfl ?_
                  go_frame
                  refine planD_drop (some 112) rfl rfl rfl ?_
                  go_frame
                  refine planD_drop (some 113) rfl rfl rfl ?_
                  go_frame
                  refine planD_drop (some 114) rfl rfl rfl ?_
                  go_frame
                  refine planD_drop (some 115) rfl rfl rfl ?_
                  go_frame
                  refine planD_drop (some 116) rfl rfl rfl ?_
                  go_frame
                  refine planD_drop (some 117) rfl rfl rfl ?_
                  go_frame
                  refine planD_drop (some 118) rfl rfl rfl ?_
                  go_frame
                  refine planD_drop (some 119) rfl rfl rfl ?_
                  go_frame
                  refine planD_drop (some 120) rfl rfl rfl ?_
                  go_frame
                  refine planD_drop (some 121) rfl rfl rfl ?_
                  go_frame
                  refine planD_drop (some 122) rfl rfl rfl ?_
                  go_frame
                  refine planD_drop (some 123) rfl rfl rfl ?_
                  go_frame
                  refine planD_drop (some 124) rfl rfl rfl ?_
                  go_frame
                  refine planD_drop (some 125) rfl rfl rfl ?_
                  go_frame
                  refine planD_drop (some 126) rfl rfl rfl ?_
                  go_frame
                  refine planD_drop (some 127) rfl rfl rfl ?_
                  go_frame
                  refine planD_drop (some 128) rfl rfl rfl ?_
                  go_frame
                  refine planD_drop (some 129) rfl rfl rfl ?_
                  go_frame
                  refine planD_val (some 130) rfl rfl rfl (.bool false) (fun _ => by go_simp) ?_
                  go_frame
                  refine then_normalH ?_
                  go_at_K
                  have HB : Hid (Below w.heap.size w w5.drew) := ⟨hBw5.os, hBw5.tape, hBw5.output, hBw5.size, hBw5.block⟩
                  have k0 : w5.drew.cell? ⟨gm, om, none⟩ = some (.int .i64 2147483647) := d0'
                  clear hBw5 d0'
                  go_wp2_with fail
                  go_ret
                  exact ⟨rfl, HB.out⟩
            · skip
              as_aux_lemma =>
                obtain ⟨kl, hkl⟩ : ∃ kl, K.length = kl := ⟨_, rfl⟩
                have HKL : Hid (K.length = kl) := hkl
                have hlL : (K ++ [((2147483647 : Int), d)]).length = kl + 1 := by rw [List.length_append, hkl]; rfl
                have hlM : (K ++ [((2147483647 : Int), d')]).length = kl + 1 := by rw [List.length_append, hkl]; rfl
                rw [hlL] at hv5 hLl ⊢
                rw [hlM] at hu5 ⊢
                obtain ⟨ll, hll⟩ : ∃ ll, kl + 1 = ll := ⟨_, rfl⟩
                rw [hll] at hv5 hLl ⊢
                rw [hll] at hu5
                have HLL : Hid (kl + 1 = ll) := hll
                have HLM : Hid (kl + 1 = ll) := hll
                have hlli : (ll : Int) ≤ 300 := by omega
                clear hll hkl hlL hlM
                go_wp2_with fail
                go_loopw [14] (fun y W => ∃ j : Nat, y = .int .i64 (j : Nat) ∧ j ≤ kl ∧ Below w5.heap.size w5 W) (fun y _ => kl - (intOf y).toNat)
                case atStart => exact ⟨0, rfl, Nat.zero_le _, Below.refl _ _⟩
                case round =>
                  rename World => W
                  obtain ⟨j, rfl, hj, hBW⟩ := hrel
                  have hvW := hv5.below hBW
                  have huW := hu5.below hBW
                  by_cases hjk : j < kl
                  · have hji : (j : Int) + 1 < ll := by have := HLL.out; omega
                    have hjm : (j : Int) < ll := by have := HLM.out; omega
                    have hjl : (j : Int) < ll := by omega
                    obtain ⟨⟨u, s⟩, hxk⟩ : ∃ x, K[j]? = some x := ⟨_, List.getElem?_eq_getElem (by rw [HKL.out]; exact hjk)⟩
                    obtain ⟨gl, ol, rfl, h1, c0, c1⟩ := hvW.at (i := j) (x := (u, s)) (by rw [List.getElem?_append_left (by rw [HKL.out]; exact hjk)]; exact hxk)
                    obtain ⟨gm, om, rfl, h2, d0, d1⟩ := huW.at (i := j) (x := (u, s)) (by rw [List.getElem?_append_left (by rw [HKL.out]; exact hjk)]; exact hxk)
                    clear h1 h2
                    dsimp only at c0 c1 d0 d1
                    have heq := fun w => eql_ck w u u s s
                    simp only [and_self, decide_true] at heq
                    have hgd := guardCk
                    clear hvW huW hxk
                    go_wp2_with fail
                    refine wp_region_plan (fun W => (W.cell? ⟨gl, ol + j * 2, none⟩ = some (.int .i64 u) ∧ W.cell? ⟨gl, ol + j * 2 + 1, none⟩ = some (.string s)) ∧ W.cell? ⟨gm, om + j * 2, none⟩ = some (.int .i64 u) ∧ W.cell? ⟨gm, om + j * 2 + 1, none⟩ = some (.string s)) [.take 0, .take 1, .take 2, .take 3, .take 4, .take 5, .take 6, .take 7, .take 8] mixedP (by kernel_rfl) rfl (by kernel_rfl) (fun _ _ _ d _ h => by cases d <;> exact h) ⟨⟨c0, c1⟩, d0, d1⟩ ?_
                    refine plan_valG (some 84) rfl rfl rfl (.slice (some ⟨gm, om, none⟩) ll c5) (fun _ => by go_simp) ?_
                    go_frame
                    refine plan_valG (some 85) rfl rfl rfl (.int .i64 (j : Nat)) (fun _ => by go_simp) ?_
                    go_frame
                    refine plan_valG (some 86) rfl rfl rfl (.pointer (some ⟨gm, om + j * 2, none⟩)) (fun _ => by go_simp) ?_
                    go_frame
                    refine plan_ldG (some 87) rfl rfl rfl _ _ rfl rfl (v := .agg #[.int .i64 u, .string s]) (fun W hW => ld_ck hW.2.1 hW.2.2) ?_
                    go_frame
                    refine plan_valG (some 88) rfl rfl rfl (.slice (some ⟨gl, ol, none⟩) ll c3) (fun _ => by go_simp) ?_
                    go_frame
                    refine plan_valG (some 89) rfl rfl rfl (.int .i64 (j : Nat)) (fun _ => by go_simp) ?_
                    go_frame
                    refine plan_valG (some 90) rfl rfl rfl (.pointer (some ⟨gl, ol + j * 2, none⟩)) (fun _ => by go_simp) ?_
                    go_frame
                    refine plan_ldG (some 91) rfl rfl rfl _ _ rfl rfl (v := .agg #[.int .i64 u, .string s]) (fun W hW => ld_ck hW.1.1 hW.1.2) ?_
                    go_frame
                    refine plan_valG (some 92) rfl rfl rfl (.bool false) (fun _ => by go_simp) ?_
                    go_frame
                    refine then_normalH ?_
                    go_at_K
                    have HB : Hid (Below w5.heap.size w5 W.drew) := ⟨hBW.os, hBW.tape, hBW.output, hBW.size, hBW.block⟩
                    clear hBW c0 c1 d0 d1
                    go_wp2_with fail
                    exact ⟨⟨j + 1, by go_num, by omega, HB.out⟩, by simp [intOf]; omega⟩
                  · have hji : ¬ (j : Int) + 1 < ll := by have := HLL.out; omega
                    obtain rfl : j = kl := by omega
                    have hBwW := below_new hBw5 hBW
                    obtain ⟨gm, om, rfl, h2, d0, d1⟩ := huW.at (i := j) (x := (2147483647, d')) (by rw [← HKL.out]; simp)
                    clear h2
                    dsimp only at d0 d1
                    have hjl2 : (j : Int) < ll := by have := HLL.out; omega
                    have hlj : (ll : Int) - 1 = (j : Int) := by have := HLL.out; omega
                    have hllp : 0 < ll := by have := HLL.out; omega
                    have hwj := wrapH j (by have := HLL.out; omega)
                    clear hvW huW hjk
                    go_wp2_with fail
                    refine wp_region_planD (fun _ => True) [.take 0, .take 1, .take 2, .take 3, .take 4, .take 5, .take 6, .take 7, .take 8, .take 9, .take 10, .drop 11, .drop 12, .drop 13, .drop 14, .drop 15, .drop 16, .drop 17, .drop 18, .drop 19, .drop 20, .drop 21, .drop 22, .drop 23, .drop 24, .drop 25, .drop 26, .drop 27, .drop 28, .drop 29, .drop 30, .drop 31, .drop 32, .drop 33, .drop 34, .drop 35, .drop 36, .take 37] mixedP (by kernel_rfl) rfl (by kernel_rfl) (fun _ _ _ d _ h => by cases d <;> exact h) trivial ?_
                    refine planD_val (some 93) rfl rfl rfl (.slice p3 ll c3) (fun _ => by go_simp) ?_
                    go_frame
                    refine planD_val (some 94) rfl rfl rfl (.int .i64 (ll : Nat)) (fun _ => by go_simp) ?_
                    go_frame
                    refine planD_val (some 95) rfl rfl rfl (.bool true) (fun _ => by go_simp) ?_
                    go_frame
                    refine planD_val (some 96) rfl rfl rfl (.bool true) (fun _ => by go_simp) ?_
                    go_frame
                    refine planD_val (some 97) rfl rfl rfl (.slice (some ⟨gm, om, none⟩) ll c5) (fun _ => by go_simp) ?_
                    go_frame
                    refine planD_val (some 98) rfl rfl rfl (.int .i64 (ll : Nat)) (fun _ => by go_simp) ?_
                    go_frame
                    refine planD_val (some 99) rfl rfl rfl (.slice p3 ll c3) (fun _ => by go_simp) ?_
                    go_frame
                    refine planD_val (some 100) rfl rfl rfl (.int .i64 (ll : Nat)) (fun _ => by go_simp) ?_
                    go_frame
                    refine planD_val (some 101) rfl rfl rfl (.bool false) (fun _ => by go_simp) ?_
                    go_frame
                    refine planD_val (some 102) rfl rfl rfl (.bool false) (fun _ => by go_simp) ?_
                    go_frame
                    refine planD_val (some 103) rfl rfl rfl (.bool false) (fun _ => by go_simp) ?_
                    go_frame
                    refine planD_drop (some 104) rfl rfl rfl ?_
                    go_frame
                    refine planD_drop (some 105) rfl rfl rfl ?_
                    go_frame
                    refine planD_drop (some 106) rfl rfl rfl ?_
                    go_frame
                    refine planD_drop (some 107) rfl rfl rfl ?_
                    go_frame
                    refine planD_drop (some 108) rfl rfl rfl ?_
                    go_frame
                    refine planD_drop (some 109) rfl rfl rfl ?_
                    go_frame
                    refine planD_drop (some 110) rfl rfl rfl ?_
                    go_frame
                    refine planD_drop (some 111) rfl rfl rfl ?_
                    go_frame
                    refine planD_drop (some 112) rfl rfl rfl ?_
                    go_frame
                    refine planD_drop (some 113) rfl rfl rfl ?_
                    go_frame
                    refine planD_drop (some 114) rfl rfl rfl ?_
                    go_frame
                    refine planD_drop (some 115) rfl rfl rfl ?_
                    go_frame
                    refine planD_drop (some 116) rfl rfl rfl ?_
                    go_frame
                    refine planD_drop (some 117) rfl rfl rfl ?_
                    go_frame
                    refine planD_drop (some 118) rfl rfl rfl ?_
                    go_frame
                    refine planD_drop (some 119) rfl rfl rfl ?_
                    go_frame
                    refine planD_drop (some 120) rfl rfl rfl ?_
                    go_frame
                    refine planD_drop (some 121) rfl rfl rfl ?_
                    go_frame
                    refine planD_drop (some 122) rfl rfl rfl ?_
                    go_frame
                    refine planD_drop (some 123) rfl rfl rfl ?_
                    go_frame
                    refine planD_drop (some 124) rfl rfl rfl ?_
                    go_frame
                    refine planD_drop (some 125) rfl rfl rfl ?_
                    go_frame
                    refine planD_drop (some 126) rfl rfl rfl ?_
                    go_frame
                    refine planD_drop (some 127) rfl rfl rfl ?_
                    go_frame
                    refine planD_drop (some 128) rfl rfl rfl ?_
                    go_frame
                    refine planD_drop (some 129) rfl rfl rfl ?_
                    go_frame
                    refine planD_val (some 130) rfl rfl rfl (.bool false) (fun _ => by go_simp) ?_
                    go_frame
                    refine then_normalH ?_
                    go_at_K
                    have HB : Hid (Below w.heap.size w W.drew) := ⟨hBwW.os, hBwW.tape, hBwW.output, hBwW.size, hBwW.block⟩
                    have k0 : W.drew.cell? ⟨gm, om + j * 2, none⟩ = some (.int .i64 2147483647) := d0
                    clear hBwW hBW d0 d1
                    go_wp2_with fail
                    go_ret
                    exact ⟨rfl, HB.out⟩
            · skip
              as_aux_lemma =>
                obtain ⟨kl, hkl⟩ : ∃ kl, K.length = kl := ⟨_, rfl⟩
                have HKL : Hid (K.length = kl) := hkl
                have hlL : (K ++ [((2147483647 : Int), d)]).length = kl + 1 := by rw [List.length_append, hkl]; rfl
                have hlM : (K ++ [((g : Int), d), ((2147483647 : Int), d')]).length = kl + 2 := by rw [List.length_append, hkl]; rfl
                rw [hlL] at hv5 hLl ⊢
                rw [hlM] at hu5 ⊢
                obtain ⟨ll, hll⟩ : ∃ ll, kl + 1 = ll := ⟨_, rfl⟩
                obtain ⟨lm, hlm⟩ : ∃ lm, kl + 2 = lm := ⟨_, rfl⟩
                rw [hll] at hv5 hLl ⊢
                rw [hlm] at hu5 ⊢
                have HLL : Hid (kl + 1 = ll) := hll
                have HLM : Hid (kl + 2 = lm) := hlm
                have hlli : (ll : Int) ≤ 300 := by omega
                have hlmi : (lm : Int) ≤ 301 := by omega
                have hl1 : ¬ (lm : Int) < ll := by omega
                have hl2 : ¬ (ll : Int) + 1 < lm := by omega
                clear hll hlm hkl hlL hlM
                go_wp2_with fail
                go_loopw [14] (fun y W => ∃ j : Nat, y = .int .i64 (j : Nat) ∧ j ≤ kl ∧ Below w5.heap.size w5 W) (fun y _ => kl - (intOf y).toNat)
                case atStart => exact ⟨0, rfl, Nat.zero_le _, Below.refl _ _⟩
                case round =>
                  rename World => W
                  obtain ⟨j, rfl, hj, hBW⟩ := hrel
                  have hvW := hv5.below hBW
                  have huW := hu5.below hBW
                  by_cases hjk : j < kl
                  · have hji : (j : Int) + 1 < ll := by have := HLL.out; omega
                    have hjm : (j : Int) < lm := by have := HLM.out; omega
                    have hjl : (j : Int) < ll := by omega
                    obtain ⟨⟨u, s⟩, hxk⟩ : ∃ x, K[j]? = some x := ⟨_, List.getElem?_eq_getElem (by rw [HKL.out]; exact hjk)⟩
                    obtain ⟨gl, ol, rfl, h1, c0, c1⟩ := hvW.at (i := j) (x := (u, s)) (by rw [List.getElem?_append_left (by rw [HKL.out]; exact hjk)]; exact hxk)
                    obtain ⟨gm, om, rfl, h2, d0, d1⟩ := huW.at (i := j) (x := (u, s)) (by rw [List.getElem?_append_left (by rw [HKL.out]; exact hjk)]; exact hxk)
                    clear h1 h2
                    dsimp only at c0 c1 d0 d1
                    have heq := fun w => eql_ck w u u s s
                    simp only [and_self, decide_true] at heq
                    have hgd := guardCk
                    clear hvW huW hxk
                    go_wp2_with fail
                    refine wp_region_plan (fun W => (W.cell? ⟨gl, ol + j * 2, none⟩ = some (.int .i64 u) ∧ W.cell? ⟨gl, ol + j * 2 + 1, none⟩ = some (.string s)) ∧ W.cell? ⟨gm, om + j * 2, none⟩ = some (.int .i64 u) ∧ W.cell? ⟨gm, om + j * 2 + 1, none⟩ = some (.string s)) [.take 0, .take 1, .take 2, .take 3, .take 4, .take 5, .take 6, .take 7, .take 8] mixedP (by kernel_rfl) rfl (by kernel_rfl) (fun _ _ _ d _ h => by cases d <;> exact h) ⟨⟨c0, c1⟩, d0, d1⟩ ?_
                    refine plan_valG (some 84) rfl rfl rfl (.slice (some ⟨gm, om, none⟩) lm c5) (fun _ => by go_simp) ?_
                    go_frame
                    refine plan_valG (some 85) rfl rfl rfl (.int .i64 (j : Nat)) (fun _ => by go_simp) ?_
                    go_frame
                    refine plan_valG (some 86) rfl rfl rfl (.pointer (some ⟨gm, om + j * 2, none⟩)) (fun _ => by go_simp) ?_
                    go_frame
                    refine plan_ldG (some 87) rfl rfl rfl _ _ rfl rfl (v := .agg #[.int .i64 u, .string s]) (fun W hW => ld_ck hW.2.1 hW.2.2) ?_
                    go_frame
                    refine plan_valG (some 88) rfl rfl rfl (.slice (some ⟨gl, ol, none⟩) ll c3) (fun _ => by go_simp) ?_
                    go_frame
                    refine plan_valG (some 89) rfl rfl rfl (.int .i64 (j : Nat)) (fun _ => by go_simp) ?_
                    go_frame
                    refine plan_valG (some 90) rfl rfl rfl (.pointer (some ⟨gl, ol + j * 2, none⟩)) (fun _ => by go_simp) ?_
                    go_frame
                    refine plan_ldG (some 91) rfl rfl rfl _ _ rfl rfl (v := .agg #[.int .i64 u, .string s]) (fun W hW => ld_ck hW.1.1 hW.1.2) ?_
                    go_frame
                    refine plan_valG (some 92) rfl rfl rfl (.bool false) (fun _ => by go_simp) ?_
                    go_frame
                    refine then_normalH ?_
                    go_at_K
                    have HB : Hid (Below w5.heap.size w5 W.drew) := ⟨hBW.os, hBW.tape, hBW.output, hBW.size, hBW.block⟩
                    clear hBW c0 c1 d0 d1
                    go_wp2_with fail
                    exact ⟨⟨j + 1, by go_num, by omega, HB.out⟩, by simp [intOf]; omega⟩
                  · have hji : ¬ (j : Int) + 1 < ll := by have := HLL.out; omega
                    obtain rfl : j = kl := by omega
                    have hBwW := below_new hBw5 hBW
                    obtain ⟨gm, om, rfl, h2, d0, d1⟩ := huW.at (i := j) (x := ((g : Int), d)) (by rw [← HKL.out]; simp)
                    obtain ⟨gm', om', e3, h3, d2, d3⟩ := huW.at (i := j + 1) (x := (2147483647, d')) (by rw [← HKL.out, List.getElem?_append_right (by omega), Nat.add_sub_cancel_left]; rfl)
                    injection e3 with e3
                    injection e3 with e31 e32
                    subst e31 e32
                    obtain ⟨gl, ol, rfl, h1, c0, c1⟩ := hvW.at (i := j) (x := (2147483647, d)) (by rw [← HKL.out]; simp)
                    clear h1 h2 h3
                    dsimp only at c0 c1 d0 d1 d2 d3
                    have hjl2 : (j : Int) < ll := by have := HLL.out; omega
                    have hjm2 : (j : Int) < lm := by have := HLM.out; omega
                    have hlj : (ll : Int) - 1 = (j : Int) := by have := HLL.out; omega
                    obtain ⟨jm, hjm⟩ : ∃ jm, j + 1 = jm := ⟨_, rfl⟩
                    rw [hjm] at d2 d3
                    have hlj2 : (lm : Int) - 1 = (jm : Int) := by have := HLM.out; omega
                    have hjm3 : (jm : Int) < lm := by omega
                    have hllp : 0 < ll := by have := HLL.out; omega
                    have hlmp : 0 < lm := by have := HLM.out; omega
                    have hgt : (ll : Int) < lm := by have := HLL.out; have := HLM.out; omega
                    have hwj := wrapH j (by have := HLL.out; omega)
                    have hwl := wrapH1 ll (by omega)
                    clear hvW huW hjk hjm
                    go_wp2_with fail
                    refine wp_region_plan (fun W => (W.cell? ⟨gm, om + j * 2, none⟩ = some (.int .i64 g) ∧ W.cell? ⟨gm, om + j * 2 + 1, none⟩ = some (.string d)) ∧ W.cell? ⟨gl, ol + j * 2 + 1, none⟩ = some (.string d)) [.take 0, .take 1, .take 2, .take 3, .take 4, .take 5, .take 6, .take 7, .take 8, .take 9, .take 10, .take 11, .take 12, .take 13, .take 14, .take 15, .take 16, .take 17, .take 18, .take 19, .take 20, .take 21, .take 22, .take 23, .take 24, .take 25, .take 26, .take 27, .take 28, .take 29, .take 30, .take 31, .take 32, .take 33, .take 34, .take 35, .take 36, .take 37] mixedP (by kernel_rfl) rfl (by kernel_rfl) (fun _ _ _ d _ h => by cases d <;> exact h) ⟨⟨d0, d1⟩, c1⟩ ?_
                    refine plan_valG (some 93) rfl rfl rfl (.slice (some ⟨gl, ol, none⟩) ll c3) (fun _ => by go_simp) ?_
                    go_frame
                    refine plan_valG (some 94) rfl rfl rfl (.int .i64 (ll : Nat)) (fun _ => by go_simp) ?_
                    go_frame
                    refine plan_valG (some 95) rfl rfl rfl (.bool true) (fun _ => by go_simp) ?_
                    go_frame
                    refine plan_valG (some 96) rfl rfl rfl (.bool true) (fun _ => by go_simp) ?_
                    go_frame
                    refine plan_valG (some 97) rfl rfl rfl (.slice (some ⟨gm, om, none⟩) lm c5) (fun _ => by go_simp) ?_
                    go_frame
                    refine plan_valG (some 98) rfl rfl rfl (.int .i64 (lm : Nat)) (fun _ => by go_simp) ?_
                    go_frame
                    refine plan_valG (some 99) rfl rfl rfl (.slice (some ⟨gl, ol, none⟩) ll c3) (fun _ => by go_simp) ?_
                    go_frame
                    refine plan_valG (some 100) rfl rfl rfl (.int .i64 (ll : Nat)) (fun _ => by go_simp) ?_
                    go_frame
                    refine plan_valG (some 101) rfl rfl rfl (.bool true) (fun _ => by go_simp) ?_
                    go_frame
                    refine plan_valG (some 102) rfl rfl rfl (.bool true) (fun _ => by go_simp) ?_
                    go_frame
                    refine plan_valG (some 103) rfl rfl rfl (.bool true) (fun _ => by go_simp) ?_
                    go_frame
                    refine plan_valG (some 104) rfl rfl rfl (.slice (some ⟨gm, om, none⟩) lm c5) (fun _ => by go_simp) ?_
                    go_frame
                    refine plan_valG (some 105) rfl rfl rfl (.slice (some ⟨gl, ol, none⟩) ll c3) (fun _ => by go_simp) ?_
                    go_frame
                    refine plan_valG (some 106) rfl rfl rfl (.int .i64 (ll : Nat)) (fun _ => by go_simp) ?_
                    go_frame
                    refine plan_valG (some 107) rfl rfl rfl (.int .i64 (j : Nat)) (fun _ => by go_simp) ?_
                    go_frame
                    refine plan_valG (some 108) rfl rfl rfl (.pointer (some ⟨gm, om + j * 2, none⟩)) (fun _ => by go_simp) ?_
                    go_frame
                    refine plan_valG (some 109) rfl rfl rfl (.pointer (some ⟨gm, om + j * 2 + 1, none⟩)) (fun _ => by go_simp) ?_
                    go_frame
                    refine plan_ldG (some 110) rfl rfl rfl _ _ rfl rfl (v := .string d) (fun W hW => ldStrH hW.1.2) ?_
                    go_frame
                    refine plan_valG (some 111) rfl rfl rfl (.slice (some ⟨gl, ol, none⟩) ll c3) (fun _ => by go_simp) ?_
                    go_frame
                    refine plan_valG (some 112) rfl rfl rfl (.slice (some ⟨gl, ol, none⟩) ll c3) (fun _ => by go_simp) ?_
                    go_frame
                    refine plan_valG (some 113) rfl rfl rfl (.int .i64 (ll : Nat)) (fun _ => by go_simp) ?_
                    go_frame
                    refine plan_valG (some 114) rfl rfl rfl (.int .i64 (j : Nat)) (fun _ => by go_simp) ?_
                    go_frame
                    refine plan_valG (some 115) rfl rfl rfl (.pointer (some ⟨gl, ol + j * 2, none⟩)) (fun _ => by go_simp) ?_
                    go_frame
                    refine plan_valG (some 116) rfl rfl rfl (.pointer (some ⟨gl, ol + j * 2 + 1, none⟩)) (fun _ => by go_simp) ?_
                    go_frame
                    refine plan_ldG (some 117) rfl rfl rfl _ _ rfl rfl (v := .string d) (fun W hW => ldStrH hW.2) ?_
                    go_frame
                    refine plan_valG (some 118) rfl rfl rfl (.bool false) (fun _ => by go_simp) ?_
                    go_frame
                    refine plan_valG (some 119) rfl rfl rfl (.bool false) (fun _ => by go_simp) ?_
                    go_frame
                    refine plan_valG (some 120) rfl rfl rfl (.slice (some ⟨gm, om, none⟩) lm c5) (fun _ => by go_simp) ?_
                    go_frame
                    refine plan_valG (some 121) rfl rfl rfl (.slice (some ⟨gl, ol, none⟩) ll c3) (fun _ => by go_simp) ?_
                    go_frame
                    refine plan_valG (some 122) rfl rfl rfl (.int .i64 (ll : Nat)) (fun _ => by go_simp) ?_
                    go_frame
                    refine plan_valG (some 123) rfl rfl rfl (.int .i64 (j : Nat)) (fun _ => by go_simp) ?_
                    go_frame
                    refine plan_valG (some 124) rfl rfl rfl (.pointer (some ⟨gm, om + j * 2, none⟩)) (fun _ => by go_simp) ?_
                    go_frame
                    refine plan_valG (some 125) rfl rfl rfl (.pointer (some ⟨gm, om + j * 2, none⟩)) (fun _ => by go_simp) ?_
                    go_frame
                    refine plan_ldG (some 126) rfl rfl rfl _ _ rfl rfl (v := .int .i64 (g : Nat)) (fun W hW => ldIntH hW.1.1) ?_
                    go_frame
                    refine plan_valG (some 127) rfl rfl rfl (.int .i64 (g : Nat)) (fun _ => by go_simp) ?_
                    go_frame
                    refine plan_valG (some 128) rfl rfl rfl (.bool false) (fun _ => by go_simp) ?_
                    go_frame
                    refine plan_valG (some 129) rfl rfl rfl (.bool false) (fun _ => by go_simp) ?_
                    go_frame
                    refine plan_valG (some 130) rfl rfl rfl (.bool false) (fun _ => by go_simp) ?_
                    go_frame
                    refine then_normalH ?_
                    go_at_K
                    have HB : Hid (Below w.heap.size w W.drew) := ⟨hBwW.os, hBwW.tape, hBwW.output, hBwW.size, hBwW.block⟩
                    have k0 : W.drew.cell? ⟨gm, om + jm * 2, none⟩ = some (.int .i64 2147483647) := d2
                    clear hBwW hBW d0 d1 d2 d3 c0 c1
                    go_wp2_with fail
                    go_ret
                    exact ⟨rfl, HB.out⟩
        · have hmv : f.tmod 100000 = (kk : Int) := by omega
          have hkn0 : ¬ (kk : Int) < 0 := by omega
          clear hkk hneg
          as_aux_lemma =>
            go_wp2_with fail
            refine hapd.mono ?_
            rintro e w5 ⟨v5, L', rfl, hL', ho5, hB5⟩
            clear hapd
            obtain ⟨p5, c5, rfl⟩ := ho5.at.shape
            have hcase := tail_cases hnum hL hL'
            rw [← HGL.out] at hcase
            have hBw5 := below_new hBw4 hB5
            have hv5 := hv4.below hB5
            have hu5 := ho5.at
            clear hL hL' ho5 ho3 hB5 hB4 hB3 hv4 hBw4 hnum hmem
            rcases hcase with ⟨rfl, d, rfl⟩ | ⟨K, d, d', rfl, rfl⟩ | ⟨K, d, d', rfl, rfl⟩
            · skip
              as_aux_lemma =>
                obtain ⟨gm, om, hpe, hnn, d0, d1⟩ := hu5.at (i := 0) rfl
                subst hpe
                clear hnn
                dsimp only at d0 d1
                have d0' : w5.cell? ⟨gm, om, none⟩ = some (.int .i64 2147483647) := d0
                clear d0 d1 hv5 hu5 hLl
                go_wp2_with fail
                go_loopw [14] (fun y W => y = .int .i64 0 ∧ W = w5) (fun _ _ => 0)
                case atStart => exact ⟨rfl, rfl⟩
                case round =>
                  rename World => W
                  obtain ⟨rfl, hW⟩ := hrel
                  have hW' := hW.symm
                  clear hW
                  subst hW'
                  go_wp2_with fail
                  refine wp_region_planD (fun _ => True) [.take 0, .take 1, .take 2, .take 3, .drop 4, .drop 5, .drop 6, .drop 7, .drop 8, .take 9, .take 10, .drop 11, .drop 12, .drop 13, .drop 14, .drop 15, .drop 16, .drop 17, .drop 18, .drop 19, .drop 20, .drop 21, .drop 22, .drop 23, .drop 24, .drop 25, .drop 26, .drop 27, .drop 28, .drop 29, .drop 30, .drop 31, .drop 32, .drop 33, .drop 34, .drop 35, .drop 36, .take 37] mixedP (by kernel_rfl) rfl (by kernel_rfl) (fun _ _ _ d _ h => by cases d <;> exact h) trivial ?_
                  refine planD_val (some 93) rfl rfl rfl (.slice p3 0 c3) (fun _ => by go_simp) ?_
                  go_frame
                  refine planD_val (some 94) rfl rfl rfl (.int .i64 0) (fun _ => by go_simp) ?_
                  go_frame
                  refine planD_val (some 95) rfl rfl rfl (.bool false) (fun _ => by go_simp) ?_
                  go_frame
                  refine planD_val (some 96) rfl rfl rfl (.bool false) (fun _ => by go_simp) ?_
                  go_frame
                  refine planD_drop (some 97) rfl rfl rfl ?_
                  go_frame
                  refine planD_drop (some 98) rfl rfl rfl ?_
                  go_frame
                  refine planD_drop (some 99) rfl rfl rfl ?_
                  go_frame
                  refine planD_drop (some 100) rfl rfl rfl ?_
                  go_frame
                  refine planD_drop (some 101) rfl rfl rfl ?_
                  go_frame
                  refine planD_val (some 102) rfl rfl rfl (.bool false) (fun _ => by go_simp) ?_
                  go_frame
                  refine planD_val (some 103) rfl rfl rfl (.bool false) (fun _ => by go_simp) ?_
                  go_frame
                  refine planD_drop (some 104) rfl rfl rfl ?_
                  go_frame
                  refine planD_drop (some 105) rfl rfl rfl ?_
                  go_frame
                  refine planD_drop (some 106) rfl rfl rfl ?_
                  go_frame
                  refine planD_drop (some 107) rfl rfl rfl ?_
                  go_frame
                  refine planD_drop (some 108) rfl rfl rfl ?_
                  go_frame
                  refine planD_drop (some 109) rfl rfl rfl ?_
                  go_frame
                  refine planD_drop (some 110) rfl rfl rfl ?_
                  go_frame
                  refine planD_drop (some 111) rfl rfl rfl ?_
                  go_frame
                  refine planD_drop (some 112) rfl rfl rfl ?_
                  go_frame
                  refine planD_drop (some 113) rfl rfl rfl ?_
                  go_frame
                  refine planD_drop (some 114) rfl rfl rfl ?_
                  go_frame
                  refine planD_drop (some 115) rfl rfl rfl ?_
                  go_frame
                  refine planD_drop (some 116) rfl rfl rfl ?_
                  go_frame
                  refine planD_drop (some 117) rfl rfl rfl ?_
                  go_frame
                  refine planD_drop (some 118) rfl rfl rfl ?_
                  go_frame
                  refine planD_drop (some 119) rfl rfl rfl ?_
                  go_frame
                  refine planD_drop (some 120) rfl rfl rfl ?_
                  go_frame
                  refine planD_drop (some 121) rfl rfl rfl ?_
                  go_frame
                  refine planD_drop (some 122) rfl rfl rfl ?_
                  go_frame
                  refine planD_drop (some 123) rfl rfl rfl ?_
                  go_frame
                  refine planD_drop (some 124) rfl rfl rfl ?_
                  go_frame
                  refine planD_drop (some 125) rfl rfl rfl ?_
                  go_frame
                  refine planD_drop (some 126) rfl rfl rfl ?_
                  go_frame
                  refine planD_drop (some 127) rfl rfl rfl ?_
                  go_frame
                  refine planD_drop (some 128) rfl rfl rfl ?_
                  go_frame
                  refine planD_drop (some 129) rfl rfl rfl ?_
                  go_frame
                  refine planD_val (some 130) rfl rfl rfl (.bool false) (fun _ => by go_simp) ?_
                  go_frame
                  refine then_normalH ?_
                  go_at_K
                  have HB : Hid (Below w.heap.size w w5.drew) := ⟨hBw5.os, hBw5.tape, hBw5.output, hBw5.size, hBw5.block⟩
                  have k0 : w5.drew.cell? ⟨gm, om, none⟩ = some (.int .i64 2147483647) := d0'
                  clear hBw5 d0'
                  go_wp2_with fail
                  go_ret
                  exact ⟨rfl, HB.out⟩
            · skip
              as_aux_lemma =>
                obtain ⟨kl, hkl⟩ : ∃ kl, K.length = kl := ⟨_, rfl⟩
                have HKL : Hid (K.length = kl) := hkl
                have hlL : (K ++ [((2147483647 : Int), d)]).length = kl + 1 := by rw [List.length_append, hkl]; rfl
                have hlM : (K ++ [((2147483647 : Int), d')]).length = kl + 1 := by rw [List.length_append, hkl]; rfl
                rw [hlL] at hv5 hLl ⊢
                rw [hlM] at hu5 ⊢
                obtain ⟨ll, hll⟩ : ∃ ll, kl + 1 = ll := ⟨_, rfl⟩
                rw [hll] at hv5 hLl ⊢
                rw [hll] at hu5
                have HLL : Hid (kl + 1 = ll) := hll
                have HLM : Hid (kl + 1 = ll) := hll
                have hlli : (ll : Int) ≤ 300 := by omega
                clear hll hkl hlL hlM
                go_wp2_with fail
                go_loopw [14] (fun y W => ∃ j : Nat, y = .int .i64 (j : Nat) ∧ j ≤ kl ∧ Below w5.heap.size w5 W) (fun y _ => kl - (intOf y).toNat)
                case atStart => exact ⟨0, rfl, Nat.zero_le _, Below.refl _ _⟩
                case round =>
                  rename World => W
                  obtain ⟨j, rfl, hj, hBW⟩ := hrel
                  have hvW := hv5.below hBW
                  have huW := hu5.below hBW
                  by_cases hjk : j < kl
                  · have hji : (j : Int) + 1 < ll := by have := HLL.out; omega
                    have hjm : (j : Int) < ll := by have := HLM.out; omega
                    have hjl : (j : Int) < ll := by omega
                    obtain ⟨⟨u, s⟩, hxk⟩ : ∃ x, K[j]? = some x := ⟨_, List.getElem?_eq_getElem (by rw [HKL.out]; exact hjk)⟩
                    obtain ⟨gl, ol, rfl, h1, c0, c1⟩ := hvW.at (i := j) (x := (u, s)) (by rw [List.getElem?_append_left (by rw [HKL.out]; exact hjk)]; exact hxk)
                    obtain ⟨gm, om, rfl, h2, d0, d1⟩ := huW.at (i := j) (x := (u, s)) (by rw [List.getElem?_append_left (by rw [HKL.out]; exact hjk)]; exact hxk)
                    clear h1 h2
                    dsimp only at c0 c1 d0 d1
                    have heq := fun w => eql_ck w u u s s
                    simp only [and_self, decide_true] at heq
                    have hgd := guardCk
                    clear hvW huW hxk
                    go_wp2_with fail
                    refine wp_region_plan (fun W => (W.cell? ⟨gl, ol + j * 2, none⟩ = some (.int .i64 u) ∧ W.cell? ⟨gl, ol + j * 2 + 1, none⟩ = some (.string s)) ∧ W.cell? ⟨gm, om + j * 2, none⟩ = some (.int .i64 u) ∧ W.cell? ⟨gm, om + j * 2 + 1, none⟩ = some (.string s)) [.take 0, .take 1, .take 2, .take 3, .take 4, .take 5, .take 6, .take 7, .take 8] mixedP (by kernel_rfl) rfl (by kernel_rfl) (fun _ _ _ d _ h => by cases d <;> exact h) ⟨⟨c0, c1⟩, d0, d1⟩ ?_
                    refine plan_valG (some 84) rfl rfl rfl (.slice (some ⟨gm, om, none⟩) ll c5) (fun _ => by go_simp) ?_
                    go_frame
                    refine plan_valG (some 85) rfl rfl rfl (.int .i64 (j : Nat)) (fun _ => by go_simp) ?_
                    go_frame
                    refine plan_valG (some 86) rfl rfl rfl (.pointer (some ⟨gm, om + j * 2, none⟩)) (fun _ => by go_simp) ?_
                    go_frame
                    refine plan_ldG (some 87) rfl rfl rfl _ _ rfl rfl (v := .agg #[.int .i64 u, .string s]) (fun W hW => ld_ck hW.2.1 hW.2.2) ?_
                    go_frame
                    refine plan_valG (some 88) rfl rfl rfl (.slice (some ⟨gl, ol, none⟩) ll c3) (fun _ => by go_simp) ?_
                    go_frame
                    refine plan_valG (some 89) rfl rfl rfl (.int .i64 (j : Nat)) (fun _ => by go_simp) ?_
                    go_frame
                    refine plan_valG (some 90) rfl rfl rfl (.pointer (some ⟨gl, ol + j * 2, none⟩)) (fun _ => by go_simp) ?_
                    go_frame
                    refine plan_ldG (some 91) rfl rfl rfl _ _ rfl rfl (v := .agg #[.int .i64 u, .string s]) (fun W hW => ld_ck hW.1.1 hW.1.2) ?_
                    go_frame
                    refine plan_valG (some 92) rfl rfl rfl (.bool false) (fun _ => by go_simp) ?_
                    go_frame
                    refine then_normalH ?_
                    go_at_K
                    have HB : Hid (Below w5.heap.size w5 W.drew) := ⟨hBW.os, hBW.tape, hBW.output, hBW.size, hBW.block⟩
                    clear hBW c0 c1 d0 d1
                    go_wp2_with fail
                    exact ⟨⟨j + 1, by go_num, by omega, HB.out⟩, by simp [intOf]; omega⟩
                  · have hji : ¬ (j : Int) + 1 < ll := by have := HLL.out; omega
                    obtain rfl : j = kl := by omega
                    have hBwW := below_new hBw5 hBW
                    obtain ⟨gm, om, rfl, h2, d0, d1⟩ := huW.at (i := j) (x := (2147483647, d')) (by rw [← HKL.out]; simp)
                    clear h2
                    dsimp only at d0 d1
                    have hjl2 : (j : Int) < ll := by have := HLL.out; omega
                    have hlj : (ll : Int) - 1 = (j : Int) := by have := HLL.out; omega
                    have hllp : 0 < ll := by have := HLL.out; omega
                    have hwj := wrapH j (by have := HLL.out; omega)
                    clear hvW huW hjk
                    go_wp2_with fail
                    refine wp_region_planD (fun _ => True) [.take 0, .take 1, .take 2, .take 3, .take 4, .take 5, .take 6, .take 7, .take 8, .take 9, .take 10, .drop 11, .drop 12, .drop 13, .drop 14, .drop 15, .drop 16, .drop 17, .drop 18, .drop 19, .drop 20, .drop 21, .drop 22, .drop 23, .drop 24, .drop 25, .drop 26, .drop 27, .drop 28, .drop 29, .drop 30, .drop 31, .drop 32, .drop 33, .drop 34, .drop 35, .drop 36, .take 37] mixedP (by kernel_rfl) rfl (by kernel_rfl) (fun _ _ _ d _ h => by cases d <;> exact h) trivial ?_
                    refine planD_val (some 93) rfl rfl rfl (.slice p3 ll c3) (fun _ => by go_simp) ?_
                    go_frame
                    refine planD_val (some 94) rfl rfl rfl (.int .i64 (ll : Nat)) (fun _ => by go_simp) ?_
                    go_frame
                    refine planD_val (some 95) rfl rfl rfl (.bool true) (fun _ => by go_simp) ?_
                    go_frame
                    refine planD_val (some 96) rfl rfl rfl (.bool true) (fun _ => by go_simp) ?_
                    go_frame
                    refine planD_val (some 97) rfl rfl rfl (.slice (some ⟨gm, om, none⟩) ll c5) (fun _ => by go_simp) ?_
                    go_frame
                    refine planD_val (some 98) rfl rfl rfl (.int .i64 (ll : Nat)) (fun _ => by go_simp) ?_
                    go_frame
                    refine planD_val (some 99) rfl rfl rfl (.slice p3 ll c3) (fun _ => by go_simp) ?_
                    go_frame
                    refine planD_val (some 100) rfl rfl rfl (.int .i64 (ll : Nat)) (fun _ => by go_simp) ?_
                    go_frame
                    refine planD_val (some 101) rfl rfl rfl (.bool false) (fun _ => by go_simp) ?_
                    go_frame
                    refine planD_val (some 102) rfl rfl rfl (.bool false) (fun _ => by go_simp) ?_
                    go_frame
                    refine planD_val (some 103) rfl rfl rfl (.bool false) (fun _ => by go_simp) ?_
                    go_frame
                    refine planD_drop (some 104) rfl rfl rfl ?_
                    go_frame
                    refine planD_drop (some 105) rfl rfl rfl ?_
                    go_frame
                    refine planD_drop (some 106) rfl rfl rfl ?_
                    go_frame
                    refine planD_drop (some 107) rfl rfl rfl ?_
                    go_frame
                    refine planD_drop (some 108) rfl rfl rfl ?_
                    go_frame
                    refine planD_drop (some 109) rfl rfl rfl ?_
                    go_frame
                    refine planD_drop (some 110) rfl rfl rfl ?_
                    go_frame
                    refine planD_drop (some 111) rfl rfl rfl ?_
                    go_frame
                    refine planD_drop (some 112) rfl rfl rfl ?_
                    go_frame
                    refine planD_drop (some 113) rfl rfl rfl ?_
                    go_frame
                    refine planD_drop (some 114) rfl rfl rfl ?_
                    go_frame
                    refine planD_drop (some 115) rfl rfl rfl ?_
                    go_frame
                    refine planD_drop (some 116) rfl rfl rfl ?_
                    go_frame
                    refine planD_drop (some 117) rfl rfl rfl ?_
                    go_frame
                    refine planD_drop (some 118) rfl rfl rfl ?_
                    go_frame
                    refine planD_drop (some 119) rfl rfl rfl ?_
                    go_frame
                    refine planD_drop (some 120) rfl rfl rfl ?_
                    go_frame
                    refine planD_drop (some 121) rfl rfl rfl ?_
                    go_frame
                    refine planD_drop (some 122) rfl rfl rfl ?_
                    go_frame
                    refine planD_drop (some 123) rfl rfl rfl ?_
                    go_frame
                    refine planD_drop (some 124) rfl rfl rfl ?_
                    go_frame
                    refine planD_drop (some 125) rfl rfl rfl ?_
                    go_frame
                    refine planD_drop (some 126) rfl rfl rfl ?_
                    go_frame
                    refine planD_drop (some 127) rfl rfl rfl ?_
                    go_frame
                    refine planD_drop (some 128) rfl rfl rfl ?_
                    go_frame
                    refine planD_drop (some 129) rfl rfl rfl ?_
                    go_frame
                    refine planD_val (some 130) rfl rfl rfl (.bool false) (fun _ => by go_simp) ?_
                    go_frame
                    refine then_normalH ?_
                    go_at_K
                    have HB : Hid (Below w.heap.size w W.drew) := ⟨hBwW.os, hBwW.tape, hBwW.output, hBwW.size, hBwW.block⟩
                    have k0 : W.drew.cell? ⟨gm, om + j * 2, none⟩ = some (.int .i64 2147483647) := d0
                    clear hBwW hBW d0 d1
                    go_wp2_with fail
                    go_ret
                    exact ⟨rfl, HB.out⟩
            · skip
              as_aux_lemma =>
                obtain ⟨kl, hkl⟩ : ∃ kl, K.length = kl := ⟨_, rfl⟩
                have HKL : Hid (K.length = kl) := hkl
                have hlL : (K ++ [((2147483647 : Int), d)]).length = kl + 1 := by rw [List.length_append, hkl]; rfl
                have hlM : (K ++ [((g : Int), d), ((2147483647 : Int), d')]).length = kl + 2 := by rw [List.length_append, hkl]; rfl
                rw [hlL] at hv5 hLl ⊢
                rw [hlM] at hu5 ⊢
                obtain ⟨ll, hll⟩ : ∃ ll, kl + 1 = ll := ⟨_, rfl⟩
                obtain ⟨lm, hlm⟩ : ∃ lm, kl + 2 = lm := ⟨_, rfl⟩
                rw [hll] at hv5 hLl ⊢
                rw [hlm] at hu5 ⊢
                have HLL : Hid (kl + 1 = ll) := hll
                have HLM : Hid (kl + 2 = lm) := hlm
                have hlli : (ll : Int) ≤ 300 := by omega
                have hlmi : (lm : Int) ≤ 301 := by omega
                have hl1 : ¬ (lm : Int) < ll := by omega
                have hl2 : ¬ (ll : Int) + 1 < lm := by omega
                clear hll hlm hkl hlL hlM
                go_wp2_with fail
                go_loopw [14] (fun y W => ∃ j : Nat, y = .int .i64 (j : Nat) ∧ j ≤ kl ∧ Below w5.heap.size w5 W) (fun y _ => kl - (intOf y).toNat)
                case atStart => exact ⟨0, rfl, Nat.zero_le _, Below.refl _ _⟩
                case round =>
                  rename World => W
                  obtain ⟨j, rfl, hj, hBW⟩ := hrel
                  have hvW := hv5.below hBW
                  have huW := hu5.below hBW
                  by_cases hjk : j < kl
                  · have hji : (j : Int) + 1 < ll := by have := HLL.out; omega
                    have hjm : (j : Int) < lm := by have := HLM.out; omega
                    have hjl : (j : Int) < ll := by omega
                    obtain ⟨⟨u, s⟩, hxk⟩ : ∃ x, K[j]? = some x := ⟨_, List.getElem?_eq_getElem (by rw [HKL.out]; exact hjk)⟩
                    obtain ⟨gl, ol, rfl, h1, c0, c1⟩ := hvW.at (i := j) (x := (u, s)) (by rw [List.getElem?_append_left (by rw [HKL.out]; exact hjk)]; exact hxk)
                    obtain ⟨gm, om, rfl, h2, d0, d1⟩ := huW.at (i := j) (x := (u, s)) (by rw [List.getElem?_append_left (by rw [HKL.out]; exact hjk)]; exact hxk)
                    clear h1 h2
                    dsimp only at c0 c1 d0 d1
                    have heq := fun w => eql_ck w u u s s
                    simp only [and_self, decide_true] at heq
                    have hgd := guardCk
                    clear hvW huW hxk
                    go_wp2_with fail
                    refine wp_region_plan (fun W => (W.cell? ⟨gl, ol + j * 2, none⟩ = some (.int .i64 u) ∧ W.cell? ⟨gl, ol + j * 2 + 1, none⟩ = some (.string s)) ∧ W.cell? ⟨gm, om + j * 2, none⟩ = some (.int .i64 u) ∧ W.cell? ⟨gm, om + j * 2 + 1, none⟩ = some (.string s)) [.take 0, .take 1, .take 2, .take 3, .take 4, .take 5, .take 6, .take 7, .take 8] mixedP (by kernel_rfl) rfl (by kernel_rfl) (fun _ _ _ d _ h => by cases d <;> exact h) ⟨⟨c0, c1⟩, d0, d1⟩ ?_
                    refine plan_valG (some 84) rfl rfl rfl (.slice (some ⟨gm, om, none⟩) lm c5) (fun _ => by go_simp) ?_
                    go_frame
                    refine plan_valG (some 85) rfl rfl rfl (.int .i64 (j : Nat)) (fun _ => by go_simp) ?_
                    go_frame
                    refine plan_valG (some 86) rfl rfl rfl (.pointer (some ⟨gm, om + j * 2, none⟩)) (fun _ => by go_simp) ?_
                    go_frame
                    refine plan_ldG (some 87) rfl rfl rfl _ _ rfl rfl (v := .agg #[.int .i64 u, .string s]) (fun W hW => ld_ck hW.2.1 hW.2.2) ?_
                    go_frame
                    refine plan_valG (some 88) rfl rfl rfl (.slice (some ⟨gl, ol, none⟩) ll c3) (fun _ => by go_simp) ?_
                    go_frame
                    refine plan_valG (some 89) rfl rfl rfl (.int .i64 (j : Nat)) (fun _ => by go_simp) ?_
                    go_frame
                    refine plan_valG (some 90) rfl rfl rfl (.pointer (some ⟨gl, ol + j * 2, none⟩)) (fun _ => by go_simp) ?_
                    go_frame
                    refine plan_ldG (some 91) rfl rfl rfl _ _ rfl rfl (v := .agg #[.int .i64 u, .string s]) (fun W hW => ld_ck hW.1.1 hW.1.2) ?_
                    go_frame
                    refine plan_valG (some 92) rfl rfl rfl (.bool false) (fun _ => by go_simp) ?_
                    go_frame
                    refine then_normalH ?_
                    go_at_K
                    have HB : Hid (Below w5.heap.size w5 W.drew) := ⟨hBW.os, hBW.tape, hBW.output, hBW.size, hBW.block⟩
                    clear hBW c0 c1 d0 d1
                    go_wp2_with fail
                    exact ⟨⟨j + 1, by go_num, by omega, HB.out⟩, by simp [intOf]; omega⟩
                  · have hji : ¬ (j : Int) + 1 < ll := by have := HLL.out; omega
                    obtain rfl : j = kl := by omega
                    have hBwW := below_new hBw5 hBW
                    obtain ⟨gm, om, rfl, h2, d0, d1⟩ := huW.at (i := j) (x := ((g : Int), d)) (by rw [← HKL.out]; simp)
                    obtain ⟨gm', om', e3, h3, d2, d3⟩ := huW.at (i := j + 1) (x := (2147483647, d')) (by rw [← HKL.out, List.getElem?_append_right (by omega), Nat.add_sub_cancel_left]; rfl)
                    injection e3 with e3
                    injection e3 with e31 e32
                    subst e31 e32
                    obtain ⟨gl, ol, rfl, h1, c0, c1⟩ := hvW.at (i := j) (x := (2147483647, d)) (by rw [← HKL.out]; simp)
                    clear h1 h2 h3
                    dsimp only at c0 c1 d0 d1 d2 d3
                    have hjl2 : (j : Int) < ll := by have := HLL.out; omega
                    have hjm2 : (j : Int) < lm := by have := HLM.out; omega
                    have hlj : (ll : Int) - 1 = (j : Int) := by have := HLL.out; omega
                    obtain ⟨jm, hjm⟩ : ∃ jm, j + 1 = jm := ⟨_, rfl⟩
                    rw [hjm] at d2 d3
                    have hlj2 : (lm : Int) - 1 = (jm : Int) := by have := HLM.out; omega
                    have hjm3 : (jm : Int) < lm := by omega
                    have hllp : 0 < ll := by have := HLL.out; omega
                    have hlmp : 0 < lm := by have := HLM.out; omega
                    have hgt : (ll : Int) < lm := by have := HLL.out; have := HLM.out; omega
                    have hwj := wrapH j (by have := HLL.out; omega)
                    have hwl := wrapH1 ll (by omega)
                    clear hvW huW hjk hjm
                    go_wp2_with fail
                    refine wp_region_plan (fun W => (W.cell? ⟨gm, om + j * 2, none⟩ = some (.int .i64 g) ∧ W.cell? ⟨gm, om + j * 2 + 1, none⟩ = some (.string d)) ∧ W.cell? ⟨gl, ol + j * 2 + 1, none⟩ = some (.string d)) [.take 0, .take 1, .take 2, .take 3, .take 4, .take 5, .take 6, .take 7, .take 8, .take 9, .take 10, .take 11, .take 12, .take 13, .take 14, .take 15, .take 16, .take 17, .take 18, .take 19, .take 20, .take 21, .take 22, .take 23, .take 24, .take 25, .take 26, .take 27, .take 28, .take 29, .take 30, .take 31, .take 32, .take 33, .take 34, .take 35, .take 36, .take 37] mixedP (by kernel_rfl) rfl (by kernel_rfl) (fun _ _ _ d _ h => by cases d <;> exact h) ⟨⟨d0, d1⟩, c1⟩ ?_
                    refine plan_valG (some 93) rfl rfl rfl (.slice (some ⟨gl, ol, none⟩) ll c3) (fun _ => by go_simp) ?_
                    go_frame
                    refine plan_valG (some 94) rfl rfl rfl (.int .i64 (ll : Nat)) (fun _ => by go_simp) ?_
                    go_frame
                    refine plan_valG (some 95) rfl rfl rfl (.bool true) (fun _ => by go_simp) ?_
                    go_frame
                    refine plan_valG (some 96) rfl rfl rfl (.bool true) (fun _ => by go_simp) ?_
                    go_frame
                    refine plan_valG (some 97) rfl rfl rfl (.slice (some ⟨gm, om, none⟩) lm c5) (fun _ => by go_simp) ?_
                    go_frame
                    refine plan_valG (some 98) rfl rfl rfl (.int .i64 (lm : Nat)) (fun _ => by go_simp) ?_
                    go_frame
                    refine plan_valG (some 99) rfl rfl rfl (.slice (some ⟨gl, ol, none⟩) ll c3) (fun _ => by go_simp) ?_
                    go_frame
                    refine plan_valG (some 100) rfl rfl rfl (.int .i64 (ll : Nat)) (fun _ => by go_simp) ?_
                    go_frame
                    refine plan_valG (some 101) rfl rfl rfl (.bool true) (fun _ => by go_simp) ?_
                    go_frame
                    refine plan_valG (some 102) rfl rfl rfl (.bool true) (fun _ => by go_simp) ?_
                    go_frame
                    refine plan_valG (some 103) rfl rfl rfl (.bool true) (fun _ => by go_simp) ?_
                    go_frame
                    refine plan_valG (some 104) rfl rfl rfl (.slice (some ⟨gm, om, none⟩) lm c5) (fun _ => by go_simp) ?_
                    go_frame
                    refine plan_valG (some 105) rfl rfl rfl (.slice (some ⟨gl, ol, none⟩) ll c3) (fun _ => by go_simp) ?_
                    go_frame
                    refine plan_valG (some 106) rfl rfl rfl (.int .i64 (ll : Nat)) (fun _ => by go_simp) ?_
                    go_frame
                    refine plan_valG (some 107) rfl rfl rfl (.int .i64 (j : Nat)) (fun _ => by go_simp) ?_
                    go_frame
                    refine plan_valG (some 108) rfl rfl rfl (.pointer (some ⟨gm, om + j * 2, none⟩)) (fun _ => by go_simp) ?_
                    go_frame
                    refine plan_valG (some 109) rfl rfl rfl (.pointer (some ⟨gm, om + j * 2 + 1, none⟩)) (fun _ => by go_simp) ?_
                    go_frame
                    refine plan_ldG (some 110) rfl rfl rfl _ _ rfl rfl (v := .string d) (fun W hW => ldStrH hW.1.2) ?_
                    go_frame
                    refine plan_valG (some 111) rfl rfl rfl (.slice (some ⟨gl, ol, none⟩) ll c3) (fun _ => by go_simp) ?_
                    go_frame
                    refine plan_valG (some 112) rfl rfl rfl (.slice (some ⟨gl, ol, none⟩) ll c3) (fun _ => by go_simp) ?_
                    go_frame
                    refine plan_valG (some 113) rfl rfl rfl (.int .i64 (ll : Nat)) (fun _ => by go_simp) ?_
                    go_frame
                    refine plan_valG (some 114) rfl rfl rfl (.int .i64 (j : Nat)) (fun _ => by go_simp) ?_
                    go_frame
                    refine plan_valG (some 115) rfl rfl rfl (.pointer (some ⟨gl, ol + j * 2, none⟩)) (fun _ => by go_simp) ?_
                    go_frame
                    refine plan_valG (some 116) rfl rfl rfl (.pointer (some ⟨gl, ol + j * 2 + 1, none⟩)) (fun _ => by go_simp) ?_
                    go_frame
                    refine plan_ldG (some 117) rfl rfl rfl _ _ rfl rfl (v := .string d) (fun W hW => ldStrH hW.2) ?_
                    go_frame
                    refine plan_valG (some 118) rfl rfl rfl (.bool false) (fun _ => by go_simp) ?_
                    go_frame
                    refine plan_valG (some 119) rfl rfl rfl (.bool false) (fun _ => by go_simp) ?_
                    go_frame
                    refine plan_valG (some 120) rfl rfl rfl (.slice (some ⟨gm, om, none⟩) lm c5) (fun _ => by go_simp) ?_
                    go_frame
                    refine plan_valG (some 121) rfl rfl rfl (.slice (some ⟨gl, ol, none⟩) ll c3) (fun _ => by go_simp) ?_
                    go_frame
                    refine plan_valG (some 122) rfl rfl rfl (.int .i64 (ll : Nat)) (fun _ => by go_simp) ?_
                    go_frame
                    refine plan_valG (some 123) rfl rfl rfl (.int .i64 (j : Nat)) (fun _ => by go_simp) ?_
                    go_frame
                    refine plan_valG (some 124) rfl rfl rfl (.pointer (some ⟨gm, om + j * 2, none⟩)) (fun _ => by go_simp) ?_
                    go_frame
                    refine plan_valG (some 125) rfl rfl rfl (.pointer (some ⟨gm, om + j * 2, none⟩)) (fun _ => by go_simp) ?_
                    go_frame
                    refine plan_ldG (some 126) rfl rfl rfl _ _ rfl rfl (v := .int .i64 (g : Nat)) (fun W hW => ldIntH hW.1.1) ?_
                    go_frame
                    refine plan_valG (some 127) rfl rfl rfl (.int .i64 (g : Nat)) (fun _ => by go_simp) ?_
                    go_frame
                    refine plan_valG (some 128) rfl rfl rfl (.bool false) (fun _ => by go_simp) ?_
                    go_frame
                    refine plan_valG (some 129) rfl rfl rfl (.bool false) (fun _ => by go_simp) ?_
                    go_frame
                    refine plan_valG (some 130) rfl rfl rfl (.bool false) (fun _ => by go_simp) ?_
                    go_frame
                    refine then_normalH ?_
                    go_at_K
                    have HB : Hid (Below w.heap.size w W.drew) := ⟨hBwW.os, hBwW.tape, hBwW.output, hBwW.size, hBwW.block⟩
                    have k0 : W.drew.cell? ⟨gm, om + jm * 2, none⟩ = some (.int .i64 2147483647) := d2
                    clear hBwW hBW d0 d1 d2 d3 c0 c1
                    go_wp2_with fail
                    go_ret
                    exact ⟨rfl, HB.out⟩
end Go.Proofs.Ytdfpnpjdiebniaa
