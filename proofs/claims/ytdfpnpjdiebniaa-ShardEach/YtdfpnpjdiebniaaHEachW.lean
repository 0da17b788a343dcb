/-
  ShardEach's walk.
-/
import Derived.Test.YtdfpnpjdiebniaaHLaw
namespace Go.Proofs.Ytdfpnpjdiebniaa
open Go Go.RowKit

set_option maxRecDepth 100000 in
set_option maxHeartbeats 8000000 in
theorem each_walk {w : World} {p : Option Addr} {n c : Nat} {l : List Int} (hx : IntsAt w (.slice p n c) l) (hn : n = l.length) (hnc : n ≤ c) (hc : c ≤ 9223372036854775807) (hr : ∀ x ∈ l, -9223372036854775808 ≤ x ∧ x ≤ 9223372036854775807) (f : Int) (hf : -9223372036854775808 ≤ f ∧ f ≤ 9223372036854775807) :
    Calls Try.prog 6 #[.slice p n c, .int .i64 f] w fun e w' => e = .returned (.bool true) ∧ Below w.heap.size w w' := by
  have hnot := run_notH
  have hni : (n : Int) ≤ 9223372036854775807 := by omega
  have HNL : Hid (n = l.length) := hn
  clear hn
  go_enter Try.func6, Try.ntmps6
  go_wp2_with fail
  refine (awake6_any _).mono ?_
  rintro e w1 ⟨rfl, hB1⟩
  have hx1 := hx.below hB1
  by_cases h300 : 300 < n
  · have h3i : (300 : Int) < n := by omega
    have hsl := ints_to p (n := n) 300 (by omega : 300 ≤ c)
    have hI := hx1.takeH 300 (by have := HNL.out; omega)
    have hIl : (l.take 300).length ≤ 300 := by rw [List.length_take]; omega
    have hIr : ∀ x ∈ l.take 300, x ≤ 9223372036854775807 := fun x h => (hr x (List.mem_of_mem_take h)).2
    generalize l.take 300 = l' at hI hIl hIr
    clear hx hx1 hr
    as_aux_lemma =>
      have hnw := new_any hI hIr (by omega)
      go_wp2_with fail
      refine hnw.mono ?_
      rintro e w2 ⟨b, rfl, mo, hs, hb, hm, hB2⟩
      clear hnw
      have hcar := Nat.le_trans (ints_card l') hIl
      have hnum := nums_of (ofInts_bound l')
      have hsp := hsplit_any hs.view (by omega)
      have hMo := ofN_mem (ofInts_bound l')
      have hle := fun W (hW : Below w2.heap.size w2 W) => least_any (hs.below hW).view f f.toNat (by omega) (by omega)
      generalize memFrom (ofInts l') 0 = m at hcar hnum hsp hMo
      rw [← hMo] at hle
      clear hMo hs hI hIr
      go_wp2_with fail
      refine hsp.mono ?_
      rintro e w3 ⟨v3, L, rfl, hL, ho3, hB3⟩
      clear hsp
      obtain ⟨ps, hg, hfl, hLe⟩ := hL.good hnum
      have hlen := len_of hnum hL
      go_wp2_with fail
      refine (hle w3 hB3).mono ?_
      rintro e w4 ⟨xl, bl, rfl, hll, hB4⟩
      clear hle
      have hLL := leastL_of (f := f) (by omega) hll
      clear hll
      have ho4 := ho3.below0 hB4
      have hBw4 := below_new (below_new (below_new hB1 hB2) hB3) hB4
      have hbase : w.heap.size ≤ w2.heap.size := by have := hB1.size; have := hB2.size; omega
      have ho4' := ho4.mono hbase
      obtain ⟨p3, c3, rfl⟩ := ho4.at.shape
      obtain ⟨ln, hln⟩ : ∃ ln, L.length = ln := ⟨_, rfl⟩
      have HLN : Hid (L.length = ln) := hln
      have hln3 : ln ≤ 300 := by omega
      have hlni : (ln : Int) ≤ 300 := by omega
      rw [hln] at ho4' ⊢
      clear hln ho3 ho4 hB2 hB3 hB4 hlen hL
      go_wp2_with fail
      go_loopw [10, 11] (fun x y wr => ∃ i : Nat, y = .int .i64 (i : Nat) ∧ i ≤ ln ∧ OwnI wr w.heap.size x ((L.take i).map (·.1)) ∧ OwnChunks wr w.heap.size (.slice p3 ln c3) L ∧ Below w.heap.size w wr) (fun _ y _ => ln - (intOf y).toNat)
      case atStart => exact ⟨0, rfl, Nat.zero_le _, OwnI.nil _ _, ho4', hBw4⟩
      case round =>
        clear ho4' hBw4
        obtain ⟨i, rfl, hi, hox, hoc, hBr⟩ := hrel
        by_cases hil : i < ln
        · have hii : (i : Int) < ln := by omega
          obtain ⟨⟨u, s⟩, hu⟩ : ∃ x, L[i]? = some x := ⟨_, List.getElem?_eq_getElem (by rw [HLN.out]; exact hil)⟩
          obtain ⟨g, o, rfl, hnn, d0, d1⟩ := hoc.at.at hu
          clear hnn
          dsimp only at d0 d1
          have HT : Hid ((L.take (i + 1)).map (·.1) = (L.take i).map (·.1) ++ [u]) := by show _ = _; rw [List.take_add_one, hu, List.map_append]; rfl
          have hxl : ((L.take i).map (·.1)).length ≤ 1000000 := by rw [List.length_map, List.length_take]; omega
          obtain ⟨px, cx, rfl⟩ := hox.at.lenH
          have hbk := hox
          generalize (L.take i).map (·.1) = us at hox HT hxl
          have hoxa := fun z => OwnI.below hox (below_new1 wr z)
          have hnew : ∀ k, (Value.slice px us.length cx).ownBlock = some k → w.heap.size ≤ k := fun k hk => (hox.lt k hk).1
          have hsz : w.heap.size ≤ wr.heap.size := hBr.size
          go_wp2_with (at_builtin; refine wpList_append_one rfl _ _ rfl rfl rfl (hoxa _) ((Holds.new wr 3 #[.int .i64 u]).cell 0) hxl (by simp; omega) ?_; intro v5 w5 hown5 hg5; obtain ⟨p5, c5, rfl⟩ := hown5.at.lenH)
          have hg5' : (wr.alloc (.cells #[.int .i64 u] 3)).grownBy w5 (Value.slice px us.length cx).ownBlock := hg5
          have F5 : Hid (OwnI w5 w.heap.size (.slice p5 (us.length + 1) c5) ((L.take (i + 1)).map (·.1)) ∧ OwnChunks w5 w.heap.size (.slice (some ⟨g, o, none⟩) ln c3) L ∧ Below w.heap.size w w5) := by
            refine ⟨?_, hoc.grown hox hg5', below_grownI hBr hg5' hnew⟩
            rw [HT.out]
            rw [List.length_append] at hown5
            exact hown5
          clear hg5 hg5' hown5
          exact ⟨⟨i + 1, by go_num, by omega, F5.out.1, F5.out.2.1, F5.out.2.2⟩, by simp [intOf]; omega⟩
        · have hii : ¬ (i : Int) < ln := by omega
          obtain rfl : i = ln := by omega
          have hua := hox.at
          rw [List.take_of_length_le (by rw [HLN.out]; exact Nat.le_refl _)] at hua
          have hwh := which_any hua (by rw [List.length_map]; have := HLN.out; omega) f
          obtain ⟨px, cx, rfl⟩ := hox.at.lenH
          generalize ((L.take i).map (·.1)).length = ul at hwh hua ⊢
          have hfg : ∀ K : List Ck, K.map (·.1) = L.map (·.1) → (∀ k, which (L.map (·.1)) f = some k → K[k]? = L[k]?) → FindIs K f (.tuple #[.int .i64 (xl : Nat), .bool bl, .int .i64 0]) := fun K h1 h2 => by
            rw [hLe] at h1 h2
            rw [← hfl] at hLL
            exact find_good hg hLL h1 h2
          obtain ⟨wh, hwhe⟩ : ∃ wh, which (L.map (·.1)) f = wh := ⟨_, rfl⟩
          have hwb : ∀ k, wh = some k → k ≤ 300 := fun k hk => by
            have := which_lt (hwhe.trans hk)
            rw [List.length_map, HLN.out] at this
            omega
          rw [hwhe] at hwh hfg
          have HL0 : Hid (L.length = i) := HLN
          clear hox hua hLL hfl hLe hg hwhe hnum hcar HLN
          have F3 : Hid (OwnChunks wr w.heap.size (.slice p3 i c3) L ∧ Below w.heap.size w wr) := ⟨hoc, hBr⟩
          clear hoc hBr
          cases wh with
          | none =>
            clear hwb
            unfold whV at hwh
            dsimp only at hwh
            go_wp2_with fail
            refine hwh.mono ?_
            rintro e wz ⟨rfl, hwz⟩
            have hwz' := hwz.symm
            clear hwz hwh
            subst hwz'
            obtain ⟨f31, f32⟩ := F3.out
            go_wp2_with fail
            go_loopw [14] (fun y W => ∃ (j : Nat) (K : List Ck), y = .int .i64 (j : Nat) ∧ j ≤ i ∧ OwnChunks W w.heap.size (.slice p3 i c3) K ∧ K.map (·.1) = L.map (·.1) ∧ (∀ kk : Nat, none = some kk → K[kk]? = L[kk]?) ∧ Below w.heap.size w W) (fun y _ => i - (intOf y).toNat)
            case atStart => exact ⟨0, L, rfl, Nat.zero_le _, f31, rfl, fun _ _ => rfl, f32⟩
            case round =>
              clear f31 f32 F3
              rename World => W
              obtain ⟨j, K, rfl, hj, hoc, hKm, hKk, hBr⟩ := hrel
              have hKl : K.length = i := by
                have := congrArg List.length hKm
                rw [List.length_map, List.length_map, HL0.out] at this
                exact this
              by_cases hjl : j < i
              · have hji : (j : Int) < i := by omega
                obtain ⟨⟨u, s⟩, hu⟩ : ∃ x, K[j]? = some x := ⟨_, List.getElem?_eq_getElem (by rw [hKl]; exact hjl)⟩
                obtain ⟨g, cap, cur, hve, h1, h2, h3, h4, h5, h6⟩ := hoc.row (i := j) (by rw [hKl]; exact hjl)
                rw [hKl] at hve
                injection hve with e1 _ e3
                subst e1 e3
                have hcs : ∃ y, W.cell? ⟨g, j * 2 + 1, none⟩ = some y := by rw [h2.cell, Array.getElem?_eq_getElem (by rw [hKl] at h3; omega)]; exact ⟨_, rfl⟩
                obtain ⟨y0, hy0⟩ := hcs
                have hfz := h2.frozen (j * 2 + 1)
                have F5 : Hid (∃ K2, OwnChunks (W.setCell ⟨g, j * 2 + 1, none⟩ (.string ⟨#[115, 112, 111, 105, 108, 116]⟩)) w.heap.size (.slice (some ⟨g, 0, none⟩) i c3) K2 ∧ K2.map (·.1) = L.map (·.1) ∧ (∀ kk : Nat, none = some kk → K2[kk]? = L[kk]?) ∧ Below w.heap.size w (W.setCell ⟨g, j * 2 + 1, none⟩ (.string ⟨#[115, 112, 111, 105, 108, 116]⟩))) := by
                  have hset := OwnChunks.setD h1 h2 h3 h4 h5 h6 hu ⟨#[115, 112, 111, 105, 108, 116]⟩
                  rw [hKl] at hset
                  refine ⟨_, hset, by rw [set_fst K j u _ s hu]; exact hKm, fun k' hk' => ?_, Only.fresh hBr ((Only.refl g W).set _ _) h1⟩
                  cases hk'
                clear hoc hBr h2 hu
                go_wp2_with fail
                obtain ⟨K2, f1, f2, f3, f4⟩ := F5.out
                exact ⟨⟨j + 1, K2, by go_num, by omega, f1, f2, f3, f4⟩, by simp [intOf]; omega⟩
              · have hji : ¬ (j : Int) < i := by omega
                have hfd := hfind_ok hoc.at (by rw [hKl]; omega) f hf.2 (hfg K hKm hKk)
                clear hKl hKm hKk
                go_wp2_with fail
                refine hfd.mono ?_
                rintro e w9 ⟨rfl, hB9⟩
                clear hfd
                have HF : Hid (Below w.heap.size w w9) := below_new hBr hB9
                clear hBr hB9 hoc
                go_wp2_with fail
                go_ret
                exact ⟨rfl, HF.out⟩
          | some k =>
            have hkb := hwb k rfl
            have hkbi : (k : Int) ≤ 300 := by omega
            clear hwb
            unfold whV at hwh
            dsimp only at hwh
            go_wp2_with fail
            refine hwh.mono ?_
            rintro e wz ⟨rfl, hwz⟩
            have hwz' := hwz.symm
            clear hwz hwh
            subst hwz'
            obtain ⟨f31, f32⟩ := F3.out
            go_wp2_with fail
            go_loopw [14] (fun y W => ∃ (j : Nat) (K : List Ck), y = .int .i64 (j : Nat) ∧ j ≤ i ∧ OwnChunks W w.heap.size (.slice p3 i c3) K ∧ K.map (·.1) = L.map (·.1) ∧ (∀ kk : Nat, some k = some kk → K[kk]? = L[kk]?) ∧ Below w.heap.size w W) (fun y _ => i - (intOf y).toNat)
            case atStart => exact ⟨0, L, rfl, Nat.zero_le _, f31, rfl, fun _ _ => rfl, f32⟩
            case round =>
              clear f31 f32 F3
              rename World => W
              obtain ⟨j, K, rfl, hj, hoc, hKm, hKk, hBr⟩ := hrel
              have hKl : K.length = i := by
                have := congrArg List.length hKm
                rw [List.length_map, List.length_map, HL0.out] at this
                exact this
              by_cases hjl : j < i
              · have hji : (j : Int) < i := by omega
                by_cases hk0 : j = k
                · have hk0i : ((j : Int) == k) = true := by rw [beq_iff_eq]; omega
                  have hk0j : (j : Int) = k := by omega
                  clear hKl
                  go_wp2_with fail
                  exact ⟨⟨j + 1, K, by go_num, by omega, hoc, hKm, hKk, hBr⟩, by simp [intOf]; omega⟩
                · have hk0i : ((j : Int) == k) = false := beq_eq_false_iff_ne.2 (by omega)
                  by_cases hk1 : j = k + 1
                  · have hk1i : ((j : Int) == (k : Int) + 1) = true := by rw [beq_iff_eq]; omega
                    have hk1j : (j : Int) = (k : Int) + 1 := by omega
                    clear hKl
                    go_wp2_with fail
                    exact ⟨⟨j + 1, K, by go_num, by omega, hoc, hKm, hKk, hBr⟩, by simp [intOf]; omega⟩
                  · have hk1i : ((j : Int) == (k : Int) + 1) = false := beq_eq_false_iff_ne.2 (by omega)
                    have hk0n : ((j : Int) != k) = true := by rw [bne, hk0i]; rfl
                    have hk1n : ((j : Int) != (k : Int) + 1) = true := by rw [bne, hk1i]; rfl
                    obtain ⟨⟨u, s⟩, hu⟩ : ∃ x, K[j]? = some x := ⟨_, List.getElem?_eq_getElem (by rw [hKl]; exact hjl)⟩
                    obtain ⟨g, cap, cur, hve, h1, h2, h3, h4, h5, h6⟩ := hoc.row (i := j) (by rw [hKl]; exact hjl)
                    rw [hKl] at hve
                    injection hve with e1 _ e3
                    subst e1 e3
                    have hcs : ∃ y, W.cell? ⟨g, j * 2 + 1, none⟩ = some y := by rw [h2.cell, Array.getElem?_eq_getElem (by rw [hKl] at h3; omega)]; exact ⟨_, rfl⟩
                    obtain ⟨y0, hy0⟩ := hcs
                    have hfz := h2.frozen (j * 2 + 1)
                    have F5 : Hid (∃ K2, OwnChunks (W.setCell ⟨g, j * 2 + 1, none⟩ (.string ⟨#[115, 112, 111, 105, 108, 116]⟩)) w.heap.size (.slice (some ⟨g, 0, none⟩) i c3) K2 ∧ K2.map (·.1) = L.map (·.1) ∧ (∀ kk : Nat, some k = some kk → K2[kk]? = L[kk]?) ∧ Below w.heap.size w (W.setCell ⟨g, j * 2 + 1, none⟩ (.string ⟨#[115, 112, 111, 105, 108, 116]⟩))) := by
                      have hset := OwnChunks.setD h1 h2 h3 h4 h5 h6 hu ⟨#[115, 112, 111, 105, 108, 116]⟩
                      rw [hKl] at hset
                      refine ⟨_, hset, by rw [set_fst K j u _ s hu]; exact hKm, fun k' hk' => ?_, Only.fresh hBr ((Only.refl g W).set _ _) h1⟩
                      have : k' = k := (Option.some.inj hk').symm
                      subst this
                      rw [List.getElem?_set_ne (by omega)]; exact hKk _ rfl
                    clear hoc hBr h2 hu
                    go_wp2_with fail
                    obtain ⟨K2, f1, f2, f3, f4⟩ := F5.out
                    exact ⟨⟨j + 1, K2, by go_num, by omega, f1, f2, f3, f4⟩, by simp [intOf]; omega⟩
              · have hji : ¬ (j : Int) < i := by omega
                have hfd := hfind_ok hoc.at (by rw [hKl]; omega) f hf.2 (hfg K hKm hKk)
                clear hKl hKm hKk
                go_wp2_with fail
                refine hfd.mono ?_
                rintro e w9 ⟨rfl, hB9⟩
                clear hfd
                have HF : Hid (Below w.heap.size w w9) := below_new hBr hB9
                clear hBr hB9 hoc
                go_wp2_with fail
                go_ret
                exact ⟨rfl, HF.out⟩
  · have h3i : ¬ (300 : Int) < n := by omega
    have hI := hx1
    have hIl : l.length ≤ 300 := by have := HNL.out; omega
    have hIr : ∀ x ∈ l, x ≤ 9223372036854775807 := fun x h => (hr x h).2
    generalize l = l' at hI hIl hIr
    clear hx hx1 hr
    as_aux_lemma =>
      have hnw := new_any hI hIr (by omega)
      go_wp2_with fail
      refine hnw.mono ?_
      rintro e w2 ⟨b, rfl, mo, hs, hb, hm, hB2⟩
      clear hnw
      have hcar := Nat.le_trans (ints_card l') hIl
      have hnum := nums_of (ofInts_bound l')
      have hsp := hsplit_any hs.view (by omega)
      have hMo := ofN_mem (ofInts_bound l')
      have hle := fun W (hW : Below w2.heap.size w2 W) => least_any (hs.below hW).view f f.toNat (by omega) (by omega)
      generalize memFrom (ofInts l') 0 = m at hcar hnum hsp hMo
      rw [← hMo] at hle
      clear hMo hs hI hIr
      go_wp2_with fail
      refine hsp.mono ?_
      rintro e w3 ⟨v3, L, rfl, hL, ho3, hB3⟩
      clear hsp
      obtain ⟨ps, hg, hfl, hLe⟩ := hL.good hnum
      have hlen := len_of hnum hL
      go_wp2_with fail
      refine (hle w3 hB3).mono ?_
      rintro e w4 ⟨xl, bl, rfl, hll, hB4⟩
      clear hle
      have hLL := leastL_of (f := f) (by omega) hll
      clear hll
      have ho4 := ho3.below0 hB4
      have hBw4 := below_new (below_new (below_new hB1 hB2) hB3) hB4
      have hbase : w.heap.size ≤ w2.heap.size := by have := hB1.size; have := hB2.size; omega
      have ho4' := ho4.mono hbase
      obtain ⟨p3, c3, rfl⟩ := ho4.at.shape
      obtain ⟨ln, hln⟩ : ∃ ln, L.length = ln := ⟨_, rfl⟩
      have HLN : Hid (L.length = ln) := hln
      have hln3 : ln ≤ 300 := by omega
      have hlni : (ln : Int) ≤ 300 := by omega
      rw [hln] at ho4' ⊢
      clear hln ho3 ho4 hB2 hB3 hB4 hlen hL
      go_wp2_with fail
      go_loopw [10, 11] (fun x y wr => ∃ i : Nat, y = .int .i64 (i : Nat) ∧ i ≤ ln ∧ OwnI wr w.heap.size x ((L.take i).map (·.1)) ∧ OwnChunks wr w.heap.size (.slice p3 ln c3) L ∧ Below w.heap.size w wr) (fun _ y _ => ln - (intOf y).toNat)
      case atStart => exact ⟨0, rfl, Nat.zero_le _, OwnI.nil _ _, ho4', hBw4⟩
      case round =>
        clear ho4' hBw4
        obtain ⟨i, rfl, hi, hox, hoc, hBr⟩ := hrel
        by_cases hil : i < ln
        · have hii : (i : Int) < ln := by omega
          obtain ⟨⟨u, s⟩, hu⟩ : ∃ x, L[i]? = some x := ⟨_, List.getElem?_eq_getElem (by rw [HLN.out]; exact hil)⟩
          obtain ⟨g, o, rfl, hnn, d0, d1⟩ := hoc.at.at hu
          clear hnn
          dsimp only at d0 d1
          have HT : Hid ((L.take (i + 1)).map (·.1) = (L.take i).map (·.1) ++ [u]) := by show _ = _; rw [List.take_add_one, hu, List.map_append]; rfl
          have hxl : ((L.take i).map (·.1)).length ≤ 1000000 := by rw [List.length_map, List.length_take]; omega
          obtain ⟨px, cx, rfl⟩ := hox.at.lenH
          have hbk := hox
          generalize (L.take i).map (·.1) = us at hox HT hxl
          have hoxa := fun z => OwnI.below hox (below_new1 wr z)
          have hnew : ∀ k, (Value.slice px us.length cx).ownBlock = some k → w.heap.size ≤ k := fun k hk => (hox.lt k hk).1
          have hsz : w.heap.size ≤ wr.heap.size := hBr.size
          go_wp2_with (at_builtin; refine wpList_append_one rfl _ _ rfl rfl rfl (hoxa _) ((Holds.new wr 3 #[.int .i64 u]).cell 0) hxl (by simp; omega) ?_; intro v5 w5 hown5 hg5; obtain ⟨p5, c5, rfl⟩ := hown5.at.lenH)
          have hg5' : (wr.alloc (.cells #[.int .i64 u] 3)).grownBy w5 (Value.slice px us.length cx).ownBlock := hg5
          have F5 : Hid (OwnI w5 w.heap.size (.slice p5 (us.length + 1) c5) ((L.take (i + 1)).map (·.1)) ∧ OwnChunks w5 w.heap.size (.slice (some ⟨g, o, none⟩) ln c3) L ∧ Below w.heap.size w w5) := by
            refine ⟨?_, hoc.grown hox hg5', below_grownI hBr hg5' hnew⟩
            rw [HT.out]
            rw [List.length_append] at hown5
            exact hown5
          clear hg5 hg5' hown5
          exact ⟨⟨i + 1, by go_num, by omega, F5.out.1, F5.out.2.1, F5.out.2.2⟩, by simp [intOf]; omega⟩
        · have hii : ¬ (i : Int) < ln := by omega
          obtain rfl : i = ln := by omega
          have hua := hox.at
          rw [List.take_of_length_le (by rw [HLN.out]; exact Nat.le_refl _)] at hua
          have hwh := which_any hua (by rw [List.length_map]; have := HLN.out; omega) f
          obtain ⟨px, cx, rfl⟩ := hox.at.lenH
          generalize ((L.take i).map (·.1)).length = ul at hwh hua ⊢
          have hfg : ∀ K : List Ck, K.map (·.1) = L.map (·.1) → (∀ k, which (L.map (·.1)) f = some k → K[k]? = L[k]?) → FindIs K f (.tuple #[.int .i64 (xl : Nat), .bool bl, .int .i64 0]) := fun K h1 h2 => by
            rw [hLe] at h1 h2
            rw [← hfl] at hLL
            exact find_good hg hLL h1 h2
          obtain ⟨wh, hwhe⟩ : ∃ wh, which (L.map (·.1)) f = wh := ⟨_, rfl⟩
          have hwb : ∀ k, wh = some k → k ≤ 300 := fun k hk => by
            have := which_lt (hwhe.trans hk)
            rw [List.length_map, HLN.out] at this
            omega
          rw [hwhe] at hwh hfg
          have HL0 : Hid (L.length = i) := HLN
          clear hox hua hLL hfl hLe hg hwhe hnum hcar HLN
          have F3 : Hid (OwnChunks wr w.heap.size (.slice p3 i c3) L ∧ Below w.heap.size w wr) := ⟨hoc, hBr⟩
          clear hoc hBr
          cases wh with
          | none =>
            clear hwb
            unfold whV at hwh
            dsimp only at hwh
            go_wp2_with fail
            refine hwh.mono ?_
            rintro e wz ⟨rfl, hwz⟩
            have hwz' := hwz.symm
            clear hwz hwh
            subst hwz'
            obtain ⟨f31, f32⟩ := F3.out
            go_wp2_with fail
            go_loopw [14] (fun y W => ∃ (j : Nat) (K : List Ck), y = .int .i64 (j : Nat) ∧ j ≤ i ∧ OwnChunks W w.heap.size (.slice p3 i c3) K ∧ K.map (·.1) = L.map (·.1) ∧ (∀ kk : Nat, none = some kk → K[kk]? = L[kk]?) ∧ Below w.heap.size w W) (fun y _ => i - (intOf y).toNat)
            case atStart => exact ⟨0, L, rfl, Nat.zero_le _, f31, rfl, fun _ _ => rfl, f32⟩
            case round =>
              clear f31 f32 F3
              rename World => W
              obtain ⟨j, K, rfl, hj, hoc, hKm, hKk, hBr⟩ := hrel
              have hKl : K.length = i := by
                have := congrArg List.length hKm
                rw [List.length_map, List.length_map, HL0.out] at this
                exact this
              by_cases hjl : j < i
              · have hji : (j : Int) < i := by omega
                obtain ⟨⟨u, s⟩, hu⟩ : ∃ x, K[j]? = some x := ⟨_, List.getElem?_eq_getElem (by rw [hKl]; exact hjl)⟩
                obtain ⟨g, cap, cur, hve, h1, h2, h3, h4, h5, h6⟩ := hoc.row (i := j) (by rw [hKl]; exact hjl)
                rw [hKl] at hve
                injection hve with e1 _ e3
                subst e1 e3
                have hcs : ∃ y, W.cell? ⟨g, j * 2 + 1, none⟩ = some y := by rw [h2.cell, Array.getElem?_eq_getElem (by rw [hKl] at h3; omega)]; exact ⟨_, rfl⟩
                obtain ⟨y0, hy0⟩ := hcs
                have hfz := h2.frozen (j * 2 + 1)
                have F5 : Hid (∃ K2, OwnChunks (W.setCell ⟨g, j * 2 + 1, none⟩ (.string ⟨#[115, 112, 111, 105, 108, 116]⟩)) w.heap.size (.slice (some ⟨g, 0, none⟩) i c3) K2 ∧ K2.map (·.1) = L.map (·.1) ∧ (∀ kk : Nat, none = some kk → K2[kk]? = L[kk]?) ∧ Below w.heap.size w (W.setCell ⟨g, j * 2 + 1, none⟩ (.string ⟨#[115, 112, 111, 105, 108, 116]⟩))) := by
                  have hset := OwnChunks.setD h1 h2 h3 h4 h5 h6 hu ⟨#[115, 112, 111, 105, 108, 116]⟩
                  rw [hKl] at hset
                  refine ⟨_, hset, by rw [set_fst K j u _ s hu]; exact hKm, fun k' hk' => ?_, Only.fresh hBr ((Only.refl g W).set _ _) h1⟩
                  cases hk'
                clear hoc hBr h2 hu
                go_wp2_with fail
                obtain ⟨K2, f1, f2, f3, f4⟩ := F5.out
                exact ⟨⟨j + 1, K2, by go_num, by omega, f1, f2, f3, f4⟩, by simp [intOf]; omega⟩
              · have hji : ¬ (j : Int) < i := by omega
                have hfd := hfind_ok hoc.at (by rw [hKl]; omega) f hf.2 (hfg K hKm hKk)
                clear hKl hKm hKk
                go_wp2_with fail
                refine hfd.mono ?_
                rintro e w9 ⟨rfl, hB9⟩
                clear hfd
                have HF : Hid (Below w.heap.size w w9) := below_new hBr hB9
                clear hBr hB9 hoc
                go_wp2_with fail
                go_ret
                exact ⟨rfl, HF.out⟩
          | some k =>
            have hkb := hwb k rfl
            have hkbi : (k : Int) ≤ 300 := by omega
            clear hwb
            unfold whV at hwh
            dsimp only at hwh
            go_wp2_with fail
            refine hwh.mono ?_
            rintro e wz ⟨rfl, hwz⟩
            have hwz' := hwz.symm
            clear hwz hwh
            subst hwz'
            obtain ⟨f31, f32⟩ := F3.out
            go_wp2_with fail
            go_loopw [14] (fun y W => ∃ (j : Nat) (K : List Ck), y = .int .i64 (j : Nat) ∧ j ≤ i ∧ OwnChunks W w.heap.size (.slice p3 i c3) K ∧ K.map (·.1) = L.map (·.1) ∧ (∀ kk : Nat, some k = some kk → K[kk]? = L[kk]?) ∧ Below w.heap.size w W) (fun y _ => i - (intOf y).toNat)
            case atStart => exact ⟨0, L, rfl, Nat.zero_le _, f31, rfl, fun _ _ => rfl, f32⟩
            case round =>
              clear f31 f32 F3
              rename World => W
              obtain ⟨j, K, rfl, hj, hoc, hKm, hKk, hBr⟩ := hrel
              have hKl : K.length = i := by
                have := congrArg List.length hKm
                rw [List.length_map, List.length_map, HL0.out] at this
                exact this
              by_cases hjl : j < i
              · have hji : (j : Int) < i := by omega
                by_cases hk0 : j = k
                · have hk0i : ((j : Int) == k) = true := by rw [beq_iff_eq]; omega
                  have hk0j : (j : Int) = k := by omega
                  clear hKl
                  go_wp2_with fail
                  exact ⟨⟨j + 1, K, by go_num, by omega, hoc, hKm, hKk, hBr⟩, by simp [intOf]; omega⟩
                · have hk0i : ((j : Int) == k) = false := beq_eq_false_iff_ne.2 (by omega)
                  by_cases hk1 : j = k + 1
                  · have hk1i : ((j : Int) == (k : Int) + 1) = true := by rw [beq_iff_eq]; omega
                    have hk1j : (j : Int) = (k : Int) + 1 := by omega
                    clear hKl
                    go_wp2_with fail
                    exact ⟨⟨j + 1, K, by go_num, by omega, hoc, hKm, hKk, hBr⟩, by simp [intOf]; omega⟩
                  · have hk1i : ((j : Int) == (k : Int) + 1) = false := beq_eq_false_iff_ne.2 (by omega)
                    have hk0n : ((j : Int) != k) = true := by rw [bne, hk0i]; rfl
                    have hk1n : ((j : Int) != (k : Int) + 1) = true := by rw [bne, hk1i]; rfl
                    obtain ⟨⟨u, s⟩, hu⟩ : ∃ x, K[j]? = some x := ⟨_, List.getElem?_eq_getElem (by rw [hKl]; exact hjl)⟩
                    obtain ⟨g, cap, cur, hve, h1, h2, h3, h4, h5, h6⟩ := hoc.row (i := j) (by rw [hKl]; exact hjl)
                    rw [hKl] at hve
                    injection hve with e1 _ e3
                    subst e1 e3
                    have hcs : ∃ y, W.cell? ⟨g, j * 2 + 1, none⟩ = some y := by rw [h2.cell, Array.getElem?_eq_getElem (by rw [hKl] at h3; omega)]; exact ⟨_, rfl⟩
                    obtain ⟨y0, hy0⟩ := hcs
                    have hfz := h2.frozen (j * 2 + 1)
                    have F5 : Hid (∃ K2, OwnChunks (W.setCell ⟨g, j * 2 + 1, none⟩ (.string ⟨#[115, 112, 111, 105, 108, 116]⟩)) w.heap.size (.slice (some ⟨g, 0, none⟩) i c3) K2 ∧ K2.map (·.1) = L.map (·.1) ∧ (∀ kk : Nat, some k = some kk → K2[kk]? = L[kk]?) ∧ Below w.heap.size w (W.setCell ⟨g, j * 2 + 1, none⟩ (.string ⟨#[115, 112, 111, 105, 108, 116]⟩))) := by
                      have hset := OwnChunks.setD h1 h2 h3 h4 h5 h6 hu ⟨#[115, 112, 111, 105, 108, 116]⟩
                      rw [hKl] at hset
                      refine ⟨_, hset, by rw [set_fst K j u _ s hu]; exact hKm, fun k' hk' => ?_, Only.fresh hBr ((Only.refl g W).set _ _) h1⟩
                      have : k' = k := (Option.some.inj hk').symm
                      subst this
                      rw [List.getElem?_set_ne (by omega)]; exact hKk _ rfl
                    clear hoc hBr h2 hu
                    go_wp2_with fail
                    obtain ⟨K2, f1, f2, f3, f4⟩ := F5.out
                    exact ⟨⟨j + 1, K2, by go_num, by omega, f1, f2, f3, f4⟩, by simp [intOf]; omega⟩
              · have hji : ¬ (j : Int) < i := by omega
                have hfd := hfind_ok hoc.at (by rw [hKl]; omega) f hf.2 (hfg K hKm hKk)
                clear hKl hKm hKk
                go_wp2_with fail
                refine hfd.mono ?_
                rintro e w9 ⟨rfl, hB9⟩
                clear hfd
                have HF : Hid (Below w.heap.size w w9) := below_new hBr hB9
                clear hBr hB9 hoc
                go_wp2_with fail
                go_ret
                exact ⟨rfl, HF.out⟩
end Go.Proofs.Ytdfpnpjdiebniaa
