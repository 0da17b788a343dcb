/-
  ShardUppers' walk.
-/
import Derived.Test.YtdfpnpjdiebniaaHUppersP
namespace Go.Proofs.Ytdfpnpjdiebniaa
open Go Go.RowKit

set_option maxRecDepth 100000 in
set_option maxHeartbeats 8000000 in
theorem uppers_walk {w : World} {p : Option Addr} {n c : Nat} {l : List Int} (hx : IntsAt w (.slice p n c) l) (hn : n = l.length) (hnc : n ≤ c) (hc : c ≤ 9223372036854775807) (hr : ∀ x ∈ l, -9223372036854775808 ≤ x ∧ x ≤ 9223372036854775807) :
    Calls Try.prog 7 #[.slice p n c] w fun e w' => e = .returned (.bool true) ∧ Below w.heap.size w w' := by
  have hnot := run_notH
  have hni : (n : Int) ≤ 9223372036854775807 := by omega
  have HNL : Hid (n = l.length) := hn
  clear hn
  go_enter Try.func7, Try.ntmps7
  go_wp2_with fail
  refine (awake6_any _).mono ?_
  rintro e w1 ⟨rfl, hB1⟩
  have hx1 := hx.below hB1
  by_cases h300 : 300 < n
  · have h3i : (300 : Int) < n := by omega
    have hsl := ints_to p (n := n) 300 (by omega : 300 ≤ c)
    have hI := hx1.takeH 300 (by have := HNL.out; omega)
    have hIl : (l.take 300).length ≤ 300 := by rw [List.length_take]; omega
    have hIr : ∀ x ∈ l.take 300, x ≤ 9223372036854775807 := fun x h => (hr x (List.mem_of_mem_take h)).2
    generalize l.take 300 = l' at hI hIl hIr
    clear hx hx1 hr
    as_aux_lemma =>
      have hnw := new_any hI hIr (by omega)
      go_wp2_with fail
      refine hnw.mono ?_
      rintro e w2 ⟨b, rfl, mo, hs, hb, hm, hB2⟩
      clear hnw
      have hcar := Nat.le_trans (ints_card l') hIl
      have hnum := nums_of (ofInts_bound l')
      have hsp := hsplit_any hs.view (by omega)
      have hms := fun W (hW : Below w2.heap.size w2 W) => members_any (hs.below hW).view
      generalize memFrom (ofInts l') 0 = m at hcar hnum hsp hms
      clear hs hI hIr
      go_wp2_with fail
      refine hsp.mono ?_
      rintro e w3 ⟨v3, L, rfl, hL, ho3, hB3⟩
      clear hsp
      obtain ⟨ps, hg, hfl, hLe⟩ := hL.good hnum
      have hlen := len_of hnum hL
      have hBw3 := below_new (below_new hB1 hB2) hB3
      have hbase : w.heap.size ≤ w2.heap.size := by have := hB1.size; have := hB2.size; omega
      have ho4' := ho3.mono hbase
      obtain ⟨p3, c3, rfl⟩ := ho3.at.shape
      obtain ⟨ln, hln⟩ : ∃ ln, L.length = ln := ⟨_, rfl⟩
      have HLN : Hid (L.length = ln) := hln
      have hln3 : ln ≤ 300 := by omega
      have hlni : (ln : Int) ≤ 300 := by omega
      have hrise := fun i j (x y : Ck) => uppers_rise hg (i := i) (j := j) (x := x) (y := y)
      rw [← hLe] at hrise
      have FG : Hid (Good ps ∧ ps.flatten = m ∧ L = chk ps) := ⟨hg, hfl, hLe⟩
      rw [hln] at ho4' ⊢
      clear hln ho3 hlen hL hg hfl hLe
      go_wp2_with fail
      go_loopw [6, 7] (fun x y wr => ∃ i : Nat, y = .int .i64 (i : Nat) ∧ i ≤ ln ∧ OwnI wr w2.heap.size x ((L.take i).map (·.1)) ∧ OwnChunks wr w.heap.size (.slice p3 ln c3) L ∧ Below w.heap.size w wr ∧ Below w2.heap.size w2 wr) (fun _ y _ => ln - (intOf y).toNat)
      case atStart => exact ⟨0, rfl, Nat.zero_le _, OwnI.nil _ _, ho4', hBw3, hB3⟩
      case round =>
        clear ho4' hBw3 hB3
        obtain ⟨i, rfl, hi, hox2, hoc, hBr, hBr2⟩ := hrel
        have hox : OwnI wr w.heap.size _ _ := own_mono hox2 hbase
        by_cases hil : i < ln
        · have hii : (i : Int) < ln := by omega
          obtain ⟨⟨u, s⟩, hu⟩ : ∃ x, L[i]? = some x := ⟨_, List.getElem?_eq_getElem (by rw [HLN.out]; exact hil)⟩
          obtain ⟨g, o, rfl, hnn, d0, d1⟩ := hoc.at.at hu
          clear hnn
          dsimp only at d0 d1
          have HT : Hid ((L.take (i + 1)).map (·.1) = (L.take i).map (·.1) ++ [u]) := by show _ = _; rw [List.take_add_one, hu, List.map_append]; rfl
          have hxl : ((L.take i).map (·.1)).length ≤ 1000000 := by rw [List.length_map, List.length_take]; omega
          obtain ⟨px, cx, rfl⟩ := hox.at.lenH
          have hul : ((L.take i).map (·.1)).length = i := by rw [List.length_map, List.length_take, HLN.out]; omega
          generalize (L.take i).map (·.1) = us at hox hox2 HT hxl hul
          have hoxa := fun z => OwnI.below hox2 (below_new1 wr z)
          have hnew : ∀ k, (Value.slice px us.length cx).ownBlock = some k → w.heap.size ≤ k := fun k hk => (hox.lt k hk).1
          have hnew2 : ∀ k, (Value.slice px us.length cx).ownBlock = some k → w2.heap.size ≤ k := fun k hk => (hox2.lt k hk).1
          have hsz : w2.heap.size ≤ wr.heap.size := hBr2.size
          go_wp2_with (at_builtin; refine wpList_append_one rfl _ _ rfl rfl rfl (hoxa _) ((Holds.new wr 3 #[.int .i64 u]).cell 0) hxl (by simp; omega) ?_; intro v5 w5 hown5 hg5; obtain ⟨p5, c5, rfl⟩ := hown5.at.lenH)
          have hg5' : (wr.alloc (.cells #[.int .i64 u] 3)).grownBy w5 (Value.slice px us.length cx).ownBlock := hg5
          have F5 : Hid (OwnI w5 w2.heap.size (.slice p5 (us.length + 1) c5) ((L.take (i + 1)).map (·.1)) ∧ OwnChunks w5 w.heap.size (.slice (some ⟨g, o, none⟩) ln c3) L ∧ Below w.heap.size w w5 ∧ Below w2.heap.size w2 w5) := by
            refine ⟨?_, hoc.grown hox hg5', below_grownI hBr hg5' hnew, below_grownI hBr2 hg5' hnew2⟩
            rw [HT.out]
            rw [List.length_append] at hown5
            exact hown5
          have hua5 := hown5.at
          have hul5 : (us ++ [u]).length = i + 1 := by rw [List.length_append, hul]; rfl
          have hgi : (us ++ [u])[i]? = some u := by rw [← hul]; simp
          rw [hul5] at hua5
          rw [hul] at F5
          obtain ⟨gx, ogx, rfl, e1⟩ := hua5.get hgi
          clear hg5 hg5' hown5 hox hox2 hoxa hnew hnew2 hoc hBr hBr2
          by_cases hi0 : i = 0
          · subst hi0
            refine wp_region_planD (fun _ => True) [.take 0, .take 1, .take 2, .drop 3, .drop 4, .drop 5, .drop 6, .drop 7, .drop 8, .drop 9, .drop 10, .drop 11, .drop 12, .take 13] mixedP (by kernel_rfl) rfl (by kernel_rfl) (fun _ _ _ d _ h => by cases d <;> exact h) trivial ?_
            refine planD_val (some 38) rfl rfl rfl (.int .i64 0) (fun _ => by go_simp) ?_
            go_frame
            refine planD_val (some 39) rfl rfl rfl (.bool false) (fun _ => by go_simp) ?_
            go_frame
            refine planD_val (some 40) rfl rfl rfl (.bool false) (fun _ => by go_simp) ?_
            go_frame
            refine planD_drop (some 41) rfl rfl rfl ?_
            go_frame
            refine planD_drop (some 42) rfl rfl rfl ?_
            go_frame
            refine planD_drop (some 43) rfl rfl rfl ?_
            go_frame
            refine planD_drop (some 44) rfl rfl rfl ?_
            go_frame
            refine planD_drop (some 45) rfl rfl rfl ?_
            go_frame
            refine planD_drop (some 46) rfl rfl rfl ?_
            go_frame
            refine planD_drop (some 47) rfl rfl rfl ?_
            go_frame
            refine planD_drop (some 48) rfl rfl rfl ?_
            go_frame
            refine planD_drop (some 49) rfl rfl rfl ?_
            go_frame
            refine planD_drop (some 50) rfl rfl rfl ?_
            go_frame
            refine planD_val (some 51) rfl rfl rfl (.bool false) (fun _ => by go_simp) ?_
            go_frame
            refine then_normalH ?_
            go_at_K
            clear e1 hua5
            go_wp2_with fail
            obtain ⟨f1, f2, f3, f4⟩ := F5.out
            exact ⟨⟨1, by rfl, by omega, f1, f2, drew_below f3, drew_below f4⟩, by simp [intOf]; omega⟩
          · obtain ⟨j, hj⟩ : ∃ j, i - 1 = j := ⟨_, rfl⟩
            have hji : (i : Int) - 1 = (j : Int) := by omega
            have hip : 0 < i := by omega
            have hjl : (j : Int) < (i : Int) + 1 := by omega
            have hil2 : (i : Int) < (i : Int) + 1 := by omega
            obtain ⟨⟨u', s'⟩, hu'⟩ : ∃ x, L[j]? = some x := ⟨_, List.getElem?_eq_getElem (by rw [HLN.out]; omega)⟩
            have huu : u' < u := hrise j i _ _ (by omega) hu' hu
            have hgj : (us ++ [u])[j]? = some u' := by
              rw [← HT.out, List.getElem?_map, List.getElem?_take, if_pos (by omega), hu']; rfl
            obtain ⟨gy, ogy, e3, e2⟩ := hua5.get hgj
            injection e3 with e3
            injection e3 with e31 e32
            subst e31 e32
            have hnle : ¬ u ≤ u' := by omega
            have hwj := wrapH j (by omega)
            clear hj
            refine wp_region_plan (fun W => W.cell? ⟨gx, ogx + i, none⟩ = some (.int .i64 u) ∧ W.cell? ⟨gx, ogx + j, none⟩ = some (.int .i64 u')) [.take 0, .take 1, .take 2, .take 3, .take 4, .take 5, .take 6, .take 7, .take 8, .take 9, .take 10, .take 11, .take 12, .take 13] mixedP (by kernel_rfl) rfl (by kernel_rfl) (fun _ _ _ d _ h => by cases d <;> exact h) ⟨e1, e2⟩ ?_
            refine plan_valG (some 38) rfl rfl rfl (.int .i64 (i : Nat)) (fun _ => by go_simp) ?_
            go_frame
            refine plan_valG (some 39) rfl rfl rfl (.bool true) (fun _ => by go_simp) ?_
            go_frame
            refine plan_valG (some 40) rfl rfl rfl (.bool true) (fun _ => by go_simp) ?_
            go_frame
            refine plan_valG (some 41) rfl rfl rfl (.slice (some ⟨gx, ogx, none⟩) (i + 1) c5) (fun _ => by go_simp) ?_
            go_frame
            refine plan_valG (some 42) rfl rfl rfl (.int .i64 (i : Nat)) (fun _ => by go_simp) ?_
            go_frame
            refine plan_valG (some 43) rfl rfl rfl (.pointer (some ⟨gx, ogx + i, none⟩)) (fun _ => by go_simp) ?_
            go_frame
            refine plan_ldG (some 44) rfl rfl rfl _ _ rfl rfl (v := .int .i64 u) (fun W hW => ldIntH hW.1) ?_
            go_frame
            refine plan_valG (some 45) rfl rfl rfl (.slice (some ⟨gx, ogx, none⟩) (i + 1) c5) (fun _ => by go_simp) ?_
            go_frame
            refine plan_valG (some 46) rfl rfl rfl (.int .i64 (i : Nat)) (fun _ => by go_simp) ?_
            go_frame
            refine plan_valG (some 47) rfl rfl rfl (.int .i64 (j : Nat)) (fun _ => by go_simp) ?_
            go_frame
            refine plan_valG (some 48) rfl rfl rfl (.pointer (some ⟨gx, ogx + j, none⟩)) (fun _ => by go_simp) ?_
            go_frame
            refine plan_ldG (some 49) rfl rfl rfl _ _ rfl rfl (v := .int .i64 u') (fun W hW => ldIntH hW.2) ?_
            go_frame
            refine plan_valG (some 50) rfl rfl rfl (.bool false) (fun _ => by go_simp) ?_
            go_frame
            refine plan_valG (some 51) rfl rfl rfl (.bool false) (fun _ => by go_simp) ?_
            go_frame
            refine then_normalH ?_
            go_at_K
            clear e1 e2 hua5
            go_wp2_with fail
            obtain ⟨f1, f2, f3, f4⟩ := F5.out
            exact ⟨⟨i + 1, by go_num, by omega, f1, f2, drew_below f3, drew_below f4⟩, by simp [intOf]; omega⟩
        · have hii : ¬ (i : Int) < ln := by omega
          obtain rfl : i = ln := by omega
          have hua := hox.at
          rw [List.take_of_length_le (by rw [HLN.out]; exact Nat.le_refl _)] at hua
          obtain ⟨px, cx, rfl⟩ := hua.lenH
          have hul : (L.map (·.1)).length = i := by rw [List.length_map, HLN.out]
          rw [hul] at hua ⊢
          have hms3 := hms wr hBr2
          obtain ⟨hg, hfl, hLe⟩ := FG.out
          have hwm : ∀ x ∈ m, ∃ (k : Nat) (u : Int) (q : List Nat), which (L.map (·.1)) (x : Int) = some k ∧ L[k]? = some (u, dataOf q) ∧ Nums q ∧ x ∈ q := fun x hx => by
            rw [hLe]
            rw [← hfl] at hx
            exact which_mem hg hx
          have hlast : ∀ j, j + 1 = i → ∀ x, L[j]? = some x → x.1 = 2147483647 := fun j hj x hx => by
            rw [hLe] at hx
            exact upper_last (by rw [← chk_len, ← hLe, HLN.out]; exact hj) hx
          have F6 : Hid (OwnChunks wr w.heap.size (.slice p3 i c3) L ∧ Below w.heap.size w wr ∧ IntsAt wr (.slice px i cx) (L.map (·.1))) := ⟨hoc, hBr, hua⟩
          have HUL : Hid ((L.map (·.1)).length = i) := hul
          clear hox hox2 hoc hBr hBr2 hms hg hfl hLe FG hrise hul
          by_cases hz : i = 0
          · have hzi : ¬ 0 < i := by omega
            clear hua hlast
            subst hz
            go_wp2_with fail
            refine hms3.mono ?_
            rintro e w6 ⟨v6, rfl, ho6, hB6⟩
            clear hms3
            obtain ⟨p6, c6, hv6, hi6⟩ := ho6.intsAt
            subst hv6
            clear ho6
            obtain ⟨ml, hml⟩ : ∃ ml, m.length = ml := ⟨_, rfl⟩
            have HML : Hid (m.length = ml) := hml
            rw [hml] at hi6 hcar ⊢
            clear hml
            have hmli : (ml : Int) ≤ 300 := by omega
            go_wp2_with fail
            go_loopw [9] (fun y W => ∃ j : Nat, y = .int .i64 (j : Nat) ∧ j ≤ ml ∧ Below w6.heap.size w6 W) (fun y _ => ml - (intOf y).toNat)
            case atStart => exact ⟨0, rfl, Nat.zero_le _, Below.refl _ _⟩
            case round =>
              rename World => W
              obtain ⟨t, rfl, ht, hBW⟩ := hrel
              obtain ⟨fo, fB, fI⟩ := F6.out
              have hoW := (fo.at.below hB6).below hBW
              have hIW := (fI.below hB6).below hBW
              have hmW := hi6.below hBW
              have hBwW := below_new (below_new fB hB6) hBW
              clear fo fB fI
              by_cases htl : t < ml
              · have hti : (t : Int) < ml := by omega
                obtain ⟨x, hx⟩ : ∃ x, m[t]? = some x := ⟨_, List.getElem?_eq_getElem (by rw [HML.out]; exact htl)⟩
                have hxb := hnum.bound x (List.mem_of_getElem? hx)
                have hxi : (x : Int) < 2147483648 := by omega
                obtain ⟨k, u, q, h1, h2, h3, h4⟩ := hwm x (List.mem_of_getElem? hx)
                obtain ⟨gm, om, rfl, em⟩ := hmW.get (i := t) (x := (x : Int)) (by rw [List.getElem?_map, hx]; rfl)
                have hwh := which_any hIW (by rw [HUL.out]; omega) (x : Int)
                rw [h1] at hwh
                unfold whV at hwh
                dsimp only at hwh
                have hkl : k < 0 := by have := (List.getElem?_eq_some_iff.1 h2).1; rw [HLN.out] at this; exact this
                omega
              · have hti : ¬ (t : Int) < ml := by omega
                clear hoW hIW hmW
                go_wp2_with fail
                go_ret
                exact ⟨rfl, hBwW⟩
          · obtain ⟨j, hj⟩ : ∃ j, i - 1 = j := ⟨_, rfl⟩
            have hji : (i : Int) - 1 = (j : Int) := by omega
            have hip : 0 < i := by omega
            have hjl : (j : Int) < i := by omega
            obtain ⟨x, hx⟩ : ∃ x, L[j]? = some x := ⟨_, List.getElem?_eq_getElem (by rw [HLN.out]; omega)⟩
            obtain ⟨gx, ogx, rfl, e1⟩ := hua.get (i := j) (x := 2147483647) (by rw [List.getElem?_map, hx, ← hlast j (by omega) x hx]; rfl)
            clear hua hlast hx hz hj
            go_wp2_with fail
            refine hms3.mono ?_
            rintro e w6 ⟨v6, rfl, ho6, hB6⟩
            clear hms3
            obtain ⟨p6, c6, hv6, hi6⟩ := ho6.intsAt
            subst hv6
            clear ho6
            obtain ⟨ml, hml⟩ : ∃ ml, m.length = ml := ⟨_, rfl⟩
            have HML : Hid (m.length = ml) := hml
            rw [hml] at hi6 hcar ⊢
            clear hml
            have hmli : (ml : Int) ≤ 300 := by omega
            go_wp2_with fail
            go_loopw [9] (fun y W => ∃ j : Nat, y = .int .i64 (j : Nat) ∧ j ≤ ml ∧ Below w6.heap.size w6 W) (fun y _ => ml - (intOf y).toNat)
            case atStart => exact ⟨0, rfl, Nat.zero_le _, Below.refl _ _⟩
            case round =>
              rename World => W
              obtain ⟨t, rfl, ht, hBW⟩ := hrel
              obtain ⟨fo, fB, fI⟩ := F6.out
              have hoW := (fo.at.below hB6).below hBW
              have hIW := (fI.below hB6).below hBW
              have hmW := hi6.below hBW
              have hBwW := below_new (below_new fB hB6) hBW
              clear fo fB fI
              by_cases htl : t < ml
              · have hti : (t : Int) < ml := by omega
                obtain ⟨x, hx⟩ : ∃ x, m[t]? = some x := ⟨_, List.getElem?_eq_getElem (by rw [HML.out]; exact htl)⟩
                have hxb := hnum.bound x (List.mem_of_getElem? hx)
                have hxi : (x : Int) < 2147483648 := by omega
                obtain ⟨k, u, q, h1, h2, h3, h4⟩ := hwm x (List.mem_of_getElem? hx)
                obtain ⟨gm, om, rfl, em⟩ := hmW.get (i := t) (x := (x : Int)) (by rw [List.getElem?_map, hx]; rfl)
                have hwh := which_any hIW (by rw [HUL.out]; omega) (x : Int)
                rw [h1] at hwh
                unfold whV at hwh
                dsimp only at hwh
                have hkl : k < i := by have := (List.getElem?_eq_some_iff.1 h2).1; rw [HLN.out] at this; exact this
                have hki : (k : Int) < i := by omega
                obtain ⟨gc, oc, hpe, hnn, d0, d1⟩ := hoW.at h2
                subst hpe
                clear hnn
                dsimp only at d0 d1
                have hrd : ∀ W, Calls Try.prog 28 #[.string (dataOf q)] W fun e w' => ∃ b, e = .returned (.tuple #[.pointer (some ⟨b, 0, none⟩), .int .i64 0]) ∧ ∃ mo, SetAt w' b mo (ofN q) ∧ W.heap.size ≤ b ∧ (∀ m, mo = some m → W.heap.size ≤ m) ∧ Below W.heap.size W w' := fun W => read_back (ofN_bound h3.bound) W
                generalize dataOf q = dt at d1 hrd
                have hhas : hasI (ofN q) (x : Int) = true := by rw [hasI_pos]; exact decide_eq_true h4
                clear hwm hIW hoW hmW h1 h2 hx
                go_wp2_with fail
                refine hwh.mono ?_
                rintro e wz ⟨rfl, hwz⟩
                have hwz' := hwz.symm
                clear hwz hwh
                subst hwz'
                go_wp2_with fail
                refine (hrd _).mono ?_
                rintro e w7 ⟨b7, rfl, mo7, hs7, hb7, hm7, hB7⟩
                clear hrd
                have hhs := has5_any hs7.view (x : Int) (by omega)
                rw [hhas] at hhs
                have em7 : w7.cell? ⟨gm, om + t, none⟩ = some (.int .i64 (x : Int)) := (hB7.cell (p := ⟨gm, om + t, none⟩) (World.block_lt_of_cell? _ _ em)).trans em
                clear hhas
                go_wp2_with fail
                refine hhs.mono ?_
                rintro e w8 ⟨rfl, hB8⟩
                clear hhs
                have HB8 : Hid (Below w6.heap.size w6 w8) := below_new (below_new hBW hB7) hB8
                clear hB8 hB7 hs7 hBW hBwW em em7 d0 d1
                go_wp2_with fail
                exact ⟨⟨t + 1, by go_num, by omega, HB8.out⟩, by simp [intOf]; omega⟩
              · have hti : ¬ (t : Int) < ml := by omega
                clear hoW hIW hmW
                go_wp2_with fail
                go_ret
                exact ⟨rfl, hBwW⟩
  · have h3i : ¬ (300 : Int) < n := by omega
    have hI := hx1
    have hIl : l.length ≤ 300 := by have := HNL.out; omega
    have hIr : ∀ x ∈ l, x ≤ 9223372036854775807 := fun x h => (hr x h).2
    generalize l = l' at hI hIl hIr
    clear hx hx1 hr
    as_aux_lemma =>
      have hnw := new_any hI hIr (by omega)
      go_wp2_with fail
      refine hnw.mono ?_
      rintro e w2 ⟨b, rfl, mo, hs, hb, hm, hB2⟩
      clear hnw
      have hcar := Nat.le_trans (ints_card l') hIl
      have hnum := nums_of (ofInts_bound l')
      have hsp := hsplit_any hs.view (by omega)
      have hms := fun W (hW : Below w2.heap.size w2 W) => members_any (hs.below hW).view
      generalize memFrom (ofInts l') 0 = m at hcar hnum hsp hms
      clear hs hI hIr
      go_wp2_with fail
      refine hsp.mono ?_
      rintro e w3 ⟨v3, L, rfl, hL, ho3, hB3⟩
      clear hsp
      obtain ⟨ps, hg, hfl, hLe⟩ := hL.good hnum
      have hlen := len_of hnum hL
      have hBw3 := below_new (below_new hB1 hB2) hB3
      have hbase : w.heap.size ≤ w2.heap.size := by have := hB1.size; have := hB2.size; omega
      have ho4' := ho3.mono hbase
      obtain ⟨p3, c3, rfl⟩ := ho3.at.shape
      obtain ⟨ln, hln⟩ : ∃ ln, L.length = ln := ⟨_, rfl⟩
      have HLN : Hid (L.length = ln) := hln
      have hln3 : ln ≤ 300 := by omega
      have hlni : (ln : Int) ≤ 300 := by omega
      have hrise := fun i j (x y : Ck) => uppers_rise hg (i := i) (j := j) (x := x) (y := y)
      rw [← hLe] at hrise
      have FG : Hid (Good ps ∧ ps.flatten = m ∧ L = chk ps) := ⟨hg, hfl, hLe⟩
      rw [hln] at ho4' ⊢
      clear hln ho3 hlen hL hg hfl hLe
      go_wp2_with fail
      go_loopw [6, 7] (fun x y wr => ∃ i : Nat, y = .int .i64 (i : Nat) ∧ i ≤ ln ∧ OwnI wr w2.heap.size x ((L.take i).map (·.1)) ∧ OwnChunks wr w.heap.size (.slice p3 ln c3) L ∧ Below w.heap.size w wr ∧ Below w2.heap.size w2 wr) (fun _ y _ => ln - (intOf y).toNat)
      case atStart => exact ⟨0, rfl, Nat.zero_le _, OwnI.nil _ _, ho4', hBw3, hB3⟩
      case round =>
        clear ho4' hBw3 hB3
        obtain ⟨i, rfl, hi, hox2, hoc, hBr, hBr2⟩ := hrel
        have hox : OwnI wr w.heap.size _ _ := own_mono hox2 hbase
        by_cases hil : i < ln
        · have hii : (i : Int) < ln := by omega
          obtain ⟨⟨u, s⟩, hu⟩ : ∃ x, L[i]? = some x := ⟨_, List.getElem?_eq_getElem (by rw [HLN.out]; exact hil)⟩
          obtain ⟨g, o, rfl, hnn, d0, d1⟩ := hoc.at.at hu
          clear hnn
          dsimp only at d0 d1
          have HT : Hid ((L.take (i + 1)).map (·.1) = (L.take i).map (·.1) ++ [u]) := by show _ = _; rw [List.take_add_one, hu, List.map_append]; rfl
          have hxl : ((L.take i).map (·.1)).length ≤ 1000000 := by rw [List.length_map, List.length_take]; omega
          obtain ⟨px, cx, rfl⟩ := hox.at.lenH
          have hul : ((L.take i).map (·.1)).length = i := by rw [List.length_map, List.length_take, HLN.out]; omega
          generalize (L.take i).map (·.1) = us at hox hox2 HT hxl hul
          have hoxa := fun z => OwnI.below hox2 (below_new1 wr z)
          have hnew : ∀ k, (Value.slice px us.length cx).ownBlock = some k → w.heap.size ≤ k := fun k hk => (hox.lt k hk).1
          have hnew2 : ∀ k, (Value.slice px us.length cx).ownBlock = some k → w2.heap.size ≤ k := fun k hk => (hox2.lt k hk).1
          have hsz : w2.heap.size ≤ wr.heap.size := hBr2.size
          go_wp2_with (at_builtin; refine wpList_append_one rfl _ _ rfl rfl rfl (hoxa _) ((Holds.new wr 3 #[.int .i64 u]).cell 0) hxl (by simp; omega) ?_; intro v5 w5 hown5 hg5; obtain ⟨p5, c5, rfl⟩ := hown5.at.lenH)
          have hg5' : (wr.alloc (.cells #[.int .i64 u] 3)).grownBy w5 (Value.slice px us.length cx).ownBlock := hg5
          have F5 : Hid (OwnI w5 w2.heap.size (.slice p5 (us.length + 1) c5) ((L.take (i + 1)).map (·.1)) ∧ OwnChunks w5 w.heap.size (.slice (some ⟨g, o, none⟩) ln c3) L ∧ Below w.heap.size w w5 ∧ Below w2.heap.size w2 w5) := by
            refine ⟨?_, hoc.grown hox hg5', below_grownI hBr hg5' hnew, below_grownI hBr2 hg5' hnew2⟩
            rw [HT.out]
            rw [List.length_append] at hown5
            exact hown5
          have hua5 := hown5.at
          have hul5 : (us ++ [u]).length = i + 1 := by rw [List.length_append, hul]; rfl
          have hgi : (us ++ [u])[i]? = some u := by rw [← hul]; simp
          rw [hul5] at hua5
          rw [hul] at F5
          obtain ⟨gx, ogx, rfl, e1⟩ := hua5.get hgi
          clear hg5 hg5' hown5 hox hox2 hoxa hnew hnew2 hoc hBr hBr2
          by_cases hi0 : i = 0
          · subst hi0
            refine wp_region_planD (fun _ => True) [.take 0, .take 1, .take 2, .drop 3, .drop 4, .drop 5, .drop 6, .drop 7, .drop 8, .drop 9, .drop 10, .drop 11, .drop 12, .take 13] mixedP (by kernel_rfl) rfl (by kernel_rfl) (fun _ _ _ d _ h => by cases d <;> exact h) trivial ?_
            refine planD_val (some 38) rfl rfl rfl (.int .i64 0) (fun _ => by go_simp) ?_
            go_frame
            refine planD_val (some 39) rfl rfl rfl (.bool false) (fun _ => by go_simp) ?_
            go_frame
            refine planD_val (some 40) rfl rfl rfl (.bool false) (fun _ => by go_simp) ?_
            go_frame
            refine planD_drop (some 41) rfl rfl rfl ?_
            go_frame
            refine planD_drop (some 42) rfl rfl rfl ?_
            go_frame
            refine planD_drop (some 43) rfl rfl rfl ?_
            go_frame
            refine planD_drop (some 44) rfl rfl rfl ?_
            go_frame
            refine planD_drop (some 45) rfl rfl rfl ?_
            go_frame
            refine planD_drop (some 46) rfl rfl rfl ?_
            go_frame
            refine planD_drop (some 47) rfl rfl rfl ?_
            go_frame
            refine planD_drop (some 48) rfl rfl rfl ?_
            go_frame
            refine planD_drop (some 49) rfl rfl rfl ?_
            go_frame
            refine planD_drop (some 50) rfl rfl rfl ?_
            go_frame
            refine planD_val (some 51) rfl rfl rfl (.bool false) (fun _ => by go_simp) ?_
            go_frame
            refine then_normalH ?_
            go_at_K
            clear e1 hua5
            go_wp2_with fail
            obtain ⟨f1, f2, f3, f4⟩ := F5.out
            exact ⟨⟨1, by rfl, by omega, f1, f2, drew_below f3, drew_below f4⟩, by simp [intOf]; omega⟩
          · obtain ⟨j, hj⟩ : ∃ j, i - 1 = j := ⟨_, rfl⟩
            have hji : (i : Int) - 1 = (j : Int) := by omega
            have hip : 0 < i := by omega
            have hjl : (j : Int) < (i : Int) + 1 := by omega
            have hil2 : (i : Int) < (i : Int) + 1 := by omega
            obtain ⟨⟨u', s'⟩, hu'⟩ : ∃ x, L[j]? = some x := ⟨_, List.getElem?_eq_getElem (by rw [HLN.out]; omega)⟩
            have huu : u' < u := hrise j i _ _ (by omega) hu' hu
            have hgj : (us ++ [u])[j]? = some u' := by
              rw [← HT.out, List.getElem?_map, List.getElem?_take, if_pos (by omega), hu']; rfl
            obtain ⟨gy, ogy, e3, e2⟩ := hua5.get hgj
            injection e3 with e3
            injection e3 with e31 e32
            subst e31 e32
            have hnle : ¬ u ≤ u' := by omega
            have hwj := wrapH j (by omega)
            clear hj
            refine wp_region_plan (fun W => W.cell? ⟨gx, ogx + i, none⟩ = some (.int .i64 u) ∧ W.cell? ⟨gx, ogx + j, none⟩ = some (.int .i64 u')) [.take 0, .take 1, .take 2, .take 3, .take 4, .take 5, .take 6, .take 7, .take 8, .take 9, .take 10, .take 11, .take 12, .take 13] mixedP (by kernel_rfl) rfl (by kernel_rfl) (fun _ _ _ d _ h => by cases d <;> exact h) ⟨e1, e2⟩ ?_
            refine plan_valG (some 38) rfl rfl rfl (.int .i64 (i : Nat)) (fun _ => by go_simp) ?_
            go_frame
            refine plan_valG (some 39) rfl rfl rfl (.bool true) (fun _ => by go_simp) ?_
            go_frame
            refine plan_valG (some 40) rfl rfl rfl (.bool true) (fun _ => by go_simp) ?_
            go_frame
            refine plan_valG (some 41) rfl rfl rfl (.slice (some ⟨gx, ogx, none⟩) (i + 1) c5) (fun _ => by go_simp) ?_
            go_frame
            refine plan_valG (some 42) rfl rfl rfl (.int .i64 (i : Nat)) (fun _ => by go_simp) ?_
            go_frame
            refine plan_valG (some 43) rfl rfl rfl (.pointer (some ⟨gx, ogx + i, none⟩)) (fun _ => by go_simp) ?_
            go_frame
            refine plan_ldG (some 44) rfl rfl rfl _ _ rfl rfl (v := .int .i64 u) (fun W hW => ldIntH hW.1) ?_
            go_frame
            refine plan_valG (some 45) rfl rfl rfl (.slice (some ⟨gx, ogx, none⟩) (i + 1) c5) (fun _ => by go_simp) ?_
            go_frame
            refine plan_valG (some 46) rfl rfl rfl (.int .i64 (i : Nat)) (fun _ => by go_simp) ?_
            go_frame
            refine plan_valG (some 47) rfl rfl rfl (.int .i64 (j : Nat)) (fun _ => by go_simp) ?_
            go_frame
            refine plan_valG (some 48) rfl rfl rfl (.pointer (some ⟨gx, ogx + j, none⟩)) (fun _ => by go_simp) ?_
            go_frame
            refine plan_ldG (some 49) rfl rfl rfl _ _ rfl rfl (v := .int .i64 u') (fun W hW => ldIntH hW.2) ?_
            go_frame
            refine plan_valG (some 50) rfl rfl rfl (.bool false) (fun _ => by go_simp) ?_
            go_frame
            refine plan_valG (some 51) rfl rfl rfl (.bool false) (fun _ => by go_simp) ?_
            go_frame
            refine then_normalH ?_
            go_at_K
            clear e1 e2 hua5
            go_wp2_with fail
            obtain ⟨f1, f2, f3, f4⟩ := F5.out
            exact ⟨⟨i + 1, by go_num, by omega, f1, f2, drew_below f3, drew_below f4⟩, by simp [intOf]; omega⟩
        · have hii : ¬ (i : Int) < ln := by omega
          obtain rfl : i = ln := by omega
          have hua := hox.at
          rw [List.take_of_length_le (by rw [HLN.out]; exact Nat.le_refl _)] at hua
          obtain ⟨px, cx, rfl⟩ := hua.lenH
          have hul : (L.map (·.1)).length = i := by rw [List.length_map, HLN.out]
          rw [hul] at hua ⊢
          have hms3 := hms wr hBr2
          obtain ⟨hg, hfl, hLe⟩ := FG.out
          have hwm : ∀ x ∈ m, ∃ (k : Nat) (u : Int) (q : List Nat), which (L.map (·.1)) (x : Int) = some k ∧ L[k]? = some (u, dataOf q) ∧ Nums q ∧ x ∈ q := fun x hx => by
            rw [hLe]
            rw [← hfl] at hx
            exact which_mem hg hx
          have hlast : ∀ j, j + 1 = i → ∀ x, L[j]? = some x → x.1 = 2147483647 := fun j hj x hx => by
            rw [hLe] at hx
            exact upper_last (by rw [← chk_len, ← hLe, HLN.out]; exact hj) hx
          have F6 : Hid (OwnChunks wr w.heap.size (.slice p3 i c3) L ∧ Below w.heap.size w wr ∧ IntsAt wr (.slice px i cx) (L.map (·.1))) := ⟨hoc, hBr, hua⟩
          have HUL : Hid ((L.map (·.1)).length = i) := hul
          clear hox hox2 hoc hBr hBr2 hms hg hfl hLe FG hrise hul
          by_cases hz : i = 0
          · have hzi : ¬ 0 < i := by omega
            clear hua hlast
            subst hz
            go_wp2_with fail
            refine hms3.mono ?_
            rintro e w6 ⟨v6, rfl, ho6, hB6⟩
            clear hms3
            obtain ⟨p6, c6, hv6, hi6⟩ := ho6.intsAt
            subst hv6
            clear ho6
            obtain ⟨ml, hml⟩ : ∃ ml, m.length = ml := ⟨_, rfl⟩
            have HML : Hid (m.length = ml) := hml
            rw [hml] at hi6 hcar ⊢
            clear hml
            have hmli : (ml : Int) ≤ 300 := by omega
            go_wp2_with fail
            go_loopw [9] (fun y W => ∃ j : Nat, y = .int .i64 (j : Nat) ∧ j ≤ ml ∧ Below w6.heap.size w6 W) (fun y _ => ml - (intOf y).toNat)
            case atStart => exact ⟨0, rfl, Nat.zero_le _, Below.refl _ _⟩
            case round =>
              rename World => W
              obtain ⟨t, rfl, ht, hBW⟩ := hrel
              obtain ⟨fo, fB, fI⟩ := F6.out
              have hoW := (fo.at.below hB6).below hBW
              have hIW := (fI.below hB6).below hBW
              have hmW := hi6.below hBW
              have hBwW := below_new (below_new fB hB6) hBW
              clear fo fB fI
              by_cases htl : t < ml
              · have hti : (t : Int) < ml := by omega
                obtain ⟨x, hx⟩ : ∃ x, m[t]? = some x := ⟨_, List.getElem?_eq_getElem (by rw [HML.out]; exact htl)⟩
                have hxb := hnum.bound x (List.mem_of_getElem? hx)
                have hxi : (x : Int) < 2147483648 := by omega
                obtain ⟨k, u, q, h1, h2, h3, h4⟩ := hwm x (List.mem_of_getElem? hx)
                obtain ⟨gm, om, rfl, em⟩ := hmW.get (i := t) (x := (x : Int)) (by rw [List.getElem?_map, hx]; rfl)
                have hwh := which_any hIW (by rw [HUL.out]; omega) (x : Int)
                rw [h1] at hwh
                unfold whV at hwh
                dsimp only at hwh
                have hkl : k < 0 := by have := (List.getElem?_eq_some_iff.1 h2).1; rw [HLN.out] at this; exact this
                omega
              · have hti : ¬ (t : Int) < ml := by omega
                clear hoW hIW hmW
                go_wp2_with fail
                go_ret
                exact ⟨rfl, hBwW⟩
          · obtain ⟨j, hj⟩ : ∃ j, i - 1 = j := ⟨_, rfl⟩
            have hji : (i : Int) - 1 = (j : Int) := by omega
            have hip : 0 < i := by omega
            have hjl : (j : Int) < i := by omega
            obtain ⟨x, hx⟩ : ∃ x, L[j]? = some x := ⟨_, List.getElem?_eq_getElem (by rw [HLN.out]; omega)⟩
            obtain ⟨gx, ogx, rfl, e1⟩ := hua.get (i := j) (x := 2147483647) (by rw [List.getElem?_map, hx, ← hlast j (by omega) x hx]; rfl)
            clear hua hlast hx hz hj
            go_wp2_with fail
            refine hms3.mono ?_
            rintro e w6 ⟨v6, rfl, ho6, hB6⟩
            clear hms3
            obtain ⟨p6, c6, hv6, hi6⟩ := ho6.intsAt
            subst hv6
            clear ho6
            obtain ⟨ml, hml⟩ : ∃ ml, m.length = ml := ⟨_, rfl⟩
            have HML : Hid (m.length = ml) := hml
            rw [hml] at hi6 hcar ⊢
            clear hml
            have hmli : (ml : Int) ≤ 300 := by omega
            go_wp2_with fail
            go_loopw [9] (fun y W => ∃ j : Nat, y = .int .i64 (j : Nat) ∧ j ≤ ml ∧ Below w6.heap.size w6 W) (fun y _ => ml - (intOf y).toNat)
            case atStart => exact ⟨0, rfl, Nat.zero_le _, Below.refl _ _⟩
            case round =>
              rename World => W
              obtain ⟨t, rfl, ht, hBW⟩ := hrel
              obtain ⟨fo, fB, fI⟩ := F6.out
              have hoW := (fo.at.below hB6).below hBW
              have hIW := (fI.below hB6).below hBW
              have hmW := hi6.below hBW
              have hBwW := below_new (below_new fB hB6) hBW
              clear fo fB fI
              by_cases htl : t < ml
              · have hti : (t : Int) < ml := by omega
                obtain ⟨x, hx⟩ : ∃ x, m[t]? = some x := ⟨_, List.getElem?_eq_getElem (by rw [HML.out]; exact htl)⟩
                have hxb := hnum.bound x (List.mem_of_getElem? hx)
                have hxi : (x : Int) < 2147483648 := by omega
                obtain ⟨k, u, q, h1, h2, h3, h4⟩ := hwm x (List.mem_of_getElem? hx)
                obtain ⟨gm, om, rfl, em⟩ := hmW.get (i := t) (x := (x : Int)) (by rw [List.getElem?_map, hx]; rfl)
                have hwh := which_any hIW (by rw [HUL.out]; omega) (x : Int)
                rw [h1] at hwh
                unfold whV at hwh
                dsimp only at hwh
                have hkl : k < i := by have := (List.getElem?_eq_some_iff.1 h2).1; rw [HLN.out] at this; exact this
                have hki : (k : Int) < i := by omega
                obtain ⟨gc, oc, hpe, hnn, d0, d1⟩ := hoW.at h2
                subst hpe
                clear hnn
                dsimp only at d0 d1
                have hrd : ∀ W, Calls Try.prog 28 #[.string (dataOf q)] W fun e w' => ∃ b, e = .returned (.tuple #[.pointer (some ⟨b, 0, none⟩), .int .i64 0]) ∧ ∃ mo, SetAt w' b mo (ofN q) ∧ W.heap.size ≤ b ∧ (∀ m, mo = some m → W.heap.size ≤ m) ∧ Below W.heap.size W w' := fun W => read_back (ofN_bound h3.bound) W
                generalize dataOf q = dt at d1 hrd
                have hhas : hasI (ofN q) (x : Int) = true := by rw [hasI_pos]; exact decide_eq_true h4
                clear hwm hIW hoW hmW h1 h2 hx
                go_wp2_with fail
                refine hwh.mono ?_
                rintro e wz ⟨rfl, hwz⟩
                have hwz' := hwz.symm
                clear hwz hwh
                subst hwz'
                go_wp2_with fail
                refine (hrd _).mono ?_
                rintro e w7 ⟨b7, rfl, mo7, hs7, hb7, hm7, hB7⟩
                clear hrd
                have hhs := has5_any hs7.view (x : Int) (by omega)
                rw [hhas] at hhs
                have em7 : w7.cell? ⟨gm, om + t, none⟩ = some (.int .i64 (x : Int)) := (hB7.cell (p := ⟨gm, om + t, none⟩) (World.block_lt_of_cell? _ _ em)).trans em
                clear hhas
                go_wp2_with fail
                refine hhs.mono ?_
                rintro e w8 ⟨rfl, hB8⟩
                clear hhs
                have HB8 : Hid (Below w6.heap.size w6 w8) := below_new (below_new hBW hB7) hB8
                clear hB8 hB7 hs7 hBW hBwW em em7 d0 d1
                go_wp2_with fail
                exact ⟨⟨t + 1, by go_num, by omega, HB8.out⟩, by simp [intOf]; omega⟩
              · have hti : ¬ (t : Int) < ml := by omega
                clear hoW hIW hmW
                go_wp2_with fail
                go_ret
                exact ⟨rfl, hBwW⟩
end Go.Proofs.Ytdfpnpjdiebniaa
