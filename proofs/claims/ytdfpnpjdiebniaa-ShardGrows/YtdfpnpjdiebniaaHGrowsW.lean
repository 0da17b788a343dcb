/-
  ShardGrows' walk.
-/
import Derived.Test.YtdfpnpjdiebniaaHGrowsP
namespace Go.Proofs.Ytdfpnpjdiebniaa
open Go Go.RowKit

/-- On the way: the members, the set, the chunks. -/
structure Grw (w0 w : World) (b : Nat) (m : List Nat) (mo : Option Nat) (v : Value) (L : List Ck) (nv k : Nat) : Prop where
  nums : Nums m
  len : m.length ≤ k
  top : ∀ x ∈ m, x ≤ nv
  most : nv ≤ 100000 * k
  set : SetAt w b mo (ofN m)
  map : ∀ j, mo = some j → w0.heap.size ≤ j
  own : OwnChunks w w0.heap.size v L
  split : SplitOf m L
  all : Below w0.heap.size w0 w
set_option maxRecDepth 100000 in
set_option maxHeartbeats 8000000 in
theorem grows_walk {w : World} {p : Option Addr} {n c : Nat} {l : List Int} (hx : IntsAt w (.slice p n c) l) (hn : n = l.length) (hnc : n ≤ c) (hc : c ≤ 9223372036854775807) (f : Int) (hf : -9223372036854775808 ≤ f ∧ f ≤ 9223372036854775807) (q : Int) (hq : -9223372036854775808 ≤ q ∧ q ≤ 9223372036854775807) :
    Calls Try.prog 4 #[.slice p n c, .int .i64 f, .int .i64 q] w fun e w' => e = .returned (.bool true) ∧ Below w.heap.size w w' := by
  have hnot := run_notH
  have hni : (n : Int) ≤ 9223372036854775807 := by omega
  have HNL : Hid (n = l.length) := hn
  clear hn
  go_enter Try.func4, Try.ntmps4
  go_wp2_with fail
  refine (awake6_any _).mono ?_
  rintro e w1 ⟨rfl, hB1⟩
  go_wp2_with fail
  refine (new_any (w := w1) (v := .slice none 0 0) (l := []) (.inl ⟨rfl, none, 0, rfl⟩) (by simp) (by simp)).mono ?_
  rintro e w2 ⟨b, rfl, mo, hs, hb, hm, hB2⟩
  have hnn : Nums ([] : List Nat) := ⟨List.Pairwise.nil, fun x hx => by simp at hx⟩
  have e0 : ofInts [] = ofN [] := ofInts_ofN (p := []) hnn
  rw [e0] at hs
  have hs1 := hB1.size
  have hbw : w.heap.size ≤ b := by omega
  have F0 : Hid (Grw w w2 b [] mo (.slice none 0 0) [] 0 0) := ⟨hnn, Nat.le_refl _, fun x hx => by simp at hx, Nat.le_refl _, hs, fun j e => by have := hm j e; omega, OwnChunks.nil _ _, ⟨[], trivial, rfl, rfl⟩, below_new hB1 hB2⟩
  clear hs hm hB1 hB2 e0 hs1 hb
  go_wp2_with fail
  go_loopw [8, 10, 11] (fun x z y wr => ∃ (k nv : Nat) (m : List Nat) (mo : Option Nat) (L : List Ck), y = .int .i64 (k : Nat) ∧ k ≤ 200 ∧ k ≤ n ∧ z = .int .i64 (nv : Nat) ∧ Grw w wr b m mo x L nv k) (fun _ _ y _ => 200 - (intOf y).toNat)
  case atStart => exact ⟨0, 0, [], mo, [], rfl, by omega, by omega, rfl, F0.out⟩
  case round =>
    clear F0
    obtain ⟨k, nv, m, mo, L, rfl, hk200, hkn, rfl, hG⟩ := hrel
    have hnv := hG.most
    by_cases hi : k < n ∧ k < 200
    · obtain ⟨hi1, hi2⟩ := hi
      have hi1i : (k : Int) < n := by omega
      have hi2i : (k : Int) < 200 := by omega
      obtain ⟨t, ht⟩ : ∃ t, l[k]? = some t := ⟨_, List.getElem?_eq_getElem (by have := HNL.out; omega)⟩
      obtain ⟨gx, ox, rfl, ex⟩ := (hx.below hG.all).get ht
      have hta := Int.tmod_lt_of_pos t (show (0 : Int) < 100000 by decide)
      have htb := Int.lt_tmod_of_pos t (show (0 : Int) < 100000 by decide)
      obtain ⟨kk, hkk⟩ : ∃ kk : Nat, kk = (t.tmod 100000).natAbs := ⟨_, rfl⟩
      obtain ⟨px, cx, rfl⟩ := hG.own.at.shape
      obtain ⟨n2, hn2⟩ : ∃ n2, nv + kk + 1 = n2 := ⟨_, rfl⟩
      have hn2b : n2 < 2147483648 := by omega
      have hap : ∀ x ∈ m, x < n2 := fun x hx => by have := hG.top x hx; omega
      have hsum : ((nv : Int) + (kk : Int)) + 1 = (n2 : Int) := by omega
      have had := add_any hG.set (n2 : Int) (by omega)
      rw [addB_ofN hn2b hap, addM_ofN m hn2b] at had
      have HN2 : Hid (nv + kk + 1 = n2) := hn2
      have hsm : (nv : Int) + (kk : Int) ≤ 100000000 := by omega
      clear hn2
      by_cases hneg : t.tmod 100000 < 0
      · have hmv : -(t.tmod 100000) = (kk : Int) := by omega
        clear hkk
        as_aux_lemma =>
          go_wp2_with fail
          refine had.mono ?_
          rintro e w3 ⟨rfl, mo3, hs3, hn3, ho3⟩
          clear had
          have hB3 := OnlyS.fresh hG.all ho3 hbw hG.map
          have hown3 := hG.own.set hG.set ho3
          have hnm := nums_more hG.nums hn2b hap
          have hapd := append_of hG.nums (by have := hG.len; omega) hG.split hown3.at hn2b hap
          go_wp2_with fail
          refine hapd.mono ?_
          rintro e w4 ⟨v4, L4, rfl, hL4, ho4, hB4⟩
          clear hapd
          have F4 : Hid (Grw w w4 b (m ++ [n2]) mo3 v4 L4 n2 (k + 1)) := by
            have hz3 := hB3.size
            refine ⟨hnm, by rw [List.length_append]; have := hG.len; simp; omega, fun x hx => ?_, by have := HN2.out; omega, hs3.below hB4, fun j e => ?_, ho4.mono (by omega), hL4, below_new hB3 hB4⟩
            · rcases List.mem_append.1 hx with hx | hx
              · have := hap x hx; omega
              · rw [List.mem_singleton.1 hx]; exact Nat.le_refl _
            · have hz := hG.all.size
              rcases hn3 with rfl | ⟨j', rfl, hj'⟩
              · exact hG.map j e
              · injection e with e
                omega
          obtain ⟨p4, c4, rfl⟩ := ho4.at.shape
          clear hs3 hn3 ho3 hB3 hown3 hnm hL4 ho4 hB4 hG
          go_wp2_with fail
          exact ⟨⟨k + 1, n2, _, _, _, by go_num, by omega, by omega, rfl, F4.out⟩, by simp [intOf]; omega⟩
      · have hmv : t.tmod 100000 = (kk : Int) := by omega
        have hkn0 : ¬ (kk : Int) < 0 := by omega
        clear hkk hneg
        as_aux_lemma =>
          go_wp2_with fail
          refine had.mono ?_
          rintro e w3 ⟨rfl, mo3, hs3, hn3, ho3⟩
          clear had
          have hB3 := OnlyS.fresh hG.all ho3 hbw hG.map
          have hown3 := hG.own.set hG.set ho3
          have hnm := nums_more hG.nums hn2b hap
          have hapd := append_of hG.nums (by have := hG.len; omega) hG.split hown3.at hn2b hap
          go_wp2_with fail
          refine hapd.mono ?_
          rintro e w4 ⟨v4, L4, rfl, hL4, ho4, hB4⟩
          clear hapd
          have F4 : Hid (Grw w w4 b (m ++ [n2]) mo3 v4 L4 n2 (k + 1)) := by
            have hz3 := hB3.size
            refine ⟨hnm, by rw [List.length_append]; have := hG.len; simp; omega, fun x hx => ?_, by have := HN2.out; omega, hs3.below hB4, fun j e => ?_, ho4.mono (by omega), hL4, below_new hB3 hB4⟩
            · rcases List.mem_append.1 hx with hx | hx
              · have := hap x hx; omega
              · rw [List.mem_singleton.1 hx]; exact Nat.le_refl _
            · have hz := hG.all.size
              rcases hn3 with rfl | ⟨j', rfl, hj'⟩
              · exact hG.map j e
              · injection e with e
                omega
          obtain ⟨p4, c4, rfl⟩ := ho4.at.shape
          clear hs3 hn3 ho3 hB3 hown3 hnm hL4 ho4 hB4 hG
          go_wp2_with fail
          exact ⟨⟨k + 1, n2, _, _, _, by go_num, by omega, by omega, rfl, F4.out⟩, by simp [intOf]; omega⟩
    · have hix : ¬ (k : Int) < n ∨ ((k : Int) < n ∧ ¬ (k : Int) < 200) := by omega
      have hspl := hsplit_any hG.set.view (by rw [hG.nums.mem]; have := hG.len; omega)
      rw [hG.nums.mem] at hspl
      obtain ⟨px, cx, rfl⟩ := hG.own.at.shape
      have hml : m.length ≤ 200 := by have := hG.len; omega
      have hLl := len_of hG.nums hG.split
      clear hx
      rcases hix with hia | ⟨hia, hib⟩
      · as_aux_lemma =>
        go_wp2_with fail
        refine hspl.mono ?_
        rintro e w3 ⟨v3, L3, rfl, hL3, ho3, hB3⟩
        clear hspl
        obtain rfl := hL3.uniq hG.split
        have hsm := qsame_eq (hG.own.at.below hB3) ho3.at (by omega)
        obtain ⟨p3, c3, rfl⟩ := ho3.at.shape
        go_wp2_with fail
        refine hsm.mono ?_
        rintro e w4 ⟨rfl, hB4⟩
        clear hsm
        obtain ⟨ps, hg, hfl, hLe⟩ := hL3.good hG.nums
        have hown4 := (hG.own.below0 hB3).below0 hB4
        have hset4 := (hG.set.below hB3).below hB4
        have hBw4 := below_new (below_new hG.all hB3) hB4
        have hpl : ∀ i, i < L3.length → ∃ u p, L3[i]? = some (u, dataOf p) ∧ Nums p ∧ 1 ≤ p.length ∧ p.length ≤ 64 ∧ (i + 1 < L3.length → p.length = 64) := fun i hi => by
          rw [hLe] at hi ⊢
          rw [chk_len] at hi ⊢
          exact part_len hg hi
        have hnum := hG.nums
        have hmap := hG.map
        clear hG hB3 hB4 ho3 hg hfl hLe
        obtain ⟨ln, hln⟩ : ∃ ln, L3.length = ln := ⟨_, rfl⟩
        have HLN : Hid (L3.length = ln) := hln
        rw [hln] at hpl hLl ⊢
        have hlni : (ln : Int) ≤ 200 := by omega
        have hwl := wrapH1 ln (by omega)
        clear hln
        go_wp2_with fail
        go_loopw [16] (fun y W => ∃ j : Nat, y = .int .i64 (j : Nat) ∧ j ≤ ln ∧ Below w4.heap.size w4 W) (fun y _ => ln - (intOf y).toNat)
        case atStart => exact ⟨0, rfl, Nat.zero_le _, Below.refl _ _⟩
        case round =>
          rename World => W
          obtain ⟨j, rfl, hj, hBW⟩ := hrel
          have hownW := hown4.below0 hBW
          by_cases hjl : j < ln
          · have hji : (j : Int) < ln := by omega
            obtain ⟨u, p', hu, hpn, hp1, hp64, hfull⟩ := hpl j hjl
            obtain ⟨gc, oc, hpe, hnn, d0, d1⟩ := hownW.at.at hu
            subst hpe
            clear hnn
            dsimp only at d0 d1
            have hrd : ∀ W, Calls Try.prog 28 #[.string (dataOf p')] W fun e w' => ∃ b, e = .returned (.tuple #[.pointer (some ⟨b, 0, none⟩), .int .i64 0]) ∧ ∃ mo, SetAt w' b mo (ofN p') ∧ W.heap.size ≤ b ∧ (∀ m, mo = some m → W.heap.size ≤ m) ∧ Below W.heap.size W w' := fun W => read_back (ofN_bound hpn.bound) W
            generalize dataOf p' = dt at d1 hrd
            have hcar : card (ofN p') = p'.length := by rw [card_len, hpn.mem]
            clear hpl hownW hu
            go_wp2_with fail
            refine (hrd _).mono ?_
            rintro e w7 ⟨b7, rfl, mo7, hs7, hb7, hm7, hB7⟩
            clear hrd
            have hln7 := fun W (hW : Below w7.heap.size w7 W) => len_any (hs7.below hW).view
            rw [hcar] at hln7
            obtain ⟨pl, hpl⟩ : ∃ pl, p'.length = pl := ⟨_, rfl⟩
            rw [hpl] at hln7 hp1 hp64 hfull
            clear hcar hpl
            have hp1i : ¬ (pl : Int) < 1 := by omega
            have hp64i : ¬ (64 : Int) < pl := by omega
            by_cases hp : pl = 64
            · subst hp
              clear hfull
              go_wp2_with fail
              refine (hln7 _ (Below.refl _ _)).mono ?_
              rintro e wl0 ⟨rfl, hBl0⟩
              go_wp2_with fail
              refine (hln7 _ hBl0).mono ?_
              rintro e wl1 ⟨rfl, hBl1⟩
              go_wp2_with fail
              refine (hln7 _ (below_new hBl0 hBl1)).mono ?_
              rintro e wl2 ⟨rfl, hBl2⟩
              have HB : Hid (Below w4.heap.size w4 wl2) := below_new (below_new (below_new (below_new hBW hB7) hBl0) hBl1) hBl2
              clear hBl0 hBl1 hBl2 hB7 hBW hs7 hln7 d0 d1
              go_wp2_with fail
              exact ⟨⟨j + 1, by go_num, by omega, HB.out⟩, by simp [intOf]; omega⟩
            · have hpi : ((pl : Int) == 64) = false := beq_eq_false_iff_ne.2 (by omega)
              have hpn' : ¬ (pl : Int) = 64 := by omega
              have hjn : ¬ (j : Int) < (ln : Int) - 1 := fun h => hp (hfull (by omega))
              clear hfull hp
              go_wp2_with fail
              refine (hln7 _ (Below.refl _ _)).mono ?_
              rintro e wl0 ⟨rfl, hBl0⟩
              go_wp2_with fail
              refine (hln7 _ hBl0).mono ?_
              rintro e wl1 ⟨rfl, hBl1⟩
              go_wp2_with fail
              refine (hln7 _ (below_new hBl0 hBl1)).mono ?_
              rintro e wl2 ⟨rfl, hBl2⟩
              have HB : Hid (Below w4.heap.size w4 wl2) := below_new (below_new (below_new (below_new hBW hB7) hBl0) hBl1) hBl2
              clear hBl0 hBl1 hBl2 hB7 hBW hs7 hln7 d0 d1
              go_wp2_with fail
              exact ⟨⟨j + 1, by go_num, by omega, HB.out⟩, by simp [intOf]; omega⟩
          · have hji : ¬ (j : Int) < ln := by omega
            clear hpl
            have hsetW := hset4.below hBW
            have hBwW := below_new hBw4 hBW
            obtain ⟨xl, bl, hLL⟩ := leastL_ex m q
            have hfd := find_of hnum (by omega) hL3 hownW.at q hq.2 hLL
            rw [HLN.out] at hfd
            go_wp2_with fail
            refine hfd.mono ?_
            rintro e w8 ⟨rfl, hB8⟩
            clear hfd
            have hle := least_any (hsetW.below hB8).view q q.toNat (by omega) (by omega)
            go_wp2_with fail
            refine hle.mono ?_
            rintro e w9 ⟨x9, b9, rfl, hl9, hB9⟩
            clear hle
            obtain ⟨rfl, rfl⟩ := leastL_uniq (leastL_of (f := q) (by omega) hl9) hLL
            clear hl9 hLL
            have hown9 := (hownW.below0 hB8).below0 hB9
            have hset9 := (hsetW.below hB8).below hB9
            have hBw9 := below_new (below_new hBwW hB8) hB9
            have hct := cut_of hnum (by omega) hL3 hown9.at f hf.2
            rw [HLN.out] at hct
            go_wp2_with fail
            refine hct.mono ?_
            rintro e wa ⟨va, La, rfl, hLa, hoa, hBa⟩
            clear hct
            have hseta := hset9.below hBa
            have hBwa := below_new hBw9 hBa
            obtain ⟨pa, ca, rfl⟩ := hoa.at.shape
            have hsc := cut_any hseta.view f hf.2
            generalize ((card (ofN m) : Nat) : Int) - ((card (cutM (ofN m) f.toNat) : Nat) : Int) = cc at hsc
            go_wp2_with fail
            refine hsc.mono ?_
            rintro e wb ⟨rfl, hvb, hOb⟩
            clear hsc
            have hob := hoa.cutM hseta hOb
            have hBwb := onlyM_below hBwa hOb hmap
            have hcm := cut_ofN hnum f
            have hll : (lessF f m).length ≤ 200 := Nat.le_trans (lessF_sub f m).length_le hml
            have hsp := hsplit_any hvb (by rw [hcm]; omega)
            rw [hcm] at hsp
            go_wp2_with fail
            refine hsp.mono ?_
            rintro e wc ⟨vc, Lc, rfl, hLc, hoc, hBc⟩
            clear hsp
            obtain rfl := hLc.uniq hLa
            have hsame := qsame_eq (hob.at.below hBc) hoc.at (by have := len_of (hnum.sub (lessF_sub f m)) hLc; omega)
            obtain ⟨pc, cc', rfl⟩ := hoc.at.shape
            go_wp2_with fail
            refine hsame.mono ?_
            rintro e wd ⟨rfl, hBd⟩
            clear hsame
            have HF : Hid (Below w.heap.size w wd) := below_new (below_new hBwb hBc) hBd
            clear hBwb hBc hBd hob hoc hLc hLa hvb hseta hset9 hown9
            go_wp2_with fail
            go_ret
            exact ⟨rfl, HF.out⟩
      · as_aux_lemma =>
        go_wp2_with fail
        refine hspl.mono ?_
        rintro e w3 ⟨v3, L3, rfl, hL3, ho3, hB3⟩
        clear hspl
        obtain rfl := hL3.uniq hG.split
        have hsm := qsame_eq (hG.own.at.below hB3) ho3.at (by omega)
        obtain ⟨p3, c3, rfl⟩ := ho3.at.shape
        go_wp2_with fail
        refine hsm.mono ?_
        rintro e w4 ⟨rfl, hB4⟩
        clear hsm
        obtain ⟨ps, hg, hfl, hLe⟩ := hL3.good hG.nums
        have hown4 := (hG.own.below0 hB3).below0 hB4
        have hset4 := (hG.set.below hB3).below hB4
        have hBw4 := below_new (below_new hG.all hB3) hB4
        have hpl : ∀ i, i < L3.length → ∃ u p, L3[i]? = some (u, dataOf p) ∧ Nums p ∧ 1 ≤ p.length ∧ p.length ≤ 64 ∧ (i + 1 < L3.length → p.length = 64) := fun i hi => by
          rw [hLe] at hi ⊢
          rw [chk_len] at hi ⊢
          exact part_len hg hi
        have hnum := hG.nums
        have hmap := hG.map
        clear hG hB3 hB4 ho3 hg hfl hLe
        obtain ⟨ln, hln⟩ : ∃ ln, L3.length = ln := ⟨_, rfl⟩
        have HLN : Hid (L3.length = ln) := hln
        rw [hln] at hpl hLl ⊢
        have hlni : (ln : Int) ≤ 200 := by omega
        have hwl := wrapH1 ln (by omega)
        clear hln
        go_wp2_with fail
        go_loopw [16] (fun y W => ∃ j : Nat, y = .int .i64 (j : Nat) ∧ j ≤ ln ∧ Below w4.heap.size w4 W) (fun y _ => ln - (intOf y).toNat)
        case atStart => exact ⟨0, rfl, Nat.zero_le _, Below.refl _ _⟩
        case round =>
          rename World => W
          obtain ⟨j, rfl, hj, hBW⟩ := hrel
          have hownW := hown4.below0 hBW
          by_cases hjl : j < ln
          · have hji : (j : Int) < ln := by omega
            obtain ⟨u, p', hu, hpn, hp1, hp64, hfull⟩ := hpl j hjl
            obtain ⟨gc, oc, hpe, hnn, d0, d1⟩ := hownW.at.at hu
            subst hpe
            clear hnn
            dsimp only at d0 d1
            have hrd : ∀ W, Calls Try.prog 28 #[.string (dataOf p')] W fun e w' => ∃ b, e = .returned (.tuple #[.pointer (some ⟨b, 0, none⟩), .int .i64 0]) ∧ ∃ mo, SetAt w' b mo (ofN p') ∧ W.heap.size ≤ b ∧ (∀ m, mo = some m → W.heap.size ≤ m) ∧ Below W.heap.size W w' := fun W => read_back (ofN_bound hpn.bound) W
            generalize dataOf p' = dt at d1 hrd
            have hcar : card (ofN p') = p'.length := by rw [card_len, hpn.mem]
            clear hpl hownW hu
            go_wp2_with fail
            refine (hrd _).mono ?_
            rintro e w7 ⟨b7, rfl, mo7, hs7, hb7, hm7, hB7⟩
            clear hrd
            have hln7 := fun W (hW : Below w7.heap.size w7 W) => len_any (hs7.below hW).view
            rw [hcar] at hln7
            obtain ⟨pl, hpl⟩ : ∃ pl, p'.length = pl := ⟨_, rfl⟩
            rw [hpl] at hln7 hp1 hp64 hfull
            clear hcar hpl
            have hp1i : ¬ (pl : Int) < 1 := by omega
            have hp64i : ¬ (64 : Int) < pl := by omega
            by_cases hp : pl = 64
            · subst hp
              clear hfull
              go_wp2_with fail
              refine (hln7 _ (Below.refl _ _)).mono ?_
              rintro e wl0 ⟨rfl, hBl0⟩
              go_wp2_with fail
              refine (hln7 _ hBl0).mono ?_
              rintro e wl1 ⟨rfl, hBl1⟩
              go_wp2_with fail
              refine (hln7 _ (below_new hBl0 hBl1)).mono ?_
              rintro e wl2 ⟨rfl, hBl2⟩
              have HB : Hid (Below w4.heap.size w4 wl2) := below_new (below_new (below_new (below_new hBW hB7) hBl0) hBl1) hBl2
              clear hBl0 hBl1 hBl2 hB7 hBW hs7 hln7 d0 d1
              go_wp2_with fail
              exact ⟨⟨j + 1, by go_num, by omega, HB.out⟩, by simp [intOf]; omega⟩
            · have hpi : ((pl : Int) == 64) = false := beq_eq_false_iff_ne.2 (by omega)
              have hpn' : ¬ (pl : Int) = 64 := by omega
              have hjn : ¬ (j : Int) < (ln : Int) - 1 := fun h => hp (hfull (by omega))
              clear hfull hp
              go_wp2_with fail
              refine (hln7 _ (Below.refl _ _)).mono ?_
              rintro e wl0 ⟨rfl, hBl0⟩
              go_wp2_with fail
              refine (hln7 _ hBl0).mono ?_
              rintro e wl1 ⟨rfl, hBl1⟩
              go_wp2_with fail
              refine (hln7 _ (below_new hBl0 hBl1)).mono ?_
              rintro e wl2 ⟨rfl, hBl2⟩
              have HB : Hid (Below w4.heap.size w4 wl2) := below_new (below_new (below_new (below_new hBW hB7) hBl0) hBl1) hBl2
              clear hBl0 hBl1 hBl2 hB7 hBW hs7 hln7 d0 d1
              go_wp2_with fail
              exact ⟨⟨j + 1, by go_num, by omega, HB.out⟩, by simp [intOf]; omega⟩
          · have hji : ¬ (j : Int) < ln := by omega
            clear hpl
            have hsetW := hset4.below hBW
            have hBwW := below_new hBw4 hBW
            obtain ⟨xl, bl, hLL⟩ := leastL_ex m q
            have hfd := find_of hnum (by omega) hL3 hownW.at q hq.2 hLL
            rw [HLN.out] at hfd
            go_wp2_with fail
            refine hfd.mono ?_
            rintro e w8 ⟨rfl, hB8⟩
            clear hfd
            have hle := least_any (hsetW.below hB8).view q q.toNat (by omega) (by omega)
            go_wp2_with fail
            refine hle.mono ?_
            rintro e w9 ⟨x9, b9, rfl, hl9, hB9⟩
            clear hle
            obtain ⟨rfl, rfl⟩ := leastL_uniq (leastL_of (f := q) (by omega) hl9) hLL
            clear hl9 hLL
            have hown9 := (hownW.below0 hB8).below0 hB9
            have hset9 := (hsetW.below hB8).below hB9
            have hBw9 := below_new (below_new hBwW hB8) hB9
            have hct := cut_of hnum (by omega) hL3 hown9.at f hf.2
            rw [HLN.out] at hct
            go_wp2_with fail
            refine hct.mono ?_
            rintro e wa ⟨va, La, rfl, hLa, hoa, hBa⟩
            clear hct
            have hseta := hset9.below hBa
            have hBwa := below_new hBw9 hBa
            obtain ⟨pa, ca, rfl⟩ := hoa.at.shape
            have hsc := cut_any hseta.view f hf.2
            generalize ((card (ofN m) : Nat) : Int) - ((card (cutM (ofN m) f.toNat) : Nat) : Int) = cc at hsc
            go_wp2_with fail
            refine hsc.mono ?_
            rintro e wb ⟨rfl, hvb, hOb⟩
            clear hsc
            have hob := hoa.cutM hseta hOb
            have hBwb := onlyM_below hBwa hOb hmap
            have hcm := cut_ofN hnum f
            have hll : (lessF f m).length ≤ 200 := Nat.le_trans (lessF_sub f m).length_le hml
            have hsp := hsplit_any hvb (by rw [hcm]; omega)
            rw [hcm] at hsp
            go_wp2_with fail
            refine hsp.mono ?_
            rintro e wc ⟨vc, Lc, rfl, hLc, hoc, hBc⟩
            clear hsp
            obtain rfl := hLc.uniq hLa
            have hsame := qsame_eq (hob.at.below hBc) hoc.at (by have := len_of (hnum.sub (lessF_sub f m)) hLc; omega)
            obtain ⟨pc, cc', rfl⟩ := hoc.at.shape
            go_wp2_with fail
            refine hsame.mono ?_
            rintro e wd ⟨rfl, hBd⟩
            clear hsame
            have HF : Hid (Below w.heap.size w wd) := below_new (below_new hBwb hBc) hBd
            clear hBwb hBc hBd hob hoc hLc hLa hvb hseta hset9 hown9
            go_wp2_with fail
            go_ret
            exact ⟨rfl, HF.out⟩
end Go.Proofs.Ytdfpnpjdiebniaa
