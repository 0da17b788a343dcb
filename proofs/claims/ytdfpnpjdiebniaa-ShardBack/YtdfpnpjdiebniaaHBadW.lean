/-
  What shard's read does of chunks that are no set's.
-/
import Derived.Test.YtdfpnpjdiebniaaHBadP
import Derived.Test.YtdfpnpjdiebniaaHPlanD
namespace Go.Proofs.Ytdfpnpjdiebniaa
open Go Go.RowKit

theorem fits_any (n g : Nat) (u : Int) (last : Bool) (w : World) : Calls Try.prog 60 #[.int .i64 (n : Nat), .int .i64 (g : Nat), .int .i64 u, .bool last] w fun e w' => e = .returned (.bool (fitsB n g u last)) ∧ w' = w := by
  obtain ⟨fb, hfb⟩ : ∃ fb, fitsB n g u last = fb := ⟨_, rfl⟩
  rw [hfb]
  unfold fitsB at hfb
  cases last with
  | true =>
    simp only [if_true] at hfb
    by_cases h1 : 1 ≤ n
    · by_cases h2 : n ≤ 64
      · have h1i : (1 : Int) ≤ n := by omega
        have h2i : (n : Int) ≤ 64 := by omega
        by_cases h3 : u = 2147483647
        · subst h3
          rw [decide_eq_true h1, decide_eq_true h2] at hfb
          have : fb = true := hfb.symm
          subst this
          go_enter Try.func60, Try.ntmps60
          go_wp2_with fail
          go_ret
          exact ⟨rfl, rfl⟩
        · have h3i : (u == 2147483647) = false := beq_eq_false_iff_ne.2 h3
          rw [decide_eq_false h3, Bool.and_false] at hfb
          subst hfb
          go_enter Try.func60, Try.ntmps60
          go_wp2_with fail
          go_ret
          exact ⟨rfl, rfl⟩
      · have h1i : (1 : Int) ≤ n := by omega
        have h2i : ¬ (n : Int) ≤ 64 := by omega
        rw [decide_eq_false h2, Bool.and_false, Bool.false_and] at hfb
        subst hfb
        go_enter Try.func60, Try.ntmps60
        go_wp2_with fail
        go_ret
        exact ⟨rfl, rfl⟩
    · have h1i : ¬ (1 : Int) ≤ n := by omega
      rw [decide_eq_false h1, Bool.false_and, Bool.false_and] at hfb
      subst hfb
      go_enter Try.func60, Try.ntmps60
      go_wp2_with fail
      go_ret
      exact ⟨rfl, rfl⟩
  | false =>
    simp only [Bool.false_eq_true, if_false] at hfb
    by_cases h1 : n = 64
    · subst h1
      by_cases h3 : u = (g : Int)
      · subst h3
        have : fb = true := by rw [← hfb]; simp
        subst this
        clear hfb
        go_enter Try.func60, Try.ntmps60
        go_wp2_with fail
        go_ret
        exact ⟨rfl, rfl⟩
      · have h3i : (u == (g : Int)) = false := beq_eq_false_iff_ne.2 h3
        rw [decide_eq_false h3, Bool.and_false] at hfb
        subst hfb
        go_enter Try.func60, Try.ntmps60
        go_wp2_with fail
        go_ret
        exact ⟨rfl, rfl⟩
    · have h1i : ((n : Int) == 64) = false := beq_eq_false_iff_ne.2 (by omega)
      have h1j : ¬ (n : Int) = 64 := by omega
      rw [decide_eq_false h1, Bool.false_and] at hfb
      subst hfb
      go_enter Try.func60, Try.ntmps60
      go_wp2_with fail
      go_ret
      exact ⟨rfl, rfl⟩
theorem Pre.bef {L : List Ck} {ps : List (List Nat)} (h : Pre L ps) : -1 ≤ bef ps ps.length ∧ bef ps ps.length < 2147483648 := by
  cases hk : ps.length with
  | zero => exact ⟨by show (-1 : Int) ≤ -1; omega, by show (-1 : Int) < _; omega⟩
  | succ j =>
    obtain ⟨q, hq⟩ : ∃ q, ps[j]? = some q := ⟨_, List.getElem?_eq_getElem (by omega)⟩
    obtain ⟨u, _, hf⟩ := h.data j q hq
    show -1 ≤ (((ps[j]?.getD []).getLastD 0 : Nat) : Int) ∧ (((ps[j]?.getD []).getLastD 0 : Nat) : Int) < _
    rw [hq, Option.getD_some]
    have := (h.nums q (List.mem_of_getElem? hq)).bound _ (last_mem (fits_one hf).1)
    omega
theorem head_lt {p : List Nat} (h : Nums p) : p.headD 0 < 2147483648 := by
  cases p with
  | nil => show 0 < _; omega
  | cons a l => exact h.bound a List.mem_cons_self
theorem last_lt {p : List Nat} (h : Nums p) : p.getLastD 0 < 2147483648 := by
  by_cases hz : 1 ≤ p.length
  · exact h.bound _ (last_mem hz)
  · have : p = [] := List.eq_nil_of_length_eq_zero (by omega)
    subst this
    show 0 < _
    omega
set_option maxRecDepth 8000 in
set_option maxHeartbeats 8000000 in
theorem hread_bad {w : World} {v : Value} {L : List Ck} (hv : ChunksAt w v L) (hno : ∀ ps, Good ps → L ≠ chk ps) (hsz : ∀ c ∈ L, c.2.size ≤ 2147483648) (hl : L.length ≤ 1000000) :
    Calls Try.prog 37 #[v] w fun e w' => e = .returned (.tuple #[.slice none 0 0, .int .i64 10]) ∧ Below w.heap.size w w' := by
  have hnot := run_notH
  obtain ⟨p0, c0, rfl⟩ := hv.shape
  obtain ⟨n, hn⟩ : ∃ n, L.length = n := ⟨_, rfl⟩
  have HN : Hid (L.length = n) := hn
  rw [hn] at hv hl ⊢
  clear hn
  have hni : (n : Int) ≤ 1000000 := by omega
  have hmk := make_ptrs n hl
  have hwn := wrapH1 n hl
  obtain ⟨q, hq⟩ : ∃ q, w.heap.size = q := ⟨_, rfl⟩
  obtain ⟨W0, hW0⟩ : ∃ W0, w.alloc (.cells (madeCells #[.pointer none] n) 29) = W0 := ⟨_, rfl⟩
  have hH : Holds W0 q 29 (madeCells #[.pointer none] n) := by rw [← hW0, ← hq]; exact Holds.new _ _ _
  have hB : Below w.heap.size w W0 := by rw [← hW0]; exact below_new1 _ _
  have hmz := size_madeCells #[.pointer none] n
  generalize madeCells #[.pointer none] n = cur0 at hH hmz hW0 hmk
  have F0 : Hid (Holds W0 q 29 cur0 ∧ cur0.size = n ∧ Below w.heap.size w W0) := ⟨hH, hmz, hB⟩
  have hqw : w.heap.size ≤ q := by omega
  clear hH hB hmz
  go_enter Try.func37, Try.ntmps37
  go_wp2_with fail
  go_loopw [5, 19] (fun x y wr => ∃ (k : Nat) (cur : Array Value) (ps : List (List Nat)), y = .int .i64 (k : Nat) ∧ k ≤ n ∧ x = .int .i64 (bef ps k) ∧ Hid (ps.length = k) ∧ Pre L ps ∧ Holds wr q 29 cur ∧ cur.size = n ∧ Below w.heap.size w wr) (fun _ y _ => n - (intOf y).toNat)
  case atStart => exact ⟨0, cur0, [], rfl, Nat.zero_le _, rfl, rfl, Pre.nil L, F0.out.1, F0.out.2.1, F0.out.2.2⟩
  case round =>
    clear F0
    obtain ⟨k, cur, ps, rfl, hk, rfl, HK, hP, hH, hcs, hB⟩ := hrel
    obtain ⟨hbf1, hbf2⟩ := hP.bef
    rw [HK.out] at hbf1 hbf2
    by_cases hkn : k < n
    · have hki : (k : Int) < n := by omega
      obtain ⟨⟨u, dt⟩, hx⟩ : ∃ x, L[k]? = some x := ⟨_, List.getElem?_eq_getElem (by rw [HN.out]; exact hkn)⟩
      have hdz := hsz _ (List.mem_of_getElem? hx)
      obtain ⟨b, o, rfl, hnn, c0', c1⟩ := (hv.below hB).at hx
      clear hnn
      dsimp only at c0' c1 hdz
      have HADD : Hid (∀ p, Nums p → dataOf p = dt → fitsB p.length (p.getLastD 0) u (decide (k + 1 = n)) = true → bef ps k < (p.headD 0 : Nat) → Pre L (ps ++ [p]) ∧ bef (ps ++ [p]) (k + 1) = ((p.getLastD 0 : Nat) : Int) ∧ (ps ++ [p]).length = k + 1) := fun p h1 h2 h3 h4 => by
        refine ⟨hP.add (u := u) h1 (by rw [HK.out, h2]; exact hx) (by rw [HK.out, HN.out]; exact h3) (by rw [HK.out]; exact h4), ?_, by rw [List.length_append, HK.out]; rfl⟩
        show (((((ps ++ [p])[k]?).getD []).getLastD 0 : Nat) : Int) = _
        rw [← HK.out]
        simp
      generalize bef ps k = bk at hbf1 hbf2 HADD ⊢
      have hrd := fun W => read_any dt hdz W
      clear hx hP hdz
      obtain ⟨W1, hW1⟩ : ∃ W1, wr.alloc (.cells #[.int .i64 u, .string dt] 44) = W1 := ⟨_, rfl⟩
      obtain ⟨z, hz⟩ : ∃ z, wr.heap.size = z := ⟨_, rfl⟩
      have hZ : Holds W1 z 44 #[.int .i64 u, .string dt] := by rw [← hW1, ← hz]; exact Holds.new _ _ _
      have hB1 : Below wr.heap.size wr W1 := by rw [← hW1]; exact below_new1 _ _
      have e0 : W1.cell? ⟨z, 0, none⟩ = some (.int .i64 u) := hZ.cell 0
      have e1 : W1.cell? ⟨z, 1, none⟩ = some (.string dt) := hZ.cell 1
      go_wp2_with fail
      refine (hrd W1).mono ?_
      rintro e w2 ⟨hB2, hcase⟩
      clear hrd
      rcases hcase with ⟨M, b2, rfl, mo2, hs2, hb2, hm2, hbm⟩ | ⟨rfl, _⟩
      · obtain ⟨p, hpe⟩ : ∃ p, memFrom M 0 = p := ⟨_, rfl⟩
        have hpn : Nums p := by rw [← hpe]; exact nums_of hs2.map.bound
        have hMp : M = ofN p := by rw [← hpe, ofN_mem hs2.map.bound]
        have hdp : dataOf p = dt := by
          rw [← hpe, dataOf_mem hs2.map.bound, hbm]
        subst hMp
        clear hpe hbm
        go_wp2_with fail
        refine (least_any hs2.view 0 0 rfl (by omega)).mono ?_
        rintro e w3 ⟨nl, bl, rfl, hle, hB3⟩
        have HL : Hid (nl = p.headD 0) := least_head hpn hle
        have hnl3 : (nl : Int) < 2147483648 := by rw [HL.out]; have := head_lt hpn; omega
        clear hle
        go_wp2_with fail
        refine (great_any (hs2.below hB3).view).mono ?_
        rintro e w4 ⟨ng, bg, rfl, hgr, hB4⟩
        have hgr' := great_getLast hpn hgr
        have hng : (ng : Int) < 2147483648 := by have := last_lt hpn; omega
        have HG : Hid (ng = p.getLastD 0) := hgr'
        clear hgr hgr'
        have hs4 := (hs2.below hB3).below hB4
        have hZ4 := below_holds hB4 (below_holds hB3 (below_holds hB2 hZ))
        have hBw4 := below_new (below_new (below_new (below_new hB hB1) hB2) hB3) hB4
        have HBq : Hid (Below w.heap.size w w4) := hBw4
        by_cases hlb : (nl : Int) ≤ bk
        · as_aux_lemma =>
          go_wp2_with fail
          refine wp_region_planD (fun _ => True) [.take 0, .take 1, .take 2, .take 3, .drop 4, .drop 5, .drop 6, .drop 7, .drop 8, .drop 9, .drop 10, .drop 11, .drop 12, .drop 13, .drop 14, .drop 15, .take 16] mixedP (by kernel_rfl) rfl (by kernel_rfl) (fun _ _ _ d _ h => by cases d <;> exact h) trivial ?_
          refine planD_val (some 42) rfl rfl rfl (.int .i64 (nl : Nat)) (fun _ => by go_simp) ?_
          go_frame
          refine planD_val (some 43) rfl rfl rfl (.int .i64 bk) (fun _ => by go_simp) ?_
          go_frame
          refine planD_val (some 44) rfl rfl rfl (.bool true) (fun _ => by go_simp) ?_
          go_frame
          refine planD_val (some 45) rfl rfl rfl (.bool true) (fun _ => by go_simp) ?_
          go_frame
          refine planD_drop (some 46) rfl rfl rfl ?_
          go_frame
          refine planD_drop (some 47) rfl rfl rfl ?_
          go_frame
          refine planD_drop (some 48) rfl rfl rfl ?_
          go_frame
          refine planD_drop (some 49) rfl rfl rfl ?_
          go_frame
          refine planD_drop (some 50) rfl rfl rfl ?_
          go_frame
          refine planD_drop (some 51) rfl rfl rfl ?_
          go_frame
          refine planD_drop (some 52) rfl rfl rfl ?_
          go_frame
          refine planD_drop (some 53) rfl rfl rfl ?_
          go_frame
          refine planD_drop (some 54) rfl rfl rfl ?_
          go_frame
          refine planD_drop (some 55) rfl rfl rfl ?_
          go_frame
          refine planD_drop (some 56) rfl rfl rfl ?_
          go_frame
          refine planD_drop (some 57) rfl rfl rfl ?_
          go_frame
          refine planD_val (some 58) rfl rfl rfl (.bool true) (fun _ => by go_simp) ?_
          go_frame
          refine then_normalH ?_
          go_at_K
          have HB9 : Hid (Below w.heap.size w w4.drew) := ⟨HBq.out.os, HBq.out.tape, HBq.out.output, HBq.out.size, HBq.out.block⟩
          clear hs4 hZ4 hBw4 HBq
          go_wp2_with fail
          go_ret2
          exact ⟨rfl, HB9.out⟩
        · as_aux_lemma =>
          have hcar : card (ofN p) = p.length := by rw [card_len, hpn.mem]
          have hln := fun W (hW : Below w4.heap.size w4 W) => len_any (hs4.below hW).view
          have hcl := card_le (ofN p)
          rw [hcar] at hln hcl
          obtain ⟨pl, hpl⟩ : ∃ pl, p.length = pl := ⟨_, rfl⟩
          have HPL : Hid (p.length = pl) := hpl
          rw [hpl] at hln hcl
          clear hcar hpl
          obtain ⟨last, hlast⟩ : ∃ last, decide (k + 1 = n) = last := ⟨_, rfl⟩
          have hlast2 : ((k : Int) == (n : Int) - 1) = last := by rw [← hlast, Bool.eq_iff_iff]; simp; omega
          have hft := fun W => fits_any pl ng u last W
          obtain ⟨fb, hfb⟩ : ∃ fb, fitsB pl ng u last = fb := ⟨_, rfl⟩
          have HFB : Hid (fitsB pl ng u last = fb) := hfb
          have HLA : Hid (decide (k + 1 = n) = last) := hlast
          rw [hfb] at hft
          clear hfb hlast
          have hpli : (pl : Int) ≤ 2147483648 := by omega
          obtain ⟨nb, hnb⟩ : ∃ nb, (!fb) = nb := ⟨_, rfl⟩
          go_wp2_with fail
          refine wp_region_plan (fun W => Below w4.heap.size w4 W) [.take 0, .take 1, .take 2, .take 3, .take 4, .take 6, .take 7, .take 8, .take 9, .take 10, .take 11, .take 12, .take 13, .one 5, .one 14, .take 15, .take 16] mixedP (by kernel_rfl) rfl (by kernel_rfl) (fun _ _ _ d _ h => by cases d <;> exact h) (below_drewH _) ?_
          refine plan_valG (some 42) rfl rfl rfl (.int .i64 (nl : Nat)) (fun _ => by go_simp) ?_
          go_frame
          refine plan_valG (some 43) rfl rfl rfl (.int .i64 bk) (fun _ => by go_simp) ?_
          go_frame
          refine plan_valG (some 44) rfl rfl rfl (.bool false) (fun _ => by go_simp) ?_
          go_frame
          refine plan_valG (some 45) rfl rfl rfl (.bool false) (fun _ => by go_simp) ?_
          go_frame
          refine plan_valG (some 46) rfl rfl rfl (.pointer (some ⟨b2, 0, none⟩)) (fun _ => by go_simp) ?_
          go_frame
          refine plan_valG (some 48) rfl rfl rfl (.int .i64 (ng : Nat)) (fun _ => by go_simp) ?_
          go_frame
          refine plan_valG (some 49) rfl rfl rfl (.pointer (some ⟨z, 0, none⟩)) (fun _ => by go_simp) ?_
          go_frame
          refine plan_ldG (some 50) rfl rfl rfl _ _ rfl rfl (v := .int .i64 u) (fun W hW => ldIntH ((below_holds hW hZ4).cell 0)) ?_
          go_frame
          refine plan_valG (some 51) rfl rfl rfl (.int .i64 (k : Nat)) (fun _ => by go_simp) ?_
          go_frame
          refine plan_valG (some 52) rfl rfl rfl (.slice (some ⟨b, o, none⟩) n c0) (fun _ => by go_simp) ?_
          go_frame
          refine plan_valG (some 53) rfl rfl rfl (.int .i64 (n : Nat)) (fun _ => by go_simp) ?_
          go_frame
          refine plan_valG (some 54) rfl rfl rfl (.int .i64 ((n : Int) - 1)) (fun _ => by go_simp) ?_
          go_frame
          refine plan_valG (some 55) rfl rfl rfl (.bool last) (fun _ => by go_simp) ?_
          go_frame
          refine plan_callG (some 47) rfl rfl rfl (f := 24) (vs := #[.pointer (some ⟨b2, 0, none⟩)]) (by go_simp) ((hln _ (below_drewH _)).mono ?_)
          rintro e w5 ⟨rfl, hB5⟩
          have hB5' := below_new (below_drewH w4) hB5
          refine ⟨_, rfl, hB5', ?_⟩
          go_frame
          refine plan_callG (some 56) rfl rfl rfl (f := 60) (vs := #[.int .i64 (pl : Nat), .int .i64 (ng : Nat), .int .i64 u, .bool last]) (by go_simp) ((hft w5).mono ?_)
          rintro e w5' ⟨rfl, hw5⟩
          have hw5' := hw5.symm
          clear hw5
          subst hw5'
          refine ⟨_, rfl, hB5', ?_⟩
          go_frame
          refine plan_valG (some 57) rfl rfl rfl (.bool nb) (fun _ => by go_simp) ?_
          go_frame
          refine plan_valG (some 58) rfl rfl rfl (.bool nb) (fun _ => by go_simp) ?_
          go_frame
          refine then_normalH ?_
          go_at_K
          cases nb with
          | true =>
            have HB9 : Hid (Below w.heap.size w w5) := below_new hBw4 hB5'
            clear hs4 hZ4 hBw4 HBq hB5' hB5 hln hft
            go_wp2_with fail
            go_ret2
            exact ⟨rfl, HB9.out⟩
          | false =>
            have hfbt : fb = true := by cases fb with
              | true => rfl
              | false => cases hnb
            subst hfbt
            have hH5 := below_holds hB5' (below_holds hB4 (below_holds hB3 (below_holds hB2 (below_holds hB1 hH))))
            have hcq : ∃ y, w5.cell? ⟨q, k, none⟩ = some y := by rw [hH5.cell k, Array.getElem?_eq_getElem (by omega)]; exact ⟨_, rfl⟩
            obtain ⟨y0, hy0⟩ := hcq
            have hfq := hH5.frozen k
            have F5 : Hid (∃ ps2, Pre L ps2 ∧ bef ps2 (k + 1) = (ng : Int) ∧ ps2.length = k + 1 ∧ Holds (w5.setCell ⟨q, k, none⟩ (.pointer (some ⟨b2, 0, none⟩))) q 29 (cur.setIfInBounds k (.pointer (some ⟨b2, 0, none⟩))) ∧ (cur.setIfInBounds k (.pointer (some ⟨b2, 0, none⟩))).size = n ∧ Below w.heap.size w (w5.setCell ⟨q, k, none⟩ (.pointer (some ⟨b2, 0, none⟩)))) := by
              obtain ⟨a1, a2, a3⟩ := HADD.out p hpn hdp (by rw [HPL.out, ← HG.out, HLA.out]; exact HFB.out) (by rw [← HL.out]; omega)
              exact ⟨ps ++ [p], a1, by rw [HG.out]; exact a2, a3, hH5.set k _, by rw [Array.size_setIfInBounds]; exact hcs, Only.fresh (below_new hBw4 hB5') ((Only.refl q w5).set k _) hqw⟩
            clear hs4 hZ4 hBw4 HBq hB5' hB5 hln hft hH5 hH hB HADD hB1 hB2 hB3 hB4 hs2 hZ hcs
            go_wp2_with fail
            obtain ⟨ps2, a1, a2, a3, a4, a5, a6⟩ := F5.out
            exact ⟨⟨k + 1, _, ps2, by go_num, by omega, by rw [a2], a3, a1, a4, a5, a6⟩, by simp [intOf]; omega⟩
      · have HBq : Hid (Below w.heap.size w w2) := below_new (below_new hB hB1) hB2
        go_wp2_with fail
        go_ret2
        exact ⟨rfl, HBq.out⟩
    · exfalso
      obtain rfl : k = n := by omega
      obtain ⟨h1, h2⟩ := hP.good (by rw [HK.out, HN.out])
      exact hno ps h1 h2
end Go.Proofs.Ytdfpnpjdiebniaa
