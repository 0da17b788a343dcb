/-
  ShardBack's walk.
-/
import Derived.Test.YtdfpnpjdiebniaaHBackP
import Derived.Test.YtdfpnpjdiebniaaHAwake
namespace Go.Proofs.Ytdfpnpjdiebniaa
open Go Go.RowKit

theorem only_grown {w w' : World} (h : w.grownBy w' none) : Below w.heap.size w w' := ⟨h.os, h.tape, h.output, h.size, fun i hi => h.block i hi (fun e => by cases e)⟩
theorem one_ck (w : World) (u : Int) (s : ByteArray) : ChunksAt (w.alloc (.cells #[.int .i64 u, .string s] 44)) (.slice (some ⟨w.heap.size, 0, none⟩) 1 1) [(u, s)] := by
  have h := Holds.new w 44 #[.int .i64 u, .string s]
  refine .inr ⟨_, 0, 1, rfl, Nat.le_refl _, fun i x hx => ?_⟩
  cases i with
  | zero =>
    have : (u, s) = x := by simpa using hx
    subst this
    exact ⟨h.cell 0, h.cell 1⟩
  | succ i => simp at hx
set_option maxRecDepth 100000 in
set_option maxHeartbeats 8000000 in
theorem back_walk {w : World} {p : Option Addr} {n c : Nat} {l : List Int} (hx : IntsAt w (.slice p n c) l) (hn : n = l.length) (hnc : n ≤ c) (hc : c ≤ 9223372036854775807) (hr : ∀ x ∈ l, -9223372036854775808 ≤ x ∧ x ≤ 9223372036854775807) (f : Int) (hf : -9223372036854775808 ≤ f ∧ f ≤ 9223372036854775807) :
    Calls Try.prog 5 #[.slice p n c, .int .i64 f] w fun e w' => e = .returned (.bool true) ∧ Below w.heap.size w w' := by
  have hnot := run_notH
  have hbc := buildCk
  have hni : (n : Int) ≤ 9223372036854775807 := by omega
  have HNL : Hid (n = l.length) := hn
  clear hn
  go_enter Try.func5, Try.ntmps5
  go_wp2_with fail
  refine (awake6_any _).mono ?_
  rintro e w1 ⟨rfl, hB1⟩
  have hx1 := hx.below hB1
  by_cases h300 : 300 < n
  · have h3i : (300 : Int) < n := by omega
    have hsl := ints_to p (n := n) 300 (by omega : 300 ≤ c)
    have hI := hx1.takeH 300 (by have := HNL.out; omega)
    have hIl : (l.take 300).length ≤ 300 := by rw [List.length_take]; omega
    have hIr : ∀ x ∈ l.take 300, x ≤ 9223372036854775807 := fun x h => (hr x (List.mem_of_mem_take h)).2
    generalize l.take 300 = l' at hI hIl hIr
    clear hx hx1 hr
    have hnw := new_any hI hIr (by omega)
    go_wp2_with fail
    refine hnw.mono ?_
    rintro e w2 ⟨b, rfl, mo, hs, hb, hm, hB2⟩
    clear hnw
    have hcar := Nat.le_trans (ints_card l') hIl
    have hnum := nums_of (ofInts_bound l')
    have hsp := hsplit_any hs.view (by omega)
    have hMo := ofN_mem (ofInts_bound l')
    generalize memFrom (ofInts l') 0 = m at hcar hnum hsp hMo
    rw [← hMo] at hs
    clear hMo hI hIr hm hb
    go_wp2_with fail
    refine hsp.mono ?_
    rintro e w3 ⟨v3, L, rfl, hL, ho3, hB3⟩
    clear hsp
    obtain ⟨ps, hg, hfl, hLe⟩ := hL.good hnum
    have hlen := len_of hnum hL
    have hj := hjoin_ok (ps := ps) (by rw [← hLe]; exact ho3.at) hg (by rw [← chk_len, ← hLe]; omega)
    rw [hfl] at hj
    obtain ⟨p3, c3, rfl⟩ := ho3.at.shape
    obtain ⟨ln, hln⟩ : ∃ ln, L.length = ln := ⟨_, rfl⟩
    have HLN : Hid (L.length = ln) := hln
    have hln3 : ln ≤ 300 := by omega
    have hlni : (ln : Int) ≤ 300 := by omega
    have hbad1 : ∀ {j : Nat} (u : Int) (s : ByteArray) (u' : Int), L[j]? = some (u, s) → u' ≠ u → ∀ qs, Good qs → L.set j (u', s) ≠ chk qs := fun u s u' h1 h2 => by
      rw [hLe] at h1 ⊢
      exact back_bad1 hg h1 h2
    have hbad2 : ∀ {j : Nat} {y : Ck}, L[j]? = some y → ∀ qs, Good qs → L ++ [y] ≠ chk qs := fun h1 => by
      rw [hLe] at h1 ⊢
      exact back_bad2 h1
    have hsz0 : ∀ c ∈ L, c.2.size ≤ 2147483648 := by rw [hLe]; exact chk_size
    have hupp : ∀ (j : Nat) (u : Int) (s : ByteArray), L[j]? = some (u, s) → 0 ≤ u ∧ u ≤ 2147483647 := by rw [hLe]; exact fun j u s => chk_upper hg
    rw [hln] at ho3 hj ⊢
    clear hln hlen hL hg hfl hLe
    go_wp2_with fail
    refine hj.mono ?_
    rintro e w4 ⟨b4, mo4, rfl, hs4, hb4, hm4, hB4⟩
    clear hj hb4 hm4
    have hBw4 : Below w.heap.size w w4 := below_new (below_new (below_new hB1 hB2) hB3) hB4
    have ho4 := (ho3.below0 hB4).mono (show w.heap.size ≤ w2.heap.size by have := hB1.size; have := hB2.size; omega)
    have hy1 := bytes_any hs4.view
    have hy2 := fun W (hW : Below w4.heap.size w4 W) => bytes_any (((hs.below hB3).below hB4).below hW).view
    generalize (⟨(bytesM (ofN m)).toArray⟩ : ByteArray) = bs at hy1 hy2
    clear hs hs4 hB1 hB2 hB3 hB4 ho3
    by_cases hl0 : ln = 0
    · subst hl0
      clear ho4 hbad1 hbad2 hsz0 hupp
      go_wp2_with (first
        | (go_at_call 31; refine hy1.mono ?_; rintro e w5 ⟨rfl, hB5⟩; clear hy1; have hy3 := hy2 _ hB5; clear hy2)
        | (go_at_call 31; refine hy3.mono ?_; rintro e w6 ⟨rfl, hB6⟩; clear hy3))
      go_ret
      exact ⟨rfl, below_new (below_new hBw4 hB5) hB6⟩
    · have hl0i : ((ln : Int) == 0) = false := beq_eq_false_iff_ne.2 (by omega)
      have hl0j : ¬ (ln : Int) = 0 := by omega
      by_cases hfn : f < 0
      · obtain ⟨q, hq⟩ : ∃ q : Nat, -(f + 1) = (q : Int) := ⟨(-(f + 1)).toNat, by omega⟩
        obtain ⟨j, hj⟩ : ∃ j, q % ln = j := ⟨_, rfl⟩
        have hjl : j < ln := by rw [← hj]; exact Nat.mod_lt _ (by omega)
        have hmod : Int.tmod (q : Int) (ln : Int) = (j : Int) := by rw [← hj]; rfl
        have hjli : (j : Int) < ln := by omega
        clear hj
        obtain ⟨hf1, hf2⟩ := hf
        have hf3 : IntKind.i64.wrap (f + 1) = f + 1 := by rw [IntKind.wrap_i64]; omega
        go_wp2_with (first
          | (go_at_call 31; refine hy1.mono ?_; rintro e w5 ⟨rfl, hB5⟩; clear hy1; have hy3 := hy2 _ hB5; clear hy2)
          | (go_at_call 31; refine hy3.mono ?_; rintro e w6 ⟨rfl, hB6⟩; clear hy3))
        have ho6 := ((ho4.below0 hB5).below0 hB6)
        have hBw6 := below_new (below_new hBw4 hB5) hB6
        obtain ⟨⟨u, s⟩, hu⟩ : ∃ x, L[j]? = some x := ⟨_, List.getElem?_eq_getElem (by rw [HLN.out]; exact hjl)⟩
        obtain ⟨g, cap, cur, hve, r1, r2, r3, r4, r5, r6⟩ := ho6.row (i := j) (by rw [HLN.out]; exact hjl)
        rw [HLN.out] at hve r3
        injection hve with e1 _ e3
        subst e1 e3
        obtain ⟨g', o', hpe, hnn, d0, d1⟩ := ho6.at.at hu
        injection hpe with hpe
        injection hpe with e4 e5
        subst e4 e5
        clear hnn r6
        dsimp only at d0 d1
        rw [Nat.zero_add] at d0 d1
        obtain ⟨hu0, hu1⟩ := hupp _ _ _ hu
        obtain ⟨W7, hW7⟩ : ∃ W7, w6.alloc (.cells #[.int .i64 u, .string s] 44) = W7 := ⟨_, rfl⟩
        obtain ⟨z, hz⟩ : ∃ z, w6.heap.size = z := ⟨_, rfl⟩
        have hZ : Holds W7 z 44 #[.int .i64 u, .string s] := by rw [← hW7, ← hz]; exact Holds.new _ _ _
        have hB7 : Below w6.heap.size w6 W7 := by rw [← hW7]; exact below_new1 _ _
        have e0 : W7.cell? ⟨z, 0, none⟩ = some (.int .i64 u) := hZ.cell 0
        have ho7 := ho6.below0 hB7
        have hG7 := below_holds hB7 r2
        have hgz : g < z := by rw [← hz]; exact r2.lt
        have hc7 : W7.cell? ⟨g, j * 2, none⟩ = some (.int .i64 u) := (hB7.cell (p := ⟨g, j * 2, none⟩) r2.lt).trans d0
        have hf7 := hG7.frozen (j * 2)
        have ho8 := ho7.putU hu (u - 1)
        have hG8 := hG7.set (j * 2) (.int .i64 (u - 1))
        have hZ8 : Holds (W7.setCell ⟨g, j * 2, none⟩ (.int .i64 (u - 1))) z 44 #[.int .i64 u, .string s] := ((Only.refl g W7).set (j * 2) (.int .i64 (u - 1))).holds hZ (by omega)
        have hBw8 : Below w.heap.size w (W7.setCell ⟨g, j * 2, none⟩ (.int .i64 (u - 1))) := Only.fresh (below_new hBw6 hB7) ((Only.refl g W7).set _ _) (by omega)
        have hj1 := hjoin_bad ho8.at (hbad1 u s (u - 1) hu (by omega)) (fun c hc => (List.mem_or_eq_of_mem_set hc).elim (hsz0 c) (fun e => by subst e; exact hsz0 (u, s) (List.mem_of_getElem? hu))) (by rw [List.length_set, HLN.out]; omega)
        have hsb : IntKind.i64.wrap (u - 1) = u - 1 := by rw [IntKind.wrap_i64]; omega
        generalize hW8 : W7.setCell ⟨g, j * 2, none⟩ (.int .i64 (u - 1)) = W8 at ho8 hG8 hZ8 hBw8 hj1
        clear hbad1 r2
        clear hB5 hB6
        go_wp2_with fail
        refine hj1.mono ?_
        rintro e w9 ⟨rfl, hB9⟩
        clear hj1 e0 hc7 hf7 hG7 ho7 hW8 hB7 hW7 hZ d0 d1
        have hG9 := below_holds hB9 hG8
        have hZ9 := below_holds hB9 hZ8
        have z0 : w9.cell? ⟨z, 0, none⟩ = some (.int .i64 u) := hZ9.cell 0
        have z1 : w9.cell? ⟨z, 1, none⟩ = some (.string s) := hZ9.cell 1
        have ho9 := ho8.below0 hB9
        have hu9 : (L.set j (u - 1, s))[j]? = some (u - 1, s) := List.getElem?_set_self (List.getElem?_eq_some_iff.1 hu).1
        obtain ⟨g', o', hpe, hnn, c9a, c9b⟩ := ho9.at.at hu9
        injection hpe with hpe
        injection hpe with e4 e5
        subst e4 e5
        clear hnn hu9
        dsimp only at c9a c9b
        rw [Nat.zero_add] at c9a c9b
        have hf9a := hG9.frozen (j * 2)
        have hf9b := hG9.frozen (j * 2 + 1)
        have ho10 := OwnChunks.putBack hu ho9
        have hBw10 : Below w.heap.size w ((w9.setCell ⟨g, j * 2, none⟩ (.int .i64 u)).setCell ⟨g, j * 2 + 1, none⟩ (.string s)) := Only.fresh (below_new hBw8 hB9) (((Only.refl g w9).set _ _).set _ _) r1
        generalize hW10 : (w9.setCell ⟨g, j * 2, none⟩ (.int .i64 u)).setCell ⟨g, j * 2 + 1, none⟩ (.string s) = W10 at ho10 hBw10
        clear ho8 ho9 hG8 hG9 hZ8 hZ9 hB9 hBw8
        have hz10 := hBw10.size
        have hj2 := fun W v (hv : ChunksAt W v (L ++ [(u, s)])) => hjoin_bad hv (hbad2 hu) (fun c hc => (List.mem_append.1 hc).elim (hsz0 c) (fun e => by rw [List.mem_singleton.1 e]; exact hsz0 (u, s) (List.mem_of_getElem? hu))) (by rw [List.length_append, HLN.out]; simp; omega)
        clear hbad2 hsz0
        have HU : Hid (L[j]? = some (u, s)) := hu
        have HLL : Hid ((L ++ [(u, s)]).length = ln + 1) := by show _ = _; rw [List.length_append, HLN.out]; rfl
        clear hu
        go_wp2_with (first
          | (at_builtin; refine wpList_append_ck rfl _ _ rfl rfl rfl (hown11.below0 (below_new1 w11 _)) (one_ck w11 u s) (by rw [HLN.out]; simp; omega) (by have := hBw11.size; simp; omega) ?_; intro v12 w12 hown12 hg12; have hB12 : Below w.heap.size w w12 := below_grownH (hBw11.trans ((below_new1 w11 (.cells #[.int .i64 u, .string s] 44)).mono hBw11.size)) hg12 hown11.new; have hj3 := hj2 w12 v12 hown12.at; obtain ⟨p12, c12, rfl⟩ := hown12.at.shape; rw [HLL.out] at hj3 ⊢; clear hj2 hg12 hown11 ho11 hB11 hown12 c11a c11b)
          | (at_builtin; refine wpList_append_ck rfl _ _ rfl rfl rfl (OwnChunks.nil W10 w.heap.size) ho10.at (by rw [HLN.out]; simp; omega) hz10 ?_; intro v11 w11 hown11 hg11; have hB11 := only_grown hg11; rw [List.nil_append] at hown11; have ho11 := ho10.below0 hB11; have hBw11 := below_new hBw10 hB11; obtain ⟨p11, c11, rfl⟩ := hown11.at.shape; rw [HLN.out] at hown11 ⊢; obtain ⟨g', o', hpe, hnn, c11a, c11b⟩ := ho11.at.at HU.out; injection hpe with hpe; injection hpe with e4 e5; subst e4 e5; clear hnn ho10 hW10 c9a c9b hf9a hf9b z0 z1 hg11; dsimp only at c11a c11b; rw [Nat.zero_add] at c11a c11b))
        refine hj3.mono ?_
        rintro e w13 ⟨rfl, hB13⟩
        clear hj3
        have HB : Hid (Below w.heap.size w w13) := below_new hB12 hB13
        clear hB12 hB13 hBw11 hBw10 hBw6 hBw4
        go_wp2_with fail
        go_ret
        exact ⟨rfl, HB.out⟩
      · obtain ⟨q, rfl⟩ := Int.eq_ofNat_of_zero_le (show 0 ≤ f by omega)
        obtain ⟨j, hj⟩ : ∃ j, q % ln = j := ⟨_, rfl⟩
        have hjl : j < ln := by rw [← hj]; exact Nat.mod_lt _ (by omega)
        have hmod : Int.tmod (q : Int) (ln : Int) = (j : Int) := by rw [← hj]; rfl
        have hjli : (j : Int) < ln := by omega
        clear hj
        go_wp2_with (first
          | (go_at_call 31; refine hy1.mono ?_; rintro e w5 ⟨rfl, hB5⟩; clear hy1; have hy3 := hy2 _ hB5; clear hy2)
          | (go_at_call 31; refine hy3.mono ?_; rintro e w6 ⟨rfl, hB6⟩; clear hy3))
        have ho6 := ((ho4.below0 hB5).below0 hB6)
        have hBw6 := below_new (below_new hBw4 hB5) hB6
        obtain ⟨⟨u, s⟩, hu⟩ : ∃ x, L[j]? = some x := ⟨_, List.getElem?_eq_getElem (by rw [HLN.out]; exact hjl)⟩
        obtain ⟨g, cap, cur, hve, r1, r2, r3, r4, r5, r6⟩ := ho6.row (i := j) (by rw [HLN.out]; exact hjl)
        rw [HLN.out] at hve r3
        injection hve with e1 _ e3
        subst e1 e3
        obtain ⟨g', o', hpe, hnn, d0, d1⟩ := ho6.at.at hu
        injection hpe with hpe
        injection hpe with e4 e5
        subst e4 e5
        clear hnn r6
        dsimp only at d0 d1
        rw [Nat.zero_add] at d0 d1
        obtain ⟨hu0, hu1⟩ := hupp _ _ _ hu
        obtain ⟨W7, hW7⟩ : ∃ W7, w6.alloc (.cells #[.int .i64 u, .string s] 44) = W7 := ⟨_, rfl⟩
        obtain ⟨z, hz⟩ : ∃ z, w6.heap.size = z := ⟨_, rfl⟩
        have hZ : Holds W7 z 44 #[.int .i64 u, .string s] := by rw [← hW7, ← hz]; exact Holds.new _ _ _
        have hB7 : Below w6.heap.size w6 W7 := by rw [← hW7]; exact below_new1 _ _
        have e0 : W7.cell? ⟨z, 0, none⟩ = some (.int .i64 u) := hZ.cell 0
        have ho7 := ho6.below0 hB7
        have hG7 := below_holds hB7 r2
        have hgz : g < z := by rw [← hz]; exact r2.lt
        have hc7 : W7.cell? ⟨g, j * 2, none⟩ = some (.int .i64 u) := (hB7.cell (p := ⟨g, j * 2, none⟩) r2.lt).trans d0
        have hf7 := hG7.frozen (j * 2)
        have ho8 := ho7.putU hu (u - 1)
        have hG8 := hG7.set (j * 2) (.int .i64 (u - 1))
        have hZ8 : Holds (W7.setCell ⟨g, j * 2, none⟩ (.int .i64 (u - 1))) z 44 #[.int .i64 u, .string s] := ((Only.refl g W7).set (j * 2) (.int .i64 (u - 1))).holds hZ (by omega)
        have hBw8 : Below w.heap.size w (W7.setCell ⟨g, j * 2, none⟩ (.int .i64 (u - 1))) := Only.fresh (below_new hBw6 hB7) ((Only.refl g W7).set _ _) (by omega)
        have hj1 := hjoin_bad ho8.at (hbad1 u s (u - 1) hu (by omega)) (fun c hc => (List.mem_or_eq_of_mem_set hc).elim (hsz0 c) (fun e => by subst e; exact hsz0 (u, s) (List.mem_of_getElem? hu))) (by rw [List.length_set, HLN.out]; omega)
        have hsb : IntKind.i64.wrap (u - 1) = u - 1 := by rw [IntKind.wrap_i64]; omega
        generalize hW8 : W7.setCell ⟨g, j * 2, none⟩ (.int .i64 (u - 1)) = W8 at ho8 hG8 hZ8 hBw8 hj1
        clear hbad1 r2
        clear hB5 hB6
        go_wp2_with fail
        refine hj1.mono ?_
        rintro e w9 ⟨rfl, hB9⟩
        clear hj1 e0 hc7 hf7 hG7 ho7 hW8 hB7 hW7 hZ d0 d1
        have hG9 := below_holds hB9 hG8
        have hZ9 := below_holds hB9 hZ8
        have z0 : w9.cell? ⟨z, 0, none⟩ = some (.int .i64 u) := hZ9.cell 0
        have z1 : w9.cell? ⟨z, 1, none⟩ = some (.string s) := hZ9.cell 1
        have ho9 := ho8.below0 hB9
        have hu9 : (L.set j (u - 1, s))[j]? = some (u - 1, s) := List.getElem?_set_self (List.getElem?_eq_some_iff.1 hu).1
        obtain ⟨g', o', hpe, hnn, c9a, c9b⟩ := ho9.at.at hu9
        injection hpe with hpe
        injection hpe with e4 e5
        subst e4 e5
        clear hnn hu9
        dsimp only at c9a c9b
        rw [Nat.zero_add] at c9a c9b
        have hf9a := hG9.frozen (j * 2)
        have hf9b := hG9.frozen (j * 2 + 1)
        have ho10 := OwnChunks.putBack hu ho9
        have hBw10 : Below w.heap.size w ((w9.setCell ⟨g, j * 2, none⟩ (.int .i64 u)).setCell ⟨g, j * 2 + 1, none⟩ (.string s)) := Only.fresh (below_new hBw8 hB9) (((Only.refl g w9).set _ _).set _ _) r1
        generalize hW10 : (w9.setCell ⟨g, j * 2, none⟩ (.int .i64 u)).setCell ⟨g, j * 2 + 1, none⟩ (.string s) = W10 at ho10 hBw10
        clear ho8 ho9 hG8 hG9 hZ8 hZ9 hB9 hBw8
        have hz10 := hBw10.size
        have hj2 := fun W v (hv : ChunksAt W v (L ++ [(u, s)])) => hjoin_bad hv (hbad2 hu) (fun c hc => (List.mem_append.1 hc).elim (hsz0 c) (fun e => by rw [List.mem_singleton.1 e]; exact hsz0 (u, s) (List.mem_of_getElem? hu))) (by rw [List.length_append, HLN.out]; simp; omega)
        clear hbad2 hsz0
        have HU : Hid (L[j]? = some (u, s)) := hu
        have HLL : Hid ((L ++ [(u, s)]).length = ln + 1) := by show _ = _; rw [List.length_append, HLN.out]; rfl
        clear hu
        go_wp2_with (first
          | (at_builtin; refine wpList_append_ck rfl _ _ rfl rfl rfl (hown11.below0 (below_new1 w11 _)) (one_ck w11 u s) (by rw [HLN.out]; simp; omega) (by have := hBw11.size; simp; omega) ?_; intro v12 w12 hown12 hg12; have hB12 : Below w.heap.size w w12 := below_grownH (hBw11.trans ((below_new1 w11 (.cells #[.int .i64 u, .string s] 44)).mono hBw11.size)) hg12 hown11.new; have hj3 := hj2 w12 v12 hown12.at; obtain ⟨p12, c12, rfl⟩ := hown12.at.shape; rw [HLL.out] at hj3 ⊢; clear hj2 hg12 hown11 ho11 hB11 hown12 c11a c11b)
          | (at_builtin; refine wpList_append_ck rfl _ _ rfl rfl rfl (OwnChunks.nil W10 w.heap.size) ho10.at (by rw [HLN.out]; simp; omega) hz10 ?_; intro v11 w11 hown11 hg11; have hB11 := only_grown hg11; rw [List.nil_append] at hown11; have ho11 := ho10.below0 hB11; have hBw11 := below_new hBw10 hB11; obtain ⟨p11, c11, rfl⟩ := hown11.at.shape; rw [HLN.out] at hown11 ⊢; obtain ⟨g', o', hpe, hnn, c11a, c11b⟩ := ho11.at.at HU.out; injection hpe with hpe; injection hpe with e4 e5; subst e4 e5; clear hnn ho10 hW10 c9a c9b hf9a hf9b z0 z1 hg11; dsimp only at c11a c11b; rw [Nat.zero_add] at c11a c11b))
        refine hj3.mono ?_
        rintro e w13 ⟨rfl, hB13⟩
        clear hj3
        have HB : Hid (Below w.heap.size w w13) := below_new hB12 hB13
        clear hB12 hB13 hBw11 hBw10 hBw6 hBw4
        go_wp2_with fail
        go_ret
        exact ⟨rfl, HB.out⟩
  · have h3i : ¬ (300 : Int) < n := by omega
    have hI := hx1
    have hIl : l.length ≤ 300 := by have := HNL.out; omega
    have hIr : ∀ x ∈ l, x ≤ 9223372036854775807 := fun x h => (hr x h).2
    generalize l = l' at hI hIl hIr
    clear hx hx1 hr
    have hnw := new_any hI hIr (by omega)
    go_wp2_with fail
    refine hnw.mono ?_
    rintro e w2 ⟨b, rfl, mo, hs, hb, hm, hB2⟩
    clear hnw
    have hcar := Nat.le_trans (ints_card l') hIl
    have hnum := nums_of (ofInts_bound l')
    have hsp := hsplit_any hs.view (by omega)
    have hMo := ofN_mem (ofInts_bound l')
    generalize memFrom (ofInts l') 0 = m at hcar hnum hsp hMo
    rw [← hMo] at hs
    clear hMo hI hIr hm hb
    go_wp2_with fail
    refine hsp.mono ?_
    rintro e w3 ⟨v3, L, rfl, hL, ho3, hB3⟩
    clear hsp
    obtain ⟨ps, hg, hfl, hLe⟩ := hL.good hnum
    have hlen := len_of hnum hL
    have hj := hjoin_ok (ps := ps) (by rw [← hLe]; exact ho3.at) hg (by rw [← chk_len, ← hLe]; omega)
    rw [hfl] at hj
    obtain ⟨p3, c3, rfl⟩ := ho3.at.shape
    obtain ⟨ln, hln⟩ : ∃ ln, L.length = ln := ⟨_, rfl⟩
    have HLN : Hid (L.length = ln) := hln
    have hln3 : ln ≤ 300 := by omega
    have hlni : (ln : Int) ≤ 300 := by omega
    have hbad1 : ∀ {j : Nat} (u : Int) (s : ByteArray) (u' : Int), L[j]? = some (u, s) → u' ≠ u → ∀ qs, Good qs → L.set j (u', s) ≠ chk qs := fun u s u' h1 h2 => by
      rw [hLe] at h1 ⊢
      exact back_bad1 hg h1 h2
    have hbad2 : ∀ {j : Nat} {y : Ck}, L[j]? = some y → ∀ qs, Good qs → L ++ [y] ≠ chk qs := fun h1 => by
      rw [hLe] at h1 ⊢
      exact back_bad2 h1
    have hsz0 : ∀ c ∈ L, c.2.size ≤ 2147483648 := by rw [hLe]; exact chk_size
    have hupp : ∀ (j : Nat) (u : Int) (s : ByteArray), L[j]? = some (u, s) → 0 ≤ u ∧ u ≤ 2147483647 := by rw [hLe]; exact fun j u s => chk_upper hg
    rw [hln] at ho3 hj ⊢
    clear hln hlen hL hg hfl hLe
    go_wp2_with fail
    refine hj.mono ?_
    rintro e w4 ⟨b4, mo4, rfl, hs4, hb4, hm4, hB4⟩
    clear hj hb4 hm4
    have hBw4 : Below w.heap.size w w4 := below_new (below_new (below_new hB1 hB2) hB3) hB4
    have ho4 := (ho3.below0 hB4).mono (show w.heap.size ≤ w2.heap.size by have := hB1.size; have := hB2.size; omega)
    have hy1 := bytes_any hs4.view
    have hy2 := fun W (hW : Below w4.heap.size w4 W) => bytes_any (((hs.below hB3).below hB4).below hW).view
    generalize (⟨(bytesM (ofN m)).toArray⟩ : ByteArray) = bs at hy1 hy2
    clear hs hs4 hB1 hB2 hB3 hB4 ho3
    by_cases hl0 : ln = 0
    · subst hl0
      clear ho4 hbad1 hbad2 hsz0 hupp
      go_wp2_with (first
        | (go_at_call 31; refine hy1.mono ?_; rintro e w5 ⟨rfl, hB5⟩; clear hy1; have hy3 := hy2 _ hB5; clear hy2)
        | (go_at_call 31; refine hy3.mono ?_; rintro e w6 ⟨rfl, hB6⟩; clear hy3))
      go_ret
      exact ⟨rfl, below_new (below_new hBw4 hB5) hB6⟩
    · have hl0i : ((ln : Int) == 0) = false := beq_eq_false_iff_ne.2 (by omega)
      have hl0j : ¬ (ln : Int) = 0 := by omega
      by_cases hfn : f < 0
      · obtain ⟨q, hq⟩ : ∃ q : Nat, -(f + 1) = (q : Int) := ⟨(-(f + 1)).toNat, by omega⟩
        obtain ⟨j, hj⟩ : ∃ j, q % ln = j := ⟨_, rfl⟩
        have hjl : j < ln := by rw [← hj]; exact Nat.mod_lt _ (by omega)
        have hmod : Int.tmod (q : Int) (ln : Int) = (j : Int) := by rw [← hj]; rfl
        have hjli : (j : Int) < ln := by omega
        clear hj
        obtain ⟨hf1, hf2⟩ := hf
        have hf3 : IntKind.i64.wrap (f + 1) = f + 1 := by rw [IntKind.wrap_i64]; omega
        go_wp2_with (first
          | (go_at_call 31; refine hy1.mono ?_; rintro e w5 ⟨rfl, hB5⟩; clear hy1; have hy3 := hy2 _ hB5; clear hy2)
          | (go_at_call 31; refine hy3.mono ?_; rintro e w6 ⟨rfl, hB6⟩; clear hy3))
        have ho6 := ((ho4.below0 hB5).below0 hB6)
        have hBw6 := below_new (below_new hBw4 hB5) hB6
        obtain ⟨⟨u, s⟩, hu⟩ : ∃ x, L[j]? = some x := ⟨_, List.getElem?_eq_getElem (by rw [HLN.out]; exact hjl)⟩
        obtain ⟨g, cap, cur, hve, r1, r2, r3, r4, r5, r6⟩ := ho6.row (i := j) (by rw [HLN.out]; exact hjl)
        rw [HLN.out] at hve r3
        injection hve with e1 _ e3
        subst e1 e3
        obtain ⟨g', o', hpe, hnn, d0, d1⟩ := ho6.at.at hu
        injection hpe with hpe
        injection hpe with e4 e5
        subst e4 e5
        clear hnn r6
        dsimp only at d0 d1
        rw [Nat.zero_add] at d0 d1
        obtain ⟨hu0, hu1⟩ := hupp _ _ _ hu
        obtain ⟨W7, hW7⟩ : ∃ W7, w6.alloc (.cells #[.int .i64 u, .string s] 44) = W7 := ⟨_, rfl⟩
        obtain ⟨z, hz⟩ : ∃ z, w6.heap.size = z := ⟨_, rfl⟩
        have hZ : Holds W7 z 44 #[.int .i64 u, .string s] := by rw [← hW7, ← hz]; exact Holds.new _ _ _
        have hB7 : Below w6.heap.size w6 W7 := by rw [← hW7]; exact below_new1 _ _
        have e0 : W7.cell? ⟨z, 0, none⟩ = some (.int .i64 u) := hZ.cell 0
        have ho7 := ho6.below0 hB7
        have hG7 := below_holds hB7 r2
        have hgz : g < z := by rw [← hz]; exact r2.lt
        have hc7 : W7.cell? ⟨g, j * 2, none⟩ = some (.int .i64 u) := (hB7.cell (p := ⟨g, j * 2, none⟩) r2.lt).trans d0
        have hf7 := hG7.frozen (j * 2)
        have ho8 := ho7.putU hu (u - 1)
        have hG8 := hG7.set (j * 2) (.int .i64 (u - 1))
        have hZ8 : Holds (W7.setCell ⟨g, j * 2, none⟩ (.int .i64 (u - 1))) z 44 #[.int .i64 u, .string s] := ((Only.refl g W7).set (j * 2) (.int .i64 (u - 1))).holds hZ (by omega)
        have hBw8 : Below w.heap.size w (W7.setCell ⟨g, j * 2, none⟩ (.int .i64 (u - 1))) := Only.fresh (below_new hBw6 hB7) ((Only.refl g W7).set _ _) (by omega)
        have hj1 := hjoin_bad ho8.at (hbad1 u s (u - 1) hu (by omega)) (fun c hc => (List.mem_or_eq_of_mem_set hc).elim (hsz0 c) (fun e => by subst e; exact hsz0 (u, s) (List.mem_of_getElem? hu))) (by rw [List.length_set, HLN.out]; omega)
        have hsb : IntKind.i64.wrap (u - 1) = u - 1 := by rw [IntKind.wrap_i64]; omega
        generalize hW8 : W7.setCell ⟨g, j * 2, none⟩ (.int .i64 (u - 1)) = W8 at ho8 hG8 hZ8 hBw8 hj1
        clear hbad1 r2
        clear hB5 hB6
        go_wp2_with fail
        refine hj1.mono ?_
        rintro e w9 ⟨rfl, hB9⟩
        clear hj1 e0 hc7 hf7 hG7 ho7 hW8 hB7 hW7 hZ d0 d1
        have hG9 := below_holds hB9 hG8
        have hZ9 := below_holds hB9 hZ8
        have z0 : w9.cell? ⟨z, 0, none⟩ = some (.int .i64 u) := hZ9.cell 0
        have z1 : w9.cell? ⟨z, 1, none⟩ = some (.string s) := hZ9.cell 1
        have ho9 := ho8.below0 hB9
        have hu9 : (L.set j (u - 1, s))[j]? = some (u - 1, s) := List.getElem?_set_self (List.getElem?_eq_some_iff.1 hu).1
        obtain ⟨g', o', hpe, hnn, c9a, c9b⟩ := ho9.at.at hu9
        injection hpe with hpe
        injection hpe with e4 e5
        subst e4 e5
        clear hnn hu9
        dsimp only at c9a c9b
        rw [Nat.zero_add] at c9a c9b
        have hf9a := hG9.frozen (j * 2)
        have hf9b := hG9.frozen (j * 2 + 1)
        have ho10 := OwnChunks.putBack hu ho9
        have hBw10 : Below w.heap.size w ((w9.setCell ⟨g, j * 2, none⟩ (.int .i64 u)).setCell ⟨g, j * 2 + 1, none⟩ (.string s)) := Only.fresh (below_new hBw8 hB9) (((Only.refl g w9).set _ _).set _ _) r1
        generalize hW10 : (w9.setCell ⟨g, j * 2, none⟩ (.int .i64 u)).setCell ⟨g, j * 2 + 1, none⟩ (.string s) = W10 at ho10 hBw10
        clear ho8 ho9 hG8 hG9 hZ8 hZ9 hB9 hBw8
        have hz10 := hBw10.size
        have hj2 := fun W v (hv : ChunksAt W v (L ++ [(u, s)])) => hjoin_bad hv (hbad2 hu) (fun c hc => (List.mem_append.1 hc).elim (hsz0 c) (fun e => by rw [List.mem_singleton.1 e]; exact hsz0 (u, s) (List.mem_of_getElem? hu))) (by rw [List.length_append, HLN.out]; simp; omega)
        clear hbad2 hsz0
        have HU : Hid (L[j]? = some (u, s)) := hu
        have HLL : Hid ((L ++ [(u, s)]).length = ln + 1) := by show _ = _; rw [List.length_append, HLN.out]; rfl
        clear hu
        go_wp2_with (first
          | (at_builtin; refine wpList_append_ck rfl _ _ rfl rfl rfl (hown11.below0 (below_new1 w11 _)) (one_ck w11 u s) (by rw [HLN.out]; simp; omega) (by have := hBw11.size; simp; omega) ?_; intro v12 w12 hown12 hg12; have hB12 : Below w.heap.size w w12 := below_grownH (hBw11.trans ((below_new1 w11 (.cells #[.int .i64 u, .string s] 44)).mono hBw11.size)) hg12 hown11.new; have hj3 := hj2 w12 v12 hown12.at; obtain ⟨p12, c12, rfl⟩ := hown12.at.shape; rw [HLL.out] at hj3 ⊢; clear hj2 hg12 hown11 ho11 hB11 hown12 c11a c11b)
          | (at_builtin; refine wpList_append_ck rfl _ _ rfl rfl rfl (OwnChunks.nil W10 w.heap.size) ho10.at (by rw [HLN.out]; simp; omega) hz10 ?_; intro v11 w11 hown11 hg11; have hB11 := only_grown hg11; rw [List.nil_append] at hown11; have ho11 := ho10.below0 hB11; have hBw11 := below_new hBw10 hB11; obtain ⟨p11, c11, rfl⟩ := hown11.at.shape; rw [HLN.out] at hown11 ⊢; obtain ⟨g', o', hpe, hnn, c11a, c11b⟩ := ho11.at.at HU.out; injection hpe with hpe; injection hpe with e4 e5; subst e4 e5; clear hnn ho10 hW10 c9a c9b hf9a hf9b z0 z1 hg11; dsimp only at c11a c11b; rw [Nat.zero_add] at c11a c11b))
        refine hj3.mono ?_
        rintro e w13 ⟨rfl, hB13⟩
        clear hj3
        have HB : Hid (Below w.heap.size w w13) := below_new hB12 hB13
        clear hB12 hB13 hBw11 hBw10 hBw6 hBw4
        go_wp2_with fail
        go_ret
        exact ⟨rfl, HB.out⟩
      · obtain ⟨q, rfl⟩ := Int.eq_ofNat_of_zero_le (show 0 ≤ f by omega)
        obtain ⟨j, hj⟩ : ∃ j, q % ln = j := ⟨_, rfl⟩
        have hjl : j < ln := by rw [← hj]; exact Nat.mod_lt _ (by omega)
        have hmod : Int.tmod (q : Int) (ln : Int) = (j : Int) := by rw [← hj]; rfl
        have hjli : (j : Int) < ln := by omega
        clear hj
        go_wp2_with (first
          | (go_at_call 31; refine hy1.mono ?_; rintro e w5 ⟨rfl, hB5⟩; clear hy1; have hy3 := hy2 _ hB5; clear hy2)
          | (go_at_call 31; refine hy3.mono ?_; rintro e w6 ⟨rfl, hB6⟩; clear hy3))
        have ho6 := ((ho4.below0 hB5).below0 hB6)
        have hBw6 := below_new (below_new hBw4 hB5) hB6
        obtain ⟨⟨u, s⟩, hu⟩ : ∃ x, L[j]? = some x := ⟨_, List.getElem?_eq_getElem (by rw [HLN.out]; exact hjl)⟩
        obtain ⟨g, cap, cur, hve, r1, r2, r3, r4, r5, r6⟩ := ho6.row (i := j) (by rw [HLN.out]; exact hjl)
        rw [HLN.out] at hve r3
        injection hve with e1 _ e3
        subst e1 e3
        obtain ⟨g', o', hpe, hnn, d0, d1⟩ := ho6.at.at hu
        injection hpe with hpe
        injection hpe with e4 e5
        subst e4 e5
        clear hnn r6
        dsimp only at d0 d1
        rw [Nat.zero_add] at d0 d1
        obtain ⟨hu0, hu1⟩ := hupp _ _ _ hu
        obtain ⟨W7, hW7⟩ : ∃ W7, w6.alloc (.cells #[.int .i64 u, .string s] 44) = W7 := ⟨_, rfl⟩
        obtain ⟨z, hz⟩ : ∃ z, w6.heap.size = z := ⟨_, rfl⟩
        have hZ : Holds W7 z 44 #[.int .i64 u, .string s] := by rw [← hW7, ← hz]; exact Holds.new _ _ _
        have hB7 : Below w6.heap.size w6 W7 := by rw [← hW7]; exact below_new1 _ _
        have e0 : W7.cell? ⟨z, 0, none⟩ = some (.int .i64 u) := hZ.cell 0
        have ho7 := ho6.below0 hB7
        have hG7 := below_holds hB7 r2
        have hgz : g < z := by rw [← hz]; exact r2.lt
        have hc7 : W7.cell? ⟨g, j * 2, none⟩ = some (.int .i64 u) := (hB7.cell (p := ⟨g, j * 2, none⟩) r2.lt).trans d0
        have hf7 := hG7.frozen (j * 2)
        have ho8 := ho7.putU hu (u - 1)
        have hG8 := hG7.set (j * 2) (.int .i64 (u - 1))
        have hZ8 : Holds (W7.setCell ⟨g, j * 2, none⟩ (.int .i64 (u - 1))) z 44 #[.int .i64 u, .string s] := ((Only.refl g W7).set (j * 2) (.int .i64 (u - 1))).holds hZ (by omega)
        have hBw8 : Below w.heap.size w (W7.setCell ⟨g, j * 2, none⟩ (.int .i64 (u - 1))) := Only.fresh (below_new hBw6 hB7) ((Only.refl g W7).set _ _) (by omega)
        have hj1 := hjoin_bad ho8.at (hbad1 u s (u - 1) hu (by omega)) (fun c hc => (List.mem_or_eq_of_mem_set hc).elim (hsz0 c) (fun e => by subst e; exact hsz0 (u, s) (List.mem_of_getElem? hu))) (by rw [List.length_set, HLN.out]; omega)
        have hsb : IntKind.i64.wrap (u - 1) = u - 1 := by rw [IntKind.wrap_i64]; omega
        generalize hW8 : W7.setCell ⟨g, j * 2, none⟩ (.int .i64 (u - 1)) = W8 at ho8 hG8 hZ8 hBw8 hj1
        clear hbad1 r2
        clear hB5 hB6
        go_wp2_with fail
        refine hj1.mono ?_
        rintro e w9 ⟨rfl, hB9⟩
        clear hj1 e0 hc7 hf7 hG7 ho7 hW8 hB7 hW7 hZ d0 d1
        have hG9 := below_holds hB9 hG8
        have hZ9 := below_holds hB9 hZ8
        have z0 : w9.cell? ⟨z, 0, none⟩ = some (.int .i64 u) := hZ9.cell 0
        have z1 : w9.cell? ⟨z, 1, none⟩ = some (.string s) := hZ9.cell 1
        have ho9 := ho8.below0 hB9
        have hu9 : (L.set j (u - 1, s))[j]? = some (u - 1, s) := List.getElem?_set_self (List.getElem?_eq_some_iff.1 hu).1
        obtain ⟨g', o', hpe, hnn, c9a, c9b⟩ := ho9.at.at hu9
        injection hpe with hpe
        injection hpe with e4 e5
        subst e4 e5
        clear hnn hu9
        dsimp only at c9a c9b
        rw [Nat.zero_add] at c9a c9b
        have hf9a := hG9.frozen (j * 2)
        have hf9b := hG9.frozen (j * 2 + 1)
        have ho10 := OwnChunks.putBack hu ho9
        have hBw10 : Below w.heap.size w ((w9.setCell ⟨g, j * 2, none⟩ (.int .i64 u)).setCell ⟨g, j * 2 + 1, none⟩ (.string s)) := Only.fresh (below_new hBw8 hB9) (((Only.refl g w9).set _ _).set _ _) r1
        generalize hW10 : (w9.setCell ⟨g, j * 2, none⟩ (.int .i64 u)).setCell ⟨g, j * 2 + 1, none⟩ (.string s) = W10 at ho10 hBw10
        clear ho8 ho9 hG8 hG9 hZ8 hZ9 hB9 hBw8
        have hz10 := hBw10.size
        have hj2 := fun W v (hv : ChunksAt W v (L ++ [(u, s)])) => hjoin_bad hv (hbad2 hu) (fun c hc => (List.mem_append.1 hc).elim (hsz0 c) (fun e => by rw [List.mem_singleton.1 e]; exact hsz0 (u, s) (List.mem_of_getElem? hu))) (by rw [List.length_append, HLN.out]; simp; omega)
        clear hbad2 hsz0
        have HU : Hid (L[j]? = some (u, s)) := hu
        have HLL : Hid ((L ++ [(u, s)]).length = ln + 1) := by show _ = _; rw [List.length_append, HLN.out]; rfl
        clear hu
        go_wp2_with (first
          | (at_builtin; refine wpList_append_ck rfl _ _ rfl rfl rfl (hown11.below0 (below_new1 w11 _)) (one_ck w11 u s) (by rw [HLN.out]; simp; omega) (by have := hBw11.size; simp; omega) ?_; intro v12 w12 hown12 hg12; have hB12 : Below w.heap.size w w12 := below_grownH (hBw11.trans ((below_new1 w11 (.cells #[.int .i64 u, .string s] 44)).mono hBw11.size)) hg12 hown11.new; have hj3 := hj2 w12 v12 hown12.at; obtain ⟨p12, c12, rfl⟩ := hown12.at.shape; rw [HLL.out] at hj3 ⊢; clear hj2 hg12 hown11 ho11 hB11 hown12 c11a c11b)
          | (at_builtin; refine wpList_append_ck rfl _ _ rfl rfl rfl (OwnChunks.nil W10 w.heap.size) ho10.at (by rw [HLN.out]; simp; omega) hz10 ?_; intro v11 w11 hown11 hg11; have hB11 := only_grown hg11; rw [List.nil_append] at hown11; have ho11 := ho10.below0 hB11; have hBw11 := below_new hBw10 hB11; obtain ⟨p11, c11, rfl⟩ := hown11.at.shape; rw [HLN.out] at hown11 ⊢; obtain ⟨g', o', hpe, hnn, c11a, c11b⟩ := ho11.at.at HU.out; injection hpe with hpe; injection hpe with e4 e5; subst e4 e5; clear hnn ho10 hW10 c9a c9b hf9a hf9b z0 z1 hg11; dsimp only at c11a c11b; rw [Nat.zero_add] at c11a c11b))
        refine hj3.mono ?_
        rintro e w13 ⟨rfl, hB13⟩
        clear hj3
        have HB : Hid (Below w.heap.size w w13) := below_new hB12 hB13
        clear hB12 hB13 hBw11 hBw10 hBw6 hBw4
        go_wp2_with fail
        go_ret
        exact ⟨rfl, HB.out⟩
end Go.Proofs.Ytdfpnpjdiebniaa
