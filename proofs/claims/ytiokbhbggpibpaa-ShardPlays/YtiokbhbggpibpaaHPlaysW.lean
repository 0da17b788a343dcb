/-
  ShardPlays' walk.
-/
import Derived.Test.YtiokbhbggpibpaaHGI
import Derived.Test.YtiokbhbggpibpaaHGK
import Derived.Test.YtiokbhbggpibpaaHGC
import Derived.Test.YtiokbhbggpibpaaBGE
namespace Go.Proofs.Ytiokbhbggpibpaa
open Go Go.RowKit

theorem underPSetP : Try.prog.underlying 29 = some (.pointer 62) := by kernel_rfl
set_option maxRecDepth 100000 in
theorem ptr_eqlP (p : Option Addr) (w : World) : (binOp .eql 29 (.pointer p) (.pointer none)).run Try.prog w = .ok (.bool p.isNone) w := run_eql_pointer_nil w _ _ underPSetP
theorem keep_cellH {w w' : World} {a : Addr} {v : Value} (hB : Below w.heap.size w w') (h : w.cell? a = some v) : w'.cell? a = some v := (hB.cell (World.block_lt_of_cell? w _ h)).trans h
theorem Hid.trans2 {w w1 w2 : World} (h : Below w.heap.size w w1) (h' : Below w1.heap.size w1 w2) : Hid (Below w.heap.size w w2) := below_new h h'
theorem card_ofN {l : List Nat} (h : Nums l) : card (ofN l) = l.length := by rw [card_len, h.mem]
theorem good_many {qs : List (List Nat)} (hg : Good qs) : qs.length ≤ qs.flatten.length := by
  have : ∀ l : List (List Nat), (∀ p ∈ l, 1 ≤ p.length) → l.length ≤ l.flatten.length := fun l => by
    induction l with
    | nil => simp
    | cons a l ih =>
      intro h
      have h1 := ih (fun p hp => h p (List.mem_cons_of_mem _ hp))
      have h2 := h a (List.mem_cons_self ..)
      rw [List.flatten_cons, List.length_append, List.length_cons]
      omega
  exact this qs fun p hp => (hg.parted.one p hp).1
theorem findA_shape (L : List Ck) (f : Int) : ∃ (x : Int) (b : Bool) (e : Int), findA L f = .tuple #[.int .i64 x, .bool b, .int .i64 e] := by
  have h : ∀ c k, ∃ (x : Int) (b : Bool) (e : Int), goA L f c k = .tuple #[.int .i64 x, .bool b, .int .i64 e] := by
    intro c
    induction c with
    | zero => exact fun k => ⟨_, _, _, rfl⟩
    | succ c ih =>
      intro k
      unfold goA
      split
      · exact ⟨_, _, _, rfl⟩
      · split
        · exact ⟨_, _, _, rfl⟩
        · split
          · exact ih _
          · exact ⟨_, _, _, rfl⟩
  unfold findA
  split
  · exact ⟨_, _, _, rfl⟩
  · exact h _ _
theorem whV_shape (o : Option Nat) : ∃ (x : Int) (b : Bool), whV o = .tuple #[.int .i64 x, .bool b] := by
  unfold whV
  cases o with
  | none => exact ⟨_, _, rfl⟩
  | some k => exact ⟨_, _, rfl⟩
/-- What Append and Cut tell: of the program and of the document alike. -/
def RowAns (w' : World) (K : List Ck) (er : Int) (e : Ending) : Prop := ∃ v, e = .returned (.tuple #[v, .int .i64 er]) ∧ ChunksAt w' v K
theorem app_both (L : List Ck) (n : Int) (hn1 : -9223372036854775808 ≤ n) (hn2 : n ≤ 9223372036854775807) (hl : L.length ≤ 20) (hsz : ∀ c ∈ L, c.2.size ≤ 600) :
    ∃ (K : List Ck) (er : Int), K.length ≤ 1000000 ∧ (∀ w v, ChunksAt w v L → Calls Try.prog 18 #[v, .int .i64 n] w fun e w' => RowAns w' K er e ∧ Below w.heap.size w w') ∧ (∀ w v, ChunksAt w v L → Calls Try.prog 19 #[v, .int .i64 n] w fun e w' => RowAns w' K er e ∧ Below w.heap.size w w') := by
  by_cases hg : ∃ ps, Good ps ∧ L = chk ps
  · obtain ⟨ps, hg, rfl⟩ := hg
    have hpl : ps.length ≤ 20 := by rw [chk_len] at hl; exact hl
    by_cases hok : (0 ≤ n ∧ n ≤ 2147483647) ∧ ∀ x ∈ ps.flatten, (x : Int) < n
    · obtain ⟨m, rfl⟩ : ∃ m : Nat, n = (m : Int) := ⟨n.toNat, by omega⟩
      have hm : m < 2147483648 := by omega
      have ha : ∀ x ∈ ps.flatten, x < m := fun x hx => by have := hok.2 x hx; omega
      have hnum := nums_more hg.nums hm ha
      obtain ⟨K, hK⟩ : ∃ K, SplitOf (ps.flatten ++ [m]) K := ⟨_, docC_all (m := ps.flatten ++ [m]) (fun h => by
        unfold cnt64 at h
        rw [List.length_append, List.length_singleton] at h
        omega)⟩
      have hKl : K.length ≤ 1000000 := by
        obtain ⟨qs, h1, h2, h3⟩ := hK
        have h4 := good_many (hg := ⟨h1, by rw [h2]; exact hnum⟩)
        rw [h2, List.length_append, List.length_singleton] at h4
        have := good_len hg hpl
        rw [h3, chk_len]
        omega
      refine ⟨K, 0, hKl, fun w v hv => (happend_ok hv hg (by omega) hm ha).mono ?_, fun w v hv => (qappend_ok hv hg hpl hsz hm ha).mono ?_⟩
      · rintro e w' ⟨v', L', rfl, hL', ho, hB⟩
        rw [hL'.uniq hK] at ho
        exact ⟨⟨v', rfl, ho.at⟩, hB⟩
      · rintro e w' ⟨v', L', rfl, hL', ho, hB⟩
        rw [hL'.uniq hK] at ho
        exact ⟨⟨v', rfl, ho.at⟩, hB⟩
    · refine ⟨[], 1, by simp, fun w v hv => (happend_arg hv hg (by omega) hn2 hok).mono ?_, fun w v hv => (qappend_arg hv hg hpl hsz hok).mono ?_⟩
      · rintro e w' ⟨rfl, hB⟩
        exact ⟨⟨_, rfl, .inl ⟨rfl, none, 0, rfl⟩⟩, hB⟩
      · rintro e w' ⟨rfl, hB⟩
        exact ⟨⟨_, rfl, .inl ⟨rfl, none, 0, rfl⟩⟩, hB⟩
  · have hno : ∀ ps, Good ps → L ≠ chk ps := fun ps h e => hg ⟨ps, h, e⟩
    refine ⟨[], 10, by simp, fun w v hv => (happend_bad hv hno (fun c hc => by have := hsz c hc; omega) (by omega) n).mono ?_, fun w v hv => (qappend_bad hv hno hl hsz n).mono ?_⟩
    · rintro e w' ⟨rfl, hB⟩
      exact ⟨⟨_, rfl, .inl ⟨rfl, none, 0, rfl⟩⟩, hB⟩
    · rintro e w' ⟨rfl, hB⟩
      exact ⟨⟨_, rfl, .inl ⟨rfl, none, 0, rfl⟩⟩, hB⟩
theorem cut_both (L : List Ck) (f : Int) (hf : f ≤ 9223372036854775807) (hl : L.length ≤ 20) (hsz : ∀ c ∈ L, c.2.size ≤ 600) :
    ∃ (K : List Ck) (er : Int), K.length ≤ 1000000 ∧ (∀ w v, ChunksAt w v L → Calls Try.prog 20 #[v, .int .i64 f] w fun e w' => RowAns w' K er e ∧ Below w.heap.size w w') ∧ (∀ w v, ChunksAt w v L → Calls Try.prog 21 #[v, .int .i64 f] w fun e w' => RowAns w' K er e ∧ Below w.heap.size w w') := by
  by_cases hg : ∃ ps, Good ps ∧ L = chk ps
  · obtain ⟨ps, hg, rfl⟩ := hg
    have hpl : ps.length ≤ 20 := by rw [chk_len] at hl; exact hl
    have hnum : Nums (lessF f ps.flatten) := hg.nums.sub (lessF_sub _ _)
    obtain ⟨K, hK⟩ : ∃ K, SplitOf (lessF f ps.flatten) K := ⟨_, docC_all (m := lessF f ps.flatten) (fun h => by
      unfold cnt64 at h
      exact List.eq_nil_of_length_eq_zero (by omega))⟩
    have hKl : K.length ≤ 1000000 := by
      obtain ⟨qs, h1, h2, h3⟩ := hK
      have h4 := good_many (hg := ⟨h1, by rw [h2]; exact hnum⟩)
      rw [h2] at h4
      have := good_len hg hpl
      have := (lessF_sub f ps.flatten).length_le
      rw [h3, chk_len]
      omega
    refine ⟨K, 0, hKl, fun w v hv => (hcut_ok hv hg (by omega) f hf).mono ?_, fun w v hv => (qcut_ok hv hg hpl hsz f).mono ?_⟩
    · rintro e w' ⟨v', L', rfl, hL', ho, hB⟩
      rw [hL'.uniq hK] at ho
      exact ⟨⟨v', rfl, ho.at⟩, hB⟩
    · rintro e w' ⟨v', L', rfl, hL', ho, hB⟩
      rw [hL'.uniq hK] at ho
      exact ⟨⟨v', rfl, ho.at⟩, hB⟩
  · have hno : ∀ ps, Good ps → L ≠ chk ps := fun ps h e => hg ⟨ps, h, e⟩
    refine ⟨[], 10, by simp, fun w v hv => (hcut_bad hv hno (fun c hc => by have := hsz c hc; omega) (by omega) f).mono ?_, fun w v hv => (qcut_bad hv hno hl hsz f).mono ?_⟩
    · rintro e w' ⟨rfl, hB⟩
      exact ⟨⟨_, rfl, .inl ⟨rfl, none, 0, rfl⟩⟩, hB⟩
    · rintro e w' ⟨rfl, hB⟩
      exact ⟨⟨_, rfl, .inl ⟨rfl, none, 0, rfl⟩⟩, hB⟩
set_option maxRecDepth 100000 in
set_option maxHeartbeats 8000000 in
theorem plays_walk {w : World} {p : Option Addr} {n c : Nat} {l : List Int} (hx : IntsAt w (.slice p n c) l) (hn : n = l.length) (hnc : n ≤ c) (hc : c ≤ 9223372036854775807) (hr : ∀ x ∈ l, -9223372036854775808 ≤ x ∧ x ≤ 9223372036854775807)
    {vr : Value} {Lr : List Ck} (hvr : ChunksAt w vr Lr) (a b : Int) (ha : -9223372036854775808 ≤ a ∧ a ≤ 9223372036854775807) (hb : -9223372036854775808 ≤ b ∧ b ≤ 9223372036854775807) :
    Calls Try.prog 3 #[.slice p n c, vr, .agg #[.int .i64 a, .int .i64 b]] w fun e w' => e = .returned (.bool true) ∧ Below w.heap.size w w' := by
  have hnot := run_notH
  have hptr := ptr_eqlP
  have hni : (n : Int) ≤ 9223372036854775807 := by omega
  have HNL : Hid (n = l.length) := hn
  obtain ⟨pr, cr, rfl⟩ := hvr.shape
  obtain ⟨nr, hnr⟩ : ∃ nr, Lr.length = nr := ⟨_, rfl⟩
  have HNR : Hid (Lr.length = nr) := hnr
  rw [hnr] at hvr ⊢
  obtain ⟨W0, hW0⟩ : ∃ W0, w.alloc (.cells #[.int .i64 a, .int .i64 b] 24) = W0 := ⟨_, rfl⟩
  obtain ⟨g5, hg5⟩ : ∃ g5, w.heap.size = g5 := ⟨_, rfl⟩
  have hh0 := Holds.new w 24 #[.int .i64 a, .int .i64 b]
  have hB0 : Below w.heap.size w W0 := by rw [← hW0]; exact below_new1 _ _
  rw [hW0, hg5] at hh0
  clear hn hnr
  go_enter Try.func3, Try.ntmps3
  go_wp2_with fail
  refine (awake6_any _).mono ?_
  rintro e w1 ⟨rfl, hB1⟩
  have hBw1 := below_new hB0 hB1
  replace hh0 := below_holds hB1 hh0
  have a0 : w1.cell? ⟨g5, 0, none⟩ = some (.int .i64 a) := hh0.cell 0
  have a1 : w1.cell? ⟨g5, 1, none⟩ = some (.int .i64 b) := hh0.cell 1
  have hx1 := hx.below hBw1
  have hvr1 := hvr.below hBw1
  have HBw : Hid (Below w.heap.size w w1) := hBw1
  clear hx hvr hB0 hB1 hh0 hBw1 hW0 hg5
  by_cases h400 : 400 < n
  · have h4i : (400 : Int) < n := by omega
    have hsl0 := ints_to p (n := n) 400 (by omega : 400 ≤ c)
    have hsl : ∀ w, (Instr.sliceAt 22 (.slice p n c) none (some (.int .i64 400)) none).run Try.prog w = .ok (.slice p 400 c) w := hsl0
    have hI := hx1.takeH 400 (by have := HNL.out; omega)
    have hIl : (l.take 400).length ≤ 400 := by rw [List.length_take]; omega
    have hIr : ∀ x ∈ l.take 400, x ≤ 9223372036854775807 := fun x h => (hr x (List.mem_of_mem_take h)).2
    generalize l.take 400 = l' at hI hIl hIr
    clear hx1 hr hsl0
    as_aux_lemma =>
      have hof := qof_any hI (by omega)
      go_wp2_with fail
      refine hof.mono ?_
      rintro e w2 ⟨v2, rfl, ho2, hB2⟩
      obtain ⟨p2, c2, rfl, hc2, hI2⟩ := own_split ho2
      have hnw := new_any (hI.below hB2) hIr (by omega)
      have hcar := Nat.le_trans (ints_card l') hIl
      have hnum := nums_of (ofInts_bound l')
      clear hof ho2
      replace a0 := keep_cellH hB2 a0
      replace a1 := keep_cellH hB2 a1
      replace hvr1 := hvr1.below hB2
      replace HBw := Hid.trans2 HBw.out hB2
      go_wp2_with fail
      refine hnw.mono ?_
      rintro e w3 ⟨b3, rfl, mo3, hs3, hb3, hm3, hB3⟩
      have hsp := hsplit_any hs3.view (by omega)
      have hI3 := hI2.below hB3
      generalize memFrom (ofInts l') 0 = m at hcar hnum hsp hI3 hc2
      clear hnw hI2 hs3 hb3 hm3
      replace a0 := keep_cellH hB3 a0
      replace a1 := keep_cellH hB3 a1
      replace hvr1 := hvr1.below hB3
      replace HBw := Hid.trans2 HBw.out hB3
      obtain ⟨lm, hlm⟩ : ∃ lm, m.length = lm := ⟨_, rfl⟩
      have HLM : Hid (m.length = lm) := hlm
      rw [hlm] at hcar hI3 hc2 ⊢
      go_wp2_with fail
      refine hsp.mono ?_
      rintro e w4 ⟨v4, L4, rfl, hL4, ho4, hB4⟩
      have hqs := qsplit_any (hI3.below hB4) HLM.out hc2 hnum (by omega)
      obtain ⟨p4, c4, rfl⟩ := ho4.at.shape
      have hl4 : L4.length ≤ 1000 := split_len hL4 (by have := HLM.out; omega)
      have HC4 : Hid (ChunksAt w4 (.slice p4 L4.length c4) L4) := ho4.at
      have HL4 : Hid (SplitOf m L4) := hL4
      obtain ⟨n4, hn4⟩ : ∃ n4, L4.length = n4 := ⟨_, rfl⟩
      have HN4 : Hid (L4.length = n4) := hn4
      rw [hn4] at HC4 hl4 ⊢
      clear hsp ho4 hL4 hI3 hn4
      replace a0 := keep_cellH hB4 a0
      replace a1 := keep_cellH hB4 a1
      replace hvr1 := hvr1.below hB4
      replace HBw := Hid.trans2 HBw.out hB4
      go_wp2_with fail
      refine hqs.mono ?_
      rintro e w5 ⟨v5, L5, rfl, hL5, ho5, hB5⟩
      obtain rfl := hL5.uniq HL4.out
      have hsm := qsame_eq (HC4.out.below hB5) ho5.at (by have := HN4.out; omega)
      obtain ⟨p5, c5, rfl⟩ := ho5.at.shape
      rw [HN4.out] at hsm ⊢
      clear hqs hL5 ho5 HC4 HL4 hnum hc2
      replace a0 := keep_cellH hB5 a0
      replace a1 := keep_cellH hB5 a1
      replace hvr1 := hvr1.below hB5
      replace HBw := Hid.trans2 HBw.out hB5
      go_wp2_with fail
      refine hsm.mono ?_
      rintro e w6 ⟨rfl, hB6⟩
      clear hsm HN4
      replace a0 := keep_cellH hB6 a0
      replace a1 := keep_cellH hB6 a1
      replace hvr1 := hvr1.below hB6
      replace HBw := Hid.trans2 HBw.out hB6
      have hmd := made_any hvr1 HNR.out
      go_wp2_with fail
      refine hmd.mono ?_
      rintro e w7 ⟨v7, rfl, K, ho7, hK20, hK6, hB7⟩
      obtain ⟨p7, c7, rfl⟩ := ho7.at.shape
      have hKat := ho7.at
      clear hmd ho7
      replace a0 := keep_cellH hB7 a0
      replace a1 := keep_cellH hB7 a1
      replace hvr1 := hvr1.below hB7
      replace HBw := Hid.trans2 HBw.out hB7
      obtain ⟨K1, e1, hK1l, happ1, happ2⟩ := app_both K a ha.1 ha.2 hK20 hK6
      obtain ⟨K2, e2, hK2l, hcut1, hcut2⟩ := cut_both K b hb.2 hK20 hK6
      have hfd1 := fun w v (h : ChunksAt w v K) => hfind_any h (by omega) (fun c hc => by have := hK6 c hc; omega) a ha.2
      have hfd2 := fun w v (h : ChunksAt w v K) => qfind_any h (by omega) hK6 a
      obtain ⟨fx, fb, fe, hfe⟩ := findA_shape K a
      rw [hfe] at hfd1 hfd2
      obtain ⟨nk, hnk⟩ : ∃ nk, K.length = nk := ⟨_, rfl⟩
      have HNK : Hid (K.length = nk) := hnk
      obtain ⟨n1, hn1⟩ : ∃ n1, K1.length = n1 := ⟨_, rfl⟩
      obtain ⟨n2, hn2⟩ : ∃ n2, K2.length = n2 := ⟨_, rfl⟩
      have HK6 : Hid (K.length ≤ 20 ∧ ∀ c ∈ K, c.2.size ≤ 600) := ⟨hK20, hK6⟩
      have HK12 : Hid ((K1.length = n1 ∧ K1.length ≤ 1000000) ∧ K2.length = n2 ∧ K2.length ≤ 1000000) := ⟨⟨hn1, hK1l⟩, hn2, hK2l⟩
      rw [hnk] at hKat hK20 ⊢
      clear hfe hnk hn1 hn2 hvr1 hK6 hK1l hK2l
      have hnki : (nk : Int) ≤ 20 := by omega
      by_cases hgd : ∃ ps, Good ps ∧ K = chk ps
      · obtain ⟨ps, hgd, hKe⟩ := hgd
        subst hKe
        have hpl : ps.length ≤ 20 := by have := HK6.out.1; rw [chk_len] at this; exact this
        have hj1 := hjoin_ok hKat hgd (by omega)
        have hj2 := fun w v (h : ChunksAt w v (chk ps)) => qjoin_ok h hgd hpl HK6.out.2
        obtain ⟨lf, hlf⟩ : ∃ lf, ps.flatten.length = lf := ⟨_, rfl⟩
        have HLF : Hid (ps.flatten.length = lf ∧ card (ofN ps.flatten) = lf) := ⟨hlf, by rw [card_ofN hgd.nums]; exact hlf⟩
        clear hgd hpl hlf
        generalize chk ps = K at *
        go_wp2_with fail
        refine hj1.mono ?_
        rintro e w8 ⟨b8, mo8, rfl, hs8, _, _, hB8⟩
        clear hj1
        replace a0 := keep_cellH hB8 a0
        replace a1 := keep_cellH hB8 a1
        replace hKat := hKat.below hB8
        replace HBw := Hid.trans2 HBw.out hB8
        go_wp2_with fail
        refine (hj2 _ _ hKat).mono ?_
        rintro e w9 ⟨u9, rfl, ho9, hB9⟩
        obtain ⟨p9, c9, rfl, _⟩ := ho9.intsAt
        rw [HLF.out.1]
        replace hs8 := hs8.below hB9
        clear hj2 ho9
        replace a0 := keep_cellH hB9 a0
        replace a1 := keep_cellH hB9 a1
        replace hKat := hKat.below hB9
        replace HBw := Hid.trans2 HBw.out hB9
        go_wp2_with fail
        refine (happ1 _ _ hKat).mono ?_
        rintro e w10 ⟨⟨v10, rfl, hc10⟩, hB10⟩
        obtain ⟨p10, c10, rfl⟩ := hc10.shape
        rw [HK12.out.1.1] at hc10 ⊢
        clear happ1
        replace hs8 := hs8.below hB10
        replace a0 := keep_cellH hB10 a0
        replace a1 := keep_cellH hB10 a1
        replace hKat := hKat.below hB10
        replace HBw := Hid.trans2 HBw.out hB10
        go_wp2_with fail
        refine (happ2 _ _ hKat).mono ?_
        rintro e w11 ⟨⟨v11, rfl, hc11⟩, hB11⟩
        obtain ⟨p11, c11, rfl⟩ := hc11.shape
        rw [HK12.out.1.1] at hc11 ⊢
        replace hc10 := hc10.below hB11
        clear happ2
        replace hs8 := hs8.below hB11
        replace a0 := keep_cellH hB11 a0
        replace a1 := keep_cellH hB11 a1
        replace hKat := hKat.below hB11
        replace HBw := Hid.trans2 HBw.out hB11
        go_wp2_with fail
        refine (hcut1 _ _ hKat).mono ?_
        rintro e w12 ⟨⟨v12, rfl, hc12⟩, hB12⟩
        obtain ⟨p12, c12, rfl⟩ := hc12.shape
        rw [HK12.out.2.1] at hc12 ⊢
        replace hc10 := hc10.below hB12
        replace hc11 := hc11.below hB12
        clear hcut1
        replace hs8 := hs8.below hB12
        replace a0 := keep_cellH hB12 a0
        replace a1 := keep_cellH hB12 a1
        replace hKat := hKat.below hB12
        replace HBw := Hid.trans2 HBw.out hB12
        go_wp2_with fail
        refine (hcut2 _ _ hKat).mono ?_
        rintro e w13 ⟨⟨v13, rfl, hc13⟩, hB13⟩
        obtain ⟨p13, c13, rfl⟩ := hc13.shape
        rw [HK12.out.2.1] at hc13 ⊢
        replace hc10 := hc10.below hB13
        replace hc11 := hc11.below hB13
        replace hc12 := hc12.below hB13
        clear hcut2
        replace hs8 := hs8.below hB13
        replace a0 := keep_cellH hB13 a0
        replace a1 := keep_cellH hB13 a1
        replace hKat := hKat.below hB13
        replace HBw := Hid.trans2 HBw.out hB13
        go_wp2_with fail
        refine (hfd1 _ _ hKat).mono ?_
        rintro e w14 ⟨rfl, hB14⟩
        replace hc10 := hc10.below hB14
        replace hc11 := hc11.below hB14
        replace hc12 := hc12.below hB14
        replace hc13 := hc13.below hB14
        clear hfd1
        replace hs8 := hs8.below hB14
        replace a0 := keep_cellH hB14 a0
        replace a1 := keep_cellH hB14 a1
        replace hKat := hKat.below hB14
        replace HBw := Hid.trans2 HBw.out hB14
        go_wp2_with fail
        refine (hfd2 _ _ hKat).mono ?_
        rintro e w15 ⟨rfl, hB15⟩
        replace hc12 := hc12.below hB15
        replace hc13 := hc13.below hB15
        have hs1 := qsame_eq (hc10.below hB15) (hc11.below hB15) HK12.out.1.2
        clear hfd2 hc10 hc11
        replace hs8 := hs8.below hB15
        replace a0 := keep_cellH hB15 a0
        replace a1 := keep_cellH hB15 a1
        replace hKat := hKat.below hB15
        replace HBw := Hid.trans2 HBw.out hB15
        go_wp2_with fail
        refine hs1.mono ?_
        rintro e w16 ⟨rfl, hB16⟩
        have hs2 := qsame_eq (hc12.below hB16) (hc13.below hB16) HK12.out.2.2
        clear hs1 hc12 hc13
        replace hs8 := hs8.below hB16
        replace a0 := keep_cellH hB16 a0
        replace a1 := keep_cellH hB16 a1
        replace hKat := hKat.below hB16
        replace HBw := Hid.trans2 HBw.out hB16
        go_wp2_with fail
        refine hs2.mono ?_
        rintro e w17 ⟨rfl, hB17⟩
        clear hs2
        replace hs8 := hs8.below hB17
        replace a0 := keep_cellH hB17 a0
        replace a1 := keep_cellH hB17 a1
        replace hKat := hKat.below hB17
        replace HBw := Hid.trans2 HBw.out hB17
        have q1 : (e1 != e1) = false := by simp
        have q2 : (e2 != e2) = false := by simp
        have q3 : (fx != fx) = false := by simp
        have q4 : (fb != fb) = false := by simp
        have q5 : (fe != fe) = false := by simp
        have hln := len_any hs8.view
        rw [HLF.out.2] at hln
        have hlfl : ((lf : Int) != (lf : Int)) = false := by simp
        clear hs8
        go_wp2_with fail
        refine hln.mono ?_
        rintro e w18 ⟨rfl, hB18⟩
        clear hln
        replace a0 := keep_cellH hB18 a0
        replace a1 := keep_cellH hB18 a1
        replace hKat := hKat.below hB18
        replace HBw := Hid.trans2 HBw.out hB18
        go_wp2_with fail
        clear q1 q2 q3 q4 q5
        have HKA : Hid (ChunksAt w18 (.slice p7 nk c7) K) := hKat
        clear hKat
        go_loopw [31, 32] (fun x y wr => ∃ i : Nat, y = .int .i64 (i : Nat) ∧ i ≤ nk ∧ OwnI wr w18.heap.size x ((K.take i).map (·.1)) ∧ Below w18.heap.size w18 wr) (fun _ y _ => nk - (intOf y).toNat)
        case atStart => exact ⟨0, rfl, Nat.zero_le _, OwnI.nil _ _, Below.refl _ _⟩
        case round =>
          obtain ⟨i, rfl, hi, hox, hBr⟩ := hrel
          by_cases hil : i < nk
          · have hii : (i : Int) < nk := by omega
            have hi0 : (0 : Int) ≤ i := by omega
            obtain ⟨⟨u, s⟩, hu⟩ : ∃ x, K[i]? = some x := ⟨_, List.getElem?_eq_getElem (by rw [HNK.out]; exact hil)⟩
            obtain ⟨g, o, rfl, hnn, d0, d1⟩ := (HKA.out.below hBr).at hu
            clear hnn
            dsimp only at d0 d1
            have HT : Hid ((K.take (i + 1)).map (·.1) = (K.take i).map (·.1) ++ [u]) := by show _ = _; rw [List.take_add_one, hu, List.map_append]; rfl
            have hxl : ((K.take i).map (·.1)).length ≤ 1000000 := by rw [List.length_map, List.length_take]; omega
            obtain ⟨px, cx, rfl⟩ := hox.at.lenH
            generalize (K.take i).map (·.1) = us at hox HT hxl
            have hoxa := fun z => OwnI.below hox (below_new1 wr z)
            have hnew : ∀ k, (Value.slice px us.length cx).ownBlock = some k → w18.heap.size ≤ k := fun k hk => (hox.lt k hk).1
            have hszr := hBr.size
            go_wp2_with (at_builtin; refine wpList_append_one rfl _ _ rfl rfl rfl (hoxa _) ((Holds.new wr 3 #[.int .i64 u]).cell 0) hxl (by simp; omega) ?_; intro v20 w20 hown20 hg20)
            have hg20' : (wr.alloc (.cells #[.int .i64 u] 3)).grownBy w20 (Value.slice px us.length cx).ownBlock := hg20
            have F5 : Hid (OwnI w20 w18.heap.size v20 ((K.take (i + 1)).map (·.1)) ∧ Below w18.heap.size w18 w20) := ⟨by rw [HT.out]; exact hown20, below_grownI hBr hg20' hnew⟩
            exact ⟨⟨i + 1, by go_num, by omega, F5.out⟩, by simp [intOf]; omega⟩
          · have hii : ¬ (i : Int) < nk := by omega
            rw [List.take_of_length_le (by have := HNK.out; omega)] at hox
            have hul : (K.map (·.1)).length ≤ 1000000 := by rw [List.length_map]; have := HNK.out; omega
            have hw1 := which_any hox.at hul b
            have hw2 := qwhich_any hox.at hul b
            obtain ⟨wx, wb, hwv⟩ := whV_shape (which (K.map (·.1)) b)
            rw [hwv] at hw1 hw2
            obtain ⟨px, cx, rfl⟩ := hox.at.lenH
            generalize (K.map (·.1)).length = ul at hw1 hw2 ⊢
            replace a1 := keep_cellH hBr a1
            have HBe : Hid (Below w.heap.size w wr) := below_new HBw.out hBr
            have q6 : (wx == wx) = true := by simp
            have q7 : (wb == wb) = true := by simp
            clear hul hox hBr hwv
            go_wp2_with fail
            refine hw1.mono ?_
            rintro e w21 ⟨rfl, hw21⟩
            have hw21' := hw21.symm
            clear hw21 hw1
            subst hw21'
            go_wp2_with fail
            refine hw2.mono ?_
            rintro e w22 ⟨rfl, hw22⟩
            have hw22' := hw22.symm
            clear hw22 hw2
            subst hw22'
            go_wp2_with fail
            go_ret
            exact ⟨rfl, HBe.out⟩
      · have hno : ∀ ps, Good ps → K ≠ chk ps := fun ps h e => hgd ⟨ps, h, e⟩
        have hj1 := hjoin_bad hKat hno (fun c hc => by have := HK6.out.2 c hc; omega) (by have := HK6.out.1; omega)
        have hj2 := fun w v (h : ChunksAt w v K) => qjoin_bad h hno HK6.out.1 HK6.out.2
        clear hgd hno
        go_wp2_with fail
        refine hj1.mono ?_
        rintro e w8 ⟨rfl, hB8⟩
        clear hj1
        replace a0 := keep_cellH hB8 a0
        replace a1 := keep_cellH hB8 a1
        replace hKat := hKat.below hB8
        replace HBw := Hid.trans2 HBw.out hB8
        go_wp2_with fail
        refine (hj2 _ _ hKat).mono ?_
        rintro e w9 ⟨rfl, hB9⟩
        clear hj2
        replace a0 := keep_cellH hB9 a0
        replace a1 := keep_cellH hB9 a1
        replace hKat := hKat.below hB9
        replace HBw := Hid.trans2 HBw.out hB9
        go_wp2_with fail
        refine (happ1 _ _ hKat).mono ?_
        rintro e w10 ⟨⟨v10, rfl, hc10⟩, hB10⟩
        obtain ⟨p10, c10, rfl⟩ := hc10.shape
        rw [HK12.out.1.1] at hc10 ⊢
        clear happ1
        replace a0 := keep_cellH hB10 a0
        replace a1 := keep_cellH hB10 a1
        replace hKat := hKat.below hB10
        replace HBw := Hid.trans2 HBw.out hB10
        go_wp2_with fail
        refine (happ2 _ _ hKat).mono ?_
        rintro e w11 ⟨⟨v11, rfl, hc11⟩, hB11⟩
        obtain ⟨p11, c11, rfl⟩ := hc11.shape
        rw [HK12.out.1.1] at hc11 ⊢
        replace hc10 := hc10.below hB11
        clear happ2
        replace a0 := keep_cellH hB11 a0
        replace a1 := keep_cellH hB11 a1
        replace hKat := hKat.below hB11
        replace HBw := Hid.trans2 HBw.out hB11
        go_wp2_with fail
        refine (hcut1 _ _ hKat).mono ?_
        rintro e w12 ⟨⟨v12, rfl, hc12⟩, hB12⟩
        obtain ⟨p12, c12, rfl⟩ := hc12.shape
        rw [HK12.out.2.1] at hc12 ⊢
        replace hc10 := hc10.below hB12
        replace hc11 := hc11.below hB12
        clear hcut1
        replace a0 := keep_cellH hB12 a0
        replace a1 := keep_cellH hB12 a1
        replace hKat := hKat.below hB12
        replace HBw := Hid.trans2 HBw.out hB12
        go_wp2_with fail
        refine (hcut2 _ _ hKat).mono ?_
        rintro e w13 ⟨⟨v13, rfl, hc13⟩, hB13⟩
        obtain ⟨p13, c13, rfl⟩ := hc13.shape
        rw [HK12.out.2.1] at hc13 ⊢
        replace hc10 := hc10.below hB13
        replace hc11 := hc11.below hB13
        replace hc12 := hc12.below hB13
        clear hcut2
        replace a0 := keep_cellH hB13 a0
        replace a1 := keep_cellH hB13 a1
        replace hKat := hKat.below hB13
        replace HBw := Hid.trans2 HBw.out hB13
        go_wp2_with fail
        refine (hfd1 _ _ hKat).mono ?_
        rintro e w14 ⟨rfl, hB14⟩
        replace hc10 := hc10.below hB14
        replace hc11 := hc11.below hB14
        replace hc12 := hc12.below hB14
        replace hc13 := hc13.below hB14
        clear hfd1
        replace a0 := keep_cellH hB14 a0
        replace a1 := keep_cellH hB14 a1
        replace hKat := hKat.below hB14
        replace HBw := Hid.trans2 HBw.out hB14
        go_wp2_with fail
        refine (hfd2 _ _ hKat).mono ?_
        rintro e w15 ⟨rfl, hB15⟩
        replace hc12 := hc12.below hB15
        replace hc13 := hc13.below hB15
        have hs1 := qsame_eq (hc10.below hB15) (hc11.below hB15) HK12.out.1.2
        clear hfd2 hc10 hc11
        replace a0 := keep_cellH hB15 a0
        replace a1 := keep_cellH hB15 a1
        replace hKat := hKat.below hB15
        replace HBw := Hid.trans2 HBw.out hB15
        go_wp2_with fail
        refine hs1.mono ?_
        rintro e w16 ⟨rfl, hB16⟩
        have hs2 := qsame_eq (hc12.below hB16) (hc13.below hB16) HK12.out.2.2
        clear hs1 hc12 hc13
        replace a0 := keep_cellH hB16 a0
        replace a1 := keep_cellH hB16 a1
        replace hKat := hKat.below hB16
        replace HBw := Hid.trans2 HBw.out hB16
        go_wp2_with fail
        refine hs2.mono ?_
        rintro e w17 ⟨rfl, hB17⟩
        clear hs2
        replace a0 := keep_cellH hB17 a0
        replace a1 := keep_cellH hB17 a1
        replace hKat := hKat.below hB17
        replace HBw := Hid.trans2 HBw.out hB17
        have q1 : (e1 != e1) = false := by simp
        have q2 : (e2 != e2) = false := by simp
        have q3 : (fx != fx) = false := by simp
        have q4 : (fb != fb) = false := by simp
        have q5 : (fe != fe) = false := by simp
        go_wp2_with fail
        clear q1 q2 q3 q4 q5
        have HKA : Hid (ChunksAt w17 (.slice p7 nk c7) K) := hKat
        clear hKat
        go_loopw [31, 32] (fun x y wr => ∃ i : Nat, y = .int .i64 (i : Nat) ∧ i ≤ nk ∧ OwnI wr w17.heap.size x ((K.take i).map (·.1)) ∧ Below w17.heap.size w17 wr) (fun _ y _ => nk - (intOf y).toNat)
        case atStart => exact ⟨0, rfl, Nat.zero_le _, OwnI.nil _ _, Below.refl _ _⟩
        case round =>
          obtain ⟨i, rfl, hi, hox, hBr⟩ := hrel
          by_cases hil : i < nk
          · have hii : (i : Int) < nk := by omega
            have hi0 : (0 : Int) ≤ i := by omega
            obtain ⟨⟨u, s⟩, hu⟩ : ∃ x, K[i]? = some x := ⟨_, List.getElem?_eq_getElem (by rw [HNK.out]; exact hil)⟩
            obtain ⟨g, o, rfl, hnn, d0, d1⟩ := (HKA.out.below hBr).at hu
            clear hnn
            dsimp only at d0 d1
            have HT : Hid ((K.take (i + 1)).map (·.1) = (K.take i).map (·.1) ++ [u]) := by show _ = _; rw [List.take_add_one, hu, List.map_append]; rfl
            have hxl : ((K.take i).map (·.1)).length ≤ 1000000 := by rw [List.length_map, List.length_take]; omega
            obtain ⟨px, cx, rfl⟩ := hox.at.lenH
            generalize (K.take i).map (·.1) = us at hox HT hxl
            have hoxa := fun z => OwnI.below hox (below_new1 wr z)
            have hnew : ∀ k, (Value.slice px us.length cx).ownBlock = some k → w17.heap.size ≤ k := fun k hk => (hox.lt k hk).1
            have hszr := hBr.size
            go_wp2_with (at_builtin; refine wpList_append_one rfl _ _ rfl rfl rfl (hoxa _) ((Holds.new wr 3 #[.int .i64 u]).cell 0) hxl (by simp; omega) ?_; intro v20 w20 hown20 hg20)
            have hg20' : (wr.alloc (.cells #[.int .i64 u] 3)).grownBy w20 (Value.slice px us.length cx).ownBlock := hg20
            have F5 : Hid (OwnI w20 w17.heap.size v20 ((K.take (i + 1)).map (·.1)) ∧ Below w17.heap.size w17 w20) := ⟨by rw [HT.out]; exact hown20, below_grownI hBr hg20' hnew⟩
            exact ⟨⟨i + 1, by go_num, by omega, F5.out⟩, by simp [intOf]; omega⟩
          · have hii : ¬ (i : Int) < nk := by omega
            rw [List.take_of_length_le (by have := HNK.out; omega)] at hox
            have hul : (K.map (·.1)).length ≤ 1000000 := by rw [List.length_map]; have := HNK.out; omega
            have hw1 := which_any hox.at hul b
            have hw2 := qwhich_any hox.at hul b
            obtain ⟨wx, wb, hwv⟩ := whV_shape (which (K.map (·.1)) b)
            rw [hwv] at hw1 hw2
            obtain ⟨px, cx, rfl⟩ := hox.at.lenH
            generalize (K.map (·.1)).length = ul at hw1 hw2 ⊢
            replace a1 := keep_cellH hBr a1
            have HBe : Hid (Below w.heap.size w wr) := below_new HBw.out hBr
            have q6 : (wx == wx) = true := by simp
            have q7 : (wb == wb) = true := by simp
            clear hul hox hBr hwv
            go_wp2_with fail
            refine hw1.mono ?_
            rintro e w21 ⟨rfl, hw21⟩
            have hw21' := hw21.symm
            clear hw21 hw1
            subst hw21'
            go_wp2_with fail
            refine hw2.mono ?_
            rintro e w22 ⟨rfl, hw22⟩
            have hw22' := hw22.symm
            clear hw22 hw2
            subst hw22'
            go_wp2_with fail
            go_ret
            exact ⟨rfl, HBe.out⟩
  · have h4i : ¬ (400 : Int) < n := by omega
    have hI := hx1
    have hIl : l.length ≤ 400 := by have := HNL.out; omega
    have hIr : ∀ x ∈ l, x ≤ 9223372036854775807 := fun x h => (hr x h).2
    generalize l = l' at hI hIl hIr
    clear hx1 hr
    as_aux_lemma =>
      have hof := qof_any hI (by omega)
      go_wp2_with fail
      refine hof.mono ?_
      rintro e w2 ⟨v2, rfl, ho2, hB2⟩
      obtain ⟨p2, c2, rfl, hc2, hI2⟩ := own_split ho2
      have hnw := new_any (hI.below hB2) hIr (by omega)
      have hcar := Nat.le_trans (ints_card l') hIl
      have hnum := nums_of (ofInts_bound l')
      clear hof ho2
      replace a0 := keep_cellH hB2 a0
      replace a1 := keep_cellH hB2 a1
      replace hvr1 := hvr1.below hB2
      replace HBw := Hid.trans2 HBw.out hB2
      go_wp2_with fail
      refine hnw.mono ?_
      rintro e w3 ⟨b3, rfl, mo3, hs3, hb3, hm3, hB3⟩
      have hsp := hsplit_any hs3.view (by omega)
      have hI3 := hI2.below hB3
      generalize memFrom (ofInts l') 0 = m at hcar hnum hsp hI3 hc2
      clear hnw hI2 hs3 hb3 hm3
      replace a0 := keep_cellH hB3 a0
      replace a1 := keep_cellH hB3 a1
      replace hvr1 := hvr1.below hB3
      replace HBw := Hid.trans2 HBw.out hB3
      obtain ⟨lm, hlm⟩ : ∃ lm, m.length = lm := ⟨_, rfl⟩
      have HLM : Hid (m.length = lm) := hlm
      rw [hlm] at hcar hI3 hc2 ⊢
      go_wp2_with fail
      refine hsp.mono ?_
      rintro e w4 ⟨v4, L4, rfl, hL4, ho4, hB4⟩
      have hqs := qsplit_any (hI3.below hB4) HLM.out hc2 hnum (by omega)
      obtain ⟨p4, c4, rfl⟩ := ho4.at.shape
      have hl4 : L4.length ≤ 1000 := split_len hL4 (by have := HLM.out; omega)
      have HC4 : Hid (ChunksAt w4 (.slice p4 L4.length c4) L4) := ho4.at
      have HL4 : Hid (SplitOf m L4) := hL4
      obtain ⟨n4, hn4⟩ : ∃ n4, L4.length = n4 := ⟨_, rfl⟩
      have HN4 : Hid (L4.length = n4) := hn4
      rw [hn4] at HC4 hl4 ⊢
      clear hsp ho4 hL4 hI3 hn4
      replace a0 := keep_cellH hB4 a0
      replace a1 := keep_cellH hB4 a1
      replace hvr1 := hvr1.below hB4
      replace HBw := Hid.trans2 HBw.out hB4
      go_wp2_with fail
      refine hqs.mono ?_
      rintro e w5 ⟨v5, L5, rfl, hL5, ho5, hB5⟩
      obtain rfl := hL5.uniq HL4.out
      have hsm := qsame_eq (HC4.out.below hB5) ho5.at (by have := HN4.out; omega)
      obtain ⟨p5, c5, rfl⟩ := ho5.at.shape
      rw [HN4.out] at hsm ⊢
      clear hqs hL5 ho5 HC4 HL4 hnum hc2
      replace a0 := keep_cellH hB5 a0
      replace a1 := keep_cellH hB5 a1
      replace hvr1 := hvr1.below hB5
      replace HBw := Hid.trans2 HBw.out hB5
      go_wp2_with fail
      refine hsm.mono ?_
      rintro e w6 ⟨rfl, hB6⟩
      clear hsm HN4
      replace a0 := keep_cellH hB6 a0
      replace a1 := keep_cellH hB6 a1
      replace hvr1 := hvr1.below hB6
      replace HBw := Hid.trans2 HBw.out hB6
      have hmd := made_any hvr1 HNR.out
      go_wp2_with fail
      refine hmd.mono ?_
      rintro e w7 ⟨v7, rfl, K, ho7, hK20, hK6, hB7⟩
      obtain ⟨p7, c7, rfl⟩ := ho7.at.shape
      have hKat := ho7.at
      clear hmd ho7
      replace a0 := keep_cellH hB7 a0
      replace a1 := keep_cellH hB7 a1
      replace hvr1 := hvr1.below hB7
      replace HBw := Hid.trans2 HBw.out hB7
      obtain ⟨K1, e1, hK1l, happ1, happ2⟩ := app_both K a ha.1 ha.2 hK20 hK6
      obtain ⟨K2, e2, hK2l, hcut1, hcut2⟩ := cut_both K b hb.2 hK20 hK6
      have hfd1 := fun w v (h : ChunksAt w v K) => hfind_any h (by omega) (fun c hc => by have := hK6 c hc; omega) a ha.2
      have hfd2 := fun w v (h : ChunksAt w v K) => qfind_any h (by omega) hK6 a
      obtain ⟨fx, fb, fe, hfe⟩ := findA_shape K a
      rw [hfe] at hfd1 hfd2
      obtain ⟨nk, hnk⟩ : ∃ nk, K.length = nk := ⟨_, rfl⟩
      have HNK : Hid (K.length = nk) := hnk
      obtain ⟨n1, hn1⟩ : ∃ n1, K1.length = n1 := ⟨_, rfl⟩
      obtain ⟨n2, hn2⟩ : ∃ n2, K2.length = n2 := ⟨_, rfl⟩
      have HK6 : Hid (K.length ≤ 20 ∧ ∀ c ∈ K, c.2.size ≤ 600) := ⟨hK20, hK6⟩
      have HK12 : Hid ((K1.length = n1 ∧ K1.length ≤ 1000000) ∧ K2.length = n2 ∧ K2.length ≤ 1000000) := ⟨⟨hn1, hK1l⟩, hn2, hK2l⟩
      rw [hnk] at hKat hK20 ⊢
      clear hfe hnk hn1 hn2 hvr1 hK6 hK1l hK2l
      have hnki : (nk : Int) ≤ 20 := by omega
      by_cases hgd : ∃ ps, Good ps ∧ K = chk ps
      · obtain ⟨ps, hgd, hKe⟩ := hgd
        subst hKe
        have hpl : ps.length ≤ 20 := by have := HK6.out.1; rw [chk_len] at this; exact this
        have hj1 := hjoin_ok hKat hgd (by omega)
        have hj2 := fun w v (h : ChunksAt w v (chk ps)) => qjoin_ok h hgd hpl HK6.out.2
        obtain ⟨lf, hlf⟩ : ∃ lf, ps.flatten.length = lf := ⟨_, rfl⟩
        have HLF : Hid (ps.flatten.length = lf ∧ card (ofN ps.flatten) = lf) := ⟨hlf, by rw [card_ofN hgd.nums]; exact hlf⟩
        clear hgd hpl hlf
        generalize chk ps = K at *
        go_wp2_with fail
        refine hj1.mono ?_
        rintro e w8 ⟨b8, mo8, rfl, hs8, _, _, hB8⟩
        clear hj1
        replace a0 := keep_cellH hB8 a0
        replace a1 := keep_cellH hB8 a1
        replace hKat := hKat.below hB8
        replace HBw := Hid.trans2 HBw.out hB8
        go_wp2_with fail
        refine (hj2 _ _ hKat).mono ?_
        rintro e w9 ⟨u9, rfl, ho9, hB9⟩
        obtain ⟨p9, c9, rfl, _⟩ := ho9.intsAt
        rw [HLF.out.1]
        replace hs8 := hs8.below hB9
        clear hj2 ho9
        replace a0 := keep_cellH hB9 a0
        replace a1 := keep_cellH hB9 a1
        replace hKat := hKat.below hB9
        replace HBw := Hid.trans2 HBw.out hB9
        go_wp2_with fail
        refine (happ1 _ _ hKat).mono ?_
        rintro e w10 ⟨⟨v10, rfl, hc10⟩, hB10⟩
        obtain ⟨p10, c10, rfl⟩ := hc10.shape
        rw [HK12.out.1.1] at hc10 ⊢
        clear happ1
        replace hs8 := hs8.below hB10
        replace a0 := keep_cellH hB10 a0
        replace a1 := keep_cellH hB10 a1
        replace hKat := hKat.below hB10
        replace HBw := Hid.trans2 HBw.out hB10
        go_wp2_with fail
        refine (happ2 _ _ hKat).mono ?_
        rintro e w11 ⟨⟨v11, rfl, hc11⟩, hB11⟩
        obtain ⟨p11, c11, rfl⟩ := hc11.shape
        rw [HK12.out.1.1] at hc11 ⊢
        replace hc10 := hc10.below hB11
        clear happ2
        replace hs8 := hs8.below hB11
        replace a0 := keep_cellH hB11 a0
        replace a1 := keep_cellH hB11 a1
        replace hKat := hKat.below hB11
        replace HBw := Hid.trans2 HBw.out hB11
        go_wp2_with fail
        refine (hcut1 _ _ hKat).mono ?_
        rintro e w12 ⟨⟨v12, rfl, hc12⟩, hB12⟩
        obtain ⟨p12, c12, rfl⟩ := hc12.shape
        rw [HK12.out.2.1] at hc12 ⊢
        replace hc10 := hc10.below hB12
        replace hc11 := hc11.below hB12
        clear hcut1
        replace hs8 := hs8.below hB12
        replace a0 := keep_cellH hB12 a0
        replace a1 := keep_cellH hB12 a1
        replace hKat := hKat.below hB12
        replace HBw := Hid.trans2 HBw.out hB12
        go_wp2_with fail
        refine (hcut2 _ _ hKat).mono ?_
        rintro e w13 ⟨⟨v13, rfl, hc13⟩, hB13⟩
        obtain ⟨p13, c13, rfl⟩ := hc13.shape
        rw [HK12.out.2.1] at hc13 ⊢
        replace hc10 := hc10.below hB13
        replace hc11 := hc11.below hB13
        replace hc12 := hc12.below hB13
        clear hcut2
        replace hs8 := hs8.below hB13
        replace a0 := keep_cellH hB13 a0
        replace a1 := keep_cellH hB13 a1
        replace hKat := hKat.below hB13
        replace HBw := Hid.trans2 HBw.out hB13
        go_wp2_with fail
        refine (hfd1 _ _ hKat).mono ?_
        rintro e w14 ⟨rfl, hB14⟩
        replace hc10 := hc10.below hB14
        replace hc11 := hc11.below hB14
        replace hc12 := hc12.below hB14
        replace hc13 := hc13.below hB14
        clear hfd1
        replace hs8 := hs8.below hB14
        replace a0 := keep_cellH hB14 a0
        replace a1 := keep_cellH hB14 a1
        replace hKat := hKat.below hB14
        replace HBw := Hid.trans2 HBw.out hB14
        go_wp2_with fail
        refine (hfd2 _ _ hKat).mono ?_
        rintro e w15 ⟨rfl, hB15⟩
        replace hc12 := hc12.below hB15
        replace hc13 := hc13.below hB15
        have hs1 := qsame_eq (hc10.below hB15) (hc11.below hB15) HK12.out.1.2
        clear hfd2 hc10 hc11
        replace hs8 := hs8.below hB15
        replace a0 := keep_cellH hB15 a0
        replace a1 := keep_cellH hB15 a1
        replace hKat := hKat.below hB15
        replace HBw := Hid.trans2 HBw.out hB15
        go_wp2_with fail
        refine hs1.mono ?_
        rintro e w16 ⟨rfl, hB16⟩
        have hs2 := qsame_eq (hc12.below hB16) (hc13.below hB16) HK12.out.2.2
        clear hs1 hc12 hc13
        replace hs8 := hs8.below hB16
        replace a0 := keep_cellH hB16 a0
        replace a1 := keep_cellH hB16 a1
        replace hKat := hKat.below hB16
        replace HBw := Hid.trans2 HBw.out hB16
        go_wp2_with fail
        refine hs2.mono ?_
        rintro e w17 ⟨rfl, hB17⟩
        clear hs2
        replace hs8 := hs8.below hB17
        replace a0 := keep_cellH hB17 a0
        replace a1 := keep_cellH hB17 a1
        replace hKat := hKat.below hB17
        replace HBw := Hid.trans2 HBw.out hB17
        have q1 : (e1 != e1) = false := by simp
        have q2 : (e2 != e2) = false := by simp
        have q3 : (fx != fx) = false := by simp
        have q4 : (fb != fb) = false := by simp
        have q5 : (fe != fe) = false := by simp
        have hln := len_any hs8.view
        rw [HLF.out.2] at hln
        have hlfl : ((lf : Int) != (lf : Int)) = false := by simp
        clear hs8
        go_wp2_with fail
        refine hln.mono ?_
        rintro e w18 ⟨rfl, hB18⟩
        clear hln
        replace a0 := keep_cellH hB18 a0
        replace a1 := keep_cellH hB18 a1
        replace hKat := hKat.below hB18
        replace HBw := Hid.trans2 HBw.out hB18
        go_wp2_with fail
        clear q1 q2 q3 q4 q5
        have HKA : Hid (ChunksAt w18 (.slice p7 nk c7) K) := hKat
        clear hKat
        go_loopw [31, 32] (fun x y wr => ∃ i : Nat, y = .int .i64 (i : Nat) ∧ i ≤ nk ∧ OwnI wr w18.heap.size x ((K.take i).map (·.1)) ∧ Below w18.heap.size w18 wr) (fun _ y _ => nk - (intOf y).toNat)
        case atStart => exact ⟨0, rfl, Nat.zero_le _, OwnI.nil _ _, Below.refl _ _⟩
        case round =>
          obtain ⟨i, rfl, hi, hox, hBr⟩ := hrel
          by_cases hil : i < nk
          · have hii : (i : Int) < nk := by omega
            have hi0 : (0 : Int) ≤ i := by omega
            obtain ⟨⟨u, s⟩, hu⟩ : ∃ x, K[i]? = some x := ⟨_, List.getElem?_eq_getElem (by rw [HNK.out]; exact hil)⟩
            obtain ⟨g, o, rfl, hnn, d0, d1⟩ := (HKA.out.below hBr).at hu
            clear hnn
            dsimp only at d0 d1
            have HT : Hid ((K.take (i + 1)).map (·.1) = (K.take i).map (·.1) ++ [u]) := by show _ = _; rw [List.take_add_one, hu, List.map_append]; rfl
            have hxl : ((K.take i).map (·.1)).length ≤ 1000000 := by rw [List.length_map, List.length_take]; omega
            obtain ⟨px, cx, rfl⟩ := hox.at.lenH
            generalize (K.take i).map (·.1) = us at hox HT hxl
            have hoxa := fun z => OwnI.below hox (below_new1 wr z)
            have hnew : ∀ k, (Value.slice px us.length cx).ownBlock = some k → w18.heap.size ≤ k := fun k hk => (hox.lt k hk).1
            have hszr := hBr.size
            go_wp2_with (at_builtin; refine wpList_append_one rfl _ _ rfl rfl rfl (hoxa _) ((Holds.new wr 3 #[.int .i64 u]).cell 0) hxl (by simp; omega) ?_; intro v20 w20 hown20 hg20)
            have hg20' : (wr.alloc (.cells #[.int .i64 u] 3)).grownBy w20 (Value.slice px us.length cx).ownBlock := hg20
            have F5 : Hid (OwnI w20 w18.heap.size v20 ((K.take (i + 1)).map (·.1)) ∧ Below w18.heap.size w18 w20) := ⟨by rw [HT.out]; exact hown20, below_grownI hBr hg20' hnew⟩
            exact ⟨⟨i + 1, by go_num, by omega, F5.out⟩, by simp [intOf]; omega⟩
          · have hii : ¬ (i : Int) < nk := by omega
            rw [List.take_of_length_le (by have := HNK.out; omega)] at hox
            have hul : (K.map (·.1)).length ≤ 1000000 := by rw [List.length_map]; have := HNK.out; omega
            have hw1 := which_any hox.at hul b
            have hw2 := qwhich_any hox.at hul b
            obtain ⟨wx, wb, hwv⟩ := whV_shape (which (K.map (·.1)) b)
            rw [hwv] at hw1 hw2
            obtain ⟨px, cx, rfl⟩ := hox.at.lenH
            generalize (K.map (·.1)).length = ul at hw1 hw2 ⊢
            replace a1 := keep_cellH hBr a1
            have HBe : Hid (Below w.heap.size w wr) := below_new HBw.out hBr
            have q6 : (wx == wx) = true := by simp
            have q7 : (wb == wb) = true := by simp
            clear hul hox hBr hwv
            go_wp2_with fail
            refine hw1.mono ?_
            rintro e w21 ⟨rfl, hw21⟩
            have hw21' := hw21.symm
            clear hw21 hw1
            subst hw21'
            go_wp2_with fail
            refine hw2.mono ?_
            rintro e w22 ⟨rfl, hw22⟩
            have hw22' := hw22.symm
            clear hw22 hw2
            subst hw22'
            go_wp2_with fail
            go_ret
            exact ⟨rfl, HBe.out⟩
      · have hno : ∀ ps, Good ps → K ≠ chk ps := fun ps h e => hgd ⟨ps, h, e⟩
        have hj1 := hjoin_bad hKat hno (fun c hc => by have := HK6.out.2 c hc; omega) (by have := HK6.out.1; omega)
        have hj2 := fun w v (h : ChunksAt w v K) => qjoin_bad h hno HK6.out.1 HK6.out.2
        clear hgd hno
        go_wp2_with fail
        refine hj1.mono ?_
        rintro e w8 ⟨rfl, hB8⟩
        clear hj1
        replace a0 := keep_cellH hB8 a0
        replace a1 := keep_cellH hB8 a1
        replace hKat := hKat.below hB8
        replace HBw := Hid.trans2 HBw.out hB8
        go_wp2_with fail
        refine (hj2 _ _ hKat).mono ?_
        rintro e w9 ⟨rfl, hB9⟩
        clear hj2
        replace a0 := keep_cellH hB9 a0
        replace a1 := keep_cellH hB9 a1
        replace hKat := hKat.below hB9
        replace HBw := Hid.trans2 HBw.out hB9
        go_wp2_with fail
        refine (happ1 _ _ hKat).mono ?_
        rintro e w10 ⟨⟨v10, rfl, hc10⟩, hB10⟩
        obtain ⟨p10, c10, rfl⟩ := hc10.shape
        rw [HK12.out.1.1] at hc10 ⊢
        clear happ1
        replace a0 := keep_cellH hB10 a0
        replace a1 := keep_cellH hB10 a1
        replace hKat := hKat.below hB10
        replace HBw := Hid.trans2 HBw.out hB10
        go_wp2_with fail
        refine (happ2 _ _ hKat).mono ?_
        rintro e w11 ⟨⟨v11, rfl, hc11⟩, hB11⟩
        obtain ⟨p11, c11, rfl⟩ := hc11.shape
        rw [HK12.out.1.1] at hc11 ⊢
        replace hc10 := hc10.below hB11
        clear happ2
        replace a0 := keep_cellH hB11 a0
        replace a1 := keep_cellH hB11 a1
        replace hKat := hKat.below hB11
        replace HBw := Hid.trans2 HBw.out hB11
        go_wp2_with fail
        refine (hcut1 _ _ hKat).mono ?_
        rintro e w12 ⟨⟨v12, rfl, hc12⟩, hB12⟩
        obtain ⟨p12, c12, rfl⟩ := hc12.shape
        rw [HK12.out.2.1] at hc12 ⊢
        replace hc10 := hc10.below hB12
        replace hc11 := hc11.below hB12
        clear hcut1
        replace a0 := keep_cellH hB12 a0
        replace a1 := keep_cellH hB12 a1
        replace hKat := hKat.below hB12
        replace HBw := Hid.trans2 HBw.out hB12
        go_wp2_with fail
        refine (hcut2 _ _ hKat).mono ?_
        rintro e w13 ⟨⟨v13, rfl, hc13⟩, hB13⟩
        obtain ⟨p13, c13, rfl⟩ := hc13.shape
        rw [HK12.out.2.1] at hc13 ⊢
        replace hc10 := hc10.below hB13
        replace hc11 := hc11.below hB13
        replace hc12 := hc12.below hB13
        clear hcut2
        replace a0 := keep_cellH hB13 a0
        replace a1 := keep_cellH hB13 a1
        replace hKat := hKat.below hB13
        replace HBw := Hid.trans2 HBw.out hB13
        go_wp2_with fail
        refine (hfd1 _ _ hKat).mono ?_
        rintro e w14 ⟨rfl, hB14⟩
        replace hc10 := hc10.below hB14
        replace hc11 := hc11.below hB14
        replace hc12 := hc12.below hB14
        replace hc13 := hc13.below hB14
        clear hfd1
        replace a0 := keep_cellH hB14 a0
        replace a1 := keep_cellH hB14 a1
        replace hKat := hKat.below hB14
        replace HBw := Hid.trans2 HBw.out hB14
        go_wp2_with fail
        refine (hfd2 _ _ hKat).mono ?_
        rintro e w15 ⟨rfl, hB15⟩
        replace hc12 := hc12.below hB15
        replace hc13 := hc13.below hB15
        have hs1 := qsame_eq (hc10.below hB15) (hc11.below hB15) HK12.out.1.2
        clear hfd2 hc10 hc11
        replace a0 := keep_cellH hB15 a0
        replace a1 := keep_cellH hB15 a1
        replace hKat := hKat.below hB15
        replace HBw := Hid.trans2 HBw.out hB15
        go_wp2_with fail
        refine hs1.mono ?_
        rintro e w16 ⟨rfl, hB16⟩
        have hs2 := qsame_eq (hc12.below hB16) (hc13.below hB16) HK12.out.2.2
        clear hs1 hc12 hc13
        replace a0 := keep_cellH hB16 a0
        replace a1 := keep_cellH hB16 a1
        replace hKat := hKat.below hB16
        replace HBw := Hid.trans2 HBw.out hB16
        go_wp2_with fail
        refine hs2.mono ?_
        rintro e w17 ⟨rfl, hB17⟩
        clear hs2
        replace a0 := keep_cellH hB17 a0
        replace a1 := keep_cellH hB17 a1
        replace hKat := hKat.below hB17
        replace HBw := Hid.trans2 HBw.out hB17
        have q1 : (e1 != e1) = false := by simp
        have q2 : (e2 != e2) = false := by simp
        have q3 : (fx != fx) = false := by simp
        have q4 : (fb != fb) = false := by simp
        have q5 : (fe != fe) = false := by simp
        go_wp2_with fail
        clear q1 q2 q3 q4 q5
        have HKA : Hid (ChunksAt w17 (.slice p7 nk c7) K) := hKat
        clear hKat
        go_loopw [31, 32] (fun x y wr => ∃ i : Nat, y = .int .i64 (i : Nat) ∧ i ≤ nk ∧ OwnI wr w17.heap.size x ((K.take i).map (·.1)) ∧ Below w17.heap.size w17 wr) (fun _ y _ => nk - (intOf y).toNat)
        case atStart => exact ⟨0, rfl, Nat.zero_le _, OwnI.nil _ _, Below.refl _ _⟩
        case round =>
          obtain ⟨i, rfl, hi, hox, hBr⟩ := hrel
          by_cases hil : i < nk
          · have hii : (i : Int) < nk := by omega
            have hi0 : (0 : Int) ≤ i := by omega
            obtain ⟨⟨u, s⟩, hu⟩ : ∃ x, K[i]? = some x := ⟨_, List.getElem?_eq_getElem (by rw [HNK.out]; exact hil)⟩
            obtain ⟨g, o, rfl, hnn, d0, d1⟩ := (HKA.out.below hBr).at hu
            clear hnn
            dsimp only at d0 d1
            have HT : Hid ((K.take (i + 1)).map (·.1) = (K.take i).map (·.1) ++ [u]) := by show _ = _; rw [List.take_add_one, hu, List.map_append]; rfl
            have hxl : ((K.take i).map (·.1)).length ≤ 1000000 := by rw [List.length_map, List.length_take]; omega
            obtain ⟨px, cx, rfl⟩ := hox.at.lenH
            generalize (K.take i).map (·.1) = us at hox HT hxl
            have hoxa := fun z => OwnI.below hox (below_new1 wr z)
            have hnew : ∀ k, (Value.slice px us.length cx).ownBlock = some k → w17.heap.size ≤ k := fun k hk => (hox.lt k hk).1
            have hszr := hBr.size
            go_wp2_with (at_builtin; refine wpList_append_one rfl _ _ rfl rfl rfl (hoxa _) ((Holds.new wr 3 #[.int .i64 u]).cell 0) hxl (by simp; omega) ?_; intro v20 w20 hown20 hg20)
            have hg20' : (wr.alloc (.cells #[.int .i64 u] 3)).grownBy w20 (Value.slice px us.length cx).ownBlock := hg20
            have F5 : Hid (OwnI w20 w17.heap.size v20 ((K.take (i + 1)).map (·.1)) ∧ Below w17.heap.size w17 w20) := ⟨by rw [HT.out]; exact hown20, below_grownI hBr hg20' hnew⟩
            exact ⟨⟨i + 1, by go_num, by omega, F5.out⟩, by simp [intOf]; omega⟩
          · have hii : ¬ (i : Int) < nk := by omega
            rw [List.take_of_length_le (by have := HNK.out; omega)] at hox
            have hul : (K.map (·.1)).length ≤ 1000000 := by rw [List.length_map]; have := HNK.out; omega
            have hw1 := which_any hox.at hul b
            have hw2 := qwhich_any hox.at hul b
            obtain ⟨wx, wb, hwv⟩ := whV_shape (which (K.map (·.1)) b)
            rw [hwv] at hw1 hw2
            obtain ⟨px, cx, rfl⟩ := hox.at.lenH
            generalize (K.map (·.1)).length = ul at hw1 hw2 ⊢
            replace a1 := keep_cellH hBr a1
            have HBe : Hid (Below w.heap.size w wr) := below_new HBw.out hBr
            have q6 : (wx == wx) = true := by simp
            have q7 : (wb == wb) = true := by simp
            clear hul hox hBr hwv
            go_wp2_with fail
            refine hw1.mono ?_
            rintro e w21 ⟨rfl, hw21⟩
            have hw21' := hw21.symm
            clear hw21 hw1
            subst hw21'
            go_wp2_with fail
            refine hw2.mono ?_
            rintro e w22 ⟨rfl, hw22⟩
            have hw22' := hw22.symm
            clear hw22 hw2
            subst hw22'
            go_wp2_with fail
            go_ret
            exact ⟨rfl, HBe.out⟩
end Go.Proofs.Ytiokbhbggpibpaa
