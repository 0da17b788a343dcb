/-
  PagerRolls' walk.
-/
import Derived.Test.YtjklcnknbcmgoaaGreatDoorGPlayW
import Derived.Test.YtjklcnknbcmgoaaGreatDoorGQ
namespace Go.Proofs.YtjklcnknbcmgoaaGreatDoor
open Go Go.RowKit Go.Maps

set_option maxRecDepth 8000 in
set_option maxHeartbeats 4000000 in
theorem rolls_few_neg {w : World} (hT : K.Tabs w) {p : Option Addr} {n c : Nat} {L : List TxF} (hx : TxsFull w p n L) (_hnc : n ≤ c) (_hc : c ≤ 9223372036854775807) (h8 : n ≤ 8) (pgs fr q : Int) (hq9 : pgs.tmod 9 = q) (hsg : q < 0) (hqb : -9 < q ∧ q < 9) :
    Calls Tryz.prog 6 #[.slice p n c, .int .i64 pgs, .int .i64 fr] w fun e w' => e = .returned (.bool true) ∧ Below w.heap.size w w' := by
  have hq := ptr_eql
  have hpg := pg_eql
  have hnot := run_not
  have haw := awake_any hT
  go_enter Tryz.func6, Tryz.ntmps6
  go_wp2_with fail
  refine haw.mono ?_
  clear haw
  rintro e w1 ⟨rfl, hB1⟩
  have hnw := new_any 200 w1
  go_wp2_with fail
  refine hnw.mono ?_
  clear hnw
  rintro e w2 ⟨h, rfl, a2, hn2, hB2⟩
  have hz2 : (Dev.new 200).size = 200 := rfl
  have hBw2 : Below w.heap.size w w2 := below_new hB1 hB2
  have hop := pk_open2 a2 (fun k hk => Nat.le_trans hB1.size (hn2 k hk)) hBw2 (cm_new 200) (by rw [hz2]; decide) (fun _ => rfl) (Dev.new_ok 200 0) (by decide) hT
  clear hB1 hB2 a2 hn2
  go_wp2_with fail
  refine hop.mono ?_
  clear hop hBw2
  rintro e w3 ⟨b, H3, D3, rfl, p3, z3, wr3⟩
  rw [hz2] at z3
  clear hz2

  have hus := pk_use p3 rfl (show (2 : Int) ≤ topPg by decide)
  go_wp2_with fail
  refine hus.mono ?_
  clear hus
  rintro e w4 ⟨rfl, H4, p4, _⟩
  have e4 : St.useS ⟨⟨0, 0, 0, 2, 2, 0, false, false, 0⟩, [], fun _ => none, fun _ => none, D3⟩ = S0 D3 := by
    unfold St.useS addI
    rfl
  rw [e4] at p4
  have s4 := sta_start p4 wr3
  clear e4 p4 p3 wr3
  obtain ⟨g, hg⟩ : ∃ g, w4.heap.size = g := ⟨_, rfl⟩
  obtain ⟨W5, hW5⟩ : ∃ W, w4.alloc (.cells #[.int .i64 0, .slice none 0 0, .slice none 0 0] 34) = W := ⟨_, rfl⟩
  have h5 : Holds W5 g 34 #[.int .i64 0, .slice none 0 0, .slice none 0 0] := by rw [← hW5, ← hg]; exact Holds.new _ _ _
  have hB5 : Below w4.heap.size w4 W5 := by rw [← hW5]; exact below_new1 _ _
  go_wp2_with ((with_reducible show wpList _ _ _ (Oper.mk _ (Op.store 34 _ _) _ _ _ _ :: _) _ _); go_must (refine wpList_storeH rfl 34 _ _ rfl g #[.int .i64 0, .slice none 0 0, .slice none 0 0] rfl rfl 34 _ h5 infoStG rfl (by simp [Value.oneCell']) ?_; intro w6 h6 hO6 hs6))
  have hB6 : Below w4.heap.size w4 w6 := Only.fresh hB5 hO6 (by omega)
  have s6 : Sta (fun k => k = g) w w6 b H4 (S0 D3) 4 0 (.slice none 0 0) (.slice none 0 0) [] [] := s4.more hB6 (fun k hk => ⟨.inr (by omega), by have := h6.lt; omega⟩) (fun k hk => hk.elim)
  have HG : Hid (w.heap.size ≤ g) := by have := s4.pk.blw.size; show _ ≤ _; omega
  clear hB5 h5 hO6 hs6 hB6 s4 hg hW5

  go_loopw [12, 13, 14] (fun y _ _ wr => ∃ (i : Nat) (G : Nat → Prop) (H : Hs) (S : St) (N : Nat) (tx : Int) (vp vt : Value) (ps : List Int) (ts : List ByteArray), y = .int .i64 (i : Nat) ∧ i ≤ n ∧ G g ∧ Holds wr g 34 #[.int .i64 tx, vp, vt] ∧ Sta G w wr b H S N tx vp vt ps ts ∧ N ≤ 4 + 8 * i ∧ ps.length ≤ 5 * i ∧ tx ≤ i ∧ S.D.size = 200 ∧ S.P.stop ≤ 2 + 5 * i ∧ S.P.reads = 0) (fun y _ _ _ => n - (Lib.intOf y).toNat)
  case atStart => exact ⟨0, (fun k => k = g), H4, S0 D3, 4, 0, _, _, [], [], rfl, by omega, rfl, h6, s6, by omega, by simp, by decide, z3, by show (2 : Int) ≤ _; omega, rfl⟩
  case round =>
    obtain ⟨i, G, H, S, N, tx, vp, vt, ps, ts, rfl, hi, hGg, hbx, s, hN, hpl, htx, hsz, hst, hrd⟩ := hrel
    clear h6 s6 z3
    by_cases hlt : i < n
    · have hlt1 : (i : Int) < n := by omega
      have hlt2 : (i : Int) < 8 := by omega
      obtain ⟨t, ht⟩ : ∃ t, L[i]? = some t := ⟨_, List.getElem?_eq_getElem (by rw [← hx.1]; omega)⟩
      obtain ⟨ab, ao, eab, hcl⟩ := hx.at ht
      subst eab
      have HCL : Hid _ := hcl
      have hpl2 := plays_any (s.below (below_drewL (Below.refl _ wr.drew))) hT (by omega) (by omega) (by omega) (by omega) t.pg t.fr t.en t.ar t.fa t.byte (.slice t.p t.m t.c)
      have HPL : Hid _ := hpl2
      have HS : Hid _ := s
      have HB : Hid _ := hbx
      have hTt : t.ok w := hx.2.1 t (List.mem_of_getElem? ht)
      clear hpl2 hcl s hbx ht
      go_wp2_with fail
      refine wp_then_G (ι := Bool × Int × Value × Value × Nat) (fun z a => ((((((((((((a.put (some 54) (.pointer (some ⟨b, 0, none⟩))).put (some 55) (.agg #[.int .i64 tx, vp, vt])).put (some 56) (.slice (some ⟨ab, ao, none⟩) n c)).put (some 57) (.int .i64 (i : Nat))).put (some 58) (.pointer (some ⟨ab, ao + i * 7, none⟩))).put (some 59) (.agg #[.int .i64 t.pg, .int .i64 t.fr, .int .i64 t.en, .int .i64 t.ar, .int .i64 t.fa, .int .u8 (t.byte.toNat : Nat), .slice t.p t.m t.c])).put (some 60) (.tuple #[.agg #[.int .i64 z.2.1, z.2.2.1, z.2.2.2.1], .bool z.1])).put (some 53) (.tuple #[.agg #[.int .i64 z.2.1, z.2.2.1, z.2.2.2.1], .bool z.1])).put (some 61) (.agg #[.int .i64 z.2.1, z.2.2.1, z.2.2.2.1])).put (some 62) (.bool z.1)).put (some 13) (.pointer (some ⟨z.2.2.2.2, 0, none⟩))).put (some 14) (.bool z.1))) (fun z W => ∃ (G' : Nat → Prop) (H' : Hs) (S' : St) (N' : Nat) (ps' : List Int) (ts' : List ByteArray), Holds W z.2.2.2.2 34 #[.int .i64 z.2.1, z.2.2.1, z.2.2.2.1] ∧ Holds W g 34 #[.int .i64 tx, vp, vt] ∧ z.2.2.2.2 ≠ g ∧ G' g ∧ Sta G' w W b H' S' N' z.2.1 z.2.2.1 z.2.2.2.1 ps' ts' ∧ N' ≤ N + 8 ∧ ps'.length ≤ ps.length + 5 ∧ z.2.1 ≤ tx + 1 ∧ S'.D.size = S.D.size ∧ S'.P.stop ≤ S.P.stop + 5 ∧ (S'.P.stop ≤ S.P.stop ∨ S'.P.stop ≤ ps.length + 7) ∧ S'.P.reads = S.P.reads ∧ (z.1 = false → z.2.1 = tx ∧ z.2.2.1 = vp ∧ z.2.2.2.1 = vt ∧ ps' = ps ∧ ts' = ts)) ?_ ?_
      · refine wp_region_u (fun W => Holds W g 34 #[.int .i64 tx, vp, vt] ∧ Below w.heap.size w W) (.take 0 (.take 1 (.take 2 (.take 3 (.take 4 (.take 5 (.two 6 (.take 7 (.take 8 (.take 9 (.one 10 (.one 11 (.one 12 .nil)))))) 10 (.one 6 (.take 7 (.take 8 (.take 9 (.one 11 (.one 12 .nil))))))))))))) mixedP (by kernel_rfl) rfl (by kernel_rfl) (fun _ _ _ d _ h => by cases d <;> exact h) ⟨HB.out, below_drewR HS.out.pk.blw⟩ ?_
        refine tk_val (some 54) rfl rfl rfl (.pointer (some ⟨b, 0, none⟩)) (fun _ => by go_simp) ?_
        refine tk_nil ?_
        go_frame
        refine tk_ld (some 55) rfl rfl rfl _ _ rfl rfl (fun W hW => ldStG hW.1) ?_
        refine tk_nil ?_
        go_frame
        refine tk_val (some 56) rfl rfl rfl (.slice (some ⟨ab, ao, none⟩) n c) (fun _ => by go_simp) ?_
        refine tk_nil ?_
        go_frame
        refine tk_val (some 57) rfl rfl rfl (.int .i64 (i : Nat)) (fun _ => by go_simp) ?_
        refine tk_nil ?_
        go_frame
        refine tk_val (some 58) rfl rfl rfl (.pointer (some ⟨ab, ao + i * 7, none⟩)) (fun _ => by go_simp) ?_
        refine tk_nil ?_
        go_frame
        refine tk_ld (some 59) rfl rfl rfl _ _ rfl rfl (fun W hW => ldTxF (HCL.out W hW.2)) ?_
        refine tk_nil ?_
        go_frame
        refine ⟨?_, ?_⟩
        · refine op_call (some 60) rfl rfl rfl (f := 14) (vs := #[.pointer (some ⟨b, 0, none⟩), .agg #[.int .i64 tx, vp, vt], (.agg #[.int .i64 t.pg, .int .i64 t.fr, .int .i64 t.en, .int .i64 t.ar, .int .i64 t.fa, .int .u8 (t.byte.toNat : Nat), .slice t.p t.m t.c])]) (by go_simp) ?_
          refine Calls.mono HPL.out ?_
          rintro e w8 ⟨ok, tx', vp', vt', ps', ts', H', S', N', rfl, s', sm', b1, b2, b3, b4, b5, b6, b7, b8⟩
          have hb8 : Holds w8 g 34 #[.int .i64 tx, vp, vt] := sm'.holds HB.out hGg
          refine ⟨_, rfl, ⟨hb8, s'.pk.blw⟩, ?_⟩
          go_frame
          refine tk_val (some 53) rfl rfl rfl (.tuple #[.agg #[.int .i64 tx', vp', vt'], .bool ok]) (fun _ => by go_simp) ?_
          refine tk_nil ?_
          go_frame
          refine tk_val (some 61) rfl rfl rfl (.agg #[.int .i64 tx', vp', vt']) (fun _ => by go_simp) ?_
          refine tk_nil ?_
          go_frame
          refine tk_val (some 62) rfl rfl rfl (.bool ok) (fun _ => by go_simp) ?_
          refine tk_nil ?_
          go_frame
          obtain ⟨gn, hgnE⟩ : ∃ g, w8.heap.size = g := ⟨_, rfl⟩
          obtain ⟨W9, hW9⟩ : ∃ W, w8.alloc (.cells #[.int .i64 0, .slice none 0 0, .slice none 0 0] 34) = W := ⟨_, rfl⟩
          have hgn : Holds W9 gn 34 #[.int .i64 0, .slice none 0 0, .slice none 0 0] := by rw [← hW9, ← hgnE]; exact Holds.new _ _ _
          have hB9 : Below w8.heap.size w8 W9 := by rw [← hW9]; exact below_new1 _ _
          have hb9 := below_holds hB9 hb8
          have hne : g ≠ gn := by have := hb8.lt; omega
          have hgw : w.heap.size ≤ gn := by have := s'.pk.blw.size; omega
          have s9 := s'.more (G' := fun k => GS G vp' vt' k ∨ k = gn) hB9 (fun k hk => by
            rcases hk with hk | hk
            · exact ⟨.inl hk, Nat.lt_of_lt_of_le (s'.pk.kept k hk) hB9.size⟩
            · exact ⟨.inr (by omega), by have := hgn.lt; omega⟩) (fun k hk => .inl hk)
          have hGn : (fun k => GS G vp' vt' k ∨ k = gn) gn := .inr rfl
          have hG9 : (fun k => GS G vp' vt' k ∨ k = gn) g := .inl (.inl hGg)
          refine op_val (some 13) rfl rfl rfl (v := .pointer (some ⟨gn, 0, none⟩)) (w' := W9) (by go_simp <;> first | exact ⟨hgnE, hW9⟩ | exact hW9) ?_
          refine ⟨⟨hb9, s9.pk.blw⟩, ?_⟩
          go_frame
          refine op_storeH none rfl rfl rfl 34 _ _ rfl gn #[.int .i64 tx', vp', vt'] rfl rfl 34 _ hgn infoStG rfl (by obtain ⟨_, _, e1⟩ := s'.oi.len; obtain ⟨_, _, e2⟩ := s'.ot.len; rw [e1, e2]; simp [Value.oneCell']) ?_
          intro w10 h10 hO10 hs10
          have hb10 := hO10.holds hb9 hne
          refine ⟨⟨hb10, Only.fresh s9.pk.blw hO10 hgw⟩, ?_⟩
          go_frame
          refine op_val (some 14) rfl rfl rfl (v := .bool ok) (w' := w10) (by go_simp) ?_
          refine ⟨⟨hb10, Only.fresh s9.pk.blw hO10 hgw⟩, ?_⟩
          go_frame
          refine ⟨(ok, tx', vp', vt', gn), rfl, _, H', S', N', ps', ts', h10, hb10, hne.symm, hG9, s9.turn hGn hgw hgn hO10, b1, b2, b3, b4, b5, b6, b7, b8⟩
        · obtain ⟨gn, hgnE⟩ : ∃ g, wr.drew.heap.size = g := ⟨_, rfl⟩
          obtain ⟨W7, hW7⟩ : ∃ W, wr.drew.alloc (.cells #[.int .i64 0, .slice none 0 0, .slice none 0 0] 34) = W := ⟨_, rfl⟩
          have hg7 : Holds W7 gn 34 #[.int .i64 0, .slice none 0 0, .slice none 0 0] := by rw [← hW7, ← hgnE]; exact Holds.new _ _ _
          have hB7 : Below wr.drew.heap.size wr.drew W7 := by rw [← hW7]; exact below_new1 _ _
          have hb7 := below_holds hB7 (show Holds wr.drew g 34 #[.int .i64 tx, vp, vt] from HB.out)
          have hne : g ≠ gn := by have := (show Holds wr.drew g 34 #[.int .i64 tx, vp, vt] from HB.out).lt; omega
          have s7 := HS.out.more (G' := fun k => G k ∨ k = gn) (below_drewL hB7) (fun k hk => by
            rcases hk with hk | hk
            · exact ⟨.inl hk, Nat.lt_of_lt_of_le (HS.out.pk.kept k hk) (below_drewL hB7).size⟩
            · exact ⟨.inr (by have e : wr.drew.heap.size = wr.heap.size := rfl; omega), by have := hg7.lt; omega⟩) (fun k hk => .inl hk)
          have hgw : w.heap.size ≤ gn := by have := HS.out.pk.blw.size; have e : wr.drew.heap.size = wr.heap.size := rfl; omega
          have hpl7 := plays_any s7 hT (by omega) (by omega) (by omega) (by omega) t.pg t.fr t.en t.ar t.fa t.byte (.slice t.p t.m t.c)
          refine op_val (some 13) rfl rfl rfl (v := .pointer (some ⟨gn, 0, none⟩)) (w' := W7) (by go_simp <;> first | exact ⟨hgnE, hW7⟩ | exact hW7) ?_
          refine ⟨⟨hb7, s7.pk.blw⟩, ?_⟩
          go_frame
          refine op_call (some 60) rfl rfl rfl (f := 14) (vs := #[.pointer (some ⟨b, 0, none⟩), .agg #[.int .i64 tx, vp, vt], (.agg #[.int .i64 t.pg, .int .i64 t.fr, .int .i64 t.en, .int .i64 t.ar, .int .i64 t.fa, .int .u8 (t.byte.toNat : Nat), .slice t.p t.m t.c])]) (by go_simp) ?_
          refine Calls.mono hpl7 ?_
          rintro e w8 ⟨ok, tx', vp', vt', ps', ts', H', S', N', rfl, s', sm', b1, b2, b3, b4, b5, b6, b7, b8⟩
          have hb8 : Holds w8 g 34 #[.int .i64 tx, vp, vt] := sm'.holds hb7 (.inl hGg)
          refine ⟨_, rfl, ⟨hb8, s'.pk.blw⟩, ?_⟩
          go_frame
          refine tk_val (some 53) rfl rfl rfl (.tuple #[.agg #[.int .i64 tx', vp', vt'], .bool ok]) (fun _ => by go_simp) ?_
          refine tk_nil ?_
          go_frame
          refine tk_val (some 61) rfl rfl rfl (.agg #[.int .i64 tx', vp', vt']) (fun _ => by go_simp) ?_
          refine tk_nil ?_
          go_frame
          refine tk_val (some 62) rfl rfl rfl (.bool ok) (fun _ => by go_simp) ?_
          refine tk_nil ?_
          go_frame
          have hgn : Holds w8 gn 34 #[.int .i64 0, .slice none 0 0, .slice none 0 0] := sm'.holds hg7 (.inr rfl)
          have hb9 := hb8
          have s9 := s'
          have hGn : GS (fun k => G k ∨ k = gn) vp' vt' gn := .inl (.inr rfl)
          have hG9 : GS (fun k => G k ∨ k = gn) vp' vt' g := .inl (.inl hGg)
          refine op_storeH none rfl rfl rfl 34 _ _ rfl gn #[.int .i64 tx', vp', vt'] rfl rfl 34 _ hgn infoStG rfl (by obtain ⟨_, _, e1⟩ := s'.oi.len; obtain ⟨_, _, e2⟩ := s'.ot.len; rw [e1, e2]; simp [Value.oneCell']) ?_
          intro w10 h10 hO10 hs10
          have hb10 := hO10.holds hb9 hne
          refine ⟨⟨hb10, Only.fresh s9.pk.blw hO10 hgw⟩, ?_⟩
          go_frame
          refine op_val (some 14) rfl rfl rfl (v := .bool ok) (w' := w10) (by go_simp) ?_
          refine ⟨⟨hb10, Only.fresh s9.pk.blw hO10 hgw⟩, ?_⟩
          go_frame
          refine ⟨(ok, tx', vp', vt', gn), rfl, _, H', S', N', ps', ts', h10, hb10, hne.symm, hG9, s9.turn hGn hgw hgn hO10, b1, b2, b3, b4, b5, b6, b7, b8⟩

      · rintro ⟨ok, tx', vp', vt', gn⟩ w11 ⟨G', H', S', N', ps', ts', h11, hb11, hne, hGg', s', b1, b2, b3, b4, b5, b6, b7, b8⟩
        clear HPL HS HB HCL
        dsimp only at h11 hb11 hne s' b1 b2 b3 b4 b5 b6 b7 b8
        obtain ⟨pp, cp, evp⟩ := s'.oi.len
        obtain ⟨pt, ct, evt⟩ := s'.ot.len
        obtain ⟨n1, hn1⟩ : ∃ n1, ps'.length = n1 := ⟨_, rfl⟩
        obtain ⟨n2, hn2⟩ : ∃ n2, ts'.length = n2 := ⟨_, rfl⟩
        rw [hn1] at evp
        rw [hn2] at evt
        subst evp evt
        have HN1 : Hid (ps'.length = n1) := hn1
        clear hn1 hn2
        cases ok with
        | true =>
          have l0 : w11.cell? ⟨gn, 0, none⟩ = some (.int .i64 tx') := h11.cell 0
          have l1 : w11.cell? ⟨gn, 1, none⟩ = some (.slice pp n1 cp) := h11.cell 1
          have l2 : w11.cell? ⟨gn, 2, none⟩ = some (.slice pt n2 ct) := h11.cell 2
          go_frame
          go_wp2_with ((with_reducible show wpList _ _ _ (Oper.mk _ (Op.store 34 _ _) _ _ _ _ :: _) _ _); go_must (refine wpList_storeH rfl 34 _ _ rfl g #[.int .i64 tx', .slice pp n1 cp, .slice pt n2 ct] rfl rfl 34 _ hb11 infoStG rfl (by simp [Value.oneCell']) ?_; intro w12 h12 hO12 hs12))
          have s12 := s'.turn hGg' HG.out hb11 hO12
          clear l0 l1 l2
          go_roundw
          case rel => exact ⟨i + 1, G', H', S', N', tx', _, _, ps', ts', by go_num, by omega, hGg', h12, s12, by omega, by omega, by omega, by rw [b4]; exact hsz, by omega, by rw [b7]; exact hrd⟩
          case measure => simp [Lib.intOf]; omega
        | false =>
          obtain ⟨e1, e2, e3, e4, e5⟩ := b8 rfl
          go_frame
          go_wp2_with fail
          subst e1 e2 e3 e4 e5
          go_roundw
          case rel => exact ⟨i + 1, G', H', S', N', _, _, _, _, _, by go_num, by omega, hGg', hb11, s', by omega, by omega, by omega, by rw [b4]; exact hsz, by omega, by rw [b7]; exact hrd⟩
          case measure => simp [Lib.intOf]; omega

    · have hin : n = i := by omega
      subst hin
      obtain ⟨pp, cp, evp⟩ := s.oi.len
      obtain ⟨pt, ct, evt⟩ := s.ot.len
      obtain ⟨n1, hn1⟩ : ∃ n1, ps.length = n1 := ⟨_, rfl⟩
      obtain ⟨n2, hn2⟩ : ∃ n2, ts.length = n2 := ⟨_, rfl⟩
      rw [hn1] at evp
      rw [hn2] at evt
      subst evp evt
      have HN1 : Hid (ps.length = n1 ∧ n1 ≤ 40) := ⟨hn1, by omega⟩
      have HST : Hid (S.P.pages ≤ 42 ∧ N ≤ 68 ∧ tx ≤ 8) := ⟨by have := s.st; omega, by omega, by omega⟩
      clear hn1 hn2 hpl hN hst htx hi hlt hx
      have HS : Hid _ := s
      have HBX : Hid (Holds wr g 34 #[.int .i64 tx, .slice pp n1 cp, .slice pt n2 ct]) := hbx
      obtain ⟨wB, hwB⟩ : ∃ W, W = wr := ⟨_, rfl⟩
      subst hwB
      have hme := gmeta_any s.pk.at_.cells
      clear s hbx
      go_wp2_with fail
      refine hme.mono ?_
      clear hme
      rintro e w12 ⟨rfl, hB12⟩
      obtain ⟨gm, hgm⟩ : ∃ g, w12.heap.size = g := ⟨_, rfl⟩
      obtain ⟨W13, hW13⟩ : ∃ W, w12.alloc (.cells #[.int .i64 0, .int .i64 0, .int .i64 0, .int .i64 0] 43) = W := ⟨_, rfl⟩
      have hB13 : Below w12.heap.size w12 W13 := by rw [← hW13]; exact below_new1 _ _
      have h13 : Holds W13 gm 43 #[.int .i64 0, .int .i64 0, .int .i64 0, .int .i64 0] := by rw [← hW13, ← hgm]; exact Holds.new _ _ _
      go_wp2_with ((with_reducible show wpList _ _ _ (Oper.mk _ (Op.store 43 _ _) _ _ _ _ :: _) _ _); go_must (refine wpList_storeH rfl 43 _ _ rfl gm _ rfl rfl 43 #[.int .i64 0, .int .i64 0, .int .i64 0, .int .i64 0] h13 infoMetaG rfl (by simp [Value.oneCell']) ?_; intro w14 h14 hO14 hs14))
      have hB14 : Below wB.heap.size wB w14 := below_new hB12 (Only.fresh hB13 hO14 (by omega))
      have hsp := gspare_any (HS.out.below hB14).pk.at_.cells
      have hgmB : wB.heap.size ≤ gm := by have := hB12.size; omega
      clear hB12 hB13 h13 hO14 hs14 hW13 hgm
      refine hsp.mono ?_
      clear hsp
      rintro e w15 ⟨rfl, hw15⟩
      rw [hw15]
      clear hw15
      obtain ⟨gg, hgg⟩ : ∃ g, w14.heap.size = g := ⟨_, rfl⟩
      obtain ⟨W16, hW16⟩ : ∃ W, w14.alloc (.cells #[.slice none 0 0, .slice none 0 0] 54) = W := ⟨_, rfl⟩
      have hB16 : Below w14.heap.size w14 W16 := by rw [← hW16]; exact below_new1 _ _
      have h16 : Holds W16 gg 54 #[.slice none 0 0, .slice none 0 0] := by rw [← hW16, ← hgg]; exact Holds.new _ _ _
      have m16 : RM G w wB W16 b H S N gm gg #[.int .i64 S.P.tx, .int .i64 S.P.root, .int .i64 S.P.entries, .int .i64 S.P.pages] (.slice none 0 0) (.slice none 0 0) [] [] := by
        have s := HS.out
        have hB := below_new hB14 hB16
        have l1 := h14.lt
        have l2 := h16.lt
        refine ⟨s.pk.more hB (fun k hk => ?_), below_holds hB16 h14, h16, OI.nil _ _, OI.nil _ _, (fun k hk => by cases hk), fun k hk => hB.block k (s.pk.kept k hk), ⟨hgmB, by have := hB14.size; omega⟩, s.pk.blw.size, s.pk.kept⟩
        rcases hk with g | (g | g) | g | g
        · exact ⟨.inl g, Nat.lt_of_lt_of_le (s.pk.kept k g) hB.size⟩
        · exact ⟨.inr (by omega), by have := hB16.size; omega⟩
        · exact ⟨.inr (by have := hB14.size; omega), by omega⟩
        · cases g
        · cases g
      have HM16 : Hid _ := m16
      clear m16 hB16 h16 hB14 h14 hgmB
      obtain ⟨f, hf⟩ : ∃ f : Nat → Bool, f = fun i => decide (fr / 2 ^ i % 2 = 1) := ⟨_, rfl⟩
      have HF : Hid (∀ i, f i = decide (fr / 2 ^ i % 2 = 1)) := fun i => by rw [hf]
      clear hf
      have hqq : pgs.tmod 9 = q := hq9
      obtain ⟨many, hmany⟩ : ∃ k : Nat, k = q.natAbs := ⟨_, rfl⟩
      have HMY : Hid (-q = (many : Int) ∧ many < 9) := ⟨by omega, by omega⟩
      obtain ⟨A, hA⟩ : ∃ A, A = alL many S := ⟨_, rfl⟩
      have HA : Hid (A = alL many S) := hA
      clear hmany hA
      go_wp2_with fail
      clear hgg hW16
      go_loopw [18, 19, 20, 21, 22, 23] (fun y _ _ _ _ _ wr => ∃ (k : Nat) (H' : Hs) (T : St) (v0 v1 : Value), y = .int .i64 (k : Nat) ∧ k ≤ 2 ∧ RM G w wB wr b H' T N gm gg #[.int .i64 S.P.tx, .int .i64 S.P.root, .int .i64 S.P.entries, .int .i64 S.P.pages] v0 v1 (if k = 0 then [] else A) (if k ≤ 1 then [] else A) ∧ (k = 0 → v0 = .slice none 0 0) ∧ (k ≤ 1 → v1 = .slice none 0 0) ∧ RG S T) (fun y _ _ _ _ _ _ => 2 - (Lib.intOf y).toNat)
      case atStart => exact ⟨0, H, S, _, _, rfl, by omega, by rw [if_pos rfl, if_pos (by omega)]; exact HM16.out, fun _ => rfl, fun _ => rfl, RG.self HS.out.iv HS.out.fr HS.out.fd HS.out.st HS.out.used⟩
      case round =>
        clear HM16
        obtain ⟨k, H2, T, v0, v1, rfl, hk, m, hv0, hv1, rg⟩ := hrel
        obtain ⟨N2, hN2⟩ : ∃ x, x = N := ⟨_, rfl⟩
        rw [← hN2] at m
        by_cases hk0 : k = 0
        · subst hk0
          obtain rfl := hv0 rfl
          obtain rfl := hv1 (by omega)
          rw [if_pos rfl, if_pos (by omega)] at m
          clear hv0 hv1 hk
          have HTW0 : Hid (A = alL many T) := by
            show A = alL many T
            rw [HA.out]
            exact (twin_all HS.out.iv rg.iv HS.out.fr rg.fr HS.out.used rg.used (by omega) (rg.twin HS.out.iv HS.out.fr HS.out.st) many (by rw [HS.out.st]; have h1 := HST.out; have h2 := HMY.out.2; omega)).1

          have HSPL : Hid _ := m
          have HRG : Hid _ := rg
          clear m rg
          go_wp2_with fail
          rw [HMY.out.1]

          have hmy9 : (many : Int) < 9 := by have := HMY.out.2; omega
          go_loopw [20, 21, 22] (fun y _ _ wr => ∃ (j : Nat) (H' : Hs) (v' : Value), y = .int .i64 (j : Nat) ∧ j ≤ many ∧ RM G w wB wr b H' (alT j T) N2 gm gg #[.int .i64 S.P.tx, .int .i64 S.P.root, .int .i64 S.P.entries, .int .i64 S.P.pages] v' (.slice none 0 0) (alL j T) []) (fun y _ _ _ => many - (Lib.intOf y).toNat)
          case atStart => exact ⟨0, H2, _, rfl, by omega, HSPL.out⟩
          case round =>
            obtain ⟨j, H4, v4, rfl, hj, m⟩ := hrel
            have hai : AlI T (alT j T) (alL j T) := alI_all HRG.out.iv HRG.out.fr HRG.out.used (by rw [HRG.out.dev]; omega) j (by rw [HRG.out.stop, HRG.out.pages, HRG.out.dev]; have := HST.out; omega)
            have HAI : Hid _ := hai
            by_cases hlt2 : j < many
            · have hltj : (j : Int) < many := by omega
              have hal := pk_alloc m.pk hai.iv (by have h1 := hai.stop; rw [alL_len] at h1; rw [hai.dev, HRG.out.dev]; have h2 := HRG.out.stop; have h3 := HRG.out.pages; have h4 := HST.out; omega)
              have HM : Hid _ := m
              clear m hai
              go_wp2_with fail
              refine hal.mono ?_
              clear hal
              rintro e w6 ⟨na, T3, H3, rfl, ena, eT3, p6, s6, _⟩
              have m6 := HM.out.call p6 s6
              have HNA : Hid (na = (allocS (alT j T)).1 ∧ T3 = alT (j + 1) T) := ⟨ena, eT3⟩
              clear ena eT3 p6 s6 HM
              obtain ⟨pv, cv, hv⟩ := m6.o0.len
              rw [alL_len] at hv
              subst hv
              have ch : w6.cell? ⟨gg, 0, none⟩ = some (.slice pv j cv) := m6.bg.cell 0
              obtain ⟨gb, hgb⟩ : ∃ g, w6.heap.size = g := ⟨_, rfl⟩
              obtain ⟨Wb, hWb⟩ : ∃ W, w6.alloc (.cells #[.int .i64 na] 3) = W := ⟨_, rfl⟩
              have hBb : Below w6.heap.size w6 Wb := by rw [← hWb]; exact below_new1 _ _
              have HHB : Hid (Holds Wb gb 3 #[.int .i64 na]) := by show Holds _ _ _ _; rw [← hWb, ← hgb]; exact Holds.new _ _ _
              have HMB : Hid _ := m6.below hBb
              clear hBb m6
              go_wp2_with ((with_reducible show wpList _ _ _ (Oper.mk (some 97) _ _ _ _ _ :: _) _ _); refine HaltG.out ?_)
              unfold HaltG
              clear ch
              refine wpList_appI (some 97) rfl rfl _ _ rfl rfl rfl (base := wB.heap.size) HMB.out.o0 (by rw [alL_len]; omega) HMB.out.size HHB.out ?_
              intro v w9 ho9 hg9 hv9
              have n4 : (.slice pv j cv : Value).ownBlock ≠ some gg := fun e => by
                obtain ⟨cur, hc⟩ := HMB.out.o0.obj e
                exact HMB.out.bg.ne hc (by decide) rfl
              have h9 := (grown_keep hg9).holds HMB.out.bg n4
              obtain ⟨q9, c9, hv9s⟩ := ho9.len
              obtain ⟨n9, hn9⟩ : ∃ n9, (alL j T ++ [na]).length = n9 := ⟨_, rfl⟩
              rw [hn9] at hv9s
              subst hv9s
              obtain ⟨s1, s2, s3⟩ := stG0 h9 q9 n9 c9
              obtain ⟨w10, hw10⟩ : ∃ W, w9.setCell ⟨gg, 0, none⟩ (.slice q9 n9 c9) = W := ⟨_, rfl⟩
              rw [hw10] at s1 s2 s3
              have HM10 : Hid _ := HMB.out.app0 ho9 hg9 hv9 s3 s2
              clear s2 s3 h9 n4 hg9 hv9 ho9 hgb hWb hw10 hn9
              go_frame
              go_wp2_with ((with_reducible show wpList _ _ _ (Oper.mk none (Op.store _ _ _) _ _ _ _ :: _) _ _); go_must (refine wpList_stM rfl _ _ _ rfl rfl rfl s1 ?_))
              clear s1
              go_roundw
              case rel =>
                refine ⟨_, _, _, _, _, _, _, _, _, _, _, _, _, _, _, _, _, _, _, _, _, _, _, _, ⟨j + 1, H3, .slice q9 n9 c9, ?_, by omega, ?_⟩, rfl⟩
                · go_num
                · have h := HM10.out
                  rw [HNA.out.2] at h
                  rw [show alL (j + 1) T = alL j T ++ [na] by rw [HNA.out.1]; rfl]
                  exact h
              case measure => simp [Lib.intOf]; omega
            · have hjm : many = j := by omega
              subst hjm
              clear hlt2 hj HSPL
              obtain ⟨v5, hv5⟩ : ∃ v, v4 = v := ⟨_, rfl⟩
              subst hv5
              have HM : Hid _ := m
              have c1 : wr.cell? ⟨g, 1, none⟩ = some (.slice pp n1 cp) := by rw [World.cell?_of_block (m.same g hGg)]; exact Holds.cell HBX.out 1
              clear m hai
              go_wp2_with fail
              go_loopw [23] (fun y wr => ∃ (i : Nat) (H' : Hs), y = .int .i64 (i : Nat) ∧ i ≤ n1 ∧ RM G w wB wr b H' { alT many T with Fd := fdS f (ps.take i) (fun _ => none) } N2 gm gg #[.int .i64 S.P.tx, .int .i64 S.P.root, .int .i64 S.P.entries, .int .i64 S.P.pages] v4 (.slice none 0 0) (alL many T) [] ∧ PInv { alT many T with Fd := fdS f (ps.take i) (fun _ => none) }) (fun y _ => n1 - (Lib.intOf y).toNat)
              case atStart =>
                have hE : ({ alT many T with Fd := fdS f (ps.take 0) (fun _ => none) } : St) = alT many T := by
                  rw [List.take_zero, fdS_nil, ← HRG.out.fd, ← HAI.out.fd]
                refine ⟨0, H4, rfl, by omega, ?_, ?_⟩
                · rw [hE]; exact HM.out
                · rw [hE]; exact HAI.out.iv
              case round =>
                clear c1 HM
                obtain ⟨i2, H5, rfl, hi2, m, iv⟩ := hrel
                have c1 : wr.cell? ⟨g, 1, none⟩ = some (.slice pp n1 cp) := by rw [World.cell?_of_block (m.same g hGg)]; exact Holds.cell HBX.out 1
                by_cases hl2 : i2 < n1
                · have hl2i : (i2 : Int) < n1 := by omega
                  have h60 : (i2 : Int) < 60 := by have := HN1.out.2; omega
                  obtain ⟨z, hz⟩ : ∃ z, ps[i2]? = some z := ⟨_, List.getElem?_eq_getElem (by rw [HN1.out.1]; exact hl2)⟩
                  obtain ⟨gp, cp', ep, cz0⟩ := HS.out.oi.at hz
                  injection ep with ep1 ep2 ep3
                  subst ep1
                  clear ep2 ep3
                  rw [Nat.zero_add] at cz0
                  have cz : wr.cell? ⟨gp, i2, none⟩ = some (.int .i64 z) := by rw [World.cell?_of_block (m.same gp (HS.out.gp gp rfl))]; exact cz0
                  have HZ : Hid (ps[i2]? = some z) := hz
                  clear cz0 hz
                  obtain ⟨q, hq⟩ : ∃ q, fr / 2 ^ i2 = q := ⟨_, rfl⟩
                  have hsh := shr_val fr i2 (by omega)
                  rw [hq] at hsh
                  have HQ : Hid (fr / 2 ^ i2 = q) := hq
                  have HM : Hid _ := m
                  have HIV : Hid _ := iv
                  have HSH : Hid _ := hsh
                  clear hq m iv hsh
                  go_wp2_with ((with_reducible show wpList _ _ _ (Oper.mk (some 113) _ _ _ _ _ :: _) _ _); refine HaltG.out ?_)
                  unfold HaltG
                  refine wpList_valS (some 113) rfl rfl (HSH.out _ _ _ _ _ _ rfl rfl rfl _) ?_
                  go_frame
                  by_cases hb : q % 2 = 1
                  · have hand : bits .and .i64 q 1 = 1 := by rw [and_one]; exact hb
                    have HFi : Hid (f i2 = true) := by show _ = _; rw [HF.out i2, HQ.out]; simp [hb]
                    clear hb
                    obtain ⟨gb, hgb⟩ : ∃ g, wr.heap.size = g := ⟨_, rfl⟩
                    obtain ⟨Wb, hWb⟩ : ∃ W, wr.alloc (.cells #[.int .i64 z] 3) = W := ⟨_, rfl⟩
                    have hBb : Below wr.heap.size wr Wb := by rw [← hWb]; exact below_new1 _ _
                    have hhb : Holds Wb gb 3 #[.int .i64 z] := by rw [← hWb, ← hgb]; exact Holds.new _ _ _
                    have mb := HM.out.below hBb
                    have nbf : ¬ PgFoot b H5 gb := fun h => by have := HM.out.pk.at_.lt _ h.blk; omega
                    have huz : Us { alT many T with Fd := fdS f (ps.take i2) (fun _ => none) } z := (HAI.out.us z).2 ((HRG.out.us z).2 ((HS.out.us z).2 (List.mem_of_getElem? HZ.out)))
                    have hfz : fdS f (ps.take i2) (fun _ => none) z = none := by
                      rw [fdS_later (fun h => ?_)]
                      exact not_mem_take HS.out.nd HZ.out h
                    have hfe := pk_freeU mb.pk HIV.out z huz hfz hhb nbf
                    dsimp only at hfe
                    clear hBb hhb nbf huz hfz
                    go_wp2_with fail
                    refine hfe.mono ?_
                    rintro e w6 ⟨rfl, H6, p6, s6, i6, _⟩
                    have eS : (⟨{ (alT many T).P with used := true }, (alT many T).L, (alT many T).Fr, setM (fdS f (ps.take i2) (fun _ => none)) z (some ()), (alT many T).D⟩ : St) = { alT many T with Fd := fdS f (ps.take (i2 + 1)) (fun _ => none) } := by
                      rw [Pgr.usedE HAI.out.used, take_one HZ.out, fdS_snoc, if_pos (by rw [List.length_take, Nat.min_eq_left (Nat.le_of_lt (List.getElem?_eq_some_iff.1 HZ.out).1)]; exact HFi.out)]
                    rw [eS] at p6 i6
                    have HM6 : Hid _ := mb.call p6 s6
                    have HI6 : Hid _ := i6
                    clear hfe p6 s6 i6 eS mb
                    go_wp2_with fail
                    go_roundw
                    case rel =>
                      refine ⟨_, _, _, _, _, _, _, _, _, _, _, _, _, _, _, _, _, _, _, _, _, _, _, _, _, _, ⟨i2 + 1, H6, ?_, by omega, HM6.out, HI6.out⟩, rfl⟩
                      go_num
                    case measure => simp [Lib.intOf]; omega
                  · have hand : bits .and .i64 q 1 = 0 := by rw [and_one]; omega
                    have HFi : Hid (f i2 = false) := by show _ = _; rw [HF.out i2, HQ.out]; simp; omega
                    clear hb
                    go_wp2_with fail
                    go_roundw
                    case rel =>
                      have e3 : fdS f (ps.take (i2 + 1)) (fun _ => none) = fdS f (ps.take i2) (fun _ => none) := by
                        rw [take_one HZ.out, fdS_snoc, List.length_take, Nat.min_eq_left (Nat.le_of_lt (List.getElem?_eq_some_iff.1 HZ.out).1), HFi.out]
                        rfl
                      refine ⟨_, _, _, _, _, _, _, _, _, _, _, _, _, _, _, _, _, _, _, _, _, _, _, _, _, _, ⟨i2 + 1, H5, ?_, by omega, by rw [e3]; exact HM.out, by rw [e3]; exact HIV.out⟩, rfl⟩
                      go_num
                    case measure => simp [Lib.intOf]; omega
                · have hin2 : n1 = i2 := by omega
                  subst hin2
                  clear hl2 hi2
                  have hrl := pk_roll m.pk iv
                  have HM : Hid _ := m
                  clear m iv
                  go_wp2_with fail
                  refine hrl.mono ?_
                  clear hrl c1
                  rintro e w7 ⟨S', H7, rfl, p', s', i', us', fr', fd', D', P', _⟩
                  have m7 := HM.out.call p' s'
                  have rg7 : RG S S' := HRG.out.next HS.out.iv HS.out.fr HS.out.st HS.out.pk.at_.sp.cnt HAI.out rfl rfl (fun _ => Iff.rfl) i' us' fr' fd' D' P'
                  clear p' s' i' us' fr' fd' D' P' HM
                  have HM7 : Hid _ := m7
                  have HR7 : Hid _ := rg7
                  clear m7 rg7
                  go_wp2_with fail
                  refine wp_then_G (ι := Unit) (fun _ a => ((((((((((a.put (some 126) (.pointer (some ⟨b, 0, none⟩))).put (some 128) (.int .i64 S.P.count)).put (some 127) (.int .i64 S.P.count)).put (some 129) (.bool false)).put (some 130) (.bool false)).put (some 131) (.pointer (some ⟨b, 0, none⟩))).put (some 133) (.agg #[.int .i64 S.P.tx, .int .i64 S.P.root, .int .i64 S.P.entries, .int .i64 S.P.pages])).put (some 132) (.agg #[.int .i64 S.P.tx, .int .i64 S.P.root, .int .i64 S.P.entries, .int .i64 S.P.pages])).put (some 134) (.bool false)).put (some 135) (.bool false))) (fun _ W => RM G w wB W b H7 S' N2 gm gg #[.int .i64 S.P.tx, .int .i64 S.P.root, .int .i64 S.P.entries, .int .i64 S.P.pages] v4 (.slice none 0 0) (alL many T) []) ?_ ?_
                  · refine wp_region_u (fun W => RM G w wB W b H7 S' N2 gm gg #[.int .i64 S.P.tx, .int .i64 S.P.root, .int .i64 S.P.entries, .int .i64 S.P.pages] v4 (.slice none 0 0) (alL many T) []) (.take 0 (.take 2 (.one 1 (.take 3 (.take 4 (.take 5 (.take 7 (.one 6 (.take 8 (.take 9 .nil)))))))))) mixedP (by kernel_rfl) rfl (by kernel_rfl) (fun _ _ _ d _ h => by cases d <;> exact h) (HM7.out.below (below_drewL (Below.refl _ w7.drew))) ?_
                    refine tk_val (some 126) rfl rfl rfl (.pointer (some ⟨b, 0, none⟩)) (fun _ => by go_simp) ?_
                    refine tk_nil ?_
                    go_frame
                    refine tk_val (some 128) rfl rfl rfl (.int .i64 S.P.count) (fun _ => by go_simp) ?_
                    refine tk_nil ?_
                    go_frame
                    refine op_call (some 127) rfl rfl rfl (f := 27) (vs := #[.pointer (some ⟨b, 0, none⟩)]) (by go_simp) ?_
                    refine (gspare_any (HM7.out.below (below_drewL (Below.refl _ w7.drew))).pk.at_.cells).mono ?_
                    rintro e w8 ⟨rfl, rfl⟩
                    rw [HR7.out.cnt]
                    refine ⟨_, rfl, HM7.out.below (below_drewL (Below.refl _ w7.drew)), ?_⟩
                    go_frame
                    refine tk_val (some 129) rfl rfl rfl (.bool false) (fun _ => by go_simp) ?_
                    refine tk_nil ?_
                    go_frame
                    refine tk_val (some 130) rfl rfl rfl (.bool false) (fun _ => by go_simp) ?_
                    refine tk_nil ?_
                    go_frame
                    refine tk_val (some 131) rfl rfl rfl (.pointer (some ⟨b, 0, none⟩)) (fun _ => by go_simp) ?_
                    refine tk_nil ?_
                    go_frame
                    refine tk_ld (some 133) rfl rfl rfl _ _ rfl rfl (fun W hW => ldMeG hW.bm) ?_
                    refine tk_nil ?_
                    go_frame
                    refine op_call (some 132) rfl rfl rfl (f := 20) (vs := #[.pointer (some ⟨b, 0, none⟩)]) (by go_simp) ?_
                    refine (gmeta_any (HM7.out.below (below_drewL (Below.refl _ w7.drew))).pk.at_.cells).mono ?_
                    rintro e w9 ⟨rfl, hB9⟩
                    rw [HR7.out.tx, HR7.out.root, HR7.out.ents, HR7.out.pages]
                    refine ⟨_, rfl, HM7.out.below (below_drewL hB9), ?_⟩
                    go_frame
                    refine tk_val (some 134) rfl rfl rfl (.bool false) (fun _ => neq_metaG _ _ _ _ _ _ _ _ rfl rfl rfl _) ?_
                    refine tk_nil ?_
                    go_frame
                    refine tk_val (some 135) rfl rfl rfl (.bool false) (fun _ => by go_simp) ?_
                    refine tk_nil ?_
                    go_frame
                    exact ⟨(), rfl, HM7.out.below (below_drewL hB9)⟩
                  · intro _ w10 m10
                    have HM10 : Hid _ := m10
                    clear m10
                    go_frame
                    go_wp2_with fail
                    go_roundw
                    case rel => exact ⟨1, H7, S', v4, .slice none 0 0, rfl, by omega, by rw [if_neg (by omega), if_pos (by omega), HTW0.out]; exact hN2 ▸ HM10.out, fun h => by omega, fun _ => rfl, HR7.out⟩
                    case measure => simp [Lib.intOf]
        by_cases hk1 : k = 1
        · subst hk1
          obtain rfl := hv1 (by omega)
          rw [if_neg (by omega), if_pos (by omega)] at m
          clear hv0 hv1 hk hk0
          have HTW0 : Hid (A = alL many T) := by
            show A = alL many T
            rw [HA.out]
            exact (twin_all HS.out.iv rg.iv HS.out.fr rg.fr HS.out.used rg.used (by omega) (rg.twin HS.out.iv HS.out.fr HS.out.st) many (by rw [HS.out.st]; have h1 := HST.out; have h2 := HMY.out.2; omega)).1

          have HSPL : Hid _ := m
          have HRG : Hid _ := rg
          clear m rg
          go_wp2_with fail
          rw [HMY.out.1]

          have hmy9 : (many : Int) < 9 := by have := HMY.out.2; omega
          go_loopw [20, 21, 22] (fun y _ _ wr => ∃ (j : Nat) (H' : Hs) (v' : Value), y = .int .i64 (j : Nat) ∧ j ≤ many ∧ RM G w wB wr b H' (alT j T) N2 gm gg #[.int .i64 S.P.tx, .int .i64 S.P.root, .int .i64 S.P.entries, .int .i64 S.P.pages] v0 v' A (alL j T)) (fun y _ _ _ => many - (Lib.intOf y).toNat)
          case atStart => exact ⟨0, H2, _, rfl, by omega, HSPL.out⟩
          case round =>
            obtain ⟨j, H4, v4, rfl, hj, m⟩ := hrel
            have hai : AlI T (alT j T) (alL j T) := alI_all HRG.out.iv HRG.out.fr HRG.out.used (by rw [HRG.out.dev]; omega) j (by rw [HRG.out.stop, HRG.out.pages, HRG.out.dev]; have := HST.out; omega)
            have HAI : Hid _ := hai
            by_cases hlt2 : j < many
            · have hltj : (j : Int) < many := by omega
              have hal := pk_alloc m.pk hai.iv (by have h1 := hai.stop; rw [alL_len] at h1; rw [hai.dev, HRG.out.dev]; have h2 := HRG.out.stop; have h3 := HRG.out.pages; have h4 := HST.out; omega)
              have HM : Hid _ := m
              clear m hai
              go_wp2_with fail
              refine hal.mono ?_
              clear hal
              rintro e w6 ⟨na, T3, H3, rfl, ena, eT3, p6, s6, _⟩
              have m6 := HM.out.call p6 s6
              have HNA : Hid (na = (allocS (alT j T)).1 ∧ T3 = alT (j + 1) T) := ⟨ena, eT3⟩
              clear ena eT3 p6 s6 HM
              obtain ⟨pv, cv, hv⟩ := m6.o1.len
              rw [alL_len] at hv
              subst hv
              have ch : w6.cell? ⟨gg, 1, none⟩ = some (.slice pv j cv) := m6.bg.cell 1
              obtain ⟨gb, hgb⟩ : ∃ g, w6.heap.size = g := ⟨_, rfl⟩
              obtain ⟨Wb, hWb⟩ : ∃ W, w6.alloc (.cells #[.int .i64 na] 3) = W := ⟨_, rfl⟩
              have hBb : Below w6.heap.size w6 Wb := by rw [← hWb]; exact below_new1 _ _
              have HHB : Hid (Holds Wb gb 3 #[.int .i64 na]) := by show Holds _ _ _ _; rw [← hWb, ← hgb]; exact Holds.new _ _ _
              have HMB : Hid _ := m6.below hBb
              clear hBb m6
              go_wp2_with ((with_reducible show wpList _ _ _ (Oper.mk (some 97) _ _ _ _ _ :: _) _ _); refine HaltG.out ?_)
              unfold HaltG
              clear ch
              refine wpList_appI (some 97) rfl rfl _ _ rfl rfl rfl (base := wB.heap.size) HMB.out.o1 (by rw [alL_len]; omega) HMB.out.size HHB.out ?_
              intro v w9 ho9 hg9 hv9
              have n4 : (.slice pv j cv : Value).ownBlock ≠ some gg := fun e => by
                obtain ⟨cur, hc⟩ := HMB.out.o1.obj e
                exact HMB.out.bg.ne hc (by decide) rfl
              have h9 := (grown_keep hg9).holds HMB.out.bg n4
              obtain ⟨q9, c9, hv9s⟩ := ho9.len
              obtain ⟨n9, hn9⟩ : ∃ n9, (alL j T ++ [na]).length = n9 := ⟨_, rfl⟩
              rw [hn9] at hv9s
              subst hv9s
              obtain ⟨s1, s2, s3⟩ := stG1 h9 q9 n9 c9
              obtain ⟨w10, hw10⟩ : ∃ W, w9.setCell ⟨gg, 1, none⟩ (.slice q9 n9 c9) = W := ⟨_, rfl⟩
              rw [hw10] at s1 s2 s3
              have HM10 : Hid _ := HMB.out.app1 ho9 hg9 hv9 s3 s2
              clear s2 s3 h9 n4 hg9 hv9 ho9 hgb hWb hw10 hn9
              go_frame
              go_wp2_with ((with_reducible show wpList _ _ _ (Oper.mk none (Op.store _ _ _) _ _ _ _ :: _) _ _); go_must (refine wpList_stM rfl _ _ _ rfl rfl rfl s1 ?_))
              clear s1
              go_roundw
              case rel =>
                refine ⟨_, _, _, _, _, _, _, _, _, _, _, _, _, _, _, _, _, _, _, _, _, _, _, _, ⟨j + 1, H3, .slice q9 n9 c9, ?_, by omega, ?_⟩, rfl⟩
                · go_num
                · have h := HM10.out
                  rw [HNA.out.2] at h
                  rw [show alL (j + 1) T = alL j T ++ [na] by rw [HNA.out.1]; rfl]
                  exact h
              case measure => simp [Lib.intOf]; omega
            · have hjm : many = j := by omega
              subst hjm
              clear hlt2 hj HSPL
              obtain ⟨v5, hv5⟩ : ∃ v, v4 = v := ⟨_, rfl⟩
              subst hv5
              have HM : Hid _ := m
              have c1 : wr.cell? ⟨g, 1, none⟩ = some (.slice pp n1 cp) := by rw [World.cell?_of_block (m.same g hGg)]; exact Holds.cell HBX.out 1
              clear m hai
              go_wp2_with fail
              go_loopw [23] (fun y wr => ∃ (i : Nat) (H' : Hs), y = .int .i64 (i : Nat) ∧ i ≤ n1 ∧ RM G w wB wr b H' { alT many T with Fd := fdS f (ps.take i) (fun _ => none) } N2 gm gg #[.int .i64 S.P.tx, .int .i64 S.P.root, .int .i64 S.P.entries, .int .i64 S.P.pages] v0 v4 A (alL many T) ∧ PInv { alT many T with Fd := fdS f (ps.take i) (fun _ => none) }) (fun y _ => n1 - (Lib.intOf y).toNat)
              case atStart =>
                have hE : ({ alT many T with Fd := fdS f (ps.take 0) (fun _ => none) } : St) = alT many T := by
                  rw [List.take_zero, fdS_nil, ← HRG.out.fd, ← HAI.out.fd]
                refine ⟨0, H4, rfl, by omega, ?_, ?_⟩
                · rw [hE]; exact HM.out
                · rw [hE]; exact HAI.out.iv
              case round =>
                clear c1 HM
                obtain ⟨i2, H5, rfl, hi2, m, iv⟩ := hrel
                have c1 : wr.cell? ⟨g, 1, none⟩ = some (.slice pp n1 cp) := by rw [World.cell?_of_block (m.same g hGg)]; exact Holds.cell HBX.out 1
                by_cases hl2 : i2 < n1
                · have hl2i : (i2 : Int) < n1 := by omega
                  have h60 : (i2 : Int) < 60 := by have := HN1.out.2; omega
                  obtain ⟨z, hz⟩ : ∃ z, ps[i2]? = some z := ⟨_, List.getElem?_eq_getElem (by rw [HN1.out.1]; exact hl2)⟩
                  obtain ⟨gp, cp', ep, cz0⟩ := HS.out.oi.at hz
                  injection ep with ep1 ep2 ep3
                  subst ep1
                  clear ep2 ep3
                  rw [Nat.zero_add] at cz0
                  have cz : wr.cell? ⟨gp, i2, none⟩ = some (.int .i64 z) := by rw [World.cell?_of_block (m.same gp (HS.out.gp gp rfl))]; exact cz0
                  have HZ : Hid (ps[i2]? = some z) := hz
                  clear cz0 hz
                  obtain ⟨q, hq⟩ : ∃ q, fr / 2 ^ i2 = q := ⟨_, rfl⟩
                  have hsh := shr_val fr i2 (by omega)
                  rw [hq] at hsh
                  have HQ : Hid (fr / 2 ^ i2 = q) := hq
                  have HM : Hid _ := m
                  have HIV : Hid _ := iv
                  have HSH : Hid _ := hsh
                  clear hq m iv hsh
                  go_wp2_with ((with_reducible show wpList _ _ _ (Oper.mk (some 113) _ _ _ _ _ :: _) _ _); refine HaltG.out ?_)
                  unfold HaltG
                  refine wpList_valS (some 113) rfl rfl (HSH.out _ _ _ _ _ _ rfl rfl rfl _) ?_
                  go_frame
                  by_cases hb : q % 2 = 1
                  · have hand : bits .and .i64 q 1 = 1 := by rw [and_one]; exact hb
                    have HFi : Hid (f i2 = true) := by show _ = _; rw [HF.out i2, HQ.out]; simp [hb]
                    clear hb
                    obtain ⟨gb, hgb⟩ : ∃ g, wr.heap.size = g := ⟨_, rfl⟩
                    obtain ⟨Wb, hWb⟩ : ∃ W, wr.alloc (.cells #[.int .i64 z] 3) = W := ⟨_, rfl⟩
                    have hBb : Below wr.heap.size wr Wb := by rw [← hWb]; exact below_new1 _ _
                    have hhb : Holds Wb gb 3 #[.int .i64 z] := by rw [← hWb, ← hgb]; exact Holds.new _ _ _
                    have mb := HM.out.below hBb
                    have nbf : ¬ PgFoot b H5 gb := fun h => by have := HM.out.pk.at_.lt _ h.blk; omega
                    have huz : Us { alT many T with Fd := fdS f (ps.take i2) (fun _ => none) } z := (HAI.out.us z).2 ((HRG.out.us z).2 ((HS.out.us z).2 (List.mem_of_getElem? HZ.out)))
                    have hfz : fdS f (ps.take i2) (fun _ => none) z = none := by
                      rw [fdS_later (fun h => ?_)]
                      exact not_mem_take HS.out.nd HZ.out h
                    have hfe := pk_freeU mb.pk HIV.out z huz hfz hhb nbf
                    dsimp only at hfe
                    clear hBb hhb nbf huz hfz
                    go_wp2_with fail
                    refine hfe.mono ?_
                    rintro e w6 ⟨rfl, H6, p6, s6, i6, _⟩
                    have eS : (⟨{ (alT many T).P with used := true }, (alT many T).L, (alT many T).Fr, setM (fdS f (ps.take i2) (fun _ => none)) z (some ()), (alT many T).D⟩ : St) = { alT many T with Fd := fdS f (ps.take (i2 + 1)) (fun _ => none) } := by
                      rw [Pgr.usedE HAI.out.used, take_one HZ.out, fdS_snoc, if_pos (by rw [List.length_take, Nat.min_eq_left (Nat.le_of_lt (List.getElem?_eq_some_iff.1 HZ.out).1)]; exact HFi.out)]
                    rw [eS] at p6 i6
                    have HM6 : Hid _ := mb.call p6 s6
                    have HI6 : Hid _ := i6
                    clear hfe p6 s6 i6 eS mb
                    go_wp2_with fail
                    go_roundw
                    case rel =>
                      refine ⟨_, _, _, _, _, _, _, _, _, _, _, _, _, _, _, _, _, _, _, _, _, _, _, _, _, _, ⟨i2 + 1, H6, ?_, by omega, HM6.out, HI6.out⟩, rfl⟩
                      go_num
                    case measure => simp [Lib.intOf]; omega
                  · have hand : bits .and .i64 q 1 = 0 := by rw [and_one]; omega
                    have HFi : Hid (f i2 = false) := by show _ = _; rw [HF.out i2, HQ.out]; simp; omega
                    clear hb
                    go_wp2_with fail
                    go_roundw
                    case rel =>
                      have e3 : fdS f (ps.take (i2 + 1)) (fun _ => none) = fdS f (ps.take i2) (fun _ => none) := by
                        rw [take_one HZ.out, fdS_snoc, List.length_take, Nat.min_eq_left (Nat.le_of_lt (List.getElem?_eq_some_iff.1 HZ.out).1), HFi.out]
                        rfl
                      refine ⟨_, _, _, _, _, _, _, _, _, _, _, _, _, _, _, _, _, _, _, _, _, _, _, _, _, _, ⟨i2 + 1, H5, ?_, by omega, by rw [e3]; exact HM.out, by rw [e3]; exact HIV.out⟩, rfl⟩
                      go_num
                    case measure => simp [Lib.intOf]; omega
                · have hin2 : n1 = i2 := by omega
                  subst hin2
                  clear hl2 hi2
                  have hrl := pk_roll m.pk iv
                  have HM : Hid _ := m
                  clear m iv
                  go_wp2_with fail
                  refine hrl.mono ?_
                  clear hrl c1
                  rintro e w7 ⟨S', H7, rfl, p', s', i', us', fr', fd', D', P', _⟩
                  have m7 := HM.out.call p' s'
                  have rg7 : RG S S' := HRG.out.next HS.out.iv HS.out.fr HS.out.st HS.out.pk.at_.sp.cnt HAI.out rfl rfl (fun _ => Iff.rfl) i' us' fr' fd' D' P'
                  clear p' s' i' us' fr' fd' D' P' HM
                  have HM7 : Hid _ := m7
                  have HR7 : Hid _ := rg7
                  clear m7 rg7
                  go_wp2_with fail
                  refine wp_then_G (ι := Unit) (fun _ a => ((((((((((a.put (some 126) (.pointer (some ⟨b, 0, none⟩))).put (some 128) (.int .i64 S.P.count)).put (some 127) (.int .i64 S.P.count)).put (some 129) (.bool false)).put (some 130) (.bool false)).put (some 131) (.pointer (some ⟨b, 0, none⟩))).put (some 133) (.agg #[.int .i64 S.P.tx, .int .i64 S.P.root, .int .i64 S.P.entries, .int .i64 S.P.pages])).put (some 132) (.agg #[.int .i64 S.P.tx, .int .i64 S.P.root, .int .i64 S.P.entries, .int .i64 S.P.pages])).put (some 134) (.bool false)).put (some 135) (.bool false))) (fun _ W => RM G w wB W b H7 S' N2 gm gg #[.int .i64 S.P.tx, .int .i64 S.P.root, .int .i64 S.P.entries, .int .i64 S.P.pages] v0 v4 A (alL many T)) ?_ ?_
                  · refine wp_region_u (fun W => RM G w wB W b H7 S' N2 gm gg #[.int .i64 S.P.tx, .int .i64 S.P.root, .int .i64 S.P.entries, .int .i64 S.P.pages] v0 v4 A (alL many T)) (.take 0 (.take 2 (.one 1 (.take 3 (.take 4 (.take 5 (.take 7 (.one 6 (.take 8 (.take 9 .nil)))))))))) mixedP (by kernel_rfl) rfl (by kernel_rfl) (fun _ _ _ d _ h => by cases d <;> exact h) (HM7.out.below (below_drewL (Below.refl _ w7.drew))) ?_
                    refine tk_val (some 126) rfl rfl rfl (.pointer (some ⟨b, 0, none⟩)) (fun _ => by go_simp) ?_
                    refine tk_nil ?_
                    go_frame
                    refine tk_val (some 128) rfl rfl rfl (.int .i64 S.P.count) (fun _ => by go_simp) ?_
                    refine tk_nil ?_
                    go_frame
                    refine op_call (some 127) rfl rfl rfl (f := 27) (vs := #[.pointer (some ⟨b, 0, none⟩)]) (by go_simp) ?_
                    refine (gspare_any (HM7.out.below (below_drewL (Below.refl _ w7.drew))).pk.at_.cells).mono ?_
                    rintro e w8 ⟨rfl, rfl⟩
                    rw [HR7.out.cnt]
                    refine ⟨_, rfl, HM7.out.below (below_drewL (Below.refl _ w7.drew)), ?_⟩
                    go_frame
                    refine tk_val (some 129) rfl rfl rfl (.bool false) (fun _ => by go_simp) ?_
                    refine tk_nil ?_
                    go_frame
                    refine tk_val (some 130) rfl rfl rfl (.bool false) (fun _ => by go_simp) ?_
                    refine tk_nil ?_
                    go_frame
                    refine tk_val (some 131) rfl rfl rfl (.pointer (some ⟨b, 0, none⟩)) (fun _ => by go_simp) ?_
                    refine tk_nil ?_
                    go_frame
                    refine tk_ld (some 133) rfl rfl rfl _ _ rfl rfl (fun W hW => ldMeG hW.bm) ?_
                    refine tk_nil ?_
                    go_frame
                    refine op_call (some 132) rfl rfl rfl (f := 20) (vs := #[.pointer (some ⟨b, 0, none⟩)]) (by go_simp) ?_
                    refine (gmeta_any (HM7.out.below (below_drewL (Below.refl _ w7.drew))).pk.at_.cells).mono ?_
                    rintro e w9 ⟨rfl, hB9⟩
                    rw [HR7.out.tx, HR7.out.root, HR7.out.ents, HR7.out.pages]
                    refine ⟨_, rfl, HM7.out.below (below_drewL hB9), ?_⟩
                    go_frame
                    refine tk_val (some 134) rfl rfl rfl (.bool false) (fun _ => neq_metaG _ _ _ _ _ _ _ _ rfl rfl rfl _) ?_
                    refine tk_nil ?_
                    go_frame
                    refine tk_val (some 135) rfl rfl rfl (.bool false) (fun _ => by go_simp) ?_
                    refine tk_nil ?_
                    go_frame
                    exact ⟨(), rfl, HM7.out.below (below_drewL hB9)⟩
                  · intro _ w10 m10
                    have HM10 : Hid _ := m10
                    clear m10
                    go_frame
                    go_wp2_with fail
                    go_roundw
                    case rel => exact ⟨2, H7, S', v0, v4, rfl, by omega, by rw [if_neg (by omega), if_neg (by omega)]; have h := HM10.out; rw [← show A = alL many T from HTW0.out] at h; exact hN2 ▸ h, fun h => by omega, fun h => by omega, HR7.out⟩
                    case measure => simp [Lib.intOf]
        have hk2 : k = 2 := by omega
        subst hk2
        rw [if_neg (by omega), if_neg (by omega)] at m
        clear hv0 hv1 hk hk0 hk1
        have HRG : Hid _ := rg
        obtain ⟨p0, k0, hv0⟩ := m.o0.len
        obtain ⟨p1, k1, hv1⟩ := m.o1.len
        have hAl : A.length = many := by rw [HA.out, alL_len]
        rw [hAl] at hv0 hv1
        subst hv0 hv1
        have HND : Hid (A.Nodup) := by
          show A.Nodup
          rw [HA.out]
          exact (alI_all HS.out.iv HS.out.fr HS.out.used (by omega) many (by rw [HS.out.st]; have h1 := HST.out; have h2 := HMY.out.2; omega)).nd
        have HAL : Hid (A.length = many ∧ many < 9) := ⟨hAl, HMY.out.2⟩
        have HM : Hid _ := m
        clear m rg hAl
        go_wp2_with fail
        go_loopw [24, 25] (fun y _ wr => ∃ (i3 : Nat), y = .int .i64 (i3 : Nat) ∧ i3 ≤ many ∧ RM G w wB wr b H2 T N2 gm gg #[.int .i64 S.P.tx, .int .i64 S.P.root, .int .i64 S.P.entries, .int .i64 S.P.pages] (.slice p0 many k0) (.slice p1 many k1) A A) (fun y _ _ => many - (Lib.intOf y).toNat)
        case atStart => exact ⟨0, rfl, by omega, HM.out⟩
        case round =>
          clear HM
          obtain ⟨i3, rfl, hi3, m⟩ := hrel
          have hm9 : (many : Int) < 9 := by have := HAL.out.2; omega
          have cg0 : wr.cell? ⟨gg, 0, none⟩ = some (.slice p0 many k0) := m.bg.cell 0
          have cg1 : wr.cell? ⟨gg, 1, none⟩ = some (.slice p1 many k1) := m.bg.cell 1
          by_cases hl3 : i3 < many
          · have hl3i : (i3 : Int) < many := by omega
            obtain ⟨z, hz⟩ : ∃ z, A[i3]? = some z := ⟨_, List.getElem?_eq_getElem (by rw [HAL.out.1]; exact hl3)⟩
            obtain ⟨a0, c0, e0, z0⟩ := m.o0.at hz
            obtain ⟨a1, c1, e1, z1⟩ := m.o1.at hz
            injection e0 with e0 e0b e0c
            injection e1 with e1 e1b e1c
            subst e0 e1
            clear e0b e0c e1b e1c
            rw [Nat.zero_add] at z0 z1
            have HZ : Hid (A[i3]? = some z) := hz
            have HM : Hid _ := m
            clear m hz
            go_wp2_with fail
            clear cg0 cg1 z0 z1
            refine wp_then_G (ι := Unit) (fun _ a => (((((((((((a.put (some 143) (.pointer (some ⟨gg, 0, none⟩))).put (some 144) (.slice (some ⟨a0, 0, none⟩) many k0)).put (some 145) (.int .i64 (i3 : Nat))).put (some 146) (.pointer (some ⟨a0, i3, none⟩))).put (some 147) (.int .i64 z)).put (some 148) (.pointer (some ⟨gg, 1, none⟩))).put (some 149) (.slice (some ⟨a1, 0, none⟩) many k1)).put (some 150) (.int .i64 (i3 : Nat))).put (some 151) (.pointer (some ⟨a1, i3, none⟩))).put (some 152) (.int .i64 z)).put (some 153) (.bool false))) (fun _ W => RM G w wB W b H2 T N2 gm gg #[.int .i64 S.P.tx, .int .i64 S.P.root, .int .i64 S.P.entries, .int .i64 S.P.pages] (.slice (some ⟨a0, 0, none⟩) many k0) (.slice (some ⟨a1, 0, none⟩) many k1) A A) ?_ ?_
            · refine wp_region_u (fun W => RM G w wB W b H2 T N2 gm gg #[.int .i64 S.P.tx, .int .i64 S.P.root, .int .i64 S.P.entries, .int .i64 S.P.pages] (.slice (some ⟨a0, 0, none⟩) many k0) (.slice (some ⟨a1, 0, none⟩) many k1) A A) (.take 0 (.take 1 (.take 2 (.take 3 (.take 4 (.take 5 (.take 6 (.take 7 (.take 8 (.take 9 (.take 10 .nil))))))))))) mixedP (by kernel_rfl) rfl (by kernel_rfl) (fun _ _ _ d _ h => by cases d <;> exact h) (HM.out.below (below_drewL (Below.refl _ wr.drew))) ?_
              refine tk_val (some 143) rfl rfl rfl (.pointer (some ⟨gg, 0, none⟩)) (fun _ => by go_simp) ?_
              refine tk_nil ?_
              go_frame
              refine tk_ld (some 144) rfl rfl rfl _ _ rfl rfl (fun W hW => ldSlG (hW.bg.cell 0)) ?_
              refine tk_nil ?_
              go_frame
              refine tk_val (some 145) rfl rfl rfl (.int .i64 (i3 : Nat)) (fun _ => by go_simp) ?_
              refine tk_nil ?_
              go_frame
              refine tk_val (some 146) rfl rfl rfl (.pointer (some ⟨a0, i3, none⟩)) (fun _ => by go_simp) ?_
              refine tk_nil ?_
              go_frame
              refine tk_ld (some 147) rfl rfl rfl _ _ rfl rfl (fun W hW => ldIntG (row_cell hW.o0 HZ.out)) ?_
              refine tk_nil ?_
              go_frame
              refine tk_val (some 148) rfl rfl rfl (.pointer (some ⟨gg, 1, none⟩)) (fun _ => by go_simp) ?_
              refine tk_nil ?_
              go_frame
              refine tk_ld (some 149) rfl rfl rfl _ _ rfl rfl (fun W hW => ldSlG (hW.bg.cell 1)) ?_
              refine tk_nil ?_
              go_frame
              refine tk_val (some 150) rfl rfl rfl (.int .i64 (i3 : Nat)) (fun _ => by go_simp) ?_
              refine tk_nil ?_
              go_frame
              refine tk_val (some 151) rfl rfl rfl (.pointer (some ⟨a1, i3, none⟩)) (fun _ => by go_simp) ?_
              refine tk_nil ?_
              go_frame
              refine tk_ld (some 152) rfl rfl rfl _ _ rfl rfl (fun W hW => ldIntG (row_cell hW.o1 HZ.out)) ?_
              refine tk_nil ?_
              go_frame
              refine tk_val (some 153) rfl rfl rfl (.bool false) (fun _ => by go_simp) ?_
              refine tk_nil ?_
              go_frame
              exact ⟨(), rfl, HM.out.below (below_drewL (Below.refl _ wr.drew))⟩
            · intro _ w41 m41
              have HM41 : Hid _ := m41
              clear m41 HM
              go_frame
              go_wp2_with fail
              go_loopw [25] (fun y wr => ∃ (j3 : Nat), y = .int .i64 (j3 : Nat) ∧ j3 ≤ i3 ∧ RM G w wB wr b H2 T N2 gm gg #[.int .i64 S.P.tx, .int .i64 S.P.root, .int .i64 S.P.entries, .int .i64 S.P.pages] (.slice (some ⟨a0, 0, none⟩) many k0) (.slice (some ⟨a1, 0, none⟩) many k1) A A) (fun y _ => i3 - (Lib.intOf y).toNat)
              case atStart => exact ⟨0, rfl, by omega, HM41.out⟩
              case round =>
                clear HM41
                obtain ⟨j3, rfl, hj3, m⟩ := hrel
                have HM : Hid _ := m
                clear m
                by_cases hl4 : j3 < i3
                · have hl4i : (j3 : Int) < i3 := by omega
                  have hl5i : (j3 : Int) < many := by omega
                  obtain ⟨y3, hy3⟩ : ∃ z, A[j3]? = some z := ⟨_, List.getElem?_eq_getElem (by rw [HAL.out.1]; omega)⟩
                  have HY : Hid (A[j3]? = some y3) := hy3
                  have hyz : (y3 == z) = false := by
                    rw [beq_eq_false_iff_ne]
                    intro e
                    have h1 := List.getElem?_eq_some_iff.1 HY.out
                    have h2 := List.getElem?_eq_some_iff.1 HZ.out
                    obtain ⟨b1, c1⟩ := h1
                    obtain ⟨b2, c2⟩ := h2
                    exact (List.pairwise_iff_getElem.1 HND.out) j3 i3 b1 b2 hl4 (by rw [c1, c2, e])
                  clear hy3
                  go_wp2_with fail
                  refine wp_then_G (ι := Unit) (fun _ a => (((((((((((a.put (some 159) (.pointer (some ⟨gg, 0, none⟩))).put (some 160) (.slice (some ⟨a0, 0, none⟩) many k0)).put (some 161) (.int .i64 (j3 : Nat))).put (some 162) (.pointer (some ⟨a0, j3, none⟩))).put (some 163) (.int .i64 y3)).put (some 164) (.pointer (some ⟨gg, 0, none⟩))).put (some 165) (.slice (some ⟨a0, 0, none⟩) many k0)).put (some 166) (.int .i64 (i3 : Nat))).put (some 167) (.pointer (some ⟨a0, i3, none⟩))).put (some 168) (.int .i64 z)).put (some 169) (.bool false))) (fun _ W => RM G w wB W b H2 T N2 gm gg #[.int .i64 S.P.tx, .int .i64 S.P.root, .int .i64 S.P.entries, .int .i64 S.P.pages] (.slice (some ⟨a0, 0, none⟩) many k0) (.slice (some ⟨a1, 0, none⟩) many k1) A A) ?_ ?_
                  · refine wp_region_u (fun W => RM G w wB W b H2 T N2 gm gg #[.int .i64 S.P.tx, .int .i64 S.P.root, .int .i64 S.P.entries, .int .i64 S.P.pages] (.slice (some ⟨a0, 0, none⟩) many k0) (.slice (some ⟨a1, 0, none⟩) many k1) A A) (.take 0 (.take 1 (.take 2 (.take 3 (.take 4 (.take 5 (.take 6 (.take 7 (.take 8 (.take 9 (.take 10 .nil))))))))))) mixedP (by kernel_rfl) rfl (by kernel_rfl) (fun _ _ _ d _ h => by cases d <;> exact h) (HM.out.below (below_drewL (Below.refl _ wr.drew))) ?_
                    refine tk_val (some 159) rfl rfl rfl (.pointer (some ⟨gg, 0, none⟩)) (fun _ => by go_simp) ?_
                    refine tk_nil ?_
                    go_frame
                    refine tk_ld (some 160) rfl rfl rfl _ _ rfl rfl (fun W hW => ldSlG (hW.bg.cell 0)) ?_
                    refine tk_nil ?_
                    go_frame
                    refine tk_val (some 161) rfl rfl rfl (.int .i64 (j3 : Nat)) (fun _ => by go_simp) ?_
                    refine tk_nil ?_
                    go_frame
                    refine tk_val (some 162) rfl rfl rfl (.pointer (some ⟨a0, j3, none⟩)) (fun _ => by go_simp) ?_
                    refine tk_nil ?_
                    go_frame
                    refine tk_ld (some 163) rfl rfl rfl _ _ rfl rfl (fun W hW => ldIntG (row_cell hW.o0 HY.out)) ?_
                    refine tk_nil ?_
                    go_frame
                    refine tk_val (some 164) rfl rfl rfl (.pointer (some ⟨gg, 0, none⟩)) (fun _ => by go_simp) ?_
                    refine tk_nil ?_
                    go_frame
                    refine tk_ld (some 165) rfl rfl rfl _ _ rfl rfl (fun W hW => ldSlG (hW.bg.cell 0)) ?_
                    refine tk_nil ?_
                    go_frame
                    refine tk_val (some 166) rfl rfl rfl (.int .i64 (i3 : Nat)) (fun _ => by go_simp) ?_
                    refine tk_nil ?_
                    go_frame
                    refine tk_val (some 167) rfl rfl rfl (.pointer (some ⟨a0, i3, none⟩)) (fun _ => by go_simp) ?_
                    refine tk_nil ?_
                    go_frame
                    refine tk_ld (some 168) rfl rfl rfl _ _ rfl rfl (fun W hW => ldIntG (row_cell hW.o0 HZ.out)) ?_
                    refine tk_nil ?_
                    go_frame
                    refine tk_val (some 169) rfl rfl rfl (.bool false) (fun _ => by go_simp) ?_
                    refine tk_nil ?_
                    go_frame
                    exact ⟨(), rfl, HM.out.below (below_drewL (Below.refl _ wr.drew))⟩
                  · intro _ w46 m46
                    have HM46 : Hid _ := m46
                    clear m46 HM
                    go_frame
                    go_wp2_with fail
                    go_roundw
                    case rel =>
                      exact ⟨j3 + 1, by go_num, by omega, HM46.out⟩
                    case measure => simp [Lib.intOf]; omega
                · have hji : i3 = j3 := by omega
                  subst hji
                  clear hl4 hj3
                  go_wp2_with fail
                  go_roundw
                  case rel =>
                    exact ⟨i3 + 1, by go_num, by omega, HM.out⟩
                  case measure => simp [Lib.intOf]; omega
          · have hin3 : many = i3 := by omega
            subst hin3
            clear hl3 hi3
            have s := HS.out
            have hb := m.same
            have rg := HRG.out
            have hh := has10_any (m.pk.less (G := G) (fun k hk => .inl hk)) hT tx (s.oi.block (fun k hk => hb k (s.gp k hk))) (s.ot.block (fun k hk => hb k (s.gt k hk))) s.len (by rw [HN1.out.1, hN2]; have := HN1.out.2; have := HST.out; omega) s.gp s.gt (by rw [rg.reads, hrd]; decide) (by rw [rg.dev]; exact s.fw) (fun i n t hi ht => by
              obtain ⟨q1, q2⟩ := s.rd i n t hi ht
              have hu := (s.us n).2 (List.mem_of_getElem? hi)
              refine ⟨by have := hu.1; omega, ?_, q1, ?_⟩
              · rw [rg.dev]
                have h1 := hu.2.1
                have h2 := HST.out
                omega
              · rw [rg.dev]
                exact q2)
            rw [show (T.P.tx == tx) = true by rw [rg.tx, s.txe]; simp] at hh
            have l0 : wr.cell? ⟨g, 0, none⟩ = some (.int .i64 tx) := by rw [World.cell?_of_block (hb g hGg)]; exact Holds.cell HBX.out 0
            have l1 : wr.cell? ⟨g, 1, none⟩ = some (.slice pp n1 cp) := by rw [World.cell?_of_block (hb g hGg)]; exact Holds.cell HBX.out 1
            have l2 : wr.cell? ⟨g, 2, none⟩ = some (.slice pt n2 ct) := by rw [World.cell?_of_block (hb g hGg)]; exact Holds.cell HBX.out 2
            clear s hb rg m
            go_wp2_with fail
            refine hh.mono ?_
            clear hh l0 l1 l2 cg0 cg1
            rintro e w17 ⟨rfl, D', p17, _⟩
            have hB17 := p17.blw
            clear p17
            go_wp2_with fail
            go_ret
            exact ⟨rfl, hB17⟩
end Go.Proofs.YtjklcnknbcmgoaaGreatDoor
