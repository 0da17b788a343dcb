/-
  PagerGuards' walk.
-/
import Derived.Test.YtjklcnknbcmgoaaGreatDoorGPlayW
import Derived.Test.YtjklcnknbcmgoaaGreatDoorGLawP
namespace Go.Proofs.YtjklcnknbcmgoaaGreatDoor
open Go Go.RowKit Go.Maps

set_option maxRecDepth 8000 in
set_option maxHeartbeats 4000000 in
theorem guards_few {w : World} (hT : K.Tabs w) {p : Option Addr} {n c : Nat} {L : List TxF} (hx : TxsFull w p n L) (_hnc : n ≤ c) (_hc : c ≤ 9223372036854775807) (h8 : n ≤ 8) (kn : Int) (hkn : -9223372036854775808 ≤ kn ∧ kn ≤ 9223372036854775807) (x : ByteArray) (hxs : x.size ≤ 9223372036854775807) :
    Calls Tryz.prog 7 #[.slice p n c, .int .i64 kn, .string x] w fun e w' => e = .returned (.bool true) ∧ Below w.heap.size w w' := by
  have hq := ptr_eql
  have hpg := pg_eql
  have hnot := run_not
  have haw := awake_any hT
  go_enter Tryz.func7, Tryz.ntmps7
  go_wp2_with fail
  refine haw.mono ?_
  clear haw
  rintro e w1 ⟨rfl, hB1⟩
  have hnw := new_any 200 w1
  go_wp2_with fail
  refine hnw.mono ?_
  clear hnw
  rintro e w2 ⟨h, rfl, a2, hn2, hB2⟩
  have hz2 : (Dev.new 200).size = 200 := rfl
  have hBw2 : Below w.heap.size w w2 := below_new hB1 hB2
  have hop := pk_open2 a2 (fun k hk => Nat.le_trans hB1.size (hn2 k hk)) hBw2 (cm_new 200) (by rw [hz2]; decide) (fun _ => rfl) (Dev.new_ok 200 0) (by decide) hT
  clear hB1 hB2 a2 hn2
  go_wp2_with fail
  refine hop.mono ?_
  clear hop hBw2
  rintro e w3 ⟨b, H3, D3, rfl, p3, z3, wr3⟩
  rw [hz2] at z3
  clear hz2
  by_cases hs : 1013 < x.size
  · have hsi : decide ((1013 : Int) < x.size) = true := by simp; omega
    have hb3 := p3.blw
    clear p3 hs
    go_wp2_with fail
    go_ret
    exact ⟨rfl, hb3⟩
  have hsi : decide ((1013 : Int) < x.size) = false := by simp; omega
  have hus := pk_use p3 rfl (show (2 : Int) ≤ topPg by decide)
  go_wp2_with fail
  refine hus.mono ?_
  clear hus
  rintro e w4 ⟨rfl, H4, p4, _⟩
  have e4 : St.useS ⟨⟨0, 0, 0, 2, 2, 0, false, false, 0⟩, [], fun _ => none, fun _ => none, D3⟩ = S0 D3 := by
    unfold St.useS addI
    rfl
  rw [e4] at p4
  have s4 := sta_start p4 wr3
  clear e4 p4 p3 wr3
  obtain ⟨g, hg⟩ : ∃ g, w4.heap.size = g := ⟨_, rfl⟩
  obtain ⟨W5, hW5⟩ : ∃ W, w4.alloc (.cells #[.int .i64 0, .slice none 0 0, .slice none 0 0] 34) = W := ⟨_, rfl⟩
  have h5 : Holds W5 g 34 #[.int .i64 0, .slice none 0 0, .slice none 0 0] := by rw [← hW5, ← hg]; exact Holds.new _ _ _
  have hB5 : Below w4.heap.size w4 W5 := by rw [← hW5]; exact below_new1 _ _
  go_wp2_with ((with_reducible show wpList _ _ _ (Oper.mk _ (Op.store 34 _ _) _ _ _ _ :: _) _ _); go_must (refine wpList_storeH rfl 34 _ _ rfl g #[.int .i64 0, .slice none 0 0, .slice none 0 0] rfl rfl 34 _ h5 infoStG rfl (by simp [Value.oneCell']) ?_; intro w6 h6 hO6 hs6))
  have hB6 : Below w4.heap.size w4 w6 := Only.fresh hB5 hO6 (by omega)
  have s6 : Sta (fun k => k = g) w w6 b H4 (S0 D3) 4 0 (.slice none 0 0) (.slice none 0 0) [] [] := s4.more hB6 (fun k hk => ⟨.inr (by omega), by have := h6.lt; omega⟩) (fun k hk => hk.elim)
  have HG : Hid (w.heap.size ≤ g) := by have := s4.pk.blw.size; show _ ≤ _; omega
  clear hB5 h5 hO6 hs6 hB6 s4 hg hW5

  go_loopw [12, 13, 14] (fun y _ _ wr => ∃ (i : Nat) (G : Nat → Prop) (H : Hs) (S : St) (N : Nat) (tx : Int) (vp vt : Value) (ps : List Int) (ts : List ByteArray), y = .int .i64 (i : Nat) ∧ i ≤ n ∧ G g ∧ Holds wr g 34 #[.int .i64 tx, vp, vt] ∧ Sta G w wr b H S N tx vp vt ps ts ∧ N ≤ 4 + 8 * i ∧ ps.length ≤ 5 * i ∧ tx ≤ i ∧ S.D.size = 200 ∧ S.P.stop ≤ 2 + 5 * i ∧ S.P.reads = 0) (fun y _ _ _ => n - (Lib.intOf y).toNat)
  case atStart => exact ⟨0, (fun k => k = g), H4, S0 D3, 4, 0, _, _, [], [], rfl, by omega, rfl, h6, s6, by omega, by simp, by decide, z3, by show (2 : Int) ≤ _; omega, rfl⟩
  case round =>
    obtain ⟨i, G, H, S, N, tx, vp, vt, ps, ts, rfl, hi, hGg, hbx, s, hN, hpl, htx, hsz, hst, hrd⟩ := hrel
    clear h6 s6 z3
    by_cases hlt : i < n
    · have hlt1 : (i : Int) < n := by omega
      have hlt2 : (i : Int) < 8 := by omega
      obtain ⟨t, ht⟩ : ∃ t, L[i]? = some t := ⟨_, List.getElem?_eq_getElem (by rw [← hx.1]; omega)⟩
      obtain ⟨ab, ao, eab, hcl⟩ := hx.at ht
      subst eab
      have HCL : Hid _ := hcl
      have hpl2 := plays_any (s.below (below_drewL (Below.refl _ wr.drew))) hT (by omega) (by omega) (by omega) (by omega) t.pg t.fr t.en t.ar t.fa t.byte (.slice t.p t.m t.c)
      have HPL : Hid _ := hpl2
      have HS : Hid _ := s
      have HB : Hid _ := hbx
      have hTt : t.ok w := hx.2.1 t (List.mem_of_getElem? ht)
      clear hpl2 hcl s hbx ht
      go_wp2_with fail
      refine wp_then_G (ι := Bool × Int × Value × Value × Nat) (fun z a => ((((((((((((a.put (some 61) (.pointer (some ⟨b, 0, none⟩))).put (some 62) (.agg #[.int .i64 tx, vp, vt])).put (some 63) (.slice (some ⟨ab, ao, none⟩) n c)).put (some 64) (.int .i64 (i : Nat))).put (some 65) (.pointer (some ⟨ab, ao + i * 7, none⟩))).put (some 66) (.agg #[.int .i64 t.pg, .int .i64 t.fr, .int .i64 t.en, .int .i64 t.ar, .int .i64 t.fa, .int .u8 (t.byte.toNat : Nat), .slice t.p t.m t.c])).put (some 67) (.tuple #[.agg #[.int .i64 z.2.1, z.2.2.1, z.2.2.2.1], .bool z.1])).put (some 60) (.tuple #[.agg #[.int .i64 z.2.1, z.2.2.1, z.2.2.2.1], .bool z.1])).put (some 68) (.agg #[.int .i64 z.2.1, z.2.2.1, z.2.2.2.1])).put (some 69) (.bool z.1)).put (some 13) (.pointer (some ⟨z.2.2.2.2, 0, none⟩))).put (some 14) (.bool z.1))) (fun z W => ∃ (G' : Nat → Prop) (H' : Hs) (S' : St) (N' : Nat) (ps' : List Int) (ts' : List ByteArray), Holds W z.2.2.2.2 34 #[.int .i64 z.2.1, z.2.2.1, z.2.2.2.1] ∧ Holds W g 34 #[.int .i64 tx, vp, vt] ∧ z.2.2.2.2 ≠ g ∧ G' g ∧ Sta G' w W b H' S' N' z.2.1 z.2.2.1 z.2.2.2.1 ps' ts' ∧ N' ≤ N + 8 ∧ ps'.length ≤ ps.length + 5 ∧ z.2.1 ≤ tx + 1 ∧ S'.D.size = S.D.size ∧ S'.P.stop ≤ S.P.stop + 5 ∧ (S'.P.stop ≤ S.P.stop ∨ S'.P.stop ≤ ps.length + 7) ∧ S'.P.reads = S.P.reads ∧ (z.1 = false → z.2.1 = tx ∧ z.2.2.1 = vp ∧ z.2.2.2.1 = vt ∧ ps' = ps ∧ ts' = ts)) ?_ ?_
      · refine wp_region_u (fun W => Holds W g 34 #[.int .i64 tx, vp, vt] ∧ Below w.heap.size w W) (.take 0 (.take 1 (.take 2 (.take 3 (.take 4 (.take 5 (.two 6 (.take 7 (.take 8 (.take 9 (.one 10 (.one 11 (.one 12 .nil)))))) 10 (.one 6 (.take 7 (.take 8 (.take 9 (.one 11 (.one 12 .nil))))))))))))) mixedP (by kernel_rfl) rfl (by kernel_rfl) (fun _ _ _ d _ h => by cases d <;> exact h) ⟨HB.out, below_drewR HS.out.pk.blw⟩ ?_
        refine tk_val (some 61) rfl rfl rfl (.pointer (some ⟨b, 0, none⟩)) (fun _ => by go_simp) ?_
        refine tk_nil ?_
        go_frame
        refine tk_ld (some 62) rfl rfl rfl _ _ rfl rfl (fun W hW => ldStG hW.1) ?_
        refine tk_nil ?_
        go_frame
        refine tk_val (some 63) rfl rfl rfl (.slice (some ⟨ab, ao, none⟩) n c) (fun _ => by go_simp) ?_
        refine tk_nil ?_
        go_frame
        refine tk_val (some 64) rfl rfl rfl (.int .i64 (i : Nat)) (fun _ => by go_simp) ?_
        refine tk_nil ?_
        go_frame
        refine tk_val (some 65) rfl rfl rfl (.pointer (some ⟨ab, ao + i * 7, none⟩)) (fun _ => by go_simp) ?_
        refine tk_nil ?_
        go_frame
        refine tk_ld (some 66) rfl rfl rfl _ _ rfl rfl (fun W hW => ldTxF (HCL.out W hW.2)) ?_
        refine tk_nil ?_
        go_frame
        refine ⟨?_, ?_⟩
        · refine op_call (some 67) rfl rfl rfl (f := 14) (vs := #[.pointer (some ⟨b, 0, none⟩), .agg #[.int .i64 tx, vp, vt], (.agg #[.int .i64 t.pg, .int .i64 t.fr, .int .i64 t.en, .int .i64 t.ar, .int .i64 t.fa, .int .u8 (t.byte.toNat : Nat), .slice t.p t.m t.c])]) (by go_simp) ?_
          refine Calls.mono HPL.out ?_
          rintro e w8 ⟨ok, tx', vp', vt', ps', ts', H', S', N', rfl, s', sm', b1, b2, b3, b4, b5, b6, b7, b8⟩
          have hb8 : Holds w8 g 34 #[.int .i64 tx, vp, vt] := sm'.holds HB.out hGg
          refine ⟨_, rfl, ⟨hb8, s'.pk.blw⟩, ?_⟩
          go_frame
          refine tk_val (some 60) rfl rfl rfl (.tuple #[.agg #[.int .i64 tx', vp', vt'], .bool ok]) (fun _ => by go_simp) ?_
          refine tk_nil ?_
          go_frame
          refine tk_val (some 68) rfl rfl rfl (.agg #[.int .i64 tx', vp', vt']) (fun _ => by go_simp) ?_
          refine tk_nil ?_
          go_frame
          refine tk_val (some 69) rfl rfl rfl (.bool ok) (fun _ => by go_simp) ?_
          refine tk_nil ?_
          go_frame
          obtain ⟨gn, hgnE⟩ : ∃ g, w8.heap.size = g := ⟨_, rfl⟩
          obtain ⟨W9, hW9⟩ : ∃ W, w8.alloc (.cells #[.int .i64 0, .slice none 0 0, .slice none 0 0] 34) = W := ⟨_, rfl⟩
          have hgn : Holds W9 gn 34 #[.int .i64 0, .slice none 0 0, .slice none 0 0] := by rw [← hW9, ← hgnE]; exact Holds.new _ _ _
          have hB9 : Below w8.heap.size w8 W9 := by rw [← hW9]; exact below_new1 _ _
          have hb9 := below_holds hB9 hb8
          have hne : g ≠ gn := by have := hb8.lt; omega
          have hgw : w.heap.size ≤ gn := by have := s'.pk.blw.size; omega
          have s9 := s'.more (G' := fun k => GS G vp' vt' k ∨ k = gn) hB9 (fun k hk => by
            rcases hk with hk | hk
            · exact ⟨.inl hk, Nat.lt_of_lt_of_le (s'.pk.kept k hk) hB9.size⟩
            · exact ⟨.inr (by omega), by have := hgn.lt; omega⟩) (fun k hk => .inl hk)
          have hGn : (fun k => GS G vp' vt' k ∨ k = gn) gn := .inr rfl
          have hG9 : (fun k => GS G vp' vt' k ∨ k = gn) g := .inl (.inl hGg)
          refine op_val (some 13) rfl rfl rfl (v := .pointer (some ⟨gn, 0, none⟩)) (w' := W9) (by go_simp <;> first | exact ⟨hgnE, hW9⟩ | exact hW9) ?_
          refine ⟨⟨hb9, s9.pk.blw⟩, ?_⟩
          go_frame
          refine op_storeH none rfl rfl rfl 34 _ _ rfl gn #[.int .i64 tx', vp', vt'] rfl rfl 34 _ hgn infoStG rfl (by obtain ⟨_, _, e1⟩ := s'.oi.len; obtain ⟨_, _, e2⟩ := s'.ot.len; rw [e1, e2]; simp [Value.oneCell']) ?_
          intro w10 h10 hO10 hs10
          have hb10 := hO10.holds hb9 hne
          refine ⟨⟨hb10, Only.fresh s9.pk.blw hO10 hgw⟩, ?_⟩
          go_frame
          refine op_val (some 14) rfl rfl rfl (v := .bool ok) (w' := w10) (by go_simp) ?_
          refine ⟨⟨hb10, Only.fresh s9.pk.blw hO10 hgw⟩, ?_⟩
          go_frame
          refine ⟨(ok, tx', vp', vt', gn), rfl, _, H', S', N', ps', ts', h10, hb10, hne.symm, hG9, s9.turn hGn hgw hgn hO10, b1, b2, b3, b4, b5, b6, b7, b8⟩
        · obtain ⟨gn, hgnE⟩ : ∃ g, wr.drew.heap.size = g := ⟨_, rfl⟩
          obtain ⟨W7, hW7⟩ : ∃ W, wr.drew.alloc (.cells #[.int .i64 0, .slice none 0 0, .slice none 0 0] 34) = W := ⟨_, rfl⟩
          have hg7 : Holds W7 gn 34 #[.int .i64 0, .slice none 0 0, .slice none 0 0] := by rw [← hW7, ← hgnE]; exact Holds.new _ _ _
          have hB7 : Below wr.drew.heap.size wr.drew W7 := by rw [← hW7]; exact below_new1 _ _
          have hb7 := below_holds hB7 (show Holds wr.drew g 34 #[.int .i64 tx, vp, vt] from HB.out)
          have hne : g ≠ gn := by have := (show Holds wr.drew g 34 #[.int .i64 tx, vp, vt] from HB.out).lt; omega
          have s7 := HS.out.more (G' := fun k => G k ∨ k = gn) (below_drewL hB7) (fun k hk => by
            rcases hk with hk | hk
            · exact ⟨.inl hk, Nat.lt_of_lt_of_le (HS.out.pk.kept k hk) (below_drewL hB7).size⟩
            · exact ⟨.inr (by have e : wr.drew.heap.size = wr.heap.size := rfl; omega), by have := hg7.lt; omega⟩) (fun k hk => .inl hk)
          have hgw : w.heap.size ≤ gn := by have := HS.out.pk.blw.size; have e : wr.drew.heap.size = wr.heap.size := rfl; omega
          have hpl7 := plays_any s7 hT (by omega) (by omega) (by omega) (by omega) t.pg t.fr t.en t.ar t.fa t.byte (.slice t.p t.m t.c)
          refine op_val (some 13) rfl rfl rfl (v := .pointer (some ⟨gn, 0, none⟩)) (w' := W7) (by go_simp <;> first | exact ⟨hgnE, hW7⟩ | exact hW7) ?_
          refine ⟨⟨hb7, s7.pk.blw⟩, ?_⟩
          go_frame
          refine op_call (some 67) rfl rfl rfl (f := 14) (vs := #[.pointer (some ⟨b, 0, none⟩), .agg #[.int .i64 tx, vp, vt], (.agg #[.int .i64 t.pg, .int .i64 t.fr, .int .i64 t.en, .int .i64 t.ar, .int .i64 t.fa, .int .u8 (t.byte.toNat : Nat), .slice t.p t.m t.c])]) (by go_simp) ?_
          refine Calls.mono hpl7 ?_
          rintro e w8 ⟨ok, tx', vp', vt', ps', ts', H', S', N', rfl, s', sm', b1, b2, b3, b4, b5, b6, b7, b8⟩
          have hb8 : Holds w8 g 34 #[.int .i64 tx, vp, vt] := sm'.holds hb7 (.inl hGg)
          refine ⟨_, rfl, ⟨hb8, s'.pk.blw⟩, ?_⟩
          go_frame
          refine tk_val (some 60) rfl rfl rfl (.tuple #[.agg #[.int .i64 tx', vp', vt'], .bool ok]) (fun _ => by go_simp) ?_
          refine tk_nil ?_
          go_frame
          refine tk_val (some 68) rfl rfl rfl (.agg #[.int .i64 tx', vp', vt']) (fun _ => by go_simp) ?_
          refine tk_nil ?_
          go_frame
          refine tk_val (some 69) rfl rfl rfl (.bool ok) (fun _ => by go_simp) ?_
          refine tk_nil ?_
          go_frame
          have hgn : Holds w8 gn 34 #[.int .i64 0, .slice none 0 0, .slice none 0 0] := sm'.holds hg7 (.inr rfl)
          have hb9 := hb8
          have s9 := s'
          have hGn : GS (fun k => G k ∨ k = gn) vp' vt' gn := .inl (.inr rfl)
          have hG9 : GS (fun k => G k ∨ k = gn) vp' vt' g := .inl (.inl hGg)
          refine op_storeH none rfl rfl rfl 34 _ _ rfl gn #[.int .i64 tx', vp', vt'] rfl rfl 34 _ hgn infoStG rfl (by obtain ⟨_, _, e1⟩ := s'.oi.len; obtain ⟨_, _, e2⟩ := s'.ot.len; rw [e1, e2]; simp [Value.oneCell']) ?_
          intro w10 h10 hO10 hs10
          have hb10 := hO10.holds hb9 hne
          refine ⟨⟨hb10, Only.fresh s9.pk.blw hO10 hgw⟩, ?_⟩
          go_frame
          refine op_val (some 14) rfl rfl rfl (v := .bool ok) (w' := w10) (by go_simp) ?_
          refine ⟨⟨hb10, Only.fresh s9.pk.blw hO10 hgw⟩, ?_⟩
          go_frame
          refine ⟨(ok, tx', vp', vt', gn), rfl, _, H', S', N', ps', ts', h10, hb10, hne.symm, hG9, s9.turn hGn hgw hgn hO10, b1, b2, b3, b4, b5, b6, b7, b8⟩

      · rintro ⟨ok, tx', vp', vt', gn⟩ w11 ⟨G', H', S', N', ps', ts', h11, hb11, hne, hGg', s', b1, b2, b3, b4, b5, b6, b7, b8⟩
        clear HPL HS HB HCL
        dsimp only at h11 hb11 hne s' b1 b2 b3 b4 b5 b6 b7 b8
        obtain ⟨pp, cp, evp⟩ := s'.oi.len
        obtain ⟨pt, ct, evt⟩ := s'.ot.len
        obtain ⟨n1, hn1⟩ : ∃ n1, ps'.length = n1 := ⟨_, rfl⟩
        obtain ⟨n2, hn2⟩ : ∃ n2, ts'.length = n2 := ⟨_, rfl⟩
        rw [hn1] at evp
        rw [hn2] at evt
        subst evp evt
        have HN1 : Hid (ps'.length = n1) := hn1
        clear hn1 hn2
        cases ok with
        | true =>
          have l0 : w11.cell? ⟨gn, 0, none⟩ = some (.int .i64 tx') := h11.cell 0
          have l1 : w11.cell? ⟨gn, 1, none⟩ = some (.slice pp n1 cp) := h11.cell 1
          have l2 : w11.cell? ⟨gn, 2, none⟩ = some (.slice pt n2 ct) := h11.cell 2
          go_frame
          go_wp2_with ((with_reducible show wpList _ _ _ (Oper.mk _ (Op.store 34 _ _) _ _ _ _ :: _) _ _); go_must (refine wpList_storeH rfl 34 _ _ rfl g #[.int .i64 tx', .slice pp n1 cp, .slice pt n2 ct] rfl rfl 34 _ hb11 infoStG rfl (by simp [Value.oneCell']) ?_; intro w12 h12 hO12 hs12))
          have s12 := s'.turn hGg' HG.out hb11 hO12
          clear l0 l1 l2
          go_roundw
          case rel => exact ⟨i + 1, G', H', S', N', tx', _, _, ps', ts', by go_num, by omega, hGg', h12, s12, by omega, by omega, by omega, by rw [b4]; exact hsz, by omega, by rw [b7]; exact hrd⟩
          case measure => simp [Lib.intOf]; omega
        | false =>
          obtain ⟨e1, e2, e3, e4, e5⟩ := b8 rfl
          go_frame
          go_wp2_with fail
          subst e1 e2 e3 e4 e5
          go_roundw
          case rel => exact ⟨i + 1, G', H', S', N', _, _, _, _, _, by go_num, by omega, hGg', hb11, s', by omega, by omega, by omega, by rw [b4]; exact hsz, by omega, by rw [b7]; exact hrd⟩
          case measure => simp [Lib.intOf]; omega

    · have hin : n = i := by omega
      subst hin
      obtain ⟨pp, cp, evp⟩ := s.oi.len
      obtain ⟨pt, ct, evt⟩ := s.ot.len
      obtain ⟨n1, hn1⟩ : ∃ n1, ps.length = n1 := ⟨_, rfl⟩
      obtain ⟨n2, hn2⟩ : ∃ n2, ts.length = n2 := ⟨_, rfl⟩
      rw [hn1] at evp
      rw [hn2] at evt
      subst evp evt
      have HN1 : Hid (ps.length = n1 ∧ n1 ≤ 40) := ⟨hn1, by omega⟩
      have HB8 : Hid (N ≤ 4 + 8 * 8 ∧ S.P.stop ≤ 2 + 5 * 8 ∧ tx ≤ 8) := ⟨by omega, by omega, by omega⟩
      clear hn1 hn2 hpl hN hst htx hi hlt hx
      have hw1 := s.write_no hT (by have := HB8.out; omega) kn hkn x
      have HBX : Hid _ := hbx
      clear s hbx
      go_wp2_with fail
      refine hw1.mono ?_
      clear hw1
      rintro e w12 ⟨rfl, H12, s12, m12⟩
      have hb12 := m12.holds HBX.out hGg
      clear HBX m12
      go_wp2_with fail
      go_loopw [15] (fun y wr => ∃ (j : Nat) (H : Hs), y = .int .i64 (j : Nat) ∧ j ≤ n1 ∧ Holds wr g 34 #[.int .i64 tx, .slice pp n1 cp, .slice pt n2 ct] ∧ Sta G w wr b H S N tx (.slice pp n1 cp) (.slice pt n2 ct) ps ts) (fun y _ => n1 - (Lib.intOf y).toNat)
      case atStart => exact ⟨0, H12, rfl, by omega, hb12, s12⟩
      case round =>
        clear s12 hb12
        obtain ⟨j, Hj, rfl, hj, hbx, s⟩ := hrel
        have c1 : wr.cell? ⟨g, 1, none⟩ = some (.slice pp n1 cp) := hbx.cell 1
        by_cases hlj : j < n1
        · have hlji : (j : Int) < n1 := by omega
          have hj40 : (j : Int) < 40 := by have := HN1.out.2; omega
          obtain ⟨z, hz⟩ : ∃ z, ps[j]? = some z := ⟨_, List.getElem?_eq_getElem (by rw [HN1.out.1]; exact hlj)⟩
          obtain ⟨gp, cp', ep, cz⟩ := s.oi.at hz
          injection ep with ep1 ep2 ep3
          subst ep1
          clear ep2 ep3
          rw [Nat.zero_add] at cz
          have hu := (s.us z).2 (List.mem_of_getElem? hz)
          have hw := s.write_no hT (by have := HB8.out; omega) z (by have h1 := s.iv.pg; have h2 := s.iv.stop; have h3 := hu.1; have h4 := hu.2.1; omega) x
          have HBX : Hid _ := hbx
          clear s hbx hu hz
          go_wp2_with fail
          refine hw.mono ?_
          clear hw
          rintro e w13 ⟨rfl, H13, s13, m13⟩
          have hb13 := m13.holds HBX.out hGg
          have HS13 : Hid _ := s13
          have HB13 : Hid _ := hb13
          clear s13 hb13 m13 HBX
          go_wp2_with fail
          go_roundw
          case rel => exact ⟨j + 1, H13, by go_num, by omega, HB13.out, HS13.out⟩
          case measure => simp [Lib.intOf]; omega
        · have hjn : n1 = j := by omega
          subst hjn
          clear hlj hj
          have hal := pk_alloc s.pk s.iv (by have := HB8.out; omega)
          have HS : Hid _ := s
          have HBX : Hid _ := hbx
          clear s hbx
          go_wp2_with fail
          refine hal.mono ?_
          clear hal
          rintro e w13 ⟨na, S3, H3, rfl, ena, eS3, p6, s6, a1, a2, a3, a4, a5, a6, a7, a8, a9, a10, a11, a12, a13, a14⟩
          clear ena eS3
          have hfr : S3.Fr na = some () := by rw [a3, setM_same]
          have hwa := pk_writeU p6 a1 (by rw [a5]; exact HS.out.fw) hT (by have := HB8.out; omega) na ⟨by omega, by rw [a5]; exact a9⟩ hfr 84 ⟨#[102, 105, 114, 115, 116]⟩ (by decide)
          rw [show K.oct 84 = 84 from rfl] at hwa
          go_wp2_with fail
          refine hwa.mono ?_
          clear hwa
          rintro e w14 ⟨rfl, D7, H7, p7, s7, b1, b2, b3, b4, b5, b6⟩
          have hwb := pk_writeU p7 b1 b4 hT (by have := HB8.out; omega) na ⟨by omega, by show na < D7.size; rw [b3, a5]; exact a9⟩ hfr 84 x (by omega)
          rw [show K.oct 84 = 84 from rfl] at hwb
          go_wp2_with fail
          refine hwb.mono ?_
          clear hwb
          rintro e w15 ⟨rfl, D8, H8, p8, s8, c1', c2', c3', c4', c5', c6'⟩
          have hrd0 : S3.P.reads = 0 := by rw [a14]; exact hrd
          have hre := pk_read p8 hT (by have := HB8.out; omega) (by dsimp only; rw [hrd0]; decide) na ⟨by omega, by dsimp only; rw [c3', b3, a5]; exact a9⟩ 84 x (by omega) c5'
          rw [show K.oct 84 = 84 from rfl] at hre
          dsimp only at hre
          go_wp2_with fail
          refine hre.mono ?_
          clear hre
          rintro e w16 ⟨rfl, p9, s9⟩
          have hhas : D8.has na = true := has_of (by omega) (by rw [c3', b3, a5]; exact a9)
          obtain ⟨r1, r2⟩ := fw_read (by exact p8.cm) c4' hhas
          obtain ⟨_, _, _, _, r5, _⟩ := cm_read (by exact p8.cm) hhas
          have sm : SameG G wr w16 := fun k hk => ((s9 k hk).trans (s8 k hk)).trans ((s7 k hk).trans (s6 k hk))
          have hb16 := sm.holds HBX.out hGg
          have s := HS.out
          have hh := has10_any p9 hT tx (s.oi.block (fun k hk => sm k (s.gp k hk))) (s.ot.block (fun k hk => sm k (s.gt k hk))) s.len (by rw [HN1.out.1]; have := HN1.out.2; have := HB8.out; omega) s.gp s.gt (by dsimp only; rw [hrd0]; decide) r1 (fun i n t hi ht => by
            obtain ⟨q1, q2⟩ := s.rd i n t hi ht
            have hu := (s.us n).2 (List.mem_of_getElem? hi)
            have hnn : n ≠ na := fun e => a6 (e ▸ hu)
            have h1 := s.iv.pg
            refine ⟨by have := hu.1; omega, ?_, q1, ?_⟩
            · dsimp only
              rw [r5, c3', b3, a5]
              have := hu.2.1
              have := HB8.out
              omega
            · dsimp only
              rw [r2, c6' n hnn, b6 n hnn, a5]
              exact q2)
          rw [show ((({ S3 with D := D8 } : St).P.tx) == tx) = true by show (S3.P.tx == tx) = true; rw [a11, s.txe]; simp] at hh
          have l0 : w16.cell? ⟨g, 0, none⟩ = some (.int .i64 tx) := hb16.cell 0
          have l1 : w16.cell? ⟨g, 1, none⟩ = some (.slice pp n1 cp) := hb16.cell 1
          have l2 : w16.cell? ⟨g, 2, none⟩ = some (.slice pt n2 ct) := hb16.cell 2
          clear s HS HBX p6 p7 p8 p9 s6 s7 s8 s9 a1 a2 a3 a4 a5 a6 a7 a8 a9 a10 a11 a12 a13 a14 b1 b2 b3 b4 b5 b6 c1' c2' c3' c4' c5' c6' r1 r2 r5 sm hb16 hfr
          go_wp2_with fail
          refine hh.mono ?_
          clear hh l0 l1 l2
          rintro e w17 ⟨rfl, D', p17, _⟩
          have hB17 := p17.blw
          clear p17
          go_wp2_with fail
          go_ret
          exact ⟨rfl, hB17⟩
set_option maxRecDepth 8000 in
set_option maxHeartbeats 4000000 in
theorem guards_many {w : World} (hT : K.Tabs w) {p : Option Addr} {n c : Nat} {L : List TxF} (hx : TxsFull w p n L) (_hnc : n ≤ c) (_hc : c ≤ 9223372036854775807) (h8 : 8 < n) (kn : Int) (hkn : -9223372036854775808 ≤ kn ∧ kn ≤ 9223372036854775807) (x : ByteArray) (hxs : x.size ≤ 9223372036854775807) :
    Calls Tryz.prog 7 #[.slice p n c, .int .i64 kn, .string x] w fun e w' => e = .returned (.bool true) ∧ Below w.heap.size w w' := by
  have hq := ptr_eql
  have hpg := pg_eql
  have hnot := run_not
  have haw := awake_any hT
  go_enter Tryz.func7, Tryz.ntmps7
  go_wp2_with fail
  refine haw.mono ?_
  clear haw
  rintro e w1 ⟨rfl, hB1⟩
  have hnw := new_any 200 w1
  go_wp2_with fail
  refine hnw.mono ?_
  clear hnw
  rintro e w2 ⟨h, rfl, a2, hn2, hB2⟩
  have hz2 : (Dev.new 200).size = 200 := rfl
  have hBw2 : Below w.heap.size w w2 := below_new hB1 hB2
  have hop := pk_open2 a2 (fun k hk => Nat.le_trans hB1.size (hn2 k hk)) hBw2 (cm_new 200) (by rw [hz2]; decide) (fun _ => rfl) (Dev.new_ok 200 0) (by decide) hT
  clear hB1 hB2 a2 hn2
  go_wp2_with fail
  refine hop.mono ?_
  clear hop hBw2
  rintro e w3 ⟨b, H3, D3, rfl, p3, z3, wr3⟩
  rw [hz2] at z3
  clear hz2
  by_cases hs : 1013 < x.size
  · have hsi : decide ((1013 : Int) < x.size) = true := by simp; omega
    have hb3 := p3.blw
    clear p3 hs
    go_wp2_with fail
    go_ret
    exact ⟨rfl, hb3⟩
  have hsi : decide ((1013 : Int) < x.size) = false := by simp; omega
  have hus := pk_use p3 rfl (show (2 : Int) ≤ topPg by decide)
  go_wp2_with fail
  refine hus.mono ?_
  clear hus
  rintro e w4 ⟨rfl, H4, p4, _⟩
  have e4 : St.useS ⟨⟨0, 0, 0, 2, 2, 0, false, false, 0⟩, [], fun _ => none, fun _ => none, D3⟩ = S0 D3 := by
    unfold St.useS addI
    rfl
  rw [e4] at p4
  have s4 := sta_start p4 wr3
  clear e4 p4 p3 wr3
  obtain ⟨g, hg⟩ : ∃ g, w4.heap.size = g := ⟨_, rfl⟩
  obtain ⟨W5, hW5⟩ : ∃ W, w4.alloc (.cells #[.int .i64 0, .slice none 0 0, .slice none 0 0] 34) = W := ⟨_, rfl⟩
  have h5 : Holds W5 g 34 #[.int .i64 0, .slice none 0 0, .slice none 0 0] := by rw [← hW5, ← hg]; exact Holds.new _ _ _
  have hB5 : Below w4.heap.size w4 W5 := by rw [← hW5]; exact below_new1 _ _
  go_wp2_with ((with_reducible show wpList _ _ _ (Oper.mk _ (Op.store 34 _ _) _ _ _ _ :: _) _ _); go_must (refine wpList_storeH rfl 34 _ _ rfl g #[.int .i64 0, .slice none 0 0, .slice none 0 0] rfl rfl 34 _ h5 infoStG rfl (by simp [Value.oneCell']) ?_; intro w6 h6 hO6 hs6))
  have hB6 : Below w4.heap.size w4 w6 := Only.fresh hB5 hO6 (by omega)
  have s6 : Sta (fun k => k = g) w w6 b H4 (S0 D3) 4 0 (.slice none 0 0) (.slice none 0 0) [] [] := s4.more hB6 (fun k hk => ⟨.inr (by omega), by have := h6.lt; omega⟩) (fun k hk => hk.elim)
  have HG : Hid (w.heap.size ≤ g) := by have := s4.pk.blw.size; show _ ≤ _; omega
  clear hB5 h5 hO6 hs6 hB6 s4 hg hW5

  go_loopw [12, 13, 14] (fun y _ _ wr => ∃ (i : Nat) (G : Nat → Prop) (H : Hs) (S : St) (N : Nat) (tx : Int) (vp vt : Value) (ps : List Int) (ts : List ByteArray), y = .int .i64 (i : Nat) ∧ i ≤ 8 ∧ G g ∧ Holds wr g 34 #[.int .i64 tx, vp, vt] ∧ Sta G w wr b H S N tx vp vt ps ts ∧ N ≤ 4 + 8 * i ∧ ps.length ≤ 5 * i ∧ tx ≤ i ∧ S.D.size = 200 ∧ S.P.stop ≤ 2 + 5 * i ∧ S.P.reads = 0) (fun y _ _ _ => 8 - (Lib.intOf y).toNat)
  case atStart => exact ⟨0, (fun k => k = g), H4, S0 D3, 4, 0, _, _, [], [], rfl, by omega, rfl, h6, s6, by omega, by simp, by decide, z3, by show (2 : Int) ≤ _; omega, rfl⟩
  case round =>
    obtain ⟨i, G, H, S, N, tx, vp, vt, ps, ts, rfl, hi, hGg, hbx, s, hN, hpl, htx, hsz, hst, hrd⟩ := hrel
    clear h6 s6 z3
    by_cases hlt : i < 8
    · have hlt1 : (i : Int) < n := by omega
      have hlt2 : (i : Int) < 8 := by omega
      obtain ⟨t, ht⟩ : ∃ t, L[i]? = some t := ⟨_, List.getElem?_eq_getElem (by rw [← hx.1]; omega)⟩
      obtain ⟨ab, ao, eab, hcl⟩ := hx.at ht
      subst eab
      have HCL : Hid _ := hcl
      have hpl2 := plays_any (s.below (below_drewL (Below.refl _ wr.drew))) hT (by omega) (by omega) (by omega) (by omega) t.pg t.fr t.en t.ar t.fa t.byte (.slice t.p t.m t.c)
      have HPL : Hid _ := hpl2
      have HS : Hid _ := s
      have HB : Hid _ := hbx
      have hTt : t.ok w := hx.2.1 t (List.mem_of_getElem? ht)
      clear hpl2 hcl s hbx ht
      go_wp2_with fail
      refine wp_then_G (ι := Bool × Int × Value × Value × Nat) (fun z a => ((((((((((((a.put (some 61) (.pointer (some ⟨b, 0, none⟩))).put (some 62) (.agg #[.int .i64 tx, vp, vt])).put (some 63) (.slice (some ⟨ab, ao, none⟩) n c)).put (some 64) (.int .i64 (i : Nat))).put (some 65) (.pointer (some ⟨ab, ao + i * 7, none⟩))).put (some 66) (.agg #[.int .i64 t.pg, .int .i64 t.fr, .int .i64 t.en, .int .i64 t.ar, .int .i64 t.fa, .int .u8 (t.byte.toNat : Nat), .slice t.p t.m t.c])).put (some 67) (.tuple #[.agg #[.int .i64 z.2.1, z.2.2.1, z.2.2.2.1], .bool z.1])).put (some 60) (.tuple #[.agg #[.int .i64 z.2.1, z.2.2.1, z.2.2.2.1], .bool z.1])).put (some 68) (.agg #[.int .i64 z.2.1, z.2.2.1, z.2.2.2.1])).put (some 69) (.bool z.1)).put (some 13) (.pointer (some ⟨z.2.2.2.2, 0, none⟩))).put (some 14) (.bool z.1))) (fun z W => ∃ (G' : Nat → Prop) (H' : Hs) (S' : St) (N' : Nat) (ps' : List Int) (ts' : List ByteArray), Holds W z.2.2.2.2 34 #[.int .i64 z.2.1, z.2.2.1, z.2.2.2.1] ∧ Holds W g 34 #[.int .i64 tx, vp, vt] ∧ z.2.2.2.2 ≠ g ∧ G' g ∧ Sta G' w W b H' S' N' z.2.1 z.2.2.1 z.2.2.2.1 ps' ts' ∧ N' ≤ N + 8 ∧ ps'.length ≤ ps.length + 5 ∧ z.2.1 ≤ tx + 1 ∧ S'.D.size = S.D.size ∧ S'.P.stop ≤ S.P.stop + 5 ∧ (S'.P.stop ≤ S.P.stop ∨ S'.P.stop ≤ ps.length + 7) ∧ S'.P.reads = S.P.reads ∧ (z.1 = false → z.2.1 = tx ∧ z.2.2.1 = vp ∧ z.2.2.2.1 = vt ∧ ps' = ps ∧ ts' = ts)) ?_ ?_
      · refine wp_region_u (fun W => Holds W g 34 #[.int .i64 tx, vp, vt] ∧ Below w.heap.size w W) (.take 0 (.take 1 (.take 2 (.take 3 (.take 4 (.take 5 (.two 6 (.take 7 (.take 8 (.take 9 (.one 10 (.one 11 (.one 12 .nil)))))) 10 (.one 6 (.take 7 (.take 8 (.take 9 (.one 11 (.one 12 .nil))))))))))))) mixedP (by kernel_rfl) rfl (by kernel_rfl) (fun _ _ _ d _ h => by cases d <;> exact h) ⟨HB.out, below_drewR HS.out.pk.blw⟩ ?_
        refine tk_val (some 61) rfl rfl rfl (.pointer (some ⟨b, 0, none⟩)) (fun _ => by go_simp) ?_
        refine tk_nil ?_
        go_frame
        refine tk_ld (some 62) rfl rfl rfl _ _ rfl rfl (fun W hW => ldStG hW.1) ?_
        refine tk_nil ?_
        go_frame
        refine tk_val (some 63) rfl rfl rfl (.slice (some ⟨ab, ao, none⟩) n c) (fun _ => by go_simp) ?_
        refine tk_nil ?_
        go_frame
        refine tk_val (some 64) rfl rfl rfl (.int .i64 (i : Nat)) (fun _ => by go_simp) ?_
        refine tk_nil ?_
        go_frame
        refine tk_val (some 65) rfl rfl rfl (.pointer (some ⟨ab, ao + i * 7, none⟩)) (fun _ => by go_simp) ?_
        refine tk_nil ?_
        go_frame
        refine tk_ld (some 66) rfl rfl rfl _ _ rfl rfl (fun W hW => ldTxF (HCL.out W hW.2)) ?_
        refine tk_nil ?_
        go_frame
        refine ⟨?_, ?_⟩
        · refine op_call (some 67) rfl rfl rfl (f := 14) (vs := #[.pointer (some ⟨b, 0, none⟩), .agg #[.int .i64 tx, vp, vt], (.agg #[.int .i64 t.pg, .int .i64 t.fr, .int .i64 t.en, .int .i64 t.ar, .int .i64 t.fa, .int .u8 (t.byte.toNat : Nat), .slice t.p t.m t.c])]) (by go_simp) ?_
          refine Calls.mono HPL.out ?_
          rintro e w8 ⟨ok, tx', vp', vt', ps', ts', H', S', N', rfl, s', sm', b1, b2, b3, b4, b5, b6, b7, b8⟩
          have hb8 : Holds w8 g 34 #[.int .i64 tx, vp, vt] := sm'.holds HB.out hGg
          refine ⟨_, rfl, ⟨hb8, s'.pk.blw⟩, ?_⟩
          go_frame
          refine tk_val (some 60) rfl rfl rfl (.tuple #[.agg #[.int .i64 tx', vp', vt'], .bool ok]) (fun _ => by go_simp) ?_
          refine tk_nil ?_
          go_frame
          refine tk_val (some 68) rfl rfl rfl (.agg #[.int .i64 tx', vp', vt']) (fun _ => by go_simp) ?_
          refine tk_nil ?_
          go_frame
          refine tk_val (some 69) rfl rfl rfl (.bool ok) (fun _ => by go_simp) ?_
          refine tk_nil ?_
          go_frame
          obtain ⟨gn, hgnE⟩ : ∃ g, w8.heap.size = g := ⟨_, rfl⟩
          obtain ⟨W9, hW9⟩ : ∃ W, w8.alloc (.cells #[.int .i64 0, .slice none 0 0, .slice none 0 0] 34) = W := ⟨_, rfl⟩
          have hgn : Holds W9 gn 34 #[.int .i64 0, .slice none 0 0, .slice none 0 0] := by rw [← hW9, ← hgnE]; exact Holds.new _ _ _
          have hB9 : Below w8.heap.size w8 W9 := by rw [← hW9]; exact below_new1 _ _
          have hb9 := below_holds hB9 hb8
          have hne : g ≠ gn := by have := hb8.lt; omega
          have hgw : w.heap.size ≤ gn := by have := s'.pk.blw.size; omega
          have s9 := s'.more (G' := fun k => GS G vp' vt' k ∨ k = gn) hB9 (fun k hk => by
            rcases hk with hk | hk
            · exact ⟨.inl hk, Nat.lt_of_lt_of_le (s'.pk.kept k hk) hB9.size⟩
            · exact ⟨.inr (by omega), by have := hgn.lt; omega⟩) (fun k hk => .inl hk)
          have hGn : (fun k => GS G vp' vt' k ∨ k = gn) gn := .inr rfl
          have hG9 : (fun k => GS G vp' vt' k ∨ k = gn) g := .inl (.inl hGg)
          refine op_val (some 13) rfl rfl rfl (v := .pointer (some ⟨gn, 0, none⟩)) (w' := W9) (by go_simp <;> first | exact ⟨hgnE, hW9⟩ | exact hW9) ?_
          refine ⟨⟨hb9, s9.pk.blw⟩, ?_⟩
          go_frame
          refine op_storeH none rfl rfl rfl 34 _ _ rfl gn #[.int .i64 tx', vp', vt'] rfl rfl 34 _ hgn infoStG rfl (by obtain ⟨_, _, e1⟩ := s'.oi.len; obtain ⟨_, _, e2⟩ := s'.ot.len; rw [e1, e2]; simp [Value.oneCell']) ?_
          intro w10 h10 hO10 hs10
          have hb10 := hO10.holds hb9 hne
          refine ⟨⟨hb10, Only.fresh s9.pk.blw hO10 hgw⟩, ?_⟩
          go_frame
          refine op_val (some 14) rfl rfl rfl (v := .bool ok) (w' := w10) (by go_simp) ?_
          refine ⟨⟨hb10, Only.fresh s9.pk.blw hO10 hgw⟩, ?_⟩
          go_frame
          refine ⟨(ok, tx', vp', vt', gn), rfl, _, H', S', N', ps', ts', h10, hb10, hne.symm, hG9, s9.turn hGn hgw hgn hO10, b1, b2, b3, b4, b5, b6, b7, b8⟩
        · obtain ⟨gn, hgnE⟩ : ∃ g, wr.drew.heap.size = g := ⟨_, rfl⟩
          obtain ⟨W7, hW7⟩ : ∃ W, wr.drew.alloc (.cells #[.int .i64 0, .slice none 0 0, .slice none 0 0] 34) = W := ⟨_, rfl⟩
          have hg7 : Holds W7 gn 34 #[.int .i64 0, .slice none 0 0, .slice none 0 0] := by rw [← hW7, ← hgnE]; exact Holds.new _ _ _
          have hB7 : Below wr.drew.heap.size wr.drew W7 := by rw [← hW7]; exact below_new1 _ _
          have hb7 := below_holds hB7 (show Holds wr.drew g 34 #[.int .i64 tx, vp, vt] from HB.out)
          have hne : g ≠ gn := by have := (show Holds wr.drew g 34 #[.int .i64 tx, vp, vt] from HB.out).lt; omega
          have s7 := HS.out.more (G' := fun k => G k ∨ k = gn) (below_drewL hB7) (fun k hk => by
            rcases hk with hk | hk
            · exact ⟨.inl hk, Nat.lt_of_lt_of_le (HS.out.pk.kept k hk) (below_drewL hB7).size⟩
            · exact ⟨.inr (by have e : wr.drew.heap.size = wr.heap.size := rfl; omega), by have := hg7.lt; omega⟩) (fun k hk => .inl hk)
          have hgw : w.heap.size ≤ gn := by have := HS.out.pk.blw.size; have e : wr.drew.heap.size = wr.heap.size := rfl; omega
          have hpl7 := plays_any s7 hT (by omega) (by omega) (by omega) (by omega) t.pg t.fr t.en t.ar t.fa t.byte (.slice t.p t.m t.c)
          refine op_val (some 13) rfl rfl rfl (v := .pointer (some ⟨gn, 0, none⟩)) (w' := W7) (by go_simp <;> first | exact ⟨hgnE, hW7⟩ | exact hW7) ?_
          refine ⟨⟨hb7, s7.pk.blw⟩, ?_⟩
          go_frame
          refine op_call (some 67) rfl rfl rfl (f := 14) (vs := #[.pointer (some ⟨b, 0, none⟩), .agg #[.int .i64 tx, vp, vt], (.agg #[.int .i64 t.pg, .int .i64 t.fr, .int .i64 t.en, .int .i64 t.ar, .int .i64 t.fa, .int .u8 (t.byte.toNat : Nat), .slice t.p t.m t.c])]) (by go_simp) ?_
          refine Calls.mono hpl7 ?_
          rintro e w8 ⟨ok, tx', vp', vt', ps', ts', H', S', N', rfl, s', sm', b1, b2, b3, b4, b5, b6, b7, b8⟩
          have hb8 : Holds w8 g 34 #[.int .i64 tx, vp, vt] := sm'.holds hb7 (.inl hGg)
          refine ⟨_, rfl, ⟨hb8, s'.pk.blw⟩, ?_⟩
          go_frame
          refine tk_val (some 60) rfl rfl rfl (.tuple #[.agg #[.int .i64 tx', vp', vt'], .bool ok]) (fun _ => by go_simp) ?_
          refine tk_nil ?_
          go_frame
          refine tk_val (some 68) rfl rfl rfl (.agg #[.int .i64 tx', vp', vt']) (fun _ => by go_simp) ?_
          refine tk_nil ?_
          go_frame
          refine tk_val (some 69) rfl rfl rfl (.bool ok) (fun _ => by go_simp) ?_
          refine tk_nil ?_
          go_frame
          have hgn : Holds w8 gn 34 #[.int .i64 0, .slice none 0 0, .slice none 0 0] := sm'.holds hg7 (.inr rfl)
          have hb9 := hb8
          have s9 := s'
          have hGn : GS (fun k => G k ∨ k = gn) vp' vt' gn := .inl (.inr rfl)
          have hG9 : GS (fun k => G k ∨ k = gn) vp' vt' g := .inl (.inl hGg)
          refine op_storeH none rfl rfl rfl 34 _ _ rfl gn #[.int .i64 tx', vp', vt'] rfl rfl 34 _ hgn infoStG rfl (by obtain ⟨_, _, e1⟩ := s'.oi.len; obtain ⟨_, _, e2⟩ := s'.ot.len; rw [e1, e2]; simp [Value.oneCell']) ?_
          intro w10 h10 hO10 hs10
          have hb10 := hO10.holds hb9 hne
          refine ⟨⟨hb10, Only.fresh s9.pk.blw hO10 hgw⟩, ?_⟩
          go_frame
          refine op_val (some 14) rfl rfl rfl (v := .bool ok) (w' := w10) (by go_simp) ?_
          refine ⟨⟨hb10, Only.fresh s9.pk.blw hO10 hgw⟩, ?_⟩
          go_frame
          refine ⟨(ok, tx', vp', vt', gn), rfl, _, H', S', N', ps', ts', h10, hb10, hne.symm, hG9, s9.turn hGn hgw hgn hO10, b1, b2, b3, b4, b5, b6, b7, b8⟩

      · rintro ⟨ok, tx', vp', vt', gn⟩ w11 ⟨G', H', S', N', ps', ts', h11, hb11, hne, hGg', s', b1, b2, b3, b4, b5, b6, b7, b8⟩
        clear HPL HS HB HCL
        dsimp only at h11 hb11 hne s' b1 b2 b3 b4 b5 b6 b7 b8
        obtain ⟨pp, cp, evp⟩ := s'.oi.len
        obtain ⟨pt, ct, evt⟩ := s'.ot.len
        obtain ⟨n1, hn1⟩ : ∃ n1, ps'.length = n1 := ⟨_, rfl⟩
        obtain ⟨n2, hn2⟩ : ∃ n2, ts'.length = n2 := ⟨_, rfl⟩
        rw [hn1] at evp
        rw [hn2] at evt
        subst evp evt
        have HN1 : Hid (ps'.length = n1) := hn1
        clear hn1 hn2
        cases ok with
        | true =>
          have l0 : w11.cell? ⟨gn, 0, none⟩ = some (.int .i64 tx') := h11.cell 0
          have l1 : w11.cell? ⟨gn, 1, none⟩ = some (.slice pp n1 cp) := h11.cell 1
          have l2 : w11.cell? ⟨gn, 2, none⟩ = some (.slice pt n2 ct) := h11.cell 2
          go_frame
          go_wp2_with ((with_reducible show wpList _ _ _ (Oper.mk _ (Op.store 34 _ _) _ _ _ _ :: _) _ _); go_must (refine wpList_storeH rfl 34 _ _ rfl g #[.int .i64 tx', .slice pp n1 cp, .slice pt n2 ct] rfl rfl 34 _ hb11 infoStG rfl (by simp [Value.oneCell']) ?_; intro w12 h12 hO12 hs12))
          have s12 := s'.turn hGg' HG.out hb11 hO12
          clear l0 l1 l2
          go_roundw
          case rel => exact ⟨i + 1, G', H', S', N', tx', _, _, ps', ts', by go_num, by omega, hGg', h12, s12, by omega, by omega, by omega, by rw [b4]; exact hsz, by omega, by rw [b7]; exact hrd⟩
          case measure => simp [Lib.intOf]; omega
        | false =>
          obtain ⟨e1, e2, e3, e4, e5⟩ := b8 rfl
          go_frame
          go_wp2_with fail
          subst e1 e2 e3 e4 e5
          go_roundw
          case rel => exact ⟨i + 1, G', H', S', N', _, _, _, _, _, by go_num, by omega, hGg', hb11, s', by omega, by omega, by omega, by rw [b4]; exact hsz, by omega, by rw [b7]; exact hrd⟩
          case measure => simp [Lib.intOf]; omega

    · have hin : 8 = i := by omega
      subst hin
      obtain ⟨pp, cp, evp⟩ := s.oi.len
      obtain ⟨pt, ct, evt⟩ := s.ot.len
      obtain ⟨n1, hn1⟩ : ∃ n1, ps.length = n1 := ⟨_, rfl⟩
      obtain ⟨n2, hn2⟩ : ∃ n2, ts.length = n2 := ⟨_, rfl⟩
      rw [hn1] at evp
      rw [hn2] at evt
      subst evp evt
      have HN1 : Hid (ps.length = n1 ∧ n1 ≤ 40) := ⟨hn1, by omega⟩
      have HB8 : Hid (N ≤ 4 + 8 * 8 ∧ S.P.stop ≤ 2 + 5 * 8 ∧ tx ≤ 8) := ⟨by omega, by omega, by omega⟩
      clear hn1 hn2 hpl hN hst htx hi hlt hx
      have hw1 := s.write_no hT (by have := HB8.out; omega) kn hkn x
      have HBX : Hid _ := hbx
      clear s hbx
      go_wp2_with fail
      refine hw1.mono ?_
      clear hw1
      rintro e w12 ⟨rfl, H12, s12, m12⟩
      have hb12 := m12.holds HBX.out hGg
      clear HBX m12
      go_wp2_with fail
      go_loopw [15] (fun y wr => ∃ (j : Nat) (H : Hs), y = .int .i64 (j : Nat) ∧ j ≤ n1 ∧ Holds wr g 34 #[.int .i64 tx, .slice pp n1 cp, .slice pt n2 ct] ∧ Sta G w wr b H S N tx (.slice pp n1 cp) (.slice pt n2 ct) ps ts) (fun y _ => n1 - (Lib.intOf y).toNat)
      case atStart => exact ⟨0, H12, rfl, by omega, hb12, s12⟩
      case round =>
        clear s12 hb12
        obtain ⟨j, Hj, rfl, hj, hbx, s⟩ := hrel
        have c1 : wr.cell? ⟨g, 1, none⟩ = some (.slice pp n1 cp) := hbx.cell 1
        by_cases hlj : j < n1
        · have hlji : (j : Int) < n1 := by omega
          have hj40 : (j : Int) < 40 := by have := HN1.out.2; omega
          obtain ⟨z, hz⟩ : ∃ z, ps[j]? = some z := ⟨_, List.getElem?_eq_getElem (by rw [HN1.out.1]; exact hlj)⟩
          obtain ⟨gp, cp', ep, cz⟩ := s.oi.at hz
          injection ep with ep1 ep2 ep3
          subst ep1
          clear ep2 ep3
          rw [Nat.zero_add] at cz
          have hu := (s.us z).2 (List.mem_of_getElem? hz)
          have hw := s.write_no hT (by have := HB8.out; omega) z (by have h1 := s.iv.pg; have h2 := s.iv.stop; have h3 := hu.1; have h4 := hu.2.1; omega) x
          have HBX : Hid _ := hbx
          clear s hbx hu hz
          go_wp2_with fail
          refine hw.mono ?_
          clear hw
          rintro e w13 ⟨rfl, H13, s13, m13⟩
          have hb13 := m13.holds HBX.out hGg
          have HS13 : Hid _ := s13
          have HB13 : Hid _ := hb13
          clear s13 hb13 m13 HBX
          go_wp2_with fail
          go_roundw
          case rel => exact ⟨j + 1, H13, by go_num, by omega, HB13.out, HS13.out⟩
          case measure => simp [Lib.intOf]; omega
        · have hjn : n1 = j := by omega
          subst hjn
          clear hlj hj
          have hal := pk_alloc s.pk s.iv (by have := HB8.out; omega)
          have HS : Hid _ := s
          have HBX : Hid _ := hbx
          clear s hbx
          go_wp2_with fail
          refine hal.mono ?_
          clear hal
          rintro e w13 ⟨na, S3, H3, rfl, ena, eS3, p6, s6, a1, a2, a3, a4, a5, a6, a7, a8, a9, a10, a11, a12, a13, a14⟩
          clear ena eS3
          have hfr : S3.Fr na = some () := by rw [a3, setM_same]
          have hwa := pk_writeU p6 a1 (by rw [a5]; exact HS.out.fw) hT (by have := HB8.out; omega) na ⟨by omega, by rw [a5]; exact a9⟩ hfr 84 ⟨#[102, 105, 114, 115, 116]⟩ (by decide)
          rw [show K.oct 84 = 84 from rfl] at hwa
          go_wp2_with fail
          refine hwa.mono ?_
          clear hwa
          rintro e w14 ⟨rfl, D7, H7, p7, s7, b1, b2, b3, b4, b5, b6⟩
          have hwb := pk_writeU p7 b1 b4 hT (by have := HB8.out; omega) na ⟨by omega, by show na < D7.size; rw [b3, a5]; exact a9⟩ hfr 84 x (by omega)
          rw [show K.oct 84 = 84 from rfl] at hwb
          go_wp2_with fail
          refine hwb.mono ?_
          clear hwb
          rintro e w15 ⟨rfl, D8, H8, p8, s8, c1', c2', c3', c4', c5', c6'⟩
          have hrd0 : S3.P.reads = 0 := by rw [a14]; exact hrd
          have hre := pk_read p8 hT (by have := HB8.out; omega) (by dsimp only; rw [hrd0]; decide) na ⟨by omega, by dsimp only; rw [c3', b3, a5]; exact a9⟩ 84 x (by omega) c5'
          rw [show K.oct 84 = 84 from rfl] at hre
          dsimp only at hre
          go_wp2_with fail
          refine hre.mono ?_
          clear hre
          rintro e w16 ⟨rfl, p9, s9⟩
          have hhas : D8.has na = true := has_of (by omega) (by rw [c3', b3, a5]; exact a9)
          obtain ⟨r1, r2⟩ := fw_read (by exact p8.cm) c4' hhas
          obtain ⟨_, _, _, _, r5, _⟩ := cm_read (by exact p8.cm) hhas
          have sm : SameG G wr w16 := fun k hk => ((s9 k hk).trans (s8 k hk)).trans ((s7 k hk).trans (s6 k hk))
          have hb16 := sm.holds HBX.out hGg
          have s := HS.out
          have hh := has10_any p9 hT tx (s.oi.block (fun k hk => sm k (s.gp k hk))) (s.ot.block (fun k hk => sm k (s.gt k hk))) s.len (by rw [HN1.out.1]; have := HN1.out.2; have := HB8.out; omega) s.gp s.gt (by dsimp only; rw [hrd0]; decide) r1 (fun i n t hi ht => by
            obtain ⟨q1, q2⟩ := s.rd i n t hi ht
            have hu := (s.us n).2 (List.mem_of_getElem? hi)
            have hnn : n ≠ na := fun e => a6 (e ▸ hu)
            have h1 := s.iv.pg
            refine ⟨by have := hu.1; omega, ?_, q1, ?_⟩
            · dsimp only
              rw [r5, c3', b3, a5]
              have := hu.2.1
              have := HB8.out
              omega
            · dsimp only
              rw [r2, c6' n hnn, b6 n hnn, a5]
              exact q2)
          rw [show ((({ S3 with D := D8 } : St).P.tx) == tx) = true by show (S3.P.tx == tx) = true; rw [a11, s.txe]; simp] at hh
          have l0 : w16.cell? ⟨g, 0, none⟩ = some (.int .i64 tx) := hb16.cell 0
          have l1 : w16.cell? ⟨g, 1, none⟩ = some (.slice pp n1 cp) := hb16.cell 1
          have l2 : w16.cell? ⟨g, 2, none⟩ = some (.slice pt n2 ct) := hb16.cell 2
          clear s HS HBX p6 p7 p8 p9 s6 s7 s8 s9 a1 a2 a3 a4 a5 a6 a7 a8 a9 a10 a11 a12 a13 a14 b1 b2 b3 b4 b5 b6 c1' c2' c3' c4' c5' c6' r1 r2 r5 sm hb16 hfr
          go_wp2_with fail
          refine hh.mono ?_
          clear hh l0 l1 l2
          rintro e w17 ⟨rfl, D', p17, _⟩
          have hB17 := p17.blw
          clear p17
          go_wp2_with fail
          go_ret
          exact ⟨rfl, hB17⟩
theorem guards_walk {w : World} (hT : K.Tabs w) {p : Option Addr} {n c : Nat} {L : List TxF} (hx : TxsFull w p n L) (hnc : n ≤ c) (hc : c ≤ 9223372036854775807) (kn : Int) (hkn : -9223372036854775808 ≤ kn ∧ kn ≤ 9223372036854775807) (x : ByteArray) (hxs : x.size ≤ 9223372036854775807) :
    Calls Tryz.prog 7 #[.slice p n c, .int .i64 kn, .string x] w fun e w' => e = .returned (.bool true) ∧ Below w.heap.size w w' := by
  by_cases h8 : n ≤ 8
  · exact guards_few hT hx hnc hc h8 kn hkn x hxs
  · exact guards_many hT hx hnc hc (by omega) kn hkn x hxs
end Go.Proofs.YtjklcnknbcmgoaaGreatDoor
