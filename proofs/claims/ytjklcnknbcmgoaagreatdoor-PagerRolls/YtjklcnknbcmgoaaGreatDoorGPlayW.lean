/-
  A transaction of the law's: what it leaves.
-/
import Derived.Test.YtjklcnknbcmgoaaGreatDoorGP
namespace Go.Proofs.YtjklcnknbcmgoaaGreatDoor
open Go Go.RowKit Go.Maps

set_option maxRecDepth 8000 in
set_option maxHeartbeats 4000000 in
theorem plays_any {G : Nat → Prop} {w0 w : World} {b : Nat} {H : Hs} {S : St} {N : Nat} {tx : Int} {vp vt : Value} {ps : List Int} {ts : List ByteArray} (s : Sta G w0 w b H S N tx vp vt ps ts) (hT : K.Tabs w0) (htx : tx < 1000000000) (hl : ps.length < 1000000) (hN : N + 8 < 1000000000) (hroom : S.P.stop + 5 ≤ S.D.size)
    (pg fr en ar fa : Int) (c : UInt8) (pk : Value) :
    Calls Tryz.prog 14 #[.pointer (some ⟨b, 0, none⟩), .agg #[.int .i64 tx, vp, vt], .agg #[.int .i64 pg, .int .i64 fr, .int .i64 en, .int .i64 ar, .int .i64 fa, .int .u8 (c.toNat : Nat), pk]] w fun e w' => PlaysPost G w0 w b S N tx vp vt ps ts e w' := by
  obtain ⟨pp, cp, hvp⟩ := s.oi.len
  obtain ⟨pt, ct, hvt⟩ := s.ot.len
  obtain ⟨n, hn⟩ : ∃ n, ps.length = n := ⟨_, rfl⟩
  rw [s.len] at hvt
  rw [hn] at hvp hvt hl
  subst hvp hvt
  have hwid : w0.heap.size ≤ w.heap.size := s.pk.blw.size
  have HTX0 := s.tx0
  obtain ⟨g1, hg1⟩ : ∃ g, w.heap.size = g := ⟨_, rfl⟩
  obtain ⟨W1, hW1⟩ : ∃ W, w.alloc (.cells #[.int .i64 tx, .slice pp n cp, .slice pt n ct] 34) = W := ⟨_, rfl⟩
  have h1 : Holds W1 g1 34 #[.int .i64 tx, .slice pp n cp, .slice pt n ct] := by rw [← hW1, ← hg1]; exact Holds.new _ _ _
  have hB1 : Below w.heap.size w W1 := by rw [← hW1]; exact below_new1 _ _
  obtain ⟨g2, hg2⟩ : ∃ g, W1.heap.size = g := ⟨_, rfl⟩
  obtain ⟨W2, hW2⟩ : ∃ W, W1.alloc (.cells #[.int .i64 pg, .int .i64 fr, .int .i64 en, .int .i64 ar, .int .i64 fa, .int .u8 (c.toNat : Nat), pk] 36) = W := ⟨_, rfl⟩
  have h2 : Holds W2 g2 36 #[.int .i64 pg, .int .i64 fr, .int .i64 en, .int .i64 ar, .int .i64 fa, .int .u8 (c.toNat : Nat), pk] := by rw [← hW2, ← hg2]; exact Holds.new _ _ _
  have hB2 : Below W1.heap.size W1 W2 := by rw [← hW2]; exact below_new1 _ _
  obtain ⟨g3, hg3⟩ : ∃ g, W2.heap.size = g := ⟨_, rfl⟩
  obtain ⟨W3, hW3⟩ : ∃ W, W2.alloc (.cells #[.int .i64 0, .slice none 0 0, .slice none 0 0] 34) = W := ⟨_, rfl⟩
  have h3 : Holds W3 g3 34 #[.int .i64 0, .slice none 0 0, .slice none 0 0] := by rw [← hW3, ← hg3]; exact Holds.new _ _ _
  have hB3 : Below W2.heap.size W2 W3 := by rw [← hW3]; exact below_new1 _ _
  have h13 := below_holds (below_new hB2 hB3) h1
  have h23 := below_holds hB3 h2
  have c0 : W3.cell? ⟨g1, 0, none⟩ = some (.int .i64 tx) := h13.cell 0
  obtain ⟨g4, hg4⟩ : ∃ g, W3.heap.size = g := ⟨_, rfl⟩
  obtain ⟨W4, hW4⟩ : ∃ W, W3.alloc (.cells #[.int .i64 0, .slice none 0 0, .slice none 0 0] 34) = W := ⟨_, rfl⟩
  have h44 : Holds W4 g4 34 #[.int .i64 0, .slice none 0 0, .slice none 0 0] := by rw [← hW4, ← hg4]; exact Holds.new _ _ _
  have hB4 : Below W3.heap.size W3 W4 := by rw [← hW4]; exact below_new1 _ _
  have hB04 : Below w.heap.size w W4 := below_new hB1 (below_new hB2 (below_new hB3 hB4))
  have HH : Hid (Holds W4 g1 34 #[.int .i64 tx, .slice pp n cp, .slice pt n ct] ∧ Holds W4 g2 36 #[.int .i64 pg, .int .i64 fr, .int .i64 en, .int .i64 ar, .int .i64 fa, .int .u8 (c.toNat : Nat), pk] ∧ Holds W4 g3 34 #[.int .i64 0, .slice none 0 0, .slice none 0 0] ∧ Below w.heap.size w W4) := ⟨below_holds hB4 h13, below_holds hB4 h23, below_holds hB4 h3, hB04⟩
  have HD : Hid (g1 = w.heap.size ∧ g1 < g2 ∧ g2 < g3 ∧ g3 < g4) := ⟨hg1.symm, by have := h1.lt; omega, by have := h2.lt; omega, by have := h3.lt; omega⟩
  clear h1 h2 h3 h13 h23 hB1 hB2 hB3 hB4 hB04
  have HN : Hid (ps.length = n) := hn
  clear hn
  go_enter Tryz.func14, Tryz.ntmps14
  go_wp2_with ((with_reducible show wpList _ _ _ (Oper.mk _ (Op.store 34 _ _) _ _ _ _ :: _) _ _); go_must (refine wpList_storeH rfl 34 _ _ rfl g4 #[.int .i64 (tx + 1), .slice none 0 0, .slice none 0 0] rfl rfl 34 _ h44 infoStG rfl (by simp [Value.oneCell']) ?_; intro w5 h5 hO5 hs5))
  obtain ⟨d1, d2, d3, d4⟩ := HD.out
  have m0 : PM G w0 w w5 b H S N g1 g2 g3 g4 #[.int .i64 tx, .slice pp n cp, .slice pt n ct] #[.int .i64 pg, .int .i64 fr, .int .i64 en, .int .i64 ar, .int .i64 fa, .int .u8 (c.toNat : Nat), pk] (tx + 1) (.slice none 0 0) (.slice none 0 0) [] [] := by
    obtain ⟨a1, a2, a3, a4⟩ := HH.out
    have hB5 : Below w.heap.size w w5 := Only.fresh a4 hO5 (by omega)
    have l4 := h5.lt
    refine ⟨s.pk.more hB5 (fun k hk => ?_), hO5.holds a1 (by omega), hO5.holds a2 (by omega), hO5.holds a3 (by omega), h5, OI.nil _ _, OT.nil _ _, fun k hk => hB5.block k (s.pk.kept k hk), ⟨⟨by omega, by omega, by omega, by omega⟩, by omega, by omega, by omega⟩, hwid, s.pk.kept⟩
    rcases hk with g | (g | g | g | g) | g | g
    · exact ⟨.inl g, Nat.lt_of_lt_of_le (s.pk.kept k g) hB5.size⟩
    · exact ⟨.inr (by omega), by omega⟩
    · exact ⟨.inr (by omega), by omega⟩
    · exact ⟨.inr (by omega), by omega⟩
    · exact ⟨.inr (by omega), by omega⟩
    · cases g
    · cases g
  have HD0 : Hid (w0.heap.size ≤ w.heap.size) := hwid
  clear h44 h5 hO5 hs5 HH d1 d2 d3 d4 hwid
  clear hg1 hg2 hg3 hg4 hW1 hW2 hW3 hW4 c0
  obtain ⟨f, hf⟩ : ∃ f : Nat → Bool, f = freeB fr := ⟨_, rfl⟩
  have HF : Hid (∀ i, f i = freeB fr i) := fun i => by rw [hf]
  clear hf
  go_loopw [9] (fun y wr => ∃ (i : Nat) (H' : Hs) (vp' vt' : Value), y = .int .i64 (i : Nat) ∧ i ≤ n ∧ PM G w0 w wr b H' { S with Fd := fdS f (ps.take i) S.Fd } N g1 g2 g3 g4 #[.int .i64 tx, .slice pp n cp, .slice pt n ct] #[.int .i64 pg, .int .i64 fr, .int .i64 en, .int .i64 ar, .int .i64 fa, .int .u8 (c.toNat : Nat), pk] (tx + 1) vp' vt' (keptN f 0 (ps.take i)) (keptN f 0 (ts.take i)) ∧ PInv { S with Fd := fdS f (ps.take i) S.Fd }) (fun y _ => n - (Lib.intOf y).toNat)
  case atStart =>
    refine ⟨0, H, .slice none 0 0, .slice none 0 0, rfl, by omega, ?_, ?_⟩
    · simp only [List.take_zero, fdS_nil, keptN]
      exact m0
    · simp only [List.take_zero, fdS_nil]
      exact s.iv
  case round =>
    obtain ⟨i, H', vp', vt', rfl, hi, m, iv⟩ := hrel
    have c1 : wr.cell? ⟨g1, 1, none⟩ = some (.slice pp n cp) := m.b1.cell 1
    have c2 : wr.cell? ⟨g2, 1, none⟩ = some (.int .i64 fr) := m.b2.cell 1
    have hni : (n : Int) < 1000000 := by omega
    by_cases hlt : i < n
    · have hlti : (i : Int) < n := by omega
      have HL1 : Hid (i < ps.length ∧ i < ts.length) := ⟨by rw [HN.out]; exact hlt, by rw [s.len, HN.out]; exact hlt⟩
      obtain ⟨z, hz⟩ : ∃ z, ps[i]? = some z := ⟨_, List.getElem?_eq_getElem HL1.out.1⟩
      obtain ⟨t, htt⟩ : ∃ t, ts[i]? = some t := ⟨_, List.getElem?_eq_getElem HL1.out.2⟩
      obtain ⟨gp, cp', ep, cz0⟩ := s.oi.at hz
      obtain ⟨gt, ct', et, czt0⟩ := s.ot.at htt
      injection ep with ep1 ep2 ep3
      injection et with et1 et2 et3
      subst ep1 et1
      clear ep2 ep3 et2 et3
      rw [Nat.zero_add] at cz0 czt0
      have Hgp : Hid (gp < w.heap.size) := s.pk.kept gp (s.gp gp rfl)
      have Hgt : Hid (gt < w.heap.size) := s.pk.kept gt (s.gt gt rfl)
      have HGt : Hid (G gt) := s.gt gt rfl
      have HCT : Hid (w.cell? ⟨gt, i, none⟩ = some (.string t)) := czt0
      have cz : wr.cell? ⟨gp, i, none⟩ = some (.int .i64 z) := by rw [World.cell?_of_block (m.same gp (s.gp gp rfl))]; exact cz0
      have HZ : Hid (ps[i]? = some z ∧ ts[i]? = some t) := ⟨hz, htt⟩
      clear cz0 czt0 hz htt
      by_cases h60 : (i : Int) < 60
      · obtain ⟨q, hq⟩ : ∃ q, fr / 2 ^ i = q := ⟨_, rfl⟩
        have hsh := shr_val fr i (by omega)
        rw [hq] at hsh
        have HQ : Hid (fr / 2 ^ i = q) := hq
        have HM : Hid _ := m
        have HIV : Hid _ := iv
        have HSH : Hid _ := hsh
        clear hq m iv hsh
        go_wp2_with ((with_reducible show wpList _ _ _ (Oper.mk (some 32) _ _ _ _ _ :: _) _ _); refine HaltG.out ?_)
        unfold HaltG
        refine wpList_valS (some 32) rfl rfl (HSH.out _ _ _ _ _ _ rfl rfl rfl _) ?_
        go_frame
        by_cases hb : q % 2 = 1
        · have hand : bits .and .i64 q 1 = 1 := by rw [and_one]; exact hb
          clear hb
          obtain ⟨gb, hgb⟩ : ∃ g, wr.heap.size = g := ⟨_, rfl⟩
          obtain ⟨Wb, hWb⟩ : ∃ W, wr.alloc (.cells #[.int .i64 z] 3) = W := ⟨_, rfl⟩
          have hBb : Below wr.heap.size wr Wb := by rw [← hWb]; exact below_new1 _ _
          have hhb : Holds Wb gb 3 #[.int .i64 z] := by rw [← hWb, ← hgb]; exact Holds.new _ _ _
          have mb := HM.out.below hBb
          have nbf : ¬ PgFoot b H' gb := fun h => by have := HM.out.pk.at_.lt _ h.blk; omega
          have huz : Us { S with Fd := fdS f (ps.take i) S.Fd } z := (s.us z).2 (List.mem_of_getElem? HZ.out.1)
          have hfz : fdS f (ps.take i) S.Fd z = none := by
            rw [fdS_later (fun h => ?_), s.fd]
            exact not_mem_take s.nd HZ.out.1 h
          have hfe := pk_freeU mb.pk HIV.out z huz hfz hhb nbf
          dsimp only at hfe
          clear hBb hhb nbf huz hfz
          go_wp2_with fail
          refine hfe.mono ?_
          rintro e w6 ⟨rfl, H6, p6, s6, i6, _⟩
          have hFi : f i = true := by rw [HF.out i]; unfold freeB; rw [HQ.out]; simp; exact ⟨by omega, by have h := hand; rw [and_one] at h; exact h⟩
          have eS : (⟨{ S.P with used := true }, S.L, S.Fr, setM (fdS f (ps.take i) S.Fd) z (some ()), S.D⟩ : St) = { S with Fd := fdS f (ps.take (i + 1)) S.Fd } := by
            rw [Pgr.usedE s.used, take_one HZ.out.1, fdS_snoc, if_pos (by rw [List.length_take, Nat.min_eq_left (Nat.le_of_lt HL1.out.1)]; exact hFi)]
          rw [eS] at p6 i6
          have HM6 : Hid _ := mb.call p6 s6
          have HI6 : Hid _ := i6
          clear hfe p6 s6 i6 eS mb
          go_wp2_with fail
          go_roundw
          case rel =>
            refine ⟨i + 1, H6, vp', vt', by go_num, by omega, ?_, HI6.out⟩
            rw [show keptN f 0 (ps.take (i + 1)) = keptN f 0 (ps.take i) by rw [take_one HZ.out.1, keptN_snoc, if_pos (by rw [List.length_take, Nat.min_eq_left (Nat.le_of_lt HL1.out.1), Nat.zero_add]; exact hFi), List.append_nil], show keptN f 0 (ts.take (i + 1)) = keptN f 0 (ts.take i) by rw [take_one HZ.out.2, keptN_snoc, if_pos (by rw [List.length_take, Nat.min_eq_left (Nat.le_of_lt HL1.out.2), Nat.zero_add]; exact hFi), List.append_nil]]
            exact HM6.out
          case measure => simp [Lib.intOf]; omega
        · have hand : bits .and .i64 q 1 = 0 := by rw [and_one]; omega
          have HFi : Hid (f i = false) := by show _ = _; rw [HF.out i]; unfold freeB; rw [HQ.out]; simp; exact fun _ => by omega
          have m := HM.out
          have iv := HIV.out
          clear HM HIV hb
          go_wp2_with fail
          obtain ⟨pv, cv, hv⟩ := m.oi.len
          obtain ⟨qv, dv, hq⟩ := m.ot.len
          obtain ⟨nk, hnk⟩ : ∃ nk, (keptN f 0 (ps.take i)).length = nk := ⟨_, rfl⟩
          obtain ⟨nq, hnq⟩ : ∃ nk, (keptN f 0 (ts.take i)).length = nk := ⟨_, rfl⟩
          rw [hnk] at hv
          rw [hnq] at hq
          subst hv hq
          have hnk2 : nk < 1000000000 := by rw [← hnk]; exact Nat.lt_of_le_of_lt (keptN_le f _ _) (by rw [List.length_take]; omega)
          have hnq2 : nq < 1000000000 := by rw [← hnq]; exact Nat.lt_of_le_of_lt (keptN_le f _ _) (by rw [List.length_take]; omega)
          have HIV2 : Hid _ := iv
          clear iv
          obtain ⟨gb, hgb⟩ : ∃ g, wr.drew.heap.size = g := ⟨_, rfl⟩
          obtain ⟨Wb, hWb⟩ : ∃ W, wr.drew.alloc (.cells #[.int .i64 z] 3) = W := ⟨_, rfl⟩
          have hBb : Below wr.drew.heap.size wr.drew Wb := by rw [← hWb]; exact below_new1 _ _
          have hhb : Holds Wb gb 3 #[.int .i64 z] := by rw [← hWb, ← hgb]; exact Holds.new _ _ _
          have mb : PM G w0 w Wb b H' { S with Fd := fdS f (ps.take i) S.Fd } N g1 g2 g3 g4 #[.int .i64 tx, .slice (some ⟨gp, 0, none⟩) n cp, .slice (some ⟨gt, 0, none⟩) n ct] #[.int .i64 pg, .int .i64 fr, .int .i64 en, .int .i64 ar, .int .i64 fa, .int .u8 (c.toNat : Nat), pk] (tx + 1) (.slice pv nk cv) (.slice qv nq dv) (keptN f 0 (ps.take i)) (keptN f 0 (ts.take i)) := m.below (below_drewL hBb)
          have kb : Keep (fun _ => False) wr Wb := Keep.below (below_drewL hBb)
          have ch : wr.cell? ⟨g4, 1, none⟩ = some (.slice pv nk cv) := m.b4.cell 1
          have chb : Wb.cell? ⟨g4, 1, none⟩ = some (.slice pv nk cv) := mb.b4.cell 1
          refine wp_then_G (ι := Value) (fun v a => ((((((((((a.put (some 44) (.pointer (some ⟨g4, 1, none⟩))).put (some 46) (.pointer (some ⟨g1, 1, none⟩))).put (some 47) (.slice (some ⟨gp, 0, none⟩) n cp)).put (some 48) (.int .i64 (i : Nat))).put (some 49) (.pointer (some ⟨gp, i, none⟩))).put (some 50) (.int .i64 z)).put (some 45) (.slice pv nk cv)).put (some 51) (.slice (some ⟨gb, 0, none⟩) 1 1)).put (some 52) v).put (some 53) (.pointer (some ⟨g4, 1, none⟩)))) (fun v W => PM G w0 w W b H' { S with Fd := fdS f (ps.take i) S.Fd } N g1 g2 g3 g4 #[.int .i64 tx, .slice (some ⟨gp, 0, none⟩) n cp, .slice (some ⟨gt, 0, none⟩) n ct] #[.int .i64 pg, .int .i64 fr, .int .i64 en, .int .i64 ar, .int .i64 fa, .int .u8 (c.toNat : Nat), pk] (tx + 1) v (.slice qv nq dv) (keptN f 0 (ps.take i) ++ [z]) (keptN f 0 (ts.take i))) ?_ ?_
          · go_frame
            refine wp_region_tree (fun W => W.cell? ⟨g1, 1, none⟩ = some (.slice (some ⟨gp, 0, none⟩) n cp) ∧ W.cell? ⟨gp, i, none⟩ = some (.int .i64 z)) [0, 2, 3, 4, 5, 6] (.two 1 (.one 7 (.one 8 (.one 9 (.one 10 .nil)))) 7 (.one 1 (.one 8 (.one 9 (.one 10 .nil))))) mixedP (by kernel_rfl) rfl (by kernel_rfl) (fun _ _ _ d _ h => by cases d <;> exact h) ⟨c1, cz⟩ ?_
            refine tk_val (some 44) rfl rfl rfl (.pointer (some ⟨g4, 1, none⟩)) (fun _ => by go_simp) ?_
            go_frame
            refine tk_val (some 46) rfl rfl rfl (.pointer (some ⟨g1, 1, none⟩)) (fun _ => by go_simp) ?_
            go_frame
            refine tk_ld (some 47) rfl rfl rfl _ _ rfl rfl (fun W hW => ldSlG hW.1) ?_
            go_frame
            refine tk_val (some 48) rfl rfl rfl (.int .i64 (i : Nat)) (fun _ => by go_simp) ?_
            go_frame
            refine tk_val (some 49) rfl rfl rfl (.pointer (some ⟨gp, i, none⟩)) (fun _ => by go_simp) ?_
            go_frame
            refine tk_ld (some 50) rfl rfl rfl _ _ rfl rfl (fun W hW => ldIntG hW.2) ?_
            go_frame
            refine tk_nil ?_
            refine ⟨?_, ?_⟩
            · refine op_val (some 45) rfl rfl rfl (v := .slice pv nk cv) (w' := wr.drew) (by have hch : wr.drew.cell? ⟨g4, 1, none⟩ = some (.slice pv nk cv) := ch; go_simp) ?_
              refine ⟨⟨c1, cz⟩, ?_⟩
              go_frame
              refine op_val (some 51) rfl rfl rfl (v := .slice (some ⟨gb, 0, none⟩) 1 1) (w' := Wb) (by go_simp <;> first | exact ⟨hgb, hWb⟩ | exact hWb) ?_
              refine ⟨⟨cell_keep kb c1 (fun h => h), cell_keep kb cz (fun h => h)⟩, ?_⟩
              go_frame
              refine op_appI (some 52) rfl rfl rfl _ _ rfl rfl rfl (base := w.heap.size) mb.oi (by rw [hnk]; omega) mb.size hhb ?_
              intro v w9 ho9 hg9 hv9
              have k9 := grown_keep hg9
              have n1 : (.slice pv nk cv : Value).ownBlock ≠ some g1 := fun e => by
                obtain ⟨cur, hc⟩ := mb.oi.obj e
                exact mb.b1.ne hc (by decide) rfl
              have n4 : (.slice pv nk cv : Value).ownBlock ≠ some g4 := fun e => by
                obtain ⟨cur, hc⟩ := mb.oi.obj e
                exact mb.b4.ne hc (by decide) rfl
              have np : (.slice pv nk cv : Value).ownBlock ≠ some gp := fun e => by
                have h1 := (mb.oi.new _ e).1
                have h2 := Hgp.out
                omega
              have e1 := cell_keep k9 (cell_keep kb c1 (fun h => h)) n1
              have e2 := cell_keep k9 (cell_keep kb cz (fun h => h)) np
              have h9 := k9.holds mb.b4 n4
              refine ⟨⟨e1, e2⟩, ?_⟩
              obtain ⟨q9, c9, hv9s⟩ := ho9.len
              obtain ⟨n9, hn9⟩ : ∃ n9, (keptN f 0 (ps.take i) ++ [z]).length = n9 := ⟨_, rfl⟩
              rw [hn9] at hv9s
              subst hv9s
              go_frame
              refine op_val (some 53) rfl rfl rfl (v := .pointer (some ⟨g4, 1, none⟩)) (w' := w9) (by go_simp) ?_
              refine ⟨⟨e1, e2⟩, ?_⟩
              go_frame
              obtain ⟨s1, s2, s3⟩ := stSl1 h9 q9 n9 c9
              refine op_storeM none rfl rfl rfl 31 _ _ rfl rfl rfl s1 ?_
              have k10 : Keep (fun k => k = g4) w9 _ := Keep.only s3 rfl
              refine ⟨⟨cell_keep k10 e1 mb.dist.2.1, cell_keep k10 e2 (fun e => by have h2 := Hgp.out; have h3 := mb.dist.1.2.2.2; have h4 : gp = g4 := e; omega)⟩, ?_⟩
              go_frame
              exact ⟨_, rfl, mb.appI ho9 hg9 hv9 s3 s2⟩
            · refine op_val (some 51) rfl rfl rfl (v := .slice (some ⟨gb, 0, none⟩) 1 1) (w' := Wb) (by go_simp <;> first | exact ⟨hgb, hWb⟩ | exact hWb) ?_
              refine ⟨⟨cell_keep kb c1 (fun h => h), cell_keep kb cz (fun h => h)⟩, ?_⟩
              go_frame
              refine op_val (some 45) rfl rfl rfl (v := .slice pv nk cv) (w' := Wb) (by go_simp) ?_
              refine ⟨⟨cell_keep kb c1 (fun h => h), cell_keep kb cz (fun h => h)⟩, ?_⟩
              go_frame
              refine op_appI (some 52) rfl rfl rfl _ _ rfl rfl rfl (base := w.heap.size) mb.oi (by rw [hnk]; omega) mb.size hhb ?_
              intro v w9 ho9 hg9 hv9
              have k9 := grown_keep hg9
              have n1 : (.slice pv nk cv : Value).ownBlock ≠ some g1 := fun e => by
                obtain ⟨cur, hc⟩ := mb.oi.obj e
                exact mb.b1.ne hc (by decide) rfl
              have n4 : (.slice pv nk cv : Value).ownBlock ≠ some g4 := fun e => by
                obtain ⟨cur, hc⟩ := mb.oi.obj e
                exact mb.b4.ne hc (by decide) rfl
              have np : (.slice pv nk cv : Value).ownBlock ≠ some gp := fun e => by
                have h1 := (mb.oi.new _ e).1
                have h2 := Hgp.out
                omega
              have e1 := cell_keep k9 (cell_keep kb c1 (fun h => h)) n1
              have e2 := cell_keep k9 (cell_keep kb cz (fun h => h)) np
              have h9 := k9.holds mb.b4 n4
              refine ⟨⟨e1, e2⟩, ?_⟩
              obtain ⟨q9, c9, hv9s⟩ := ho9.len
              obtain ⟨n9, hn9⟩ : ∃ n9, (keptN f 0 (ps.take i) ++ [z]).length = n9 := ⟨_, rfl⟩
              rw [hn9] at hv9s
              subst hv9s
              go_frame
              refine op_val (some 53) rfl rfl rfl (v := .pointer (some ⟨g4, 1, none⟩)) (w' := w9) (by go_simp) ?_
              refine ⟨⟨e1, e2⟩, ?_⟩
              go_frame
              obtain ⟨s1, s2, s3⟩ := stSl1 h9 q9 n9 c9
              refine op_storeM none rfl rfl rfl 31 _ _ rfl rfl rfl s1 ?_
              have k10 : Keep (fun k => k = g4) w9 _ := Keep.only s3 rfl
              refine ⟨⟨cell_keep k10 e1 mb.dist.2.1, cell_keep k10 e2 (fun e => by have h2 := Hgp.out; have h3 := mb.dist.1.2.2.2; have h4 : gp = g4 := e; omega)⟩, ?_⟩
              go_frame
              exact ⟨_, rfl, mb.appI ho9 hg9 hv9 s3 s2⟩
          · intro u X1 mX
            have kX := mX.same
            obtain ⟨ctA, czt0⟩ : X1.cell? ⟨g1, 2, none⟩ = some (.slice (some ⟨gt, 0, none⟩) n ct) ∧ X1.cell? ⟨gt, i, none⟩ = some (.string t) := ⟨mX.b1.cell 2, by rw [World.cell?_of_block (kX gt HGt.out)]; exact HCT.out⟩
            have cg2 := ctA
            have czt := czt0
            clear ctA czt0
            go_frame
            go_wp2_with fail
            obtain ⟨gb, hgb⟩ : ∃ g, X1.drew.heap.size = g := ⟨_, rfl⟩
            obtain ⟨Wb, hWb⟩ : ∃ W, X1.drew.alloc (.cells #[.string t] 9) = W := ⟨_, rfl⟩
            have hBb : Below X1.drew.heap.size X1.drew Wb := by rw [← hWb]; exact below_new1 _ _
            have hhb : Holds Wb gb 9 #[.string t] := by rw [← hWb, ← hgb]; exact Holds.new _ _ _
            have mb : PM G w0 w Wb b H' { S with Fd := fdS f (ps.take i) S.Fd } N g1 g2 g3 g4 #[.int .i64 tx, .slice (some ⟨gp, 0, none⟩) n cp, .slice (some ⟨gt, 0, none⟩) n ct] #[.int .i64 pg, .int .i64 fr, .int .i64 en, .int .i64 ar, .int .i64 fa, .int .u8 (c.toNat : Nat), pk] (tx + 1) u (.slice qv nq dv) (keptN f 0 (ps.take i) ++ [z]) (keptN f 0 (ts.take i)) := mX.below (below_drewL hBb)
            have kb : Keep (fun _ => False) X1 Wb := Keep.below (below_drewL hBb)
            have ch : X1.cell? ⟨g4, 2, none⟩ = some (.slice qv nq dv) := mX.b4.cell 2
            have chb : Wb.cell? ⟨g4, 2, none⟩ = some (.slice qv nq dv) := mb.b4.cell 2
            refine wp_then_B (ι := Value) (fun v a => ((((((((((a.put (some 54) (.pointer (some ⟨g4, 2, none⟩))).put (some 56) (.pointer (some ⟨g1, 2, none⟩))).put (some 57) (.slice (some ⟨gt, 0, none⟩) n ct)).put (some 58) (.int .i64 (i : Nat))).put (some 59) (.pointer (some ⟨gt, i, none⟩))).put (some 60) (.string t)).put (some 55) (.slice qv nq dv)).put (some 61) (.slice (some ⟨gb, 0, none⟩) 1 1)).put (some 62) v).put (some 63) (.pointer (some ⟨g4, 2, none⟩)))) (fun v W => PM G w0 w W b H' { S with Fd := fdS f (ps.take i) S.Fd } N g1 g2 g3 g4 #[.int .i64 tx, .slice (some ⟨gp, 0, none⟩) n cp, .slice (some ⟨gt, 0, none⟩) n ct] #[.int .i64 pg, .int .i64 fr, .int .i64 en, .int .i64 ar, .int .i64 fa, .int .u8 (c.toNat : Nat), pk] (tx + 1) u v (keptN f 0 (ps.take i) ++ [z]) (keptN f 0 (ts.take i) ++ [t])) ?_ ?_
            · go_frame
              refine wp_region_tree (fun W => W.cell? ⟨g1, 2, none⟩ = some (.slice (some ⟨gt, 0, none⟩) n ct) ∧ W.cell? ⟨gt, i, none⟩ = some (.string t)) [0, 2, 3, 4, 5, 6] (.two 1 (.one 7 (.one 8 (.one 9 (.one 10 .nil)))) 7 (.one 1 (.one 8 (.one 9 (.one 10 .nil))))) mixedP (by kernel_rfl) rfl (by kernel_rfl) (fun _ _ _ d _ h => by cases d <;> exact h) ⟨cg2, czt⟩ ?_
              refine tk_val (some 54) rfl rfl rfl (.pointer (some ⟨g4, 2, none⟩)) (fun _ => by go_simp) ?_
              go_frame
              refine tk_val (some 56) rfl rfl rfl (.pointer (some ⟨g1, 2, none⟩)) (fun _ => by go_simp) ?_
              go_frame
              refine tk_ld (some 57) rfl rfl rfl _ _ rfl rfl (fun W hW => ldSsG hW.1) ?_
              go_frame
              refine tk_val (some 58) rfl rfl rfl (.int .i64 (i : Nat)) (fun _ => by go_simp) ?_
              go_frame
              refine tk_val (some 59) rfl rfl rfl (.pointer (some ⟨gt, i, none⟩)) (fun _ => by go_simp) ?_
              go_frame
              refine tk_ld (some 60) rfl rfl rfl _ _ rfl rfl (fun W hW => ldTxG hW.2) ?_
              go_frame
              refine tk_nil ?_
              refine ⟨?_, ?_⟩
              · refine op_val (some 55) rfl rfl rfl (v := .slice qv nq dv) (w' := X1.drew) (by have hch : X1.drew.cell? ⟨g4, 2, none⟩ = some (.slice qv nq dv) := ch; go_simp) ?_
                refine ⟨⟨cg2, czt⟩, ?_⟩
                go_frame
                refine op_val (some 61) rfl rfl rfl (v := .slice (some ⟨gb, 0, none⟩) 1 1) (w' := Wb) (by go_simp <;> first | exact ⟨hgb, hWb⟩ | exact hWb) ?_
                refine ⟨⟨cell_keep kb cg2 (fun h => h), cell_keep kb czt (fun h => h)⟩, ?_⟩
                go_frame
                refine op_appT (some 62) rfl rfl rfl _ _ rfl rfl rfl (base := w.heap.size) mb.ot (by rw [hnq]; omega) mb.size hhb ?_
                intro v w9 ho9 hg9 hv9
                have k9 := grown_keep hg9
                have n1 : (.slice qv nq dv : Value).ownBlock ≠ some g1 := fun e => by
                  obtain ⟨cur, hc⟩ := mb.ot.obj e
                  exact mb.b1.ne hc (by decide) rfl
                have n4 : (.slice qv nq dv : Value).ownBlock ≠ some g4 := fun e => by
                  obtain ⟨cur, hc⟩ := mb.ot.obj e
                  exact mb.b4.ne hc (by decide) rfl
                have np : (.slice qv nq dv : Value).ownBlock ≠ some gt := fun e => by
                  have h1 := (mb.ot.new _ e).1
                  have h2 := Hgt.out
                  omega
                have e1 := cell_keep k9 (cell_keep kb cg2 (fun h => h)) n1
                have e2 := cell_keep k9 (cell_keep kb czt (fun h => h)) np
                have h9 := k9.holds mb.b4 n4
                refine ⟨⟨e1, e2⟩, ?_⟩
                obtain ⟨q9, c9, hv9s⟩ := ho9.len
                obtain ⟨n9, hn9⟩ : ∃ n9, (keptN f 0 (ts.take i) ++ [t]).length = n9 := ⟨_, rfl⟩
                rw [hn9] at hv9s
                subst hv9s
                go_frame
                refine op_val (some 63) rfl rfl rfl (v := .pointer (some ⟨g4, 2, none⟩)) (w' := w9) (by go_simp) ?_
                refine ⟨⟨e1, e2⟩, ?_⟩
                go_frame
                obtain ⟨s1, s2, s3⟩ := stSl2 h9 q9 n9 c9
                refine op_storeM none rfl rfl rfl 32 _ _ rfl rfl rfl s1 ?_
                have k10 : Keep (fun k => k = g4) w9 _ := Keep.only s3 rfl
                refine ⟨⟨cell_keep k10 e1 mb.dist.2.1, cell_keep k10 e2 (fun e => by have h2 := Hgt.out; have h3 := mb.dist.1.2.2.2; have h4 : gt = g4 := e; omega)⟩, ?_⟩
                go_frame
                exact ⟨_, rfl, mb.appT ho9 hg9 hv9 s3 s2⟩
              · refine op_val (some 61) rfl rfl rfl (v := .slice (some ⟨gb, 0, none⟩) 1 1) (w' := Wb) (by go_simp <;> first | exact ⟨hgb, hWb⟩ | exact hWb) ?_
                refine ⟨⟨cell_keep kb cg2 (fun h => h), cell_keep kb czt (fun h => h)⟩, ?_⟩
                go_frame
                refine op_val (some 55) rfl rfl rfl (v := .slice qv nq dv) (w' := Wb) (by go_simp) ?_
                refine ⟨⟨cell_keep kb cg2 (fun h => h), cell_keep kb czt (fun h => h)⟩, ?_⟩
                go_frame
                refine op_appT (some 62) rfl rfl rfl _ _ rfl rfl rfl (base := w.heap.size) mb.ot (by rw [hnq]; omega) mb.size hhb ?_
                intro v w9 ho9 hg9 hv9
                have k9 := grown_keep hg9
                have n1 : (.slice qv nq dv : Value).ownBlock ≠ some g1 := fun e => by
                  obtain ⟨cur, hc⟩ := mb.ot.obj e
                  exact mb.b1.ne hc (by decide) rfl
                have n4 : (.slice qv nq dv : Value).ownBlock ≠ some g4 := fun e => by
                  obtain ⟨cur, hc⟩ := mb.ot.obj e
                  exact mb.b4.ne hc (by decide) rfl
                have np : (.slice qv nq dv : Value).ownBlock ≠ some gt := fun e => by
                  have h1 := (mb.ot.new _ e).1
                  have h2 := Hgt.out
                  omega
                have e1 := cell_keep k9 (cell_keep kb cg2 (fun h => h)) n1
                have e2 := cell_keep k9 (cell_keep kb czt (fun h => h)) np
                have h9 := k9.holds mb.b4 n4
                refine ⟨⟨e1, e2⟩, ?_⟩
                obtain ⟨q9, c9, hv9s⟩ := ho9.len
                obtain ⟨n9, hn9⟩ : ∃ n9, (keptN f 0 (ts.take i) ++ [t]).length = n9 := ⟨_, rfl⟩
                rw [hn9] at hv9s
                subst hv9s
                go_frame
                refine op_val (some 63) rfl rfl rfl (v := .pointer (some ⟨g4, 2, none⟩)) (w' := w9) (by go_simp) ?_
                refine ⟨⟨e1, e2⟩, ?_⟩
                go_frame
                obtain ⟨s1, s2, s3⟩ := stSl2 h9 q9 n9 c9
                refine op_storeM none rfl rfl rfl 32 _ _ rfl rfl rfl s1 ?_
                have k10 : Keep (fun k => k = g4) w9 _ := Keep.only s3 rfl
                refine ⟨⟨cell_keep k10 e1 mb.dist.2.1, cell_keep k10 e2 (fun e => by have h2 := Hgt.out; have h3 := mb.dist.1.2.2.2; have h4 : gt = g4 := e; omega)⟩, ?_⟩
                go_frame
                exact ⟨_, rfl, mb.appT ho9 hg9 hv9 s3 s2⟩
            · intro u2 X2 mY
              have HMY : Hid _ := mY
              clear mY
              go_frame
              go_wp2_with fail
              go_roundw
              case rel =>
                have e1 : keptN f 0 (ps.take (i + 1)) = keptN f 0 (ps.take i) ++ [z] := by
                  rw [take_one HZ.out.1, keptN_snoc, List.length_take, Nat.min_eq_left (Nat.le_of_lt HL1.out.1), Nat.zero_add, HFi.out]
                  rfl
                have e2 : keptN f 0 (ts.take (i + 1)) = keptN f 0 (ts.take i) ++ [t] := by
                  rw [take_one HZ.out.2, keptN_snoc, List.length_take, Nat.min_eq_left (Nat.le_of_lt HL1.out.2), Nat.zero_add, HFi.out]
                  rfl
                have e3 : fdS f (ps.take (i + 1)) S.Fd = fdS f (ps.take i) S.Fd := by
                  rw [take_one HZ.out.1, fdS_snoc, List.length_take, Nat.min_eq_left (Nat.le_of_lt HL1.out.1), HFi.out]
                  rfl
                refine ⟨i + 1, H', u, u2, by go_num, by omega, ?_, ?_⟩
                · rw [e1, e2, e3]
                  exact HMY.out
                · rw [e3]
                  exact HIV2.out
              case measure => simp [Lib.intOf]; omega
      · have HFi : Hid (f i = false) := by show _ = _; rw [HF.out i]; unfold freeB; simp; exact fun h => by omega
        go_wp2_with fail
        obtain ⟨pv, cv, hv⟩ := m.oi.len
        obtain ⟨qv, dv, hq⟩ := m.ot.len
        obtain ⟨nk, hnk⟩ : ∃ nk, (keptN f 0 (ps.take i)).length = nk := ⟨_, rfl⟩
        obtain ⟨nq, hnq⟩ : ∃ nk, (keptN f 0 (ts.take i)).length = nk := ⟨_, rfl⟩
        rw [hnk] at hv
        rw [hnq] at hq
        subst hv hq
        have hnk2 : nk < 1000000000 := by rw [← hnk]; exact Nat.lt_of_le_of_lt (keptN_le f _ _) (by rw [List.length_take]; omega)
        have hnq2 : nq < 1000000000 := by rw [← hnq]; exact Nat.lt_of_le_of_lt (keptN_le f _ _) (by rw [List.length_take]; omega)
        have HIV2 : Hid _ := iv
        clear iv
        obtain ⟨gb, hgb⟩ : ∃ g, wr.drew.heap.size = g := ⟨_, rfl⟩
        obtain ⟨Wb, hWb⟩ : ∃ W, wr.drew.alloc (.cells #[.int .i64 z] 3) = W := ⟨_, rfl⟩
        have hBb : Below wr.drew.heap.size wr.drew Wb := by rw [← hWb]; exact below_new1 _ _
        have hhb : Holds Wb gb 3 #[.int .i64 z] := by rw [← hWb, ← hgb]; exact Holds.new _ _ _
        have mb : PM G w0 w Wb b H' { S with Fd := fdS f (ps.take i) S.Fd } N g1 g2 g3 g4 #[.int .i64 tx, .slice (some ⟨gp, 0, none⟩) n cp, .slice (some ⟨gt, 0, none⟩) n ct] #[.int .i64 pg, .int .i64 fr, .int .i64 en, .int .i64 ar, .int .i64 fa, .int .u8 (c.toNat : Nat), pk] (tx + 1) (.slice pv nk cv) (.slice qv nq dv) (keptN f 0 (ps.take i)) (keptN f 0 (ts.take i)) := m.below (below_drewL hBb)
        have kb : Keep (fun _ => False) wr Wb := Keep.below (below_drewL hBb)
        have ch : wr.cell? ⟨g4, 1, none⟩ = some (.slice pv nk cv) := m.b4.cell 1
        have chb : Wb.cell? ⟨g4, 1, none⟩ = some (.slice pv nk cv) := mb.b4.cell 1
        refine wp_then_G (ι := Value) (fun v a => ((((((((((a.put (some 44) (.pointer (some ⟨g4, 1, none⟩))).put (some 46) (.pointer (some ⟨g1, 1, none⟩))).put (some 47) (.slice (some ⟨gp, 0, none⟩) n cp)).put (some 48) (.int .i64 (i : Nat))).put (some 49) (.pointer (some ⟨gp, i, none⟩))).put (some 50) (.int .i64 z)).put (some 45) (.slice pv nk cv)).put (some 51) (.slice (some ⟨gb, 0, none⟩) 1 1)).put (some 52) v).put (some 53) (.pointer (some ⟨g4, 1, none⟩)))) (fun v W => PM G w0 w W b H' { S with Fd := fdS f (ps.take i) S.Fd } N g1 g2 g3 g4 #[.int .i64 tx, .slice (some ⟨gp, 0, none⟩) n cp, .slice (some ⟨gt, 0, none⟩) n ct] #[.int .i64 pg, .int .i64 fr, .int .i64 en, .int .i64 ar, .int .i64 fa, .int .u8 (c.toNat : Nat), pk] (tx + 1) v (.slice qv nq dv) (keptN f 0 (ps.take i) ++ [z]) (keptN f 0 (ts.take i))) ?_ ?_
        · go_frame
          refine wp_region_tree (fun W => W.cell? ⟨g1, 1, none⟩ = some (.slice (some ⟨gp, 0, none⟩) n cp) ∧ W.cell? ⟨gp, i, none⟩ = some (.int .i64 z)) [0, 2, 3, 4, 5, 6] (.two 1 (.one 7 (.one 8 (.one 9 (.one 10 .nil)))) 7 (.one 1 (.one 8 (.one 9 (.one 10 .nil))))) mixedP (by kernel_rfl) rfl (by kernel_rfl) (fun _ _ _ d _ h => by cases d <;> exact h) ⟨c1, cz⟩ ?_
          refine tk_val (some 44) rfl rfl rfl (.pointer (some ⟨g4, 1, none⟩)) (fun _ => by go_simp) ?_
          go_frame
          refine tk_val (some 46) rfl rfl rfl (.pointer (some ⟨g1, 1, none⟩)) (fun _ => by go_simp) ?_
          go_frame
          refine tk_ld (some 47) rfl rfl rfl _ _ rfl rfl (fun W hW => ldSlG hW.1) ?_
          go_frame
          refine tk_val (some 48) rfl rfl rfl (.int .i64 (i : Nat)) (fun _ => by go_simp) ?_
          go_frame
          refine tk_val (some 49) rfl rfl rfl (.pointer (some ⟨gp, i, none⟩)) (fun _ => by go_simp) ?_
          go_frame
          refine tk_ld (some 50) rfl rfl rfl _ _ rfl rfl (fun W hW => ldIntG hW.2) ?_
          go_frame
          refine tk_nil ?_
          refine ⟨?_, ?_⟩
          · refine op_val (some 45) rfl rfl rfl (v := .slice pv nk cv) (w' := wr.drew) (by have hch : wr.drew.cell? ⟨g4, 1, none⟩ = some (.slice pv nk cv) := ch; go_simp) ?_
            refine ⟨⟨c1, cz⟩, ?_⟩
            go_frame
            refine op_val (some 51) rfl rfl rfl (v := .slice (some ⟨gb, 0, none⟩) 1 1) (w' := Wb) (by go_simp <;> first | exact ⟨hgb, hWb⟩ | exact hWb) ?_
            refine ⟨⟨cell_keep kb c1 (fun h => h), cell_keep kb cz (fun h => h)⟩, ?_⟩
            go_frame
            refine op_appI (some 52) rfl rfl rfl _ _ rfl rfl rfl (base := w.heap.size) mb.oi (by rw [hnk]; omega) mb.size hhb ?_
            intro v w9 ho9 hg9 hv9
            have k9 := grown_keep hg9
            have n1 : (.slice pv nk cv : Value).ownBlock ≠ some g1 := fun e => by
              obtain ⟨cur, hc⟩ := mb.oi.obj e
              exact mb.b1.ne hc (by decide) rfl
            have n4 : (.slice pv nk cv : Value).ownBlock ≠ some g4 := fun e => by
              obtain ⟨cur, hc⟩ := mb.oi.obj e
              exact mb.b4.ne hc (by decide) rfl
            have np : (.slice pv nk cv : Value).ownBlock ≠ some gp := fun e => by
              have h1 := (mb.oi.new _ e).1
              have h2 := Hgp.out
              omega
            have e1 := cell_keep k9 (cell_keep kb c1 (fun h => h)) n1
            have e2 := cell_keep k9 (cell_keep kb cz (fun h => h)) np
            have h9 := k9.holds mb.b4 n4
            refine ⟨⟨e1, e2⟩, ?_⟩
            obtain ⟨q9, c9, hv9s⟩ := ho9.len
            obtain ⟨n9, hn9⟩ : ∃ n9, (keptN f 0 (ps.take i) ++ [z]).length = n9 := ⟨_, rfl⟩
            rw [hn9] at hv9s
            subst hv9s
            go_frame
            refine op_val (some 53) rfl rfl rfl (v := .pointer (some ⟨g4, 1, none⟩)) (w' := w9) (by go_simp) ?_
            refine ⟨⟨e1, e2⟩, ?_⟩
            go_frame
            obtain ⟨s1, s2, s3⟩ := stSl1 h9 q9 n9 c9
            refine op_storeM none rfl rfl rfl 31 _ _ rfl rfl rfl s1 ?_
            have k10 : Keep (fun k => k = g4) w9 _ := Keep.only s3 rfl
            refine ⟨⟨cell_keep k10 e1 mb.dist.2.1, cell_keep k10 e2 (fun e => by have h2 := Hgp.out; have h3 := mb.dist.1.2.2.2; have h4 : gp = g4 := e; omega)⟩, ?_⟩
            go_frame
            exact ⟨_, rfl, mb.appI ho9 hg9 hv9 s3 s2⟩
          · refine op_val (some 51) rfl rfl rfl (v := .slice (some ⟨gb, 0, none⟩) 1 1) (w' := Wb) (by go_simp <;> first | exact ⟨hgb, hWb⟩ | exact hWb) ?_
            refine ⟨⟨cell_keep kb c1 (fun h => h), cell_keep kb cz (fun h => h)⟩, ?_⟩
            go_frame
            refine op_val (some 45) rfl rfl rfl (v := .slice pv nk cv) (w' := Wb) (by go_simp) ?_
            refine ⟨⟨cell_keep kb c1 (fun h => h), cell_keep kb cz (fun h => h)⟩, ?_⟩
            go_frame
            refine op_appI (some 52) rfl rfl rfl _ _ rfl rfl rfl (base := w.heap.size) mb.oi (by rw [hnk]; omega) mb.size hhb ?_
            intro v w9 ho9 hg9 hv9
            have k9 := grown_keep hg9
            have n1 : (.slice pv nk cv : Value).ownBlock ≠ some g1 := fun e => by
              obtain ⟨cur, hc⟩ := mb.oi.obj e
              exact mb.b1.ne hc (by decide) rfl
            have n4 : (.slice pv nk cv : Value).ownBlock ≠ some g4 := fun e => by
              obtain ⟨cur, hc⟩ := mb.oi.obj e
              exact mb.b4.ne hc (by decide) rfl
            have np : (.slice pv nk cv : Value).ownBlock ≠ some gp := fun e => by
              have h1 := (mb.oi.new _ e).1
              have h2 := Hgp.out
              omega
            have e1 := cell_keep k9 (cell_keep kb c1 (fun h => h)) n1
            have e2 := cell_keep k9 (cell_keep kb cz (fun h => h)) np
            have h9 := k9.holds mb.b4 n4
            refine ⟨⟨e1, e2⟩, ?_⟩
            obtain ⟨q9, c9, hv9s⟩ := ho9.len
            obtain ⟨n9, hn9⟩ : ∃ n9, (keptN f 0 (ps.take i) ++ [z]).length = n9 := ⟨_, rfl⟩
            rw [hn9] at hv9s
            subst hv9s
            go_frame
            refine op_val (some 53) rfl rfl rfl (v := .pointer (some ⟨g4, 1, none⟩)) (w' := w9) (by go_simp) ?_
            refine ⟨⟨e1, e2⟩, ?_⟩
            go_frame
            obtain ⟨s1, s2, s3⟩ := stSl1 h9 q9 n9 c9
            refine op_storeM none rfl rfl rfl 31 _ _ rfl rfl rfl s1 ?_
            have k10 : Keep (fun k => k = g4) w9 _ := Keep.only s3 rfl
            refine ⟨⟨cell_keep k10 e1 mb.dist.2.1, cell_keep k10 e2 (fun e => by have h2 := Hgp.out; have h3 := mb.dist.1.2.2.2; have h4 : gp = g4 := e; omega)⟩, ?_⟩
            go_frame
            exact ⟨_, rfl, mb.appI ho9 hg9 hv9 s3 s2⟩
        · intro u X1 mX
          have kX := mX.same
          obtain ⟨ctA, czt0⟩ : X1.cell? ⟨g1, 2, none⟩ = some (.slice (some ⟨gt, 0, none⟩) n ct) ∧ X1.cell? ⟨gt, i, none⟩ = some (.string t) := ⟨mX.b1.cell 2, by rw [World.cell?_of_block (kX gt HGt.out)]; exact HCT.out⟩
          have cg2 := ctA
          have czt := czt0
          clear ctA czt0
          go_frame
          go_wp2_with fail
          obtain ⟨gb, hgb⟩ : ∃ g, X1.drew.heap.size = g := ⟨_, rfl⟩
          obtain ⟨Wb, hWb⟩ : ∃ W, X1.drew.alloc (.cells #[.string t] 9) = W := ⟨_, rfl⟩
          have hBb : Below X1.drew.heap.size X1.drew Wb := by rw [← hWb]; exact below_new1 _ _
          have hhb : Holds Wb gb 9 #[.string t] := by rw [← hWb, ← hgb]; exact Holds.new _ _ _
          have mb : PM G w0 w Wb b H' { S with Fd := fdS f (ps.take i) S.Fd } N g1 g2 g3 g4 #[.int .i64 tx, .slice (some ⟨gp, 0, none⟩) n cp, .slice (some ⟨gt, 0, none⟩) n ct] #[.int .i64 pg, .int .i64 fr, .int .i64 en, .int .i64 ar, .int .i64 fa, .int .u8 (c.toNat : Nat), pk] (tx + 1) u (.slice qv nq dv) (keptN f 0 (ps.take i) ++ [z]) (keptN f 0 (ts.take i)) := mX.below (below_drewL hBb)
          have kb : Keep (fun _ => False) X1 Wb := Keep.below (below_drewL hBb)
          have ch : X1.cell? ⟨g4, 2, none⟩ = some (.slice qv nq dv) := mX.b4.cell 2
          have chb : Wb.cell? ⟨g4, 2, none⟩ = some (.slice qv nq dv) := mb.b4.cell 2
          refine wp_then_B (ι := Value) (fun v a => ((((((((((a.put (some 54) (.pointer (some ⟨g4, 2, none⟩))).put (some 56) (.pointer (some ⟨g1, 2, none⟩))).put (some 57) (.slice (some ⟨gt, 0, none⟩) n ct)).put (some 58) (.int .i64 (i : Nat))).put (some 59) (.pointer (some ⟨gt, i, none⟩))).put (some 60) (.string t)).put (some 55) (.slice qv nq dv)).put (some 61) (.slice (some ⟨gb, 0, none⟩) 1 1)).put (some 62) v).put (some 63) (.pointer (some ⟨g4, 2, none⟩)))) (fun v W => PM G w0 w W b H' { S with Fd := fdS f (ps.take i) S.Fd } N g1 g2 g3 g4 #[.int .i64 tx, .slice (some ⟨gp, 0, none⟩) n cp, .slice (some ⟨gt, 0, none⟩) n ct] #[.int .i64 pg, .int .i64 fr, .int .i64 en, .int .i64 ar, .int .i64 fa, .int .u8 (c.toNat : Nat), pk] (tx + 1) u v (keptN f 0 (ps.take i) ++ [z]) (keptN f 0 (ts.take i) ++ [t])) ?_ ?_
          · go_frame
            refine wp_region_tree (fun W => W.cell? ⟨g1, 2, none⟩ = some (.slice (some ⟨gt, 0, none⟩) n ct) ∧ W.cell? ⟨gt, i, none⟩ = some (.string t)) [0, 2, 3, 4, 5, 6] (.two 1 (.one 7 (.one 8 (.one 9 (.one 10 .nil)))) 7 (.one 1 (.one 8 (.one 9 (.one 10 .nil))))) mixedP (by kernel_rfl) rfl (by kernel_rfl) (fun _ _ _ d _ h => by cases d <;> exact h) ⟨cg2, czt⟩ ?_
            refine tk_val (some 54) rfl rfl rfl (.pointer (some ⟨g4, 2, none⟩)) (fun _ => by go_simp) ?_
            go_frame
            refine tk_val (some 56) rfl rfl rfl (.pointer (some ⟨g1, 2, none⟩)) (fun _ => by go_simp) ?_
            go_frame
            refine tk_ld (some 57) rfl rfl rfl _ _ rfl rfl (fun W hW => ldSsG hW.1) ?_
            go_frame
            refine tk_val (some 58) rfl rfl rfl (.int .i64 (i : Nat)) (fun _ => by go_simp) ?_
            go_frame
            refine tk_val (some 59) rfl rfl rfl (.pointer (some ⟨gt, i, none⟩)) (fun _ => by go_simp) ?_
            go_frame
            refine tk_ld (some 60) rfl rfl rfl _ _ rfl rfl (fun W hW => ldTxG hW.2) ?_
            go_frame
            refine tk_nil ?_
            refine ⟨?_, ?_⟩
            · refine op_val (some 55) rfl rfl rfl (v := .slice qv nq dv) (w' := X1.drew) (by have hch : X1.drew.cell? ⟨g4, 2, none⟩ = some (.slice qv nq dv) := ch; go_simp) ?_
              refine ⟨⟨cg2, czt⟩, ?_⟩
              go_frame
              refine op_val (some 61) rfl rfl rfl (v := .slice (some ⟨gb, 0, none⟩) 1 1) (w' := Wb) (by go_simp <;> first | exact ⟨hgb, hWb⟩ | exact hWb) ?_
              refine ⟨⟨cell_keep kb cg2 (fun h => h), cell_keep kb czt (fun h => h)⟩, ?_⟩
              go_frame
              refine op_appT (some 62) rfl rfl rfl _ _ rfl rfl rfl (base := w.heap.size) mb.ot (by rw [hnq]; omega) mb.size hhb ?_
              intro v w9 ho9 hg9 hv9
              have k9 := grown_keep hg9
              have n1 : (.slice qv nq dv : Value).ownBlock ≠ some g1 := fun e => by
                obtain ⟨cur, hc⟩ := mb.ot.obj e
                exact mb.b1.ne hc (by decide) rfl
              have n4 : (.slice qv nq dv : Value).ownBlock ≠ some g4 := fun e => by
                obtain ⟨cur, hc⟩ := mb.ot.obj e
                exact mb.b4.ne hc (by decide) rfl
              have np : (.slice qv nq dv : Value).ownBlock ≠ some gt := fun e => by
                have h1 := (mb.ot.new _ e).1
                have h2 := Hgt.out
                omega
              have e1 := cell_keep k9 (cell_keep kb cg2 (fun h => h)) n1
              have e2 := cell_keep k9 (cell_keep kb czt (fun h => h)) np
              have h9 := k9.holds mb.b4 n4
              refine ⟨⟨e1, e2⟩, ?_⟩
              obtain ⟨q9, c9, hv9s⟩ := ho9.len
              obtain ⟨n9, hn9⟩ : ∃ n9, (keptN f 0 (ts.take i) ++ [t]).length = n9 := ⟨_, rfl⟩
              rw [hn9] at hv9s
              subst hv9s
              go_frame
              refine op_val (some 63) rfl rfl rfl (v := .pointer (some ⟨g4, 2, none⟩)) (w' := w9) (by go_simp) ?_
              refine ⟨⟨e1, e2⟩, ?_⟩
              go_frame
              obtain ⟨s1, s2, s3⟩ := stSl2 h9 q9 n9 c9
              refine op_storeM none rfl rfl rfl 32 _ _ rfl rfl rfl s1 ?_
              have k10 : Keep (fun k => k = g4) w9 _ := Keep.only s3 rfl
              refine ⟨⟨cell_keep k10 e1 mb.dist.2.1, cell_keep k10 e2 (fun e => by have h2 := Hgt.out; have h3 := mb.dist.1.2.2.2; have h4 : gt = g4 := e; omega)⟩, ?_⟩
              go_frame
              exact ⟨_, rfl, mb.appT ho9 hg9 hv9 s3 s2⟩
            · refine op_val (some 61) rfl rfl rfl (v := .slice (some ⟨gb, 0, none⟩) 1 1) (w' := Wb) (by go_simp <;> first | exact ⟨hgb, hWb⟩ | exact hWb) ?_
              refine ⟨⟨cell_keep kb cg2 (fun h => h), cell_keep kb czt (fun h => h)⟩, ?_⟩
              go_frame
              refine op_val (some 55) rfl rfl rfl (v := .slice qv nq dv) (w' := Wb) (by go_simp) ?_
              refine ⟨⟨cell_keep kb cg2 (fun h => h), cell_keep kb czt (fun h => h)⟩, ?_⟩
              go_frame
              refine op_appT (some 62) rfl rfl rfl _ _ rfl rfl rfl (base := w.heap.size) mb.ot (by rw [hnq]; omega) mb.size hhb ?_
              intro v w9 ho9 hg9 hv9
              have k9 := grown_keep hg9
              have n1 : (.slice qv nq dv : Value).ownBlock ≠ some g1 := fun e => by
                obtain ⟨cur, hc⟩ := mb.ot.obj e
                exact mb.b1.ne hc (by decide) rfl
              have n4 : (.slice qv nq dv : Value).ownBlock ≠ some g4 := fun e => by
                obtain ⟨cur, hc⟩ := mb.ot.obj e
                exact mb.b4.ne hc (by decide) rfl
              have np : (.slice qv nq dv : Value).ownBlock ≠ some gt := fun e => by
                have h1 := (mb.ot.new _ e).1
                have h2 := Hgt.out
                omega
              have e1 := cell_keep k9 (cell_keep kb cg2 (fun h => h)) n1
              have e2 := cell_keep k9 (cell_keep kb czt (fun h => h)) np
              have h9 := k9.holds mb.b4 n4
              refine ⟨⟨e1, e2⟩, ?_⟩
              obtain ⟨q9, c9, hv9s⟩ := ho9.len
              obtain ⟨n9, hn9⟩ : ∃ n9, (keptN f 0 (ts.take i) ++ [t]).length = n9 := ⟨_, rfl⟩
              rw [hn9] at hv9s
              subst hv9s
              go_frame
              refine op_val (some 63) rfl rfl rfl (v := .pointer (some ⟨g4, 2, none⟩)) (w' := w9) (by go_simp) ?_
              refine ⟨⟨e1, e2⟩, ?_⟩
              go_frame
              obtain ⟨s1, s2, s3⟩ := stSl2 h9 q9 n9 c9
              refine op_storeM none rfl rfl rfl 32 _ _ rfl rfl rfl s1 ?_
              have k10 : Keep (fun k => k = g4) w9 _ := Keep.only s3 rfl
              refine ⟨⟨cell_keep k10 e1 mb.dist.2.1, cell_keep k10 e2 (fun e => by have h2 := Hgt.out; have h3 := mb.dist.1.2.2.2; have h4 : gt = g4 := e; omega)⟩, ?_⟩
              go_frame
              exact ⟨_, rfl, mb.appT ho9 hg9 hv9 s3 s2⟩
          · intro u2 X2 mY
            have HMY : Hid _ := mY
            clear mY
            go_frame
            go_wp2_with fail
            go_roundw
            case rel =>
              have e1 : keptN f 0 (ps.take (i + 1)) = keptN f 0 (ps.take i) ++ [z] := by
                rw [take_one HZ.out.1, keptN_snoc, List.length_take, Nat.min_eq_left (Nat.le_of_lt HL1.out.1), Nat.zero_add, HFi.out]
                rfl
              have e2 : keptN f 0 (ts.take (i + 1)) = keptN f 0 (ts.take i) ++ [t] := by
                rw [take_one HZ.out.2, keptN_snoc, List.length_take, Nat.min_eq_left (Nat.le_of_lt HL1.out.2), Nat.zero_add, HFi.out]
                rfl
              have e3 : fdS f (ps.take (i + 1)) S.Fd = fdS f (ps.take i) S.Fd := by
                rw [take_one HZ.out.1, fdS_snoc, List.length_take, Nat.min_eq_left (Nat.le_of_lt HL1.out.1), HFi.out]
                rfl
              refine ⟨i + 1, H', u, u2, by go_num, by omega, ?_, ?_⟩
              · rw [e1, e2, e3]
                exact HMY.out
              · rw [e3]
                exact HIV2.out
            case measure => simp [Lib.intOf]; omega
    · have hin : n = i := by omega
      subst hin
      have HTK : Hid (ps.take n = ps ∧ ts.take n = ts) := ⟨List.take_of_length_le (by rw [HN.out]; omega), List.take_of_length_le (by rw [s.len, HN.out]; omega)⟩
      have m1 := m
      have iv1 := iv
      rw [HTK.out.1, HTK.out.2] at m1
      rw [HTK.out.1] at iv1
      clear m iv c2 hlt
      obtain ⟨S1, hS1⟩ : ∃ S1 : St, ({ S with Fd := fdS f ps S.Fd } : St) = S1 := ⟨_, rfl⟩
      have HS1 : Hid (S1.P = S.P ∧ S1.L = S.L ∧ S1.Fr = S.Fr ∧ S1.Fd = fdS f ps (fun _ => none) ∧ S1.D = S.D ∧ (∀ k, Us S1 k ↔ k ∈ ps)) := by
        rw [← hS1]
        exact ⟨rfl, rfl, rfl, by show fdS f ps S.Fd = _; rw [s.fd], rfl, fun k => s.us k⟩
      have HP2 : Hid (P2 S1 S1 c [] ps) := by
        have e := hS1
        rw [e] at iv1
        exact P2.zero iv1 (by rw [HS1.out.2.2.2.2.1]; exact s.fw) (by rw [HS1.out.1]; exact s.used) (by rw [HS1.out.2.2.1]; exact s.fr) c ps
      rw [hS1] at m1
      have HM1 : Hid _ := m1
      have cpg : wr.cell? ⟨g2, 0, none⟩ = some (.int .i64 pg) := m1.b2.cell 0
      clear m1 iv1 hS1
      obtain ⟨q, hq⟩ : ∃ q, pg.tmod 6 = q := ⟨_, rfl⟩
      have HQ : Hid (-6 < q ∧ q < 6) := by
        have e1 := Int.tmod_lt_of_pos pg (show (0 : Int) < 6 by omega)
        have e2 := Int.lt_tmod_of_pos pg (show (0 : Int) < 6 by omega)
        rw [hq] at e1 e2
        exact ⟨by omega, by omega⟩
      obtain ⟨k, hk⟩ : ∃ k : Nat, k = q.natAbs := ⟨_, rfl⟩
      by_cases hneg : q < 0
      · have HK : Hid (-q = (k : Int) ∧ k < 6) := ⟨by omega, by have := HQ.out; omega⟩
        clear hk
        go_wp2_with fail
        rw [HK.out.1]
        rw [wrap_smallG k (by have := HK.out.2; omega)]
        have hk6 : (k : Int) < 6 := by have := HK.out.2; omega
        clear cpg hneg c1
        go_loopw [11, 12, 13] (fun y _ _ wr => ∃ (j : Nat) (H2 : Hs) (S2 : St) (al : List Int) (vp' vt' : Value), y = .int .i64 (j : Nat) ∧ j ≤ k ∧ PM G w0 w wr b H2 S2 (N + j) g1 g2 g3 g4 #[.int .i64 tx, .slice pp n cp, .slice pt n ct] #[.int .i64 pg, .int .i64 fr, .int .i64 en, .int .i64 ar, .int .i64 fa, .int .u8 (c.toNat : Nat), pk] (tx + 1) vp' vt' (keptN f 0 ps ++ al) (keptN f 0 ts ++ txsN c j) ∧ P2 S1 S2 c al ps ∧ al.length = j) (fun y _ _ _ => k - (Lib.intOf y).toNat)
        case atStart =>
          refine ⟨0, H', S1, [], vp', vt', rfl, by omega, ?_, HP2.out, rfl⟩
          rw [List.append_nil, show txsN c 0 = [] from rfl, List.append_nil]
          exact HM1.out
        case round =>
          obtain ⟨j, H2, S2, al, vp2, vt2, rfl, hj, m, p2, hal⟩ := hrel
          have HAL : Hid (al.length = j) := hal
          clear hal
          have HP : Hid (P2 S1 S2 c al ps) := p2
          by_cases hlt2 : j < k
          · have hltj : (j : Int) < k := by omega
            have hroom2 : S2.P.stop < S2.D.size := by
              have e1 := p2.st
              have e2 := p2.sz
              rw [HAL.out, HS1.out.1] at e1
              rw [HS1.out.2.2.2.2.1] at e2
              have := HK.out.2
              omega
            have hal := pk_alloc m.pk p2.iv hroom2
            have HM : Hid _ := m
            clear m p2 hroom2
            go_wp2_with fail
            refine hal.mono ?_
            clear hal
            rintro e w6 ⟨na, S3, H3, rfl, ena, eS3, p6, s6, a1, a2, a3, a4, a5, a6, a7, a8, a9, a10, a11, a12, a13, a14⟩
            clear ena eS3
            have m6 := HM.out.call p6 s6
            have c5 : w6.cell? ⟨g2, 5, none⟩ = some (.int .u8 (c.toNat : Nat)) := m6.b2.cell 5
            have HA : Hid (PInv S3 ∧ (∀ k, Us S3 k ↔ Us S2 k) ∧ S3.Fr = setM S2.Fr na (some ()) ∧ S3.Fd = S2.Fd ∧ S3.D = S2.D ∧ ¬ Us S2 na ∧ S2.Fr na = none ∧ 2 ≤ na ∧ na < S2.D.size ∧ S3.P.pages = S2.P.pages ∧ S3.P.tx = S2.P.tx ∧ (S3.P.stop = S2.P.stop ∨ S2.L = [] ∧ S3.P.stop = S2.P.stop + 1) ∧ S3.P.used = true ∧ S3.P.reads = S2.P.reads) := ⟨a1, a2, a3, a4, a5, a6, a7, a8, a9, a10, a11, a12, a13, a14⟩
            have HM6 : Hid _ := m6
            clear a1 a2 a3 a4 a5 a6 a7 a8 a9 a10 a11 a12 a13 a14 p6 s6 m6 HM
            have hj6 : j < 6 := by have := HK.out.2; omega
            have ht := text_any c j hj6 w6
            go_wp2_with fail
            refine ht.mono ?_
            clear ht
            rintro e w7 ⟨rfl, hB7⟩
            have m7 := HM6.out.below hB7
            have hw := pk_writeU m7.pk HA.out.1 (by rw [HA.out.2.2.2.2.1]; exact HP.out.fw) hT (by have := HK.out.2; omega) na ⟨by have := HA.out.2.2.2.2.2.2.2.1; omega, by rw [HA.out.2.2.2.2.1]; exact HA.out.2.2.2.2.2.2.2.2.1⟩ (by rw [HA.out.2.2.1, setM_same]) 84 (textS c j) (by rw [textS_size]; omega)
            rw [show K.oct 84 = 84 from rfl] at hw
            have HM7 : Hid _ := m7
            clear m7 hB7 c5 HM6
            go_wp2_with fail
            refine hw.mono ?_
            clear hw
            rintro e w8 ⟨rfl, D8, H8, p8, s8, b1, b2, b3, b4, b5, b6⟩
            have m8 := HM7.out.call p8 s8
            have HP8 : Hid (P2 S1 { S3 with D := D8 } c (al ++ [na]) ps) := by
              obtain ⟨a1, a2, a3, a4, a5, a6, a7, a8, a9, a10, a11, a12, a13, a14⟩ := HA.out
              exact HP.out.step (fun k hk => (HS1.out.2.2.2.2.2 k).1 hk) b1 a2 a3 a4 a6 a7 a8 a9 a10 a11 a12 a13 a14 b3 a5 b4 (by rw [HAL.out]; exact b5) b6
            clear p8 s8 b1 b2 b3 b4 b5 b6 HM7 HA
            obtain ⟨pv, cv, hv⟩ := m8.oi.len
            obtain ⟨nk, hnk⟩ : ∃ nk, (keptN f 0 ps ++ al).length = nk := ⟨_, rfl⟩
            rw [hnk] at hv
            subst hv
            have ch : w8.cell? ⟨g4, 1, none⟩ = some (.slice pv nk cv) := m8.b4.cell 1
            obtain ⟨gb, hgb⟩ : ∃ g, w8.heap.size = g := ⟨_, rfl⟩
            obtain ⟨Wb, hWb⟩ : ∃ W, w8.alloc (.cells #[.int .i64 na] 3) = W := ⟨_, rfl⟩
            have hBb : Below w8.heap.size w8 Wb := by rw [← hWb]; exact below_new1 _ _
            have HHB : Hid (Holds Wb gb 3 #[.int .i64 na]) := by show Holds _ _ _ _; rw [← hWb, ← hgb]; exact Holds.new _ _ _
            have mb := m8.below hBb
            have HNK : Hid ((keptN f 0 ps ++ al).length = nk) := hnk
            have hnk2 : nk < 1000000000 := by
              rw [← hnk, List.length_append, HAL.out]
              have := keptN_le f ps 0
              rw [HN.out] at this
              omega
            have HMB : Hid _ := mb
            clear hBb m8 mb hnk
            go_wp2_with ((with_reducible show wpList _ _ _ (Oper.mk (some 100) _ _ _ _ _ :: _) _ _); refine HaltG.out ?_)
            unfold HaltG
            clear ch
            refine wpList_appI (some 100) rfl rfl _ _ rfl rfl rfl (base := w.heap.size) HMB.out.oi (by rw [HNK.out]; omega) HMB.out.size HHB.out ?_
            intro v w9 ho9 hg9 hv9
            have n4 : (.slice pv nk cv : Value).ownBlock ≠ some g4 := fun e => by
              obtain ⟨cur, hc⟩ := HMB.out.oi.obj e
              exact HMB.out.b4.ne hc (by decide) rfl
            have h9 := (grown_keep hg9).holds HMB.out.b4 n4
            obtain ⟨q9, c9, hv9s⟩ := ho9.len
            obtain ⟨n9, hn9⟩ : ∃ n9, (keptN f 0 ps ++ al ++ [na]).length = n9 := ⟨_, rfl⟩
            rw [hn9] at hv9s
            subst hv9s
            obtain ⟨s1, s2, s3⟩ := stSl1 h9 q9 n9 c9
            obtain ⟨w10, hw10⟩ : ∃ W, w9.setCell ⟨g4, 1, none⟩ (.slice q9 n9 c9) = W := ⟨_, rfl⟩
            rw [hw10] at s1 s2 s3
            have m10 := HMB.out.appI ho9 hg9 hv9 s3 s2
            clear s2 s3 h9 n4 hg9 hv9 ho9 hgb hWb hw10
            go_frame
            go_wp2_with ((with_reducible show wpList _ _ _ (Oper.mk none (Op.store _ _ _) _ _ _ _ :: _) _ _); go_must (refine wpList_stM rfl _ _ _ rfl rfl rfl s1 ?_))
            clear s1
            clear HNK hnk2
            obtain ⟨qv, dv, hq2⟩ := m10.ot.len
            obtain ⟨nq, hnq⟩ : ∃ nq, (keptN f 0 ts ++ txsN c j).length = nq := ⟨_, rfl⟩
            rw [hnq] at hq2
            subst hq2
            have hnq2 : nq < 1000000000 := by
              rw [← hnq, List.length_append, txsN_len]
              have := keptN_le f ts 0
              rw [s.len, HN.out] at this
              omega
            have c5 : w10.cell? ⟨g2, 5, none⟩ = some (.int .u8 (c.toNat : Nat)) := m10.b2.cell 5
            have ch : w10.cell? ⟨g4, 2, none⟩ = some (.slice qv nq dv) := m10.b4.cell 2
            refine wp_then_B (ι := Value × Value) (fun v a => (((((((((a.put (some 102) (.pointer (some ⟨g4, 2, none⟩))).put (some 104) (.pointer (some ⟨g2, 5, none⟩))).put (some 105) (.int .u8 (c.toNat : Nat))).put (some 106) (.int .i64 (j : Nat))).put (some 103) (.slice qv nq dv)).put (some 107) (.string (textS c j))).put (some 108) v.2).put (some 109) v.1).put (some 110) (.pointer (some ⟨g4, 2, none⟩)))) (fun v W => PM G w0 w W b H8 { S3 with D := D8 } (N + j + 1) g1 g2 g3 g4 #[.int .i64 tx, .slice pp n cp, .slice pt n ct] #[.int .i64 pg, .int .i64 fr, .int .i64 en, .int .i64 ar, .int .i64 fa, .int .u8 (c.toNat : Nat), pk] (tx + 1) (.slice q9 n9 c9) v.1 (keptN f 0 ps ++ al ++ [na]) (keptN f 0 ts ++ txsN c j ++ [textS c j])) ?_ ?_
            · refine wp_region_tree (fun W => W.cell? ⟨g2, 5, none⟩ = some (.int .u8 (c.toNat : Nat))) [0, 2, 3, 4] (.two 1 (.one 5 (.one 6 (.one 7 (.one 8 (.one 9 .nil))))) 5 (.two 1 (.one 6 (.one 7 (.one 8 (.one 9 .nil)))) 6 (.one 1 (.one 7 (.one 8 (.one 9 .nil)))))) mixedP (by kernel_rfl) rfl (by kernel_rfl) (fun _ _ _ d _ h => by cases d <;> exact h) c5 ?_
              refine tk_val (some 102) rfl rfl rfl (.pointer (some ⟨g4, 2, none⟩)) (fun _ => by go_simp) ?_
              go_frame
              refine tk_val (some 104) rfl rfl rfl (.pointer (some ⟨g2, 5, none⟩)) (fun _ => by go_simp) ?_
              go_frame
              refine tk_ld (some 105) rfl rfl rfl _ _ rfl rfl (fun W hW => ldU8G hW) ?_
              go_frame
              refine tk_val (some 106) rfl rfl rfl (.int .i64 (j : Nat)) (fun _ => by go_simp) ?_
              go_frame
              refine tk_nil ?_
              refine ⟨?_, ?_⟩
              · refine op_val (some 103) rfl rfl rfl (v := .slice qv nq dv) (w' := w10.drew) (by have hch : w10.drew.cell? ⟨g4, 2, none⟩ = some (.slice qv nq dv) := ch; go_simp) ?_
                refine ⟨c5, ?_⟩
                go_frame
                refine op_call (some 107) rfl rfl rfl (f := 37) (vs := #[.int .u8 (c.toNat : Nat), .int .i64 (j : Nat)]) (by go_simp) ?_
                refine (text_any c j hj6 w10.drew).mono ?_
                rintro e w11 ⟨rfl, hB11⟩
                have m11 := m10.below (below_drewL hB11)
                have c511 : w11.cell? ⟨g2, 5, none⟩ = some (.int .u8 (c.toNat : Nat)) := m11.b2.cell 5
                have ch11 : w11.cell? ⟨g4, 2, none⟩ = some (.slice qv nq dv) := m11.b4.cell 2
                refine ⟨_, rfl, c511, ?_⟩
                go_frame
                obtain ⟨gb, hgb⟩ : ∃ g, w11.heap.size = g := ⟨_, rfl⟩
                obtain ⟨Wb, hWb⟩ : ∃ W, w11.alloc (.cells #[.string (textS c j)] 9) = W := ⟨_, rfl⟩
                have hBb : Below w11.heap.size w11 Wb := by rw [← hWb]; exact below_new1 _ _
                have hhb : Holds Wb gb 9 #[.string (textS c j)] := by rw [← hWb, ← hgb]; exact Holds.new _ _ _
                have mb := m11.below hBb
                have c5b : Wb.cell? ⟨g2, 5, none⟩ = some (.int .u8 (c.toNat : Nat)) := mb.b2.cell 5
                have chb : Wb.cell? ⟨g4, 2, none⟩ = some (.slice qv nq dv) := mb.b4.cell 2
                refine op_val (some 108) rfl rfl rfl (v := .slice (some ⟨gb, 0, none⟩) 1 1) (w' := Wb) (by go_simp <;> first | exact ⟨hgb, hWb⟩ | exact hWb) ?_
                refine ⟨c5b, ?_⟩
                go_frame
                refine op_appT (some 109) rfl rfl rfl _ _ rfl rfl rfl (base := w.heap.size) mb.ot (by rw [hnq]; omega) mb.size hhb ?_
                intro v w12 ho12 hg12 hv12
                have k12 := grown_keep hg12
                have n2 : (.slice qv nq dv : Value).ownBlock ≠ some g2 := fun e => by
                  obtain ⟨cur, hc⟩ := mb.ot.obj e
                  exact mb.b2.ne hc (by decide) rfl
                have n4 : (.slice qv nq dv : Value).ownBlock ≠ some g4 := fun e => by
                  obtain ⟨cur, hc⟩ := mb.ot.obj e
                  exact mb.b4.ne hc (by decide) rfl
                have e1 := cell_keep k12 c5b n2
                have h12 := k12.holds mb.b4 n4
                refine ⟨e1, ?_⟩
                obtain ⟨q12, c12, hv12s⟩ := ho12.len
                obtain ⟨n12, hn12⟩ : ∃ n12, (keptN f 0 ts ++ txsN c j ++ [textS c j]).length = n12 := ⟨_, rfl⟩
                rw [hn12] at hv12s
                subst hv12s
                go_frame
                refine op_val (some 110) rfl rfl rfl (v := .pointer (some ⟨g4, 2, none⟩)) (w' := w12) (by go_simp) ?_
                refine ⟨e1, ?_⟩
                go_frame
                obtain ⟨s1, s2, s3⟩ := stSl2 h12 q12 n12 c12
                refine op_storeM none rfl rfl rfl 32 _ _ rfl rfl rfl s1 ?_
                have k13 : Keep (fun k => k = g4) w12 _ := Keep.only s3 rfl
                refine ⟨cell_keep k13 e1 (mb.b2.ne mb.b4 (by decide)), ?_⟩
                go_frame
                exact ⟨(_, _), rfl, mb.appT ho12 hg12 hv12 s3 s2⟩
              · refine op_call (some 107) rfl rfl rfl (f := 37) (vs := #[.int .u8 (c.toNat : Nat), .int .i64 (j : Nat)]) (by go_simp) ?_
                refine (text_any c j hj6 w10.drew).mono ?_
                rintro e w11 ⟨rfl, hB11⟩
                have m11 := m10.below (below_drewL hB11)
                have c511 : w11.cell? ⟨g2, 5, none⟩ = some (.int .u8 (c.toNat : Nat)) := m11.b2.cell 5
                have ch11 : w11.cell? ⟨g4, 2, none⟩ = some (.slice qv nq dv) := m11.b4.cell 2
                refine ⟨_, rfl, c511, ?_⟩
                go_frame
                obtain ⟨gb, hgb⟩ : ∃ g, w11.heap.size = g := ⟨_, rfl⟩
                obtain ⟨Wb, hWb⟩ : ∃ W, w11.alloc (.cells #[.string (textS c j)] 9) = W := ⟨_, rfl⟩
                have hBb : Below w11.heap.size w11 Wb := by rw [← hWb]; exact below_new1 _ _
                have hhb : Holds Wb gb 9 #[.string (textS c j)] := by rw [← hWb, ← hgb]; exact Holds.new _ _ _
                have mb := m11.below hBb
                have c5b : Wb.cell? ⟨g2, 5, none⟩ = some (.int .u8 (c.toNat : Nat)) := mb.b2.cell 5
                have chb : Wb.cell? ⟨g4, 2, none⟩ = some (.slice qv nq dv) := mb.b4.cell 2
                refine ⟨?_, ?_⟩
                · refine op_val (some 103) rfl rfl rfl (v := .slice qv nq dv) (w' := w11) (by have hch : w11.cell? ⟨g4, 2, none⟩ = some (.slice qv nq dv) := ch11; go_simp) ?_
                  refine ⟨c511, ?_⟩
                  go_frame
                  refine op_val (some 108) rfl rfl rfl (v := .slice (some ⟨gb, 0, none⟩) 1 1) (w' := Wb) (by go_simp <;> first | exact ⟨hgb, hWb⟩ | exact hWb) ?_
                  refine ⟨c5b, ?_⟩
                  go_frame
                  refine op_appT (some 109) rfl rfl rfl _ _ rfl rfl rfl (base := w.heap.size) mb.ot (by rw [hnq]; omega) mb.size hhb ?_
                  intro v w12 ho12 hg12 hv12
                  have k12 := grown_keep hg12
                  have n2 : (.slice qv nq dv : Value).ownBlock ≠ some g2 := fun e => by
                    obtain ⟨cur, hc⟩ := mb.ot.obj e
                    exact mb.b2.ne hc (by decide) rfl
                  have n4 : (.slice qv nq dv : Value).ownBlock ≠ some g4 := fun e => by
                    obtain ⟨cur, hc⟩ := mb.ot.obj e
                    exact mb.b4.ne hc (by decide) rfl
                  have e1 := cell_keep k12 c5b n2
                  have h12 := k12.holds mb.b4 n4
                  refine ⟨e1, ?_⟩
                  obtain ⟨q12, c12, hv12s⟩ := ho12.len
                  obtain ⟨n12, hn12⟩ : ∃ n12, (keptN f 0 ts ++ txsN c j ++ [textS c j]).length = n12 := ⟨_, rfl⟩
                  rw [hn12] at hv12s
                  subst hv12s
                  go_frame
                  refine op_val (some 110) rfl rfl rfl (v := .pointer (some ⟨g4, 2, none⟩)) (w' := w12) (by go_simp) ?_
                  refine ⟨e1, ?_⟩
                  go_frame
                  obtain ⟨s1, s2, s3⟩ := stSl2 h12 q12 n12 c12
                  refine op_storeM none rfl rfl rfl 32 _ _ rfl rfl rfl s1 ?_
                  have k13 : Keep (fun k => k = g4) w12 _ := Keep.only s3 rfl
                  refine ⟨cell_keep k13 e1 (mb.b2.ne mb.b4 (by decide)), ?_⟩
                  go_frame
                  exact ⟨(_, _), rfl, mb.appT ho12 hg12 hv12 s3 s2⟩
                · refine op_val (some 108) rfl rfl rfl (v := .slice (some ⟨gb, 0, none⟩) 1 1) (w' := Wb) (by go_simp <;> first | exact ⟨hgb, hWb⟩ | exact hWb) ?_
                  refine ⟨c5b, ?_⟩
                  go_frame
                  refine op_val (some 103) rfl rfl rfl (v := .slice qv nq dv) (w' := Wb) (by have hch : Wb.cell? ⟨g4, 2, none⟩ = some (.slice qv nq dv) := chb; go_simp) ?_
                  refine ⟨c5b, ?_⟩
                  go_frame
                  refine op_appT (some 109) rfl rfl rfl _ _ rfl rfl rfl (base := w.heap.size) mb.ot (by rw [hnq]; omega) mb.size hhb ?_
                  intro v w12 ho12 hg12 hv12
                  have k12 := grown_keep hg12
                  have n2 : (.slice qv nq dv : Value).ownBlock ≠ some g2 := fun e => by
                    obtain ⟨cur, hc⟩ := mb.ot.obj e
                    exact mb.b2.ne hc (by decide) rfl
                  have n4 : (.slice qv nq dv : Value).ownBlock ≠ some g4 := fun e => by
                    obtain ⟨cur, hc⟩ := mb.ot.obj e
                    exact mb.b4.ne hc (by decide) rfl
                  have e1 := cell_keep k12 c5b n2
                  have h12 := k12.holds mb.b4 n4
                  refine ⟨e1, ?_⟩
                  obtain ⟨q12, c12, hv12s⟩ := ho12.len
                  obtain ⟨n12, hn12⟩ : ∃ n12, (keptN f 0 ts ++ txsN c j ++ [textS c j]).length = n12 := ⟨_, rfl⟩
                  rw [hn12] at hv12s
                  subst hv12s
                  go_frame
                  refine op_val (some 110) rfl rfl rfl (v := .pointer (some ⟨g4, 2, none⟩)) (w' := w12) (by go_simp) ?_
                  refine ⟨e1, ?_⟩
                  go_frame
                  obtain ⟨s1, s2, s3⟩ := stSl2 h12 q12 n12 c12
                  refine op_storeM none rfl rfl rfl 32 _ _ rfl rfl rfl s1 ?_
                  have k13 : Keep (fun k => k = g4) w12 _ := Keep.only s3 rfl
                  refine ⟨cell_keep k13 e1 (mb.b2.ne mb.b4 (by decide)), ?_⟩
                  go_frame
                  exact ⟨(_, _), rfl, mb.appT ho12 hg12 hv12 s3 s2⟩
            · intro u X2 mY
              have HMY : Hid _ := mY
              clear mY
              go_frame
              go_wp2_with fail
              go_roundw
              case rel =>
                refine ⟨j + 1, H8, _, al ++ [na], .slice q9 n9 c9, u.1, by go_num, by omega, ?_, HP8.out, by rw [List.length_append, HAL.out]; rfl⟩
                rw [txsN_succ, ← List.append_assoc, ← List.append_assoc, show N + (j + 1) = N + j + 1 by omega]
                exact HMY.out
              case measure => simp [Lib.intOf]; omega
          · have hjk : k = j := by omega
            subst hjk
            have cen : wr.cell? ⟨g2, 2, none⟩ = some (.int .i64 en) := m.b2.cell 2
            obtain ⟨r, hr⟩ : ∃ r, en.tmod 4 = r := ⟨_, rfl⟩
            have HK5 : Hid (k ≤ 5) := by have := HK.out.2; show k ≤ 5; omega
            by_cases hr3 : r = 3
            · subst hr3
              have hrl := pk_roll m.pk p2.iv
              have HM : Hid _ := m
              clear m p2
              go_wp2_with fail
              refine hrl.mono ?_
              clear hrl
              rintro e w6 ⟨S', H', rfl, p', s', i', us', fr', fd', D', P', _⟩
              have m6 := HM.out.call p' s'
              have l0 : w6.cell? ⟨g1, 0, none⟩ = some (.int .i64 tx) := m6.b1.cell 0
              have l1 : w6.cell? ⟨g1, 1, none⟩ = some (.slice pp n cp) := m6.b1.cell 1
              have l2 : w6.cell? ⟨g1, 2, none⟩ = some (.slice pt n ct) := m6.b1.cell 2
              have h3 := m6.b3
              have HM6 : Hid _ := m6
              have HR : Hid (PInv S' ∧ (∀ k, Us S2 k ↔ Us S' k) ∧ (S'.Fr = fun _ => none) ∧ (S'.Fd = fun _ => none) ∧ S'.D = S2.D ∧ S'.P = { S2.P with used := true, stop := S2.P.pages, count := totR S'.L }) := ⟨i', us', fr', fd', D', P'⟩
              clear p' s' i' us' fr' fd' D' P' m6 cen hr
              go_wp2_with ((with_reducible show wpList _ _ _ (Oper.mk _ (Op.store 34 _ _) _ _ _ _ :: _) _ _); go_must (refine wpList_storeH rfl 34 _ _ rfl g3 #[.int .i64 tx, .slice pp n cp, .slice pt n ct] rfl rfl 34 _ h3 infoStG rfl (by simp [Value.oneCell']) ?_; intro w7 h7 hO7 hs7))
              refine bodyPost_ret (results_cellG2 (p := 6) (u := 7) rfl _ w7 g3 34 _ _ rfl h7 Tryz.underlying34 rfl infoStG) rfl ?_
              obtain ⟨i', us', fr', fd', D', P'⟩ := HR.out
              have m6 := HM6.out
              obtain ⟨⟨d1, d2, d3, d4⟩, d5, d6, d7⟩ := m6.dist
              have q7 := m6.pk.turn (T := fun k => k = g3) (Keep.only hO7 rfl) (fun k hk => by
                subst hk
                exact ⟨.inr (.inl (.inr (.inr (.inl rfl)))), Nat.le_trans HD0.out d3, _, _, h3, by decide, by decide⟩)
              have sm : SameG G w w7 := fun k hk => by
                have h1 := s.pk.kept k hk
                rw [hO7.block k (m6.pk.kept k (.inl hk)) (by omega)]
                exact m6.same k hk
              have q8 : Pk (GS G (.slice pp n cp) (.slice pt n ct)) w0 w7 b H' S' (N + k) := q7.less (by
                rintro k (g | g | g)
                · exact .inl g
                · exact .inl (s.gp k g)
                · exact .inl (s.gt k g))
              have p2 := HP.out
              refine ⟨false, tx, _, _, ps, ts, H', S', N + k, rfl, sta_roll s HS1.out.1 HS1.out.2.2.2.2.1 HS1.out.2.2.2.2.2 p2 q8 sm i' us' fr' fd' D' P', sm, by have := HK5.out; omega, by omega, by omega, by rw [D', p2.sz, HS1.out.2.2.2.2.1], ?_, ?_, by rw [P']; show S2.P.reads = _; rw [p2.rd, HS1.out.1], fun _ => ⟨rfl, rfl, rfl, rfl, rfl⟩⟩
              · rw [P']
                show S2.P.pages ≤ _
                rw [p2.pg, HS1.out.1]
                have := s.st
                omega
              · left
                rw [P']
                show S2.P.pages ≤ _
                rw [p2.pg, HS1.out.1]
                have := s.st
                omega
            · have hb3 : (r == (3 : Int)) = false := by simpa using hr3
              clear hr3
              obtain ⟨pv, cv, hv⟩ := m.oi.len
              obtain ⟨qv, dv, hq2⟩ := m.ot.len
              obtain ⟨nk, hnk⟩ : ∃ nk, (keptN f 0 ps ++ al).length = nk := ⟨_, rfl⟩
              obtain ⟨nq, hnq⟩ : ∃ nq, (keptN f 0 ts ++ txsN c k).length = nq := ⟨_, rfl⟩
              rw [hnk] at hv
              rw [hnq] at hq2
              subst hv hq2
              have hnk2 : nk < 1000000000 := by
                rw [← hnk, List.length_append, HAL.out]
                have := keptN_le f ps 0
                rw [HN.out] at this
                have := HK5.out
                omega
              have mD := m.below (below_drewL (Below.refl _ wr.drew))
              have hcm := pk_commitU mD.pk p2.iv p2.fw hT (by have := HK5.out; omega) nk 1 ⟨by omega, by omega⟩ ⟨by rw [p2.tx, HS1.out.1, s.txe]; exact s.tx0, by rw [p2.tx, HS1.out.1, s.txe]; omega⟩ (by have h1 := p2.sz; rw [HS1.out.2.2.2.2.1] at h1; have h2 := s.iv.stop; omega)
              rw [show ((1 : Nat) : Int) = 1 from rfl] at hcm
              have HM : Hid _ := m
              have HC : Hid _ := hcm
              have HMD : Hid _ := mD
              have HNK : Hid ((keptN f 0 ps ++ al).length = nk) := hnk
              clear m p2 hcm mD hnk hnq
              go_wp2_with fail
              clear hb3 hr cen
              refine wp_then_G (ι := Unit) (fun _ a => ((((((((a.put (some 118) (.agg #[.int .i64 (tx + 1), .slice pv nk cv, .slice qv nq dv])).put (some 119) (.pointer (some ⟨b, 0, none⟩))).put (some 120) (.pointer (some ⟨g4, 1, none⟩))).put (some 121) (.slice pv nk cv)).put (some 122) (.int .i64 (nk : Nat))).put (some 123) (.int .i64 0)).put (some 124) (.bool true)).put (some 7) (.bool true))) (fun _ W => Holds W g3 34 #[.int .i64 (tx + 1), .slice pv nk cv, .slice qv nq dv] ∧ PlaysPost G w0 w b S N tx (.slice pp n cp) (.slice pt n ct) ps ts (.returned (.tuple #[.agg #[.int .i64 (tx + 1), .slice pv nk cv, .slice qv nq dv], .bool true])) W) ?_ ?_
              · refine wp_region_u (fun W => Holds W g4 34 #[.int .i64 (tx + 1), .slice pv nk cv, .slice qv nq dv]) (.take 0 (.take 1 (.take 2 (.take 3 (.take 4 (.one 5 (.take 6 (.one 7 (.one 8 .nil))))))))) mixedP (by kernel_rfl) rfl (by kernel_rfl) (fun _ _ _ d _ h => by cases d <;> exact h) HMD.out.b4 ?_
                refine tk_ld (some 118) rfl rfl rfl _ _ rfl rfl (fun W hW => ldStG hW) ?_
                refine tk_nil ?_
                go_frame
                refine tk_val (some 119) rfl rfl rfl (.pointer (some ⟨b, 0, none⟩)) (fun _ => by go_simp) ?_
                refine tk_nil ?_
                go_frame
                refine tk_val (some 120) rfl rfl rfl (.pointer (some ⟨g4, 1, none⟩)) (fun _ => by go_simp) ?_
                refine tk_nil ?_
                go_frame
                refine tk_ld (some 121) rfl rfl rfl _ _ rfl rfl (fun W hW => ldSlG (hW.cell 1)) ?_
                refine tk_nil ?_
                go_frame
                refine tk_val (some 122) rfl rfl rfl (.int .i64 (nk : Nat)) (fun _ => by go_simp) ?_
                refine tk_nil ?_
                go_frame
                refine op_call (some 123) rfl rfl rfl (f := 25) (vs := #[.pointer (some ⟨b, 0, none⟩), .int .i64 (nk : Nat), .int .i64 1]) (by go_simp) ?_
                refine Calls.mono HC.out ?_
                rintro e w6 ⟨rfl, S', H', p', s', i', us', fr', fd', sz', tx', pg', st', u', rd', fw', hf'⟩
                have m6 := HMD.out.call p' s'
                refine ⟨_, rfl, m6.b4, ?_⟩
                go_frame
                refine tk_val (some 124) rfl rfl rfl (.bool true) (fun _ => by go_simp) ?_
                refine tk_nil ?_
                go_frame
                refine op_storeH none rfl rfl rfl 34 _ _ rfl g3 #[.int .i64 (tx + 1), .slice pv nk cv, .slice qv nq dv] rfl rfl 34 _ m6.b3 infoStG rfl (by simp [Value.oneCell']) ?_
                intro w7 h7 hO7 hs7
                obtain ⟨⟨d1, d2, d3, d4⟩, d5, d6, d7⟩ := m6.dist
                have h47 := hO7.holds m6.b4 (Ne.symm d6)
                refine ⟨h47, ?_⟩
                go_frame
                refine op_val (some 7) rfl rfl rfl (v := .bool true) (w' := w7) (by go_simp) ?_
                refine ⟨h47, ?_⟩
                go_frame
                refine ⟨(), rfl, h7, ?_⟩
                have q7 := m6.pk.turn (T := fun k => k = g3) (Keep.only hO7 rfl) (fun k hk => by
                  subst hk
                  exact ⟨.inr (.inl (.inr (.inr (.inl rfl)))), Nat.le_trans HD0.out d3, _, _, m6.b3, by decide, by decide⟩)
                have sm : SameG G w w7 := fun k hk => by
                  have h1 := s.pk.kept k hk
                  rw [hO7.block k (m6.pk.kept k (.inl hk)) (by omega)]
                  exact m6.same k hk
                have q8 : Pk (GS G (.slice pv nk cv) (.slice qv nq dv)) w0 w7 b H' S' (N + k + 3) := q7.less (by
                  rintro k (g | g | g)
                  · exact .inl g
                  · exact .inr (.inr (.inl g))
                  · exact .inr (.inr (.inr g)))
                have o7 : OI w7 w.heap.size (.slice pv nk cv) (keptN f 0 ps ++ al) := m6.oi.block (fun k hk => by
                  obtain ⟨cur, hc⟩ := m6.oi.obj hk
                  exact hO7.block k hc.lt (hc.ne m6.b3 (by decide)))
                have t7 : OT w7 w.heap.size (.slice qv nq dv) (keptN f 0 ts ++ txsN c al.length) := by
                  rw [HAL.out]
                  exact m6.ot.block (fun k hk => by
                    obtain ⟨cur, hc⟩ := m6.ot.obj hk
                    exact hO7.block k hc.lt (hc.ne m6.b3 (by decide)))
                have p2 := HP.out
                refine ⟨true, tx + 1, _, _, keptN f 0 ps ++ al, keptN f 0 ts ++ txsN c al.length, H', S', N + k + 3, rfl, sta_commit s HS1.out.1 HS1.out.2.2.2.1 HS1.out.2.2.2.2.1 HS1.out.2.2.2.2.2 p2 q8 o7 t7 i' us' fr' fd' tx' pg' st' u' fw' hf', sm, by have := HK5.out; omega, ?_, by omega, by rw [sz', p2.sz, HS1.out.2.2.2.2.1], ?_, ?_, by rw [rd', p2.rd, HS1.out.1], fun h => by cases h⟩
                · rw [List.length_append, HAL.out]
                  have h1 := keptN_le f ps 0
                  have h2 := HK5.out
                  omega
                · rw [st']
                  have h1 := p2.st
                  rw [HAL.out, HS1.out.1] at h1
                  have h2 := HK5.out
                  omega
                · rw [st']
                  have h1 := p2.st2
                  rw [HAL.out, HS1.out.1] at h1
                  have h2 := HK5.out
                  rcases h1 with h1 | h1
                  · exact .inl h1
                  · exact .inr (by omega)
              · rintro _ w7 ⟨h7, hpost⟩
                go_frame
                go_wp2_with fail
                exact bodyPost_ret (results_cellG2 (p := 6) (u := 7) rfl _ w7 g3 34 _ _ rfl h7 Tryz.underlying34 rfl infoStG) rfl hpost
      · have HK : Hid (q = (k : Int) ∧ k < 6) := ⟨by omega, by have := HQ.out; omega⟩
        clear hk
        go_wp2_with fail
        rw [HK.out.1]
        have hk6 : (k : Int) < 6 := by have := HK.out.2; omega
        clear cpg hneg c1
        go_loopw [11, 12, 13] (fun y _ _ wr => ∃ (j : Nat) (H2 : Hs) (S2 : St) (al : List Int) (vp' vt' : Value), y = .int .i64 (j : Nat) ∧ j ≤ k ∧ PM G w0 w wr b H2 S2 (N + j) g1 g2 g3 g4 #[.int .i64 tx, .slice pp n cp, .slice pt n ct] #[.int .i64 pg, .int .i64 fr, .int .i64 en, .int .i64 ar, .int .i64 fa, .int .u8 (c.toNat : Nat), pk] (tx + 1) vp' vt' (keptN f 0 ps ++ al) (keptN f 0 ts ++ txsN c j) ∧ P2 S1 S2 c al ps ∧ al.length = j) (fun y _ _ _ => k - (Lib.intOf y).toNat)
        case atStart =>
          refine ⟨0, H', S1, [], vp', vt', rfl, by omega, ?_, HP2.out, rfl⟩
          rw [List.append_nil, show txsN c 0 = [] from rfl, List.append_nil]
          exact HM1.out
        case round =>
          obtain ⟨j, H2, S2, al, vp2, vt2, rfl, hj, m, p2, hal⟩ := hrel
          have HAL : Hid (al.length = j) := hal
          clear hal
          have HP : Hid (P2 S1 S2 c al ps) := p2
          by_cases hlt2 : j < k
          · have hltj : (j : Int) < k := by omega
            have hroom2 : S2.P.stop < S2.D.size := by
              have e1 := p2.st
              have e2 := p2.sz
              rw [HAL.out, HS1.out.1] at e1
              rw [HS1.out.2.2.2.2.1] at e2
              have := HK.out.2
              omega
            have hal := pk_alloc m.pk p2.iv hroom2
            have HM : Hid _ := m
            clear m p2 hroom2
            go_wp2_with fail
            refine hal.mono ?_
            clear hal
            rintro e w6 ⟨na, S3, H3, rfl, ena, eS3, p6, s6, a1, a2, a3, a4, a5, a6, a7, a8, a9, a10, a11, a12, a13, a14⟩
            clear ena eS3
            have m6 := HM.out.call p6 s6
            have c5 : w6.cell? ⟨g2, 5, none⟩ = some (.int .u8 (c.toNat : Nat)) := m6.b2.cell 5
            have HA : Hid (PInv S3 ∧ (∀ k, Us S3 k ↔ Us S2 k) ∧ S3.Fr = setM S2.Fr na (some ()) ∧ S3.Fd = S2.Fd ∧ S3.D = S2.D ∧ ¬ Us S2 na ∧ S2.Fr na = none ∧ 2 ≤ na ∧ na < S2.D.size ∧ S3.P.pages = S2.P.pages ∧ S3.P.tx = S2.P.tx ∧ (S3.P.stop = S2.P.stop ∨ S2.L = [] ∧ S3.P.stop = S2.P.stop + 1) ∧ S3.P.used = true ∧ S3.P.reads = S2.P.reads) := ⟨a1, a2, a3, a4, a5, a6, a7, a8, a9, a10, a11, a12, a13, a14⟩
            have HM6 : Hid _ := m6
            clear a1 a2 a3 a4 a5 a6 a7 a8 a9 a10 a11 a12 a13 a14 p6 s6 m6 HM
            have hj6 : j < 6 := by have := HK.out.2; omega
            have ht := text_any c j hj6 w6
            go_wp2_with fail
            refine ht.mono ?_
            clear ht
            rintro e w7 ⟨rfl, hB7⟩
            have m7 := HM6.out.below hB7
            have hw := pk_writeU m7.pk HA.out.1 (by rw [HA.out.2.2.2.2.1]; exact HP.out.fw) hT (by have := HK.out.2; omega) na ⟨by have := HA.out.2.2.2.2.2.2.2.1; omega, by rw [HA.out.2.2.2.2.1]; exact HA.out.2.2.2.2.2.2.2.2.1⟩ (by rw [HA.out.2.2.1, setM_same]) 84 (textS c j) (by rw [textS_size]; omega)
            rw [show K.oct 84 = 84 from rfl] at hw
            have HM7 : Hid _ := m7
            clear m7 hB7 c5 HM6
            go_wp2_with fail
            refine hw.mono ?_
            clear hw
            rintro e w8 ⟨rfl, D8, H8, p8, s8, b1, b2, b3, b4, b5, b6⟩
            have m8 := HM7.out.call p8 s8
            have HP8 : Hid (P2 S1 { S3 with D := D8 } c (al ++ [na]) ps) := by
              obtain ⟨a1, a2, a3, a4, a5, a6, a7, a8, a9, a10, a11, a12, a13, a14⟩ := HA.out
              exact HP.out.step (fun k hk => (HS1.out.2.2.2.2.2 k).1 hk) b1 a2 a3 a4 a6 a7 a8 a9 a10 a11 a12 a13 a14 b3 a5 b4 (by rw [HAL.out]; exact b5) b6
            clear p8 s8 b1 b2 b3 b4 b5 b6 HM7 HA
            obtain ⟨pv, cv, hv⟩ := m8.oi.len
            obtain ⟨nk, hnk⟩ : ∃ nk, (keptN f 0 ps ++ al).length = nk := ⟨_, rfl⟩
            rw [hnk] at hv
            subst hv
            have ch : w8.cell? ⟨g4, 1, none⟩ = some (.slice pv nk cv) := m8.b4.cell 1
            obtain ⟨gb, hgb⟩ : ∃ g, w8.heap.size = g := ⟨_, rfl⟩
            obtain ⟨Wb, hWb⟩ : ∃ W, w8.alloc (.cells #[.int .i64 na] 3) = W := ⟨_, rfl⟩
            have hBb : Below w8.heap.size w8 Wb := by rw [← hWb]; exact below_new1 _ _
            have HHB : Hid (Holds Wb gb 3 #[.int .i64 na]) := by show Holds _ _ _ _; rw [← hWb, ← hgb]; exact Holds.new _ _ _
            have mb := m8.below hBb
            have HNK : Hid ((keptN f 0 ps ++ al).length = nk) := hnk
            have hnk2 : nk < 1000000000 := by
              rw [← hnk, List.length_append, HAL.out]
              have := keptN_le f ps 0
              rw [HN.out] at this
              omega
            have HMB : Hid _ := mb
            clear hBb m8 mb hnk
            go_wp2_with ((with_reducible show wpList _ _ _ (Oper.mk (some 100) _ _ _ _ _ :: _) _ _); refine HaltG.out ?_)
            unfold HaltG
            clear ch
            refine wpList_appI (some 100) rfl rfl _ _ rfl rfl rfl (base := w.heap.size) HMB.out.oi (by rw [HNK.out]; omega) HMB.out.size HHB.out ?_
            intro v w9 ho9 hg9 hv9
            have n4 : (.slice pv nk cv : Value).ownBlock ≠ some g4 := fun e => by
              obtain ⟨cur, hc⟩ := HMB.out.oi.obj e
              exact HMB.out.b4.ne hc (by decide) rfl
            have h9 := (grown_keep hg9).holds HMB.out.b4 n4
            obtain ⟨q9, c9, hv9s⟩ := ho9.len
            obtain ⟨n9, hn9⟩ : ∃ n9, (keptN f 0 ps ++ al ++ [na]).length = n9 := ⟨_, rfl⟩
            rw [hn9] at hv9s
            subst hv9s
            obtain ⟨s1, s2, s3⟩ := stSl1 h9 q9 n9 c9
            obtain ⟨w10, hw10⟩ : ∃ W, w9.setCell ⟨g4, 1, none⟩ (.slice q9 n9 c9) = W := ⟨_, rfl⟩
            rw [hw10] at s1 s2 s3
            have m10 := HMB.out.appI ho9 hg9 hv9 s3 s2
            clear s2 s3 h9 n4 hg9 hv9 ho9 hgb hWb hw10
            go_frame
            go_wp2_with ((with_reducible show wpList _ _ _ (Oper.mk none (Op.store _ _ _) _ _ _ _ :: _) _ _); go_must (refine wpList_stM rfl _ _ _ rfl rfl rfl s1 ?_))
            clear s1
            clear HNK hnk2
            obtain ⟨qv, dv, hq2⟩ := m10.ot.len
            obtain ⟨nq, hnq⟩ : ∃ nq, (keptN f 0 ts ++ txsN c j).length = nq := ⟨_, rfl⟩
            rw [hnq] at hq2
            subst hq2
            have hnq2 : nq < 1000000000 := by
              rw [← hnq, List.length_append, txsN_len]
              have := keptN_le f ts 0
              rw [s.len, HN.out] at this
              omega
            have c5 : w10.cell? ⟨g2, 5, none⟩ = some (.int .u8 (c.toNat : Nat)) := m10.b2.cell 5
            have ch : w10.cell? ⟨g4, 2, none⟩ = some (.slice qv nq dv) := m10.b4.cell 2
            refine wp_then_B (ι := Value × Value) (fun v a => (((((((((a.put (some 102) (.pointer (some ⟨g4, 2, none⟩))).put (some 104) (.pointer (some ⟨g2, 5, none⟩))).put (some 105) (.int .u8 (c.toNat : Nat))).put (some 106) (.int .i64 (j : Nat))).put (some 103) (.slice qv nq dv)).put (some 107) (.string (textS c j))).put (some 108) v.2).put (some 109) v.1).put (some 110) (.pointer (some ⟨g4, 2, none⟩)))) (fun v W => PM G w0 w W b H8 { S3 with D := D8 } (N + j + 1) g1 g2 g3 g4 #[.int .i64 tx, .slice pp n cp, .slice pt n ct] #[.int .i64 pg, .int .i64 fr, .int .i64 en, .int .i64 ar, .int .i64 fa, .int .u8 (c.toNat : Nat), pk] (tx + 1) (.slice q9 n9 c9) v.1 (keptN f 0 ps ++ al ++ [na]) (keptN f 0 ts ++ txsN c j ++ [textS c j])) ?_ ?_
            · refine wp_region_tree (fun W => W.cell? ⟨g2, 5, none⟩ = some (.int .u8 (c.toNat : Nat))) [0, 2, 3, 4] (.two 1 (.one 5 (.one 6 (.one 7 (.one 8 (.one 9 .nil))))) 5 (.two 1 (.one 6 (.one 7 (.one 8 (.one 9 .nil)))) 6 (.one 1 (.one 7 (.one 8 (.one 9 .nil)))))) mixedP (by kernel_rfl) rfl (by kernel_rfl) (fun _ _ _ d _ h => by cases d <;> exact h) c5 ?_
              refine tk_val (some 102) rfl rfl rfl (.pointer (some ⟨g4, 2, none⟩)) (fun _ => by go_simp) ?_
              go_frame
              refine tk_val (some 104) rfl rfl rfl (.pointer (some ⟨g2, 5, none⟩)) (fun _ => by go_simp) ?_
              go_frame
              refine tk_ld (some 105) rfl rfl rfl _ _ rfl rfl (fun W hW => ldU8G hW) ?_
              go_frame
              refine tk_val (some 106) rfl rfl rfl (.int .i64 (j : Nat)) (fun _ => by go_simp) ?_
              go_frame
              refine tk_nil ?_
              refine ⟨?_, ?_⟩
              · refine op_val (some 103) rfl rfl rfl (v := .slice qv nq dv) (w' := w10.drew) (by have hch : w10.drew.cell? ⟨g4, 2, none⟩ = some (.slice qv nq dv) := ch; go_simp) ?_
                refine ⟨c5, ?_⟩
                go_frame
                refine op_call (some 107) rfl rfl rfl (f := 37) (vs := #[.int .u8 (c.toNat : Nat), .int .i64 (j : Nat)]) (by go_simp) ?_
                refine (text_any c j hj6 w10.drew).mono ?_
                rintro e w11 ⟨rfl, hB11⟩
                have m11 := m10.below (below_drewL hB11)
                have c511 : w11.cell? ⟨g2, 5, none⟩ = some (.int .u8 (c.toNat : Nat)) := m11.b2.cell 5
                have ch11 : w11.cell? ⟨g4, 2, none⟩ = some (.slice qv nq dv) := m11.b4.cell 2
                refine ⟨_, rfl, c511, ?_⟩
                go_frame
                obtain ⟨gb, hgb⟩ : ∃ g, w11.heap.size = g := ⟨_, rfl⟩
                obtain ⟨Wb, hWb⟩ : ∃ W, w11.alloc (.cells #[.string (textS c j)] 9) = W := ⟨_, rfl⟩
                have hBb : Below w11.heap.size w11 Wb := by rw [← hWb]; exact below_new1 _ _
                have hhb : Holds Wb gb 9 #[.string (textS c j)] := by rw [← hWb, ← hgb]; exact Holds.new _ _ _
                have mb := m11.below hBb
                have c5b : Wb.cell? ⟨g2, 5, none⟩ = some (.int .u8 (c.toNat : Nat)) := mb.b2.cell 5
                have chb : Wb.cell? ⟨g4, 2, none⟩ = some (.slice qv nq dv) := mb.b4.cell 2
                refine op_val (some 108) rfl rfl rfl (v := .slice (some ⟨gb, 0, none⟩) 1 1) (w' := Wb) (by go_simp <;> first | exact ⟨hgb, hWb⟩ | exact hWb) ?_
                refine ⟨c5b, ?_⟩
                go_frame
                refine op_appT (some 109) rfl rfl rfl _ _ rfl rfl rfl (base := w.heap.size) mb.ot (by rw [hnq]; omega) mb.size hhb ?_
                intro v w12 ho12 hg12 hv12
                have k12 := grown_keep hg12
                have n2 : (.slice qv nq dv : Value).ownBlock ≠ some g2 := fun e => by
                  obtain ⟨cur, hc⟩ := mb.ot.obj e
                  exact mb.b2.ne hc (by decide) rfl
                have n4 : (.slice qv nq dv : Value).ownBlock ≠ some g4 := fun e => by
                  obtain ⟨cur, hc⟩ := mb.ot.obj e
                  exact mb.b4.ne hc (by decide) rfl
                have e1 := cell_keep k12 c5b n2
                have h12 := k12.holds mb.b4 n4
                refine ⟨e1, ?_⟩
                obtain ⟨q12, c12, hv12s⟩ := ho12.len
                obtain ⟨n12, hn12⟩ : ∃ n12, (keptN f 0 ts ++ txsN c j ++ [textS c j]).length = n12 := ⟨_, rfl⟩
                rw [hn12] at hv12s
                subst hv12s
                go_frame
                refine op_val (some 110) rfl rfl rfl (v := .pointer (some ⟨g4, 2, none⟩)) (w' := w12) (by go_simp) ?_
                refine ⟨e1, ?_⟩
                go_frame
                obtain ⟨s1, s2, s3⟩ := stSl2 h12 q12 n12 c12
                refine op_storeM none rfl rfl rfl 32 _ _ rfl rfl rfl s1 ?_
                have k13 : Keep (fun k => k = g4) w12 _ := Keep.only s3 rfl
                refine ⟨cell_keep k13 e1 (mb.b2.ne mb.b4 (by decide)), ?_⟩
                go_frame
                exact ⟨(_, _), rfl, mb.appT ho12 hg12 hv12 s3 s2⟩
              · refine op_call (some 107) rfl rfl rfl (f := 37) (vs := #[.int .u8 (c.toNat : Nat), .int .i64 (j : Nat)]) (by go_simp) ?_
                refine (text_any c j hj6 w10.drew).mono ?_
                rintro e w11 ⟨rfl, hB11⟩
                have m11 := m10.below (below_drewL hB11)
                have c511 : w11.cell? ⟨g2, 5, none⟩ = some (.int .u8 (c.toNat : Nat)) := m11.b2.cell 5
                have ch11 : w11.cell? ⟨g4, 2, none⟩ = some (.slice qv nq dv) := m11.b4.cell 2
                refine ⟨_, rfl, c511, ?_⟩
                go_frame
                obtain ⟨gb, hgb⟩ : ∃ g, w11.heap.size = g := ⟨_, rfl⟩
                obtain ⟨Wb, hWb⟩ : ∃ W, w11.alloc (.cells #[.string (textS c j)] 9) = W := ⟨_, rfl⟩
                have hBb : Below w11.heap.size w11 Wb := by rw [← hWb]; exact below_new1 _ _
                have hhb : Holds Wb gb 9 #[.string (textS c j)] := by rw [← hWb, ← hgb]; exact Holds.new _ _ _
                have mb := m11.below hBb
                have c5b : Wb.cell? ⟨g2, 5, none⟩ = some (.int .u8 (c.toNat : Nat)) := mb.b2.cell 5
                have chb : Wb.cell? ⟨g4, 2, none⟩ = some (.slice qv nq dv) := mb.b4.cell 2
                refine ⟨?_, ?_⟩
                · refine op_val (some 103) rfl rfl rfl (v := .slice qv nq dv) (w' := w11) (by have hch : w11.cell? ⟨g4, 2, none⟩ = some (.slice qv nq dv) := ch11; go_simp) ?_
                  refine ⟨c511, ?_⟩
                  go_frame
                  refine op_val (some 108) rfl rfl rfl (v := .slice (some ⟨gb, 0, none⟩) 1 1) (w' := Wb) (by go_simp <;> first | exact ⟨hgb, hWb⟩ | exact hWb) ?_
                  refine ⟨c5b, ?_⟩
                  go_frame
                  refine op_appT (some 109) rfl rfl rfl _ _ rfl rfl rfl (base := w.heap.size) mb.ot (by rw [hnq]; omega) mb.size hhb ?_
                  intro v w12 ho12 hg12 hv12
                  have k12 := grown_keep hg12
                  have n2 : (.slice qv nq dv : Value).ownBlock ≠ some g2 := fun e => by
                    obtain ⟨cur, hc⟩ := mb.ot.obj e
                    exact mb.b2.ne hc (by decide) rfl
                  have n4 : (.slice qv nq dv : Value).ownBlock ≠ some g4 := fun e => by
                    obtain ⟨cur, hc⟩ := mb.ot.obj e
                    exact mb.b4.ne hc (by decide) rfl
                  have e1 := cell_keep k12 c5b n2
                  have h12 := k12.holds mb.b4 n4
                  refine ⟨e1, ?_⟩
                  obtain ⟨q12, c12, hv12s⟩ := ho12.len
                  obtain ⟨n12, hn12⟩ : ∃ n12, (keptN f 0 ts ++ txsN c j ++ [textS c j]).length = n12 := ⟨_, rfl⟩
                  rw [hn12] at hv12s
                  subst hv12s
                  go_frame
                  refine op_val (some 110) rfl rfl rfl (v := .pointer (some ⟨g4, 2, none⟩)) (w' := w12) (by go_simp) ?_
                  refine ⟨e1, ?_⟩
                  go_frame
                  obtain ⟨s1, s2, s3⟩ := stSl2 h12 q12 n12 c12
                  refine op_storeM none rfl rfl rfl 32 _ _ rfl rfl rfl s1 ?_
                  have k13 : Keep (fun k => k = g4) w12 _ := Keep.only s3 rfl
                  refine ⟨cell_keep k13 e1 (mb.b2.ne mb.b4 (by decide)), ?_⟩
                  go_frame
                  exact ⟨(_, _), rfl, mb.appT ho12 hg12 hv12 s3 s2⟩
                · refine op_val (some 108) rfl rfl rfl (v := .slice (some ⟨gb, 0, none⟩) 1 1) (w' := Wb) (by go_simp <;> first | exact ⟨hgb, hWb⟩ | exact hWb) ?_
                  refine ⟨c5b, ?_⟩
                  go_frame
                  refine op_val (some 103) rfl rfl rfl (v := .slice qv nq dv) (w' := Wb) (by have hch : Wb.cell? ⟨g4, 2, none⟩ = some (.slice qv nq dv) := chb; go_simp) ?_
                  refine ⟨c5b, ?_⟩
                  go_frame
                  refine op_appT (some 109) rfl rfl rfl _ _ rfl rfl rfl (base := w.heap.size) mb.ot (by rw [hnq]; omega) mb.size hhb ?_
                  intro v w12 ho12 hg12 hv12
                  have k12 := grown_keep hg12
                  have n2 : (.slice qv nq dv : Value).ownBlock ≠ some g2 := fun e => by
                    obtain ⟨cur, hc⟩ := mb.ot.obj e
                    exact mb.b2.ne hc (by decide) rfl
                  have n4 : (.slice qv nq dv : Value).ownBlock ≠ some g4 := fun e => by
                    obtain ⟨cur, hc⟩ := mb.ot.obj e
                    exact mb.b4.ne hc (by decide) rfl
                  have e1 := cell_keep k12 c5b n2
                  have h12 := k12.holds mb.b4 n4
                  refine ⟨e1, ?_⟩
                  obtain ⟨q12, c12, hv12s⟩ := ho12.len
                  obtain ⟨n12, hn12⟩ : ∃ n12, (keptN f 0 ts ++ txsN c j ++ [textS c j]).length = n12 := ⟨_, rfl⟩
                  rw [hn12] at hv12s
                  subst hv12s
                  go_frame
                  refine op_val (some 110) rfl rfl rfl (v := .pointer (some ⟨g4, 2, none⟩)) (w' := w12) (by go_simp) ?_
                  refine ⟨e1, ?_⟩
                  go_frame
                  obtain ⟨s1, s2, s3⟩ := stSl2 h12 q12 n12 c12
                  refine op_storeM none rfl rfl rfl 32 _ _ rfl rfl rfl s1 ?_
                  have k13 : Keep (fun k => k = g4) w12 _ := Keep.only s3 rfl
                  refine ⟨cell_keep k13 e1 (mb.b2.ne mb.b4 (by decide)), ?_⟩
                  go_frame
                  exact ⟨(_, _), rfl, mb.appT ho12 hg12 hv12 s3 s2⟩
            · intro u X2 mY
              have HMY : Hid _ := mY
              clear mY
              go_frame
              go_wp2_with fail
              go_roundw
              case rel =>
                refine ⟨j + 1, H8, _, al ++ [na], .slice q9 n9 c9, u.1, by go_num, by omega, ?_, HP8.out, by rw [List.length_append, HAL.out]; rfl⟩
                rw [txsN_succ, ← List.append_assoc, ← List.append_assoc, show N + (j + 1) = N + j + 1 by omega]
                exact HMY.out
              case measure => simp [Lib.intOf]; omega
          · have hjk : k = j := by omega
            subst hjk
            have cen : wr.cell? ⟨g2, 2, none⟩ = some (.int .i64 en) := m.b2.cell 2
            obtain ⟨r, hr⟩ : ∃ r, en.tmod 4 = r := ⟨_, rfl⟩
            have HK5 : Hid (k ≤ 5) := by have := HK.out.2; show k ≤ 5; omega
            by_cases hr3 : r = 3
            · subst hr3
              have hrl := pk_roll m.pk p2.iv
              have HM : Hid _ := m
              clear m p2
              go_wp2_with fail
              refine hrl.mono ?_
              clear hrl
              rintro e w6 ⟨S', H', rfl, p', s', i', us', fr', fd', D', P', _⟩
              have m6 := HM.out.call p' s'
              have l0 : w6.cell? ⟨g1, 0, none⟩ = some (.int .i64 tx) := m6.b1.cell 0
              have l1 : w6.cell? ⟨g1, 1, none⟩ = some (.slice pp n cp) := m6.b1.cell 1
              have l2 : w6.cell? ⟨g1, 2, none⟩ = some (.slice pt n ct) := m6.b1.cell 2
              have h3 := m6.b3
              have HM6 : Hid _ := m6
              have HR : Hid (PInv S' ∧ (∀ k, Us S2 k ↔ Us S' k) ∧ (S'.Fr = fun _ => none) ∧ (S'.Fd = fun _ => none) ∧ S'.D = S2.D ∧ S'.P = { S2.P with used := true, stop := S2.P.pages, count := totR S'.L }) := ⟨i', us', fr', fd', D', P'⟩
              clear p' s' i' us' fr' fd' D' P' m6 cen hr
              go_wp2_with ((with_reducible show wpList _ _ _ (Oper.mk _ (Op.store 34 _ _) _ _ _ _ :: _) _ _); go_must (refine wpList_storeH rfl 34 _ _ rfl g3 #[.int .i64 tx, .slice pp n cp, .slice pt n ct] rfl rfl 34 _ h3 infoStG rfl (by simp [Value.oneCell']) ?_; intro w7 h7 hO7 hs7))
              refine bodyPost_ret (results_cellG2 (p := 6) (u := 7) rfl _ w7 g3 34 _ _ rfl h7 Tryz.underlying34 rfl infoStG) rfl ?_
              obtain ⟨i', us', fr', fd', D', P'⟩ := HR.out
              have m6 := HM6.out
              obtain ⟨⟨d1, d2, d3, d4⟩, d5, d6, d7⟩ := m6.dist
              have q7 := m6.pk.turn (T := fun k => k = g3) (Keep.only hO7 rfl) (fun k hk => by
                subst hk
                exact ⟨.inr (.inl (.inr (.inr (.inl rfl)))), Nat.le_trans HD0.out d3, _, _, h3, by decide, by decide⟩)
              have sm : SameG G w w7 := fun k hk => by
                have h1 := s.pk.kept k hk
                rw [hO7.block k (m6.pk.kept k (.inl hk)) (by omega)]
                exact m6.same k hk
              have q8 : Pk (GS G (.slice pp n cp) (.slice pt n ct)) w0 w7 b H' S' (N + k) := q7.less (by
                rintro k (g | g | g)
                · exact .inl g
                · exact .inl (s.gp k g)
                · exact .inl (s.gt k g))
              have p2 := HP.out
              refine ⟨false, tx, _, _, ps, ts, H', S', N + k, rfl, sta_roll s HS1.out.1 HS1.out.2.2.2.2.1 HS1.out.2.2.2.2.2 p2 q8 sm i' us' fr' fd' D' P', sm, by have := HK5.out; omega, by omega, by omega, by rw [D', p2.sz, HS1.out.2.2.2.2.1], ?_, ?_, by rw [P']; show S2.P.reads = _; rw [p2.rd, HS1.out.1], fun _ => ⟨rfl, rfl, rfl, rfl, rfl⟩⟩
              · rw [P']
                show S2.P.pages ≤ _
                rw [p2.pg, HS1.out.1]
                have := s.st
                omega
              · left
                rw [P']
                show S2.P.pages ≤ _
                rw [p2.pg, HS1.out.1]
                have := s.st
                omega
            · have hb3 : (r == (3 : Int)) = false := by simpa using hr3
              clear hr3
              obtain ⟨pv, cv, hv⟩ := m.oi.len
              obtain ⟨qv, dv, hq2⟩ := m.ot.len
              obtain ⟨nk, hnk⟩ : ∃ nk, (keptN f 0 ps ++ al).length = nk := ⟨_, rfl⟩
              obtain ⟨nq, hnq⟩ : ∃ nq, (keptN f 0 ts ++ txsN c k).length = nq := ⟨_, rfl⟩
              rw [hnk] at hv
              rw [hnq] at hq2
              subst hv hq2
              have hnk2 : nk < 1000000000 := by
                rw [← hnk, List.length_append, HAL.out]
                have := keptN_le f ps 0
                rw [HN.out] at this
                have := HK5.out
                omega
              have mD := m.below (below_drewL (Below.refl _ wr.drew))
              have hcm := pk_commitU mD.pk p2.iv p2.fw hT (by have := HK5.out; omega) nk 1 ⟨by omega, by omega⟩ ⟨by rw [p2.tx, HS1.out.1, s.txe]; exact s.tx0, by rw [p2.tx, HS1.out.1, s.txe]; omega⟩ (by have h1 := p2.sz; rw [HS1.out.2.2.2.2.1] at h1; have h2 := s.iv.stop; omega)
              rw [show ((1 : Nat) : Int) = 1 from rfl] at hcm
              have HM : Hid _ := m
              have HC : Hid _ := hcm
              have HMD : Hid _ := mD
              have HNK : Hid ((keptN f 0 ps ++ al).length = nk) := hnk
              clear m p2 hcm mD hnk hnq
              go_wp2_with fail
              clear hb3 hr cen
              refine wp_then_G (ι := Unit) (fun _ a => ((((((((a.put (some 118) (.agg #[.int .i64 (tx + 1), .slice pv nk cv, .slice qv nq dv])).put (some 119) (.pointer (some ⟨b, 0, none⟩))).put (some 120) (.pointer (some ⟨g4, 1, none⟩))).put (some 121) (.slice pv nk cv)).put (some 122) (.int .i64 (nk : Nat))).put (some 123) (.int .i64 0)).put (some 124) (.bool true)).put (some 7) (.bool true))) (fun _ W => Holds W g3 34 #[.int .i64 (tx + 1), .slice pv nk cv, .slice qv nq dv] ∧ PlaysPost G w0 w b S N tx (.slice pp n cp) (.slice pt n ct) ps ts (.returned (.tuple #[.agg #[.int .i64 (tx + 1), .slice pv nk cv, .slice qv nq dv], .bool true])) W) ?_ ?_
              · refine wp_region_u (fun W => Holds W g4 34 #[.int .i64 (tx + 1), .slice pv nk cv, .slice qv nq dv]) (.take 0 (.take 1 (.take 2 (.take 3 (.take 4 (.one 5 (.take 6 (.one 7 (.one 8 .nil))))))))) mixedP (by kernel_rfl) rfl (by kernel_rfl) (fun _ _ _ d _ h => by cases d <;> exact h) HMD.out.b4 ?_
                refine tk_ld (some 118) rfl rfl rfl _ _ rfl rfl (fun W hW => ldStG hW) ?_
                refine tk_nil ?_
                go_frame
                refine tk_val (some 119) rfl rfl rfl (.pointer (some ⟨b, 0, none⟩)) (fun _ => by go_simp) ?_
                refine tk_nil ?_
                go_frame
                refine tk_val (some 120) rfl rfl rfl (.pointer (some ⟨g4, 1, none⟩)) (fun _ => by go_simp) ?_
                refine tk_nil ?_
                go_frame
                refine tk_ld (some 121) rfl rfl rfl _ _ rfl rfl (fun W hW => ldSlG (hW.cell 1)) ?_
                refine tk_nil ?_
                go_frame
                refine tk_val (some 122) rfl rfl rfl (.int .i64 (nk : Nat)) (fun _ => by go_simp) ?_
                refine tk_nil ?_
                go_frame
                refine op_call (some 123) rfl rfl rfl (f := 25) (vs := #[.pointer (some ⟨b, 0, none⟩), .int .i64 (nk : Nat), .int .i64 1]) (by go_simp) ?_
                refine Calls.mono HC.out ?_
                rintro e w6 ⟨rfl, S', H', p', s', i', us', fr', fd', sz', tx', pg', st', u', rd', fw', hf'⟩
                have m6 := HMD.out.call p' s'
                refine ⟨_, rfl, m6.b4, ?_⟩
                go_frame
                refine tk_val (some 124) rfl rfl rfl (.bool true) (fun _ => by go_simp) ?_
                refine tk_nil ?_
                go_frame
                refine op_storeH none rfl rfl rfl 34 _ _ rfl g3 #[.int .i64 (tx + 1), .slice pv nk cv, .slice qv nq dv] rfl rfl 34 _ m6.b3 infoStG rfl (by simp [Value.oneCell']) ?_
                intro w7 h7 hO7 hs7
                obtain ⟨⟨d1, d2, d3, d4⟩, d5, d6, d7⟩ := m6.dist
                have h47 := hO7.holds m6.b4 (Ne.symm d6)
                refine ⟨h47, ?_⟩
                go_frame
                refine op_val (some 7) rfl rfl rfl (v := .bool true) (w' := w7) (by go_simp) ?_
                refine ⟨h47, ?_⟩
                go_frame
                refine ⟨(), rfl, h7, ?_⟩
                have q7 := m6.pk.turn (T := fun k => k = g3) (Keep.only hO7 rfl) (fun k hk => by
                  subst hk
                  exact ⟨.inr (.inl (.inr (.inr (.inl rfl)))), Nat.le_trans HD0.out d3, _, _, m6.b3, by decide, by decide⟩)
                have sm : SameG G w w7 := fun k hk => by
                  have h1 := s.pk.kept k hk
                  rw [hO7.block k (m6.pk.kept k (.inl hk)) (by omega)]
                  exact m6.same k hk
                have q8 : Pk (GS G (.slice pv nk cv) (.slice qv nq dv)) w0 w7 b H' S' (N + k + 3) := q7.less (by
                  rintro k (g | g | g)
                  · exact .inl g
                  · exact .inr (.inr (.inl g))
                  · exact .inr (.inr (.inr g)))
                have o7 : OI w7 w.heap.size (.slice pv nk cv) (keptN f 0 ps ++ al) := m6.oi.block (fun k hk => by
                  obtain ⟨cur, hc⟩ := m6.oi.obj hk
                  exact hO7.block k hc.lt (hc.ne m6.b3 (by decide)))
                have t7 : OT w7 w.heap.size (.slice qv nq dv) (keptN f 0 ts ++ txsN c al.length) := by
                  rw [HAL.out]
                  exact m6.ot.block (fun k hk => by
                    obtain ⟨cur, hc⟩ := m6.ot.obj hk
                    exact hO7.block k hc.lt (hc.ne m6.b3 (by decide)))
                have p2 := HP.out
                refine ⟨true, tx + 1, _, _, keptN f 0 ps ++ al, keptN f 0 ts ++ txsN c al.length, H', S', N + k + 3, rfl, sta_commit s HS1.out.1 HS1.out.2.2.2.1 HS1.out.2.2.2.2.1 HS1.out.2.2.2.2.2 p2 q8 o7 t7 i' us' fr' fd' tx' pg' st' u' fw' hf', sm, by have := HK5.out; omega, ?_, by omega, by rw [sz', p2.sz, HS1.out.2.2.2.2.1], ?_, ?_, by rw [rd', p2.rd, HS1.out.1], fun h => by cases h⟩
                · rw [List.length_append, HAL.out]
                  have h1 := keptN_le f ps 0
                  have h2 := HK5.out
                  omega
                · rw [st']
                  have h1 := p2.st
                  rw [HAL.out, HS1.out.1] at h1
                  have h2 := HK5.out
                  omega
                · rw [st']
                  have h1 := p2.st2
                  rw [HAL.out, HS1.out.1] at h1
                  have h2 := HK5.out
                  rcases h1 with h1 | h1
                  · exact .inl h1
                  · exact .inr (by omega)
              · rintro _ w7 ⟨h7, hpost⟩
                go_frame
                go_wp2_with fail
                exact bodyPost_ret (results_cellG2 (p := 6) (u := 7) rfl _ w7 g3 34 _ _ rfl h7 Tryz.underlying34 rfl infoStG) rfl hpost
end Go.Proofs.YtjklcnknbcmgoaaGreatDoor
