/-
  The document's Read.
-/
import Derived.Test.YtdgfjaidnedaiaaEQBytesW
namespace Go.Proofs.Ytdgfjaidnedaiaa
open Go Go.RowKit Go.Lib

theorem Only.setNew {b g : Nat} {w w' : World} (h : Only b w w') (hg : w.heap.size ≤ g) (i : Nat) (v : Value) : Only b w (w'.setCell ⟨g, i, none⟩ v) :=
  ⟨h.os, h.tape, h.output, by simp; exact h.size, fun k hk hb => (Below.heap_setCell _ _ _ _ (by simp only; omega)).trans (h.block k hk hb)⟩
theorem box_rd (w : World) (s : ByteArray) : ∃ W g, w.alloc (.cells #[.string s, .bool false] 62) = W ∧ w.heap.size = g ∧ Below w.heap.size w W ∧ Holds W g 62 #[.string s, .bool false] := ⟨_, _, rfl, rfl, below_new1 _ _, Holds.new _ _ _⟩
theorem box_zero (w : World) : ∃ W g, w.alloc (.cells #[.string ⟨#[]⟩, .string ⟨#[]⟩, .int .i64 0, .int .i64 0] 27) = W ∧ w.heap.size = g ∧ Below w.heap.size w W ∧ Holds W g 27 #[.string ⟨#[]⟩, .string ⟨#[]⟩, .int .i64 0, .int .i64 0] := ⟨_, _, rfl, rfl, below_new1 _ _, Holds.new _ _ _⟩
/-- What stands between two rounds. -/
structure QInv (w W : World) (leaf : Bool) (g4 gr g7 : Nat) (st : PS) (v : Value) (acc : List Cl) : Prop where
  below : Below w.heap.size w W
  size : g7 < W.heap.size
  n4 : Holds W g4 24 #[.bool false, .slice none 0 0]
  rd : RdAt W gr st
  n7 : Holds W g7 24 #[.bool leaf, v]
  own : OwnCells W (g7 + 1) v acc
  len : st.1.length ≤ 2000
theorem qinv_next {w wr W W4 w6 : World} {leaf : Bool} {g4 gr g7 : Nat} {st st' : PS} {v v6 : Value} {acc L6 : List Cl} (hI : QInv w wr leaf g4 gr g7 st v acc) (hg : w.heap.size = g4 ∧ g4 < gr ∧ gr < g7) (hS : Only gr wr W) (hR : RdAt W gr st') (hl : st'.1.length ≤ 2000) (hB : Below W.heap.size W W4) (hown : OwnCells w6 (g7 + 1) v6 L6) (hgr : W4.grownBy w6 v.ownBlock) :
    QInv w (w6.setCell ⟨g7, 1, none⟩ v6) leaf g4 gr g7 st' v6 L6 := by
  have hnew := hI.own.new
  have h6 : ∀ {g : Nat} {t : TypeId} {cs : Array Value}, Holds W g t cs → g ≤ g7 → Holds w6 g t cs := fun {g t cs} hh hle => by
    have h1 := below_holds hB hh
    have hl1 := h1.lt
    unfold Holds at *
    rw [hgr.block g hl1 fun e => ?_]
    · exact h1
    · have := hnew g e.symm; omega
  have h7 : ∀ {g : Nat} {t : TypeId} {cs : Array Value}, Holds w6 g t cs → g ≠ g7 → Holds (w6.setCell ⟨g7, 1, none⟩ v6) g t cs := fun {g t cs} hh hne => hh.other _ _ hne
  have hsz : W.heap.size ≤ w6.heap.size := Nat.le_trans hB.size hgr.size
  refine ⟨⟨?_, ?_, ?_, ?_, ?_⟩, ?_, h7 (h6 (hS.holds hI.n4 (by omega)) (by omega)) (by omega), h7 (h6 hR (by omega)) (by omega), ?_, own_only hown ((Only.refl g7 w6).set 1 v6) (by omega), hl⟩
  · exact hgr.os.trans (hB.os.trans (hS.os.trans hI.below.os))
  · exact hgr.tape.trans (hB.tape.trans (hS.tape.trans hI.below.tape))
  · exact hgr.output.trans (hB.output.trans (hS.output.trans hI.below.output))
  · have := hI.below.size; have := hS.size; simp; omega
  · intro k hk
    have h1 := hI.below.size
    have h2 := hS.size
    have h3 := hB.size
    rw [Below.heap_setCell _ _ _ _ (by simp only; omega), hgr.block k (by omega) fun e => ?_, hB.block k (by omega), hS.block k (by omega) (by omega), hI.below.block k hk]
    have := hnew k e.symm
    omega
  · have := hI.size; have := hS.size; simp; omega
  · exact (h6 (hS.holds hI.n7 (by omega)) (Nat.le_refl _)).set 1 v6
theorem qtail_prep {w wr W3 : World} {leaf : Bool} {g4 gr g7 gz : Nat} {st : PS} {pv : Option Addr} {mv cv : Nat} {acc : List Cl} (hI : QInv w wr leaf g4 gr g7 st (.slice pv mv cv) acc) (hg : w.heap.size = g4 ∧ g4 < gr ∧ gr < g7) (hS3 : Only gr wr W3) (c : Cl) (hx3 : Holds W3 gz 27 (cArr c)) :
    W3.cell? ⟨g7, 1, none⟩ = some (.slice pv mv cv) ∧ (W3.cell? ⟨gz, 0, none⟩ = some (.string c.k) ∧ W3.cell? ⟨gz, 1, none⟩ = some (.string c.v) ∧ W3.cell? ⟨gz, 2, none⟩ = some (.int .i64 c.p) ∧ W3.cell? ⟨gz, 3, none⟩ = some (.int .i64 c.s)) ∧
    ∃ W4 gb, W3.alloc (.cells #[.string c.k, .string c.v, .int .i64 c.p, .int .i64 c.s] 27) = W4 ∧ W3.heap.size = gb ∧ Hid (Below W3.heap.size W3 W4) ∧ CellsAt W4 (.slice (some ⟨gb, 0, none⟩) 1 1) [c] ∧ OwnCells W4 (g7 + 1) (.slice pv mv cv) acc ∧ g7 + 1 ≤ W4.heap.size ∧ Hid (∀ w6, W4.grownBy w6 (Value.slice pv mv cv).ownBlock → Holds w6 g7 24 #[.bool leaf, .slice pv mv cv]) := by
  have h10 := hS3.holds hI.n7 (show g7 ≠ gr by omega)
  obtain ⟨W4, gb, h1, h2, h3, h4⟩ := box_cell W3 c
  have hown := own_only hI.own hS3 (by omega)
  refine ⟨h10.cell 1, ⟨hx3.cell 0, hx3.cell 1, hx3.cell 2, hx3.cell 3⟩, W4, gb, h1, h2, h3, one_cl h4, hown.below0 h3, ?_, fun w6 hgr => ?_⟩
  · have := hI.size; have := hS3.size; have := h3.size; omega
  · have h5 := below_holds h3 h10
    have hl1 := h5.lt
    have hnew := hI.own.new
    unfold Holds at *
    rw [hgr.block g7 hl1 fun e => ?_]
    · exact h5
    · have := hnew g7 e.symm; omega
theorem bytV_shape (leaf : Bool) (L : List Cl) : ∃ (B : ByteArray) (er : Int), bytV leaf L = .tuple #[.string B, .int .i64 er] := by
  unfold bytV
  split
  · split
    · exact ⟨_, _, rfl⟩
    · exact ⟨_, _, rfl⟩
  · exact ⟨_, _, rfl⟩
set_option maxRecDepth 8000 in
set_option maxHeartbeats 4000000 in
theorem qread9_any (leaf : Bool) (s : List UInt8) (hs : s.length ≤ 2000) (w : World) : Calls Try.prog 18 #[.bool leaf, .string (txt s)] w fun e w' => ReadAns w w' leaf s e ∧ Below w.heap.size w w' := by
  have hnot := run_notE
  obtain ⟨W0, g4, hW0, hg4, hB0, hb0, _, _⟩ := box_node w false (.slice none 0 0)
  obtain ⟨W1, gr, hW1, hgr, hB1, hb1⟩ := box_rd W0 (txt s)
  obtain ⟨N, hN⟩ : ∃ N, (numQ 2 (s, true)).1 = N := ⟨_, rfl⟩
  obtain ⟨st0, hst0⟩ : ∃ st0, (numQ 2 (s, true)).2 = st0 := ⟨_, rfl⟩
  have hNl : N < 65536 := by rw [← hN]; exact numQ_lt 2 (s, true)
  have HL0 : Hid (st0.1.length ≤ 2000) := by
    show _ ≤ _
    rw [← hst0]
    exact Nat.le_trans (takeQ_len 2 (s, true)).1 hs
  obtain ⟨T, hT⟩ : ∃ T, parseQ leaf N st0 [] = T := ⟨_, rfl⟩
  have HT0 : Hid (parseQ leaf N st0 [] = T) := hT
  have HRQ : Hid (readQ leaf s = (T.1, T.2.2)) := by show _ = _; unfold readQ; dsimp only; rw [hN, hst0, hT]
  have hnum := fun W (hR : RdAt W gr (s, true)) => qnumber_any hR 2 (by omega) (by dsimp only; omega)
  rw [hN, hst0] at hnum
  have HBD : Hid (s.length ≤ 2000) := hs
  clear hN hst0 hT hs
  go_enter Try.func18, Try.ntmps18
  go_wp2_with fail
  obtain ⟨W2, g7, hW2, hg7, hB2, hb2, _, _⟩ := box_node W1 leaf (.slice none 0 0)
  rw [hW2, hg7]
  have HG : Hid (w.heap.size = g4 ∧ g4 < gr ∧ gr < g7) := ⟨hg4, by have := hb0.lt; omega, by have := hb1.lt; omega⟩
  refine (hnum W2 (below_holds hB2 hb1)).mono ?_
  rintro e W3 ⟨rfl, hR3, hO3, hs3⟩
  have HI3 : Hid (QInv w W3 leaf g4 gr g7 st0 (.slice none 0 0) []) := by
    have hg := HG.out
    have h02 := below_new hB0 (below_new hB1 hB2)
    exact ⟨Only.fresh h02 hO3 (by omega), by rw [hs3]; exact hb2.lt, hO3.holds (below_holds (below_new hB1 hB2) hb0) (by omega), hR3, hO3.holds hb2 (by omega), OwnCells.nil _ _, HL0.out⟩
  clear hR3 hO3 hs3 hB0 hB1 hB2 hb0 hb1 hb2 hW0 hW1 hW2 hg4 hgr hg7 hnum
  go_wp2_with fail
  go_loopw [9] (fun y wr => ∃ (i k : Nat) (st : PS) (acc : List Cl) (v : Value), y = .int .i64 (i : Nat) ∧ i + k = N ∧ Hid (acc.length + k ≤ 65536) ∧ Hid (parseQ leaf k st acc = T) ∧ QInv w wr leaf g4 gr g7 st v acc) (fun y _ => N - (intOf y).toNat)
  case atStart => exact ⟨0, N, st0, [], _, rfl, by omega, (by show _ ≤ _; rw [List.length_nil]; omega), HT0, HI3.out⟩
  case round =>
    clear HT0 HI3 HL0
    obtain ⟨i, k, st, acc, v, rfl, hik, HL, HT, hI⟩ := hrel
    have HI : Hid (QInv w wr leaf g4 gr g7 st v acc) := hI
    obtain ⟨pv, mv, cv, rfl, hmv, hat⟩ := shape2 hI.own
    have r1 : wr.cell? ⟨gr, 1, none⟩ = some (.bool (!st.2)) := hI.rd.cell 1
    obtain ⟨hg0, hg1, hg2⟩ := HG.out
    by_cases hgo : 0 < k ∧ st.2 = true
    · obtain ⟨j, hj⟩ : ∃ j, k = j + 1 := ⟨k - 1, by omega⟩
      have hii : (i : Int) < N := by omega
      rw [hgo.2] at r1
      replace r1 : wr.cell? ⟨gr, 1, none⟩ = some (.bool false) := r1
      have HJ : Hid (k = j + 1 ∧ st.2 = true) := ⟨hj, hgo.2⟩
      have HLJ : Hid (acc.length + 1 + j ≤ 65536) := by show _ ≤ _; have := HL.out; omega
      have HLA : Hid (acc.length + 1 ≤ 1000000000) := by show _ ≤ _; have := HL.out; omega
      have hijN : i + 1 + j = N := by omega
      have hn1 := fun W (hR : RdAt W gr st) => qnumber_any hR 1 (by omega) (by have := HI.out.len; omega)
      obtain ⟨a1, ha1⟩ : ∃ a1, (numQ 1 st).1 = a1 := ⟨_, rfl⟩
      obtain ⟨a2, ha2⟩ : ∃ a2, (numQ 1 st).2 = a2 := ⟨_, rfl⟩
      obtain ⟨b1, hb1⟩ : ∃ b1, (takeQ a1 a2).1 = b1 := ⟨_, rfl⟩
      obtain ⟨b2, hb2⟩ : ∃ b2, (takeQ a1 a2).2 = b2 := ⟨_, rfl⟩
      have HA2 : a2.1.length ≤ 2000 := by rw [← ha2]; exact Nat.le_trans (takeQ_len 1 st).1 HI.out.len
      have HB2 : Hid (b2.1.length ≤ 2000) := by show _ ≤ _; rw [← hb2]; exact Nat.le_trans (takeQ_len a1 a2).1 HA2
      have ht1 := fun W (hR : RdAt W gr a2) => qtake_any hR a1 (by omega)
      rw [ha1, ha2] at hn1
      rw [hb1, hb2] at ht1
      have HP : Hid ((numQ 1 st).1 = a1 ∧ (numQ 1 st).2 = a2 ∧ (takeQ a1 a2).1 = b1 ∧ (takeQ a1 a2).2 = b2) := ⟨ha1, ha2, hb1, hb2⟩
      clear ha1 ha2 hb1 hb2 hat hmv hgo hj hI hik HL
      go_wp2_with fail
      obtain ⟨Z0, gz, hZ0, hgz, hBz, hhz⟩ := box_zero wr
      rw [hZ0, hgz]
      have hgzz : g7 < gz := by rw [← hgz]; exact HI.out.size
      have HGZ : Hid (wr.heap.size ≤ gz) := by show _ ≤ _; omega
      refine (hn1 Z0 (below_holds hBz HI.out.rd)).mono ?_
      rintro e Z1 ⟨rfl, hR1, hO1, hs1⟩
      have hS1 : Only gr wr Z1 := ((Only.refl gr wr).below hBz).trans hO1
      have hh1 := hO1.holds hhz (show gz ≠ gr by omega)
      clear hhz hO1 hs1 hn1 hBz hZ0 hgz HA2 r1
      go_wp2_with fail
      refine (ht1 Z1 hR1).mono ?_
      rintro e Z2 ⟨rfl, hR2, hO2, hs2⟩
      have hS2 := hS1.trans hO2
      have hh2 := hO2.holds hh1 (show gz ≠ gr by omega)
      clear hS1 hh1 hR1 hO2 hs2 ht1
      have x2 : Z2.cell? ⟨gz, 0, none⟩ = some (.string ⟨#[]⟩) := hh2.cell 0
      have xf2 := hh2.frozen 0
      obtain ⟨Z3, hZ3⟩ : ∃ Z3, Z2.setCell ⟨gz, 0, none⟩ (.string (txt b1)) = Z3 := ⟨_, rfl⟩
      have hh3 : Holds Z3 gz 27 #[.string (txt b1), .string ⟨#[]⟩, .int .i64 0, .int .i64 0] := by rw [← hZ3]; exact hh2.set 0 _
      have hR3 : RdAt Z3 gr b2 := by rw [← hZ3]; exact Holds.other hR2 _ _ (by simp only; omega)
      have hS3 : Only gr wr Z3 := by rw [← hZ3]; exact hS2.setNew HGZ.out 0 _
      clear hS2 hh2 hR2
      cases leaf with
      | false =>
        obtain ⟨c1, hc1⟩ : ∃ c1, (numQ 4 b2).1 = c1 := ⟨_, rfl⟩
        obtain ⟨c2, hc2⟩ : ∃ c2, (numQ 4 b2).2 = c2 := ⟨_, rfl⟩
        have Hc : Hid ((numQ 4 b2).1 = c1 ∧ (numQ 4 b2).2 = c2) := ⟨hc1, hc2⟩
        have HLc : Hid (c2.1.length ≤ 2000) := by show _ ≤ _; rw [← hc2]; exact Nat.le_trans (takeQ_len 4 b2).1 HB2.out
        have hnn := qnumber_any hR3 4 (by omega) (by have := HB2.out; omega)
        rw [hc1, hc2] at hnn
        clear hc1 hc2
        go_wp2_with fail
        refine hnn.mono ?_
        rintro e Z4 ⟨rfl, hR4, hO4, hs4⟩
        have hS4 := hS3.trans hO4
        have hh4 := hO4.holds hh3 (show gz ≠ gr by omega)
        clear hS3 hh3 hR3 hO4 hs4 hnn
        have HCP : Hid (cellQ false st = (⟨txt b1, ⟨#[]⟩, (c1 : Nat), 0⟩, c2)) := by
          show _ = _
          obtain ⟨e1, e2, e3, e4⟩ := HP.out
          unfold cellQ
          simp only [e1, e2, e3, e4, Bool.false_eq_true, if_false, Hc.out.1, Hc.out.2]
        have x4 : Z4.cell? ⟨gz, 2, none⟩ = some (.int .i64 0) := hh4.cell 2
        have xf4 := hh4.frozen 2
        obtain ⟨Z5, hZ5⟩ : ∃ Z5, Z4.setCell ⟨gz, 2, none⟩ (.int .i64 (c1 : Nat)) = Z5 := ⟨_, rfl⟩
        have hh5 : Holds Z5 gz 27 #[.string (txt b1), .string ⟨#[]⟩, .int .i64 (c1 : Nat), .int .i64 0] := by rw [← hZ5]; exact hh4.set 2 _
        have hR5 : RdAt Z5 gr c2 := by rw [← hZ5]; exact Holds.other hR4 _ _ (by simp only; omega)
        have hS5 : Only gr wr Z5 := by rw [← hZ5]; exact hS4.setNew HGZ.out 2 _
        clear hS4 hh4 hR4
        obtain ⟨t1, ⟨t2, t3, t4, t5⟩, W4, gb, hW4, hgb, HB4, hone4, hown4, hbs4, HNX⟩ := qtail_prep HI.out HG.out hS5 ⟨txt b1, ⟨#[]⟩, (c1 : Nat), 0⟩ hh5
        dsimp only at t2 t3 t4 t5 hW4
        have HX : Hid (Only gr wr Z5 ∧ RdAt Z5 gr c2) := ⟨hS5, hR5⟩
        clear hS5 hR5 hh5
        go_wp2_with (at_builtin; refine wpList_append_cl rfl _ _ rfl rfl rfl hown4 hone4 HLA.out hbs4 ?_; intro v6 w6 hown6 hg6; have hh6 := HNX.out w6 hg6; obtain ⟨p6, m6, c6, rfl, hm6, hat6⟩ := shape2 hown6; have HF : Hid (QInv w (w6.setCell ⟨g7, 1, none⟩ (.slice p6 m6 c6)) false g4 gr g7 c2 (.slice p6 m6 c6) (acc ++ [⟨txt b1, ⟨#[]⟩, (c1 : Nat), 0⟩])) := (qinv_next HI.out HG.out HX.out.1 HX.out.2 HLc.out HB4.out hown6 hg6); have s1 : w6.cell? ⟨g7, 1, none⟩ = some (.slice pv mv cv) := (hh6.cell 1); have s2 := hh6.frozen 1; clear hown6 hg6 hm6 hat6 hh6)
        exact ⟨⟨i + 1, j, c2, acc ++ [⟨txt b1, ⟨#[]⟩, (c1 : Nat), 0⟩], _, by go_num, hijN, (by show _ ≤ _; rw [List.length_append, List.length_singleton]; exact HLJ.out), (by show _ = _; rw [← HT.out, HJ.out.1, parseQ_step HJ.out.2, HCP.out]), HF.out⟩, by simp [intOf]; omega⟩
      | true =>
        obtain ⟨c1, hc1⟩ : ∃ c1, (numQ 1 b2).1 = c1 := ⟨_, rfl⟩
        obtain ⟨c2, hc2⟩ : ∃ c2, (numQ 1 b2).2 = c2 := ⟨_, rfl⟩
        have Hc : Hid ((numQ 1 b2).1 = c1 ∧ (numQ 1 b2).2 = c2) := ⟨hc1, hc2⟩
        have HLc : Hid (c2.1.length ≤ 2000) := by show _ ≤ _; rw [← hc2]; exact Nat.le_trans (takeQ_len 1 b2).1 HB2.out
        have hnn := qnumber_any hR3 1 (by omega) (by have := HB2.out; omega)
        rw [hc1, hc2] at hnn
        clear hc1 hc2
        go_wp2_with fail
        refine hnn.mono ?_
        rintro e Z4 ⟨rfl, hR4, hO4, hs4⟩
        have hS4 := hS3.trans hO4
        have hh4 := hO4.holds hh3 (show gz ≠ gr by omega)
        clear hS3 hh3 hR3 hO4 hs4 hnn
        by_cases hc1 : c1 = 1
        · subst hc1
          obtain ⟨d1, hd1⟩ : ∃ d1, (numQ 4 c2).1 = d1 := ⟨_, rfl⟩
          obtain ⟨d2, hd2⟩ : ∃ d2, (numQ 4 c2).2 = d2 := ⟨_, rfl⟩
          have Hd : Hid ((numQ 4 c2).1 = d1 ∧ (numQ 4 c2).2 = d2) := ⟨hd1, hd2⟩
          have HLd : Hid (d2.1.length ≤ 2000) := by show _ ≤ _; rw [← hd2]; exact Nat.le_trans (takeQ_len 4 c2).1 HLc.out
          have hnn := qnumber_any hR4 4 (by omega) (by have := HLc.out; omega)
          rw [hd1, hd2] at hnn
          clear hd1 hd2
          go_wp2_with fail
          refine hnn.mono ?_
          rintro e Z6 ⟨rfl, hR6, hO6, hs6⟩
          have hS6 := hS4.trans hO6
          have hh6 := hO6.holds hh4 (show gz ≠ gr by omega)
          clear hS4 hh4 hR4 hO6 hs6 hnn
          have x6 : Z6.cell? ⟨gz, 2, none⟩ = some (.int .i64 0) := hh6.cell 2
          have xf6 := hh6.frozen 2
          obtain ⟨Z7, hZ7⟩ : ∃ Z7, Z6.setCell ⟨gz, 2, none⟩ (.int .i64 (d1 : Nat)) = Z7 := ⟨_, rfl⟩
          have hh7 : Holds Z7 gz 27 #[.string (txt b1), .string ⟨#[]⟩, .int .i64 (d1 : Nat), .int .i64 0] := by rw [← hZ7]; exact hh6.set 2 _
          have hR7 : RdAt Z7 gr d2 := by rw [← hZ7]; exact Holds.other hR6 _ _ (by simp only; omega)
          have hS7 : Only gr wr Z7 := by rw [← hZ7]; exact hS6.setNew HGZ.out 2 _
          clear hS6 hh6 hR6
          obtain ⟨f1, hf1⟩ : ∃ f1, (numQ 4 d2).1 = f1 := ⟨_, rfl⟩
          obtain ⟨f2, hf2⟩ : ∃ f2, (numQ 4 d2).2 = f2 := ⟨_, rfl⟩
          have Hf : Hid ((numQ 4 d2).1 = f1 ∧ (numQ 4 d2).2 = f2) := ⟨hf1, hf2⟩
          have HLf : Hid (f2.1.length ≤ 2000) := by show _ ≤ _; rw [← hf2]; exact Nat.le_trans (takeQ_len 4 d2).1 HLd.out
          have hnn := qnumber_any hR7 4 (by omega) (by have := HLd.out; omega)
          rw [hf1, hf2] at hnn
          clear hf1 hf2
          go_wp2_with fail
          refine hnn.mono ?_
          rintro e Z8 ⟨rfl, hR8, hO8, hs8⟩
          have hS8 := hS7.trans hO8
          have hh8 := hO8.holds hh7 (show gz ≠ gr by omega)
          clear hS7 hh7 hR7 hO8 hs8 hnn
          have HCP : Hid (cellQ true st = (⟨txt b1, ⟨#[]⟩, (d1 : Nat), (f1 : Nat)⟩, f2)) := by
            show _ = _
            obtain ⟨e1, e2, e3, e4⟩ := HP.out
            unfold cellQ
            simp only [e1, e2, e3, e4, if_true, Hc.out.1, Hc.out.2, ne_eq, not_true_eq_false, if_false, Hd.out.1, Hd.out.2, Hf.out.1, Hf.out.2]
          have x8 : Z8.cell? ⟨gz, 3, none⟩ = some (.int .i64 0) := hh8.cell 3
          have xf8 := hh8.frozen 3
          obtain ⟨Z9, hZ9⟩ : ∃ Z9, Z8.setCell ⟨gz, 3, none⟩ (.int .i64 (f1 : Nat)) = Z9 := ⟨_, rfl⟩
          have hh9 : Holds Z9 gz 27 #[.string (txt b1), .string ⟨#[]⟩, .int .i64 (d1 : Nat), .int .i64 (f1 : Nat)] := by rw [← hZ9]; exact hh8.set 3 _
          have hR9 : RdAt Z9 gr f2 := by rw [← hZ9]; exact Holds.other hR8 _ _ (by simp only; omega)
          have hS9 : Only gr wr Z9 := by rw [← hZ9]; exact hS8.setNew HGZ.out 3 _
          clear hS8 hh8 hR8
          obtain ⟨t1, ⟨t2, t3, t4, t5⟩, W4, gb, hW4, hgb, HB4, hone4, hown4, hbs4, HNX⟩ := qtail_prep HI.out HG.out hS9 ⟨txt b1, ⟨#[]⟩, (d1 : Nat), (f1 : Nat)⟩ hh9
          dsimp only at t2 t3 t4 t5 hW4
          have HX : Hid (Only gr wr Z9 ∧ RdAt Z9 gr f2) := ⟨hS9, hR9⟩
          clear hS9 hR9 hh9
          go_wp2_with (at_builtin; refine wpList_append_cl rfl _ _ rfl rfl rfl hown4 hone4 HLA.out hbs4 ?_; intro v6 w6 hown6 hg6; have hh6 := HNX.out w6 hg6; obtain ⟨p6, m6, c6, rfl, hm6, hat6⟩ := shape2 hown6; have HF : Hid (QInv w (w6.setCell ⟨g7, 1, none⟩ (.slice p6 m6 c6)) true g4 gr g7 f2 (.slice p6 m6 c6) (acc ++ [⟨txt b1, ⟨#[]⟩, (d1 : Nat), (f1 : Nat)⟩])) := (qinv_next HI.out HG.out HX.out.1 HX.out.2 HLf.out HB4.out hown6 hg6); have s1 : w6.cell? ⟨g7, 1, none⟩ = some (.slice pv mv cv) := (hh6.cell 1); have s2 := hh6.frozen 1; clear hown6 hg6 hm6 hat6 hh6)
          exact ⟨⟨i + 1, j, f2, acc ++ [⟨txt b1, ⟨#[]⟩, (d1 : Nat), (f1 : Nat)⟩], _, by go_num, hijN, (by show _ ≤ _; rw [List.length_append, List.length_singleton]; exact HLJ.out), (by show _ = _; rw [← HT.out, HJ.out.1, parseQ_step HJ.out.2, HCP.out]), HF.out⟩, by simp [intOf]; omega⟩
        · have hc1i : ((c1 : Int) == 1) = false := by simp; omega
          obtain ⟨d1, hd1⟩ : ∃ d1, (numQ 1 c2).1 = d1 := ⟨_, rfl⟩
          obtain ⟨d2, hd2⟩ : ∃ d2, (numQ 1 c2).2 = d2 := ⟨_, rfl⟩
          have Hd : Hid ((numQ 1 c2).1 = d1 ∧ (numQ 1 c2).2 = d2) := ⟨hd1, hd2⟩
          have HLd : Hid (d2.1.length ≤ 2000) := by show _ ≤ _; rw [← hd2]; exact Nat.le_trans (takeQ_len 1 c2).1 HLc.out
          have hnn := qnumber_any hR4 1 (by omega) (by have := HLc.out; omega)
          rw [hd1, hd2] at hnn
          clear hd1 hd2
          go_wp2_with fail
          refine hnn.mono ?_
          rintro e Z6 ⟨rfl, hR6, hO6, hs6⟩
          have hS6 := hS4.trans hO6
          have hh6 := hO6.holds hh4 (show gz ≠ gr by omega)
          clear hS4 hh4 hR4 hO6 hs6 hnn
          obtain ⟨f1, hf1⟩ : ∃ f1, (takeQ d1 d2).1 = f1 := ⟨_, rfl⟩
          obtain ⟨f2, hf2⟩ : ∃ f2, (takeQ d1 d2).2 = f2 := ⟨_, rfl⟩
          have HLf : Hid (f2.1.length ≤ 2000) := by show _ ≤ _; rw [← hf2]; exact Nat.le_trans (takeQ_len d1 d2).1 HLd.out
          have ht2 := qtake_any hR6 d1 (by have := HLd.out; omega)
          rw [hf1, hf2] at ht2
          obtain ⟨ln, hln⟩ : ∃ ln, f1.length = ln := ⟨_, rfl⟩
          have HCP : Hid (cellQ true st = (⟨txt b1, txt f1, 0, (ln : Nat)⟩, f2)) := by
            show _ = _
            obtain ⟨e1, e2, e3, e4⟩ := HP.out
            unfold cellQ
            simp only [e1, e2, e3, e4, if_true, Hc.out.1, Hc.out.2, ne_eq, hc1, not_false_eq_true, Hd.out.1, Hd.out.2, hf1, hf2, hln]
          have htl : (txt f1).size = ln := by rw [txt_size]; exact hln
          clear hf1 hf2 hln
          go_wp2_with fail
          refine ht2.mono ?_
          rintro e Z7 ⟨rfl, hR7, hO7, hs7⟩
          have hS7 := hS6.trans hO7
          have hh7 := hO7.holds hh6 (show gz ≠ gr by omega)
          clear hS6 hh6 hR6 hO7 hs7 ht2
          have x7 : Z7.cell? ⟨gz, 1, none⟩ = some (.string ⟨#[]⟩) := hh7.cell 1
          have xf7 := hh7.frozen 1
          obtain ⟨Z8, hZ8⟩ : ∃ Z8, Z7.setCell ⟨gz, 1, none⟩ (.string (txt f1)) = Z8 := ⟨_, rfl⟩
          have hh8 : Holds Z8 gz 27 #[.string (txt b1), .string (txt f1), .int .i64 0, .int .i64 0] := by rw [← hZ8]; exact hh7.set 1 _
          have hR8 : RdAt Z8 gr f2 := by rw [← hZ8]; exact Holds.other hR7 _ _ (by simp only; omega)
          have hS8 : Only gr wr Z8 := by rw [← hZ8]; exact hS7.setNew HGZ.out 1 _
          clear hS7 hh7 hR7
          have y1 : Z8.cell? ⟨gz, 1, none⟩ = some (.string (txt f1)) := hh8.cell 1
          have x8 : Z8.cell? ⟨gz, 3, none⟩ = some (.int .i64 0) := hh8.cell 3
          have xf8 := hh8.frozen 3
          obtain ⟨Z9, hZ9⟩ : ∃ Z9, Z8.setCell ⟨gz, 3, none⟩ (.int .i64 (ln : Nat)) = Z9 := ⟨_, rfl⟩
          have hh9 : Holds Z9 gz 27 #[.string (txt b1), .string (txt f1), .int .i64 0, .int .i64 (ln : Nat)] := by rw [← hZ9]; exact hh8.set 3 _
          have hR9 : RdAt Z9 gr f2 := by rw [← hZ9]; exact Holds.other hR8 _ _ (by simp only; omega)
          have hS9 : Only gr wr Z9 := by rw [← hZ9]; exact hS8.setNew HGZ.out 3 _
          clear hS8 hh8 hR8
          obtain ⟨t1, ⟨t2, t3, t4, t5⟩, W4, gb, hW4, hgb, HB4, hone4, hown4, hbs4, HNX⟩ := qtail_prep HI.out HG.out hS9 ⟨txt b1, txt f1, 0, (ln : Nat)⟩ hh9
          dsimp only at t2 t3 t4 t5 hW4
          have HX : Hid (Only gr wr Z9 ∧ RdAt Z9 gr f2) := ⟨hS9, hR9⟩
          clear hS9 hR9 hh9
          go_wp2_with (at_builtin; refine wpList_append_cl rfl _ _ rfl rfl rfl hown4 hone4 HLA.out hbs4 ?_; intro v6 w6 hown6 hg6; have hh6 := HNX.out w6 hg6; obtain ⟨p6, m6, c6, rfl, hm6, hat6⟩ := shape2 hown6; have HF : Hid (QInv w (w6.setCell ⟨g7, 1, none⟩ (.slice p6 m6 c6)) true g4 gr g7 f2 (.slice p6 m6 c6) (acc ++ [⟨txt b1, txt f1, 0, (ln : Nat)⟩])) := (qinv_next HI.out HG.out HX.out.1 HX.out.2 HLf.out HB4.out hown6 hg6); have s1 : w6.cell? ⟨g7, 1, none⟩ = some (.slice pv mv cv) := (hh6.cell 1); have s2 := hh6.frozen 1; clear hown6 hg6 hm6 hat6 hh6)
          exact ⟨⟨i + 1, j, f2, acc ++ [⟨txt b1, txt f1, 0, (ln : Nat)⟩], _, by go_num, hijN, (by show _ ≤ _; rw [List.length_append, List.length_singleton]; exact HLJ.out), (by show _ = _; rw [← HT.out, HJ.out.1, parseQ_step HJ.out.2, HCP.out]), HF.out⟩, by simp [intOf]; omega⟩
    · have HST : Hid (T = (acc, st)) := by
        show _ = _
        rw [← HT.out]
        exact parseQ_stop hgo
      have HRD : Hid (readQ leaf s = (acc, st.2)) := by show _ = _; rw [HRQ.out, HST.out]
      have HBb : Hid (acc.length ≤ 10000 ∧ Short 10000 acc) := by
        have h1 := readQ_bound leaf s
        rw [HRD.out] at h1
        have h2 := HBD.out
        exact ⟨by have := h1.1; dsimp only at this; omega, h1.2.mono (by omega)⟩
      have n0 : wr.cell? ⟨g7, 0, none⟩ = some (.bool leaf) := hI.n7.cell 0
      have n1 : wr.cell? ⟨g7, 1, none⟩ = some (.slice pv mv cv) := hI.n7.cell 1
      have hby := qbytes9_any (leaf := leaf) hat HBb.out.1 HBb.out.2
      obtain ⟨ok, hok⟩ : ∃ ok, st.2 = ok := ⟨_, rfl⟩
      rw [hok] at r1 HRD hgo
      unfold nodeV at hby
      clear hat hmv hI HST HT HL
      by_cases hk0 : 0 < k
      · have hii : (i : Int) < N := by omega
        have hok2 : ok = false := by cases ok with
          | true => exact absurd ⟨hk0, rfl⟩ hgo
          | false => rfl
        clear hgo
        subst hok2
        replace r1 : wr.cell? ⟨gr, 1, none⟩ = some (.bool true) := r1
        have HNo : Hid (¬ ∃ L, IsOf leaf s L) := fun ⟨K, hK⟩ => by
          have := hK.readQ
          rw [HRD.out] at this
          exact absurd (Prod.mk.inj this).2 (by decide)
        obtain ⟨B, er, hbv⟩ := bytV_shape leaf acc
        rw [hbv] at hby
        clear hbv
        go_wp2_with fail
        refine hby.mono ?_
        rintro e X1 ⟨rfl, hX1⟩
        replace n0 := keep_cell hX1 n0
        replace n1 := keep_cell hX1 n1
        replace r1 := keep_cell hX1 r1
        have hb4 := below_holds hX1 HI.out.n4
        have HBX2 : Hid (Below wr.heap.size wr X1) := hX1
        have HBX : Hid (Below w.heap.size w X1) := below_new HI.out.below hX1
        clear hX1 hby
        go_wp2_with ((with_reducible show wpList _ _ _ (Oper.mk _ (Op.store _ (Operand.tmp 4) _) _ _ _ _ :: _) _ _); go_must (refine wpList_storeH rfl 24 _ _ rfl g4 #[.bool false, .slice none 0 0] rfl rfl 24 #[.bool false, .slice none 0 0] hb4 infoNode2 rfl (by simp [Value.oneCell']) ?_; intro w5 hH hO hs5))
        refine bodyPost_ret (results_cellE (p := 4) (u := 5) rfl _ w5 g4 24 _ _ rfl hH Try.underlying24 rfl infoNode2) rfl ?_
        exact ⟨.inr ⟨HNo.out, rfl⟩, Only.fresh HBX.out hO (by have := HG.out; omega)⟩
      · have hii : ¬ (i : Int) < N := by omega
        clear hgo
        cases ok with
        | false =>
          replace r1 : wr.cell? ⟨gr, 1, none⟩ = some (.bool true) := r1
          have HNo : Hid (¬ ∃ L, IsOf leaf s L) := fun ⟨K, hK⟩ => by
            have := hK.readQ
            rw [HRD.out] at this
            exact absurd (Prod.mk.inj this).2 (by decide)
          obtain ⟨B, er, hbv⟩ := bytV_shape leaf acc
          rw [hbv] at hby
          clear hbv
          go_wp2_with fail
          refine hby.mono ?_
          rintro e X1 ⟨rfl, hX1⟩
          replace n0 := keep_cell hX1 n0
          replace n1 := keep_cell hX1 n1
          replace r1 := keep_cell hX1 r1
          have hb4 := below_holds hX1 HI.out.n4
          have HBX2 : Hid (Below wr.heap.size wr X1) := hX1
          have HBX : Hid (Below w.heap.size w X1) := below_new HI.out.below hX1
          clear hX1 hby
          go_wp2_with ((with_reducible show wpList _ _ _ (Oper.mk _ (Op.store _ (Operand.tmp 4) _) _ _ _ _ :: _) _ _); go_must (refine wpList_storeH rfl 24 _ _ rfl g4 #[.bool false, .slice none 0 0] rfl rfl 24 #[.bool false, .slice none 0 0] hb4 infoNode2 rfl (by simp [Value.oneCell']) ?_; intro w5 hH hO hs5))
          refine bodyPost_ret (results_cellE (p := 4) (u := 5) rfl _ w5 g4 24 _ _ rfl hH Try.underlying24 rfl infoNode2) rfl ?_
          exact ⟨.inr ⟨HNo.out, rfl⟩, Only.fresh HBX.out hO (by have := HG.out; omega)⟩
        | true =>
          replace r1 : wr.cell? ⟨gr, 1, none⟩ = some (.bool false) := r1
          have HUn : Hid (∀ K, IsOf leaf s K → K = acc) := fun K hK => by
            have := hK.readQ
            rw [HRD.out] at this
            exact (Prod.mk.inj this).1.symm
          by_cases hgood : OkL leaf acc ∧ sizeL leaf acc ≤ 1013
          · have hbv : bytV leaf acc = .tuple #[.string (txt (bytesL leaf acc)), .int .i64 0] := by unfold bytV; rw [if_pos hgood.1, if_pos hgood.2]; rfl
            rw [hbv] at hby
            by_cases heq : bytesL leaf acc = s
            · have HIs : Hid (IsOf leaf s acc) := ⟨hgood.1, hgood.2, heq⟩
              rw [heq] at hby
              have hss : ((txt s).toList == (txt s).toList) = true := by simp
              clear hgood hbv heq
              go_wp2_with fail
              refine hby.mono ?_
              rintro e X1 ⟨rfl, hX1⟩
              replace n0 := keep_cell hX1 n0
              replace n1 := keep_cell hX1 n1
              replace r1 := keep_cell hX1 r1
              have hb4 := below_holds hX1 HI.out.n4
              have HBX2 : Hid (Below wr.heap.size wr X1) := hX1
              have HBX : Hid (Below w.heap.size w X1) := below_new HI.out.below hX1
              clear hX1 hby
              go_wp2_with ((with_reducible show wpList _ _ _ (Oper.mk _ (Op.store _ (Operand.tmp 4) _) _ _ _ _ :: _) _ _); go_must (refine wpList_storeH rfl 24 _ _ rfl g4 #[.bool leaf, .slice pv mv cv] rfl rfl 24 #[.bool false, .slice none 0 0] hb4 infoNode2 rfl (by simp [Value.oneCell']) ?_; intro w5 hH hO hs5))
              refine bodyPost_ret (results_cellE (p := 4) (u := 5) rfl _ w5 g4 24 _ _ rfl hH Try.underlying24 rfl infoNode2) rfl ?_
              refine ⟨.inl ⟨acc, _, HIs.out, rfl, ?_⟩, Only.fresh HBX.out hO (by have := HG.out; omega)⟩
              exact (own_only (HI.out.own.below0 HBX2.out) hO (by omega)).mono (by omega)
            · have HNo : Hid (¬ ∃ L, IsOf leaf s L) := fun ⟨K, hK⟩ => heq (by have := HUn.out K hK; subst this; exact hK.2.2)
              obtain ⟨B, hB⟩ : ∃ B, txt (bytesL leaf acc) = B := ⟨_, rfl⟩
              have hne : (B.toList == (txt s).toList) = false := beq_eq_false_iff_ne.2 fun e => heq (txt_inj (by rw [hB]; exact ba_ext e))
              rw [hB] at hby
              clear hgood hbv heq hB
              go_wp2_with fail
              refine hby.mono ?_
              rintro e X1 ⟨rfl, hX1⟩
              replace n0 := keep_cell hX1 n0
              replace n1 := keep_cell hX1 n1
              replace r1 := keep_cell hX1 r1
              have hb4 := below_holds hX1 HI.out.n4
              have HBX2 : Hid (Below wr.heap.size wr X1) := hX1
              have HBX : Hid (Below w.heap.size w X1) := below_new HI.out.below hX1
              clear hX1 hby
              go_wp2_with ((with_reducible show wpList _ _ _ (Oper.mk _ (Op.store _ (Operand.tmp 4) _) _ _ _ _ :: _) _ _); go_must (refine wpList_storeH rfl 24 _ _ rfl g4 #[.bool false, .slice none 0 0] rfl rfl 24 #[.bool false, .slice none 0 0] hb4 infoNode2 rfl (by simp [Value.oneCell']) ?_; intro w5 hH hO hs5))
              refine bodyPost_ret (results_cellE (p := 4) (u := 5) rfl _ w5 g4 24 _ _ rfl hH Try.underlying24 rfl infoNode2) rfl ?_
              exact ⟨.inr ⟨HNo.out, rfl⟩, Only.fresh HBX.out hO (by have := HG.out; omega)⟩
          · have HNo : Hid (¬ ∃ L, IsOf leaf s L) := fun ⟨K, hK⟩ => hgood (by have := HUn.out K hK; subst this; exact ⟨hK.1, hK.2.1⟩)
            obtain ⟨er, her, hbv⟩ : ∃ er : Int, (er != 0) = true ∧ bytV leaf acc = .tuple #[.string ⟨#[]⟩, .int .i64 er] := by
              unfold bytV
              by_cases h1 : OkL leaf acc
              · rw [if_pos h1, if_neg fun h => hgood ⟨h1, h⟩]; exact ⟨11, rfl, rfl⟩
              · rw [if_neg h1]; exact ⟨1, rfl, rfl⟩
            rw [hbv] at hby
            clear hgood hbv
            go_wp2_with fail
            refine hby.mono ?_
            rintro e X1 ⟨rfl, hX1⟩
            replace n0 := keep_cell hX1 n0
            replace n1 := keep_cell hX1 n1
            replace r1 := keep_cell hX1 r1
            have hb4 := below_holds hX1 HI.out.n4
            have HBX2 : Hid (Below wr.heap.size wr X1) := hX1
            have HBX : Hid (Below w.heap.size w X1) := below_new HI.out.below hX1
            clear hX1 hby
            go_wp2_with ((with_reducible show wpList _ _ _ (Oper.mk _ (Op.store _ (Operand.tmp 4) _) _ _ _ _ :: _) _ _); go_must (refine wpList_storeH rfl 24 _ _ rfl g4 #[.bool false, .slice none 0 0] rfl rfl 24 #[.bool false, .slice none 0 0] hb4 infoNode2 rfl (by simp [Value.oneCell']) ?_; intro w5 hH hO hs5))
            refine bodyPost_ret (results_cellE (p := 4) (u := 5) rfl _ w5 g4 24 _ _ rfl hH Try.underlying24 rfl infoNode2) rfl ?_
            exact ⟨.inr ⟨HNo.out, rfl⟩, Only.fresh HBX.out hO (by have := HG.out; omega)⟩
end Go.Proofs.Ytdgfjaidnedaiaa
