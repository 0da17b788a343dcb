/-
  The program's parsed.
-/
import Derived.Test.YtdgfjaidnedaiaaETakeW
import Derived.Laws.EntriesVeiled
namespace Go.Proofs.Ytdgfjaidnedaiaa
open Go Go.RowKit Go.Lib

def takeV (g6 g7 : Nat) : Value := .func (.func 48) #[] #[.pointer (some ⟨g6, 0, none⟩), .pointer (some ⟨g7, 0, none⟩)]
/-- What stands between two rounds. -/
structure PInv (w W : World) (leaf : Bool) (g4 g6 g7 g8 g10 : Nat) (st : PS) (v : Value) (acc : List Cl) : Prop where
  below : Below w.heap.size w W
  size : g10 < W.heap.size
  n4 : Holds W g4 24 #[.bool false, .slice none 0 0]
  rest : Rest W g6 g7 st
  clo : Holds W g8 55 #[takeV g6 g7]
  n10 : Holds W g10 24 #[.bool leaf, v]
  own : OwnCells W (g10 + 1) v acc
  len : st.1.length ≤ 2000
/-- What is left from the round's begin on. -/
structure Step (a b : Nat) (w w' : World) : Prop where
  os : w'.os = w.os
  tape : w'.tape = w.tape
  output : w'.output = w.output
  size : w.heap.size ≤ w'.heap.size
  block : ∀ k, k < w.heap.size → k ≠ a → k ≠ b → w'.heap[k]? = w.heap[k]?
section
variable {a b : Nat} {w w' w'' : World}
theorem Step.refl (a b : Nat) (w : World) : Step a b w w := ⟨rfl, rfl, rfl, Nat.le_refl _, fun _ _ _ _ => rfl⟩
theorem Step.two (h : Step a b w w') (h' : Two a b w' w'') : Step a b w w'' :=
  ⟨h'.os.trans h.os, h'.tape.trans h.tape, h'.output.trans h.output, by rw [h'.size]; exact h.size, fun k hk h1 h2 => (h'.block k h1 h2).trans (h.block k hk h1 h2)⟩
theorem Step.below (h : Step a b w w') (h' : Below w'.heap.size w' w'') : Step a b w w'' :=
  ⟨h'.os.trans h.os, h'.tape.trans h.tape, h'.output.trans h.output, Nat.le_trans h.size h'.size, fun k hk h1 h2 => (h'.block k (Nat.lt_of_lt_of_le hk h.size)).trans (h.block k hk h1 h2)⟩
theorem Step.drew (h : Step a b w w') : Step a b w w'.drew := ⟨h.os, h.tape, h.output, h.size, h.block⟩
theorem Step.set (h : Step a b w w') {g : Nat} (hg : w.heap.size ≤ g) (i : Nat) (v : Value) : Step a b w (w'.setCell ⟨g, i, none⟩ v) :=
  ⟨h.os, h.tape, h.output, by simp; exact h.size, fun k hk h1 h2 => (Below.heap_setCell _ _ _ _ (by simp only; omega)).trans (h.block k hk h1 h2)⟩
theorem Step.holds {g : Nat} {t : TypeId} {cs : Array Value} (h : Step a b w w') (hh : Holds w g t cs) (h1 : g ≠ a) (h2 : g ≠ b) : Holds w' g t cs := by
  have hl := hh.lt
  unfold Holds at *
  rw [h.block g hl h1 h2]; exact hh
theorem Step.own {base : Nat} {v : Value} {L : List Cl} (h : Step a b w w') (ho : OwnCells w base v L) (h1 : a < base) (h2 : b < base) : OwnCells w' base v L := by
  refine ⟨ho.1, ?_⟩
  rcases ho.2 with q | ⟨g, cap, cur, rfl, q1, q2, q3⟩
  · exact .inl q
  · exact .inr ⟨g, cap, cur, rfl, q1, (h.block g (Array.getElem?_eq_some_iff.1 q2).1 (by omega) (by omega)).trans q2, q3⟩
end
theorem pinv_next {w wr W W4 w6 : World} {leaf : Bool} {g4 g6 g7 g8 g10 : Nat} {st st' : PS} {v v6 : Value} {acc L6 : List Cl} (hI : PInv w wr leaf g4 g6 g7 g8 g10 st v acc) (hg : w.heap.size = g4 ∧ g4 < g6 ∧ g6 < g7 ∧ g7 < g8 ∧ g8 < g10) (hS : Step g6 g7 wr W) (hR : Rest W g6 g7 st') (hl : st'.1.length ≤ 2000) (hB : Below W.heap.size W W4) (hown : OwnCells w6 (g10 + 1) v6 L6) (hgr : W4.grownBy w6 v.ownBlock) :
    PInv w (w6.setCell ⟨g10, 1, none⟩ v6) leaf g4 g6 g7 g8 g10 st' v6 L6 := by
  have hnew := hI.own.new
  have h6 : ∀ {g : Nat} {t : TypeId} {cs : Array Value}, Holds W g t cs → g ≤ g10 → Holds w6 g t cs := fun {g t cs} hh hle => by
    have h1 := below_holds hB hh
    have hl1 := h1.lt
    unfold Holds at *
    rw [hgr.block g hl1 fun e => ?_]
    · exact h1
    · have := hnew g e.symm; omega
  have h7 : ∀ {g : Nat} {t : TypeId} {cs : Array Value}, Holds w6 g t cs → g ≠ g10 → Holds (w6.setCell ⟨g10, 1, none⟩ v6) g t cs := fun {g t cs} hh hne => hh.other _ _ hne
  have hsz : W.heap.size ≤ w6.heap.size := Nat.le_trans hB.size hgr.size
  refine ⟨⟨?_, ?_, ?_, ?_, ?_⟩, ?_, h7 (h6 (hS.holds hI.n4 (by omega) (by omega)) (by omega)) (by omega), ⟨h7 (h6 hR.1 (by omega)) (by omega), h7 (h6 hR.2.1 (by omega)) (by omega), hR.2.2⟩, h7 (h6 (hS.holds hI.clo (by omega) (by omega)) (by omega)) (by omega), ?_, own_only hown ((Only.refl g10 w6).set 1 v6) (by omega), hl⟩
  · exact hgr.os.trans (hB.os.trans (hS.os.trans hI.below.os))
  · exact hgr.tape.trans (hB.tape.trans (hS.tape.trans hI.below.tape))
  · exact hgr.output.trans (hB.output.trans (hS.output.trans hI.below.output))
  · have := hI.below.size; have := hS.size; simp; omega
  · intro k hk
    have h1 := hI.below.size
    have h2 := hS.size
    have h3 := hB.size
    rw [Below.heap_setCell _ _ _ _ (by simp only; omega), hgr.block k (by omega) fun e => ?_, hB.block k (by omega), hS.block k (by omega) (by omega) (by omega), hI.below.block k hk]
    have := hnew k e.symm
    omega
  · have := hI.size; have := hS.size; simp; omega
  · exact (h6 (hS.holds hI.n10 (by omega) (by omega)) (Nat.le_refl _)).set 1 v6
def cArr (c : Cl) : Array Value := #[.string c.k, .string c.v, .int .i64 c.p, .int .i64 c.s]
theorem tail_prep {w wr W3 : World} {leaf : Bool} {g4 g6 g7 g8 g10 gz : Nat} {st : PS} {pv : Option Addr} {mv cv : Nat} {acc : List Cl} (hI : PInv w wr leaf g4 g6 g7 g8 g10 st (.slice pv mv cv) acc) (hg : w.heap.size = g4 ∧ g4 < g6 ∧ g6 < g7 ∧ g7 < g8 ∧ g8 < g10) (hS3 : Step g6 g7 wr W3) (c : Cl) (hx3 : Holds W3 gz 27 (cArr c)) :
    W3.cell? ⟨g10, 1, none⟩ = some (.slice pv mv cv) ∧ (W3.cell? ⟨gz, 0, none⟩ = some (.string c.k) ∧ W3.cell? ⟨gz, 1, none⟩ = some (.string c.v) ∧ W3.cell? ⟨gz, 2, none⟩ = some (.int .i64 c.p) ∧ W3.cell? ⟨gz, 3, none⟩ = some (.int .i64 c.s)) ∧
    ∃ W4 gb, W3.alloc (.cells #[.string c.k, .string c.v, .int .i64 c.p, .int .i64 c.s] 27) = W4 ∧ W3.heap.size = gb ∧ Hid (Below W3.heap.size W3 W4) ∧ CellsAt W4 (.slice (some ⟨gb, 0, none⟩) 1 1) [c] ∧ OwnCells W4 (g10 + 1) (.slice pv mv cv) acc ∧ g10 + 1 ≤ W4.heap.size ∧ Hid (∀ w6, W4.grownBy w6 (Value.slice pv mv cv).ownBlock → Holds w6 g10 24 #[.bool leaf, .slice pv mv cv]) := by
  have h10 := hS3.holds hI.n10 (show g10 ≠ g6 by omega) (show g10 ≠ g7 by omega)
  obtain ⟨W4, gb, h1, h2, h3, h4⟩ := box_cell W3 c
  have hown := hS3.own hI.own (by omega) (by omega)
  refine ⟨h10.cell 1, ⟨hx3.cell 0, hx3.cell 1, hx3.cell 2, hx3.cell 3⟩, W4, gb, h1, h2, h3, one_cl h4, hown.below0 h3, ?_, fun w6 hgr => ?_⟩
  · have := hI.size; have := hS3.size; have := h3.size; omega
  · have h5 := below_holds h3 h10
    have hl1 := h5.lt
    have hnew := hI.own.new
    unfold Holds at *
    rw [hgr.block g10 hl1 fun e => ?_]
    · exact h5
    · have := hnew g10 e.symm; omega
theorem parse_step {leaf : Bool} {k : Nat} {st : PS} {acc : List Cl} (h : st.2 = true) : parseP leaf (k + 1) st acc = parseP leaf k (cellP leaf st).2 (acc ++ [(cellP leaf st).1]) := by rw [parseP, if_pos h]
theorem parse_stop {leaf : Bool} {k : Nat} {st : PS} {acc : List Cl} (h : ¬ (0 < k ∧ st.2 = true)) : parseP leaf k st acc = (acc, st) := by
  cases k with
  | zero => rfl
  | succ k => rw [parseP, if_neg fun q => h ⟨by omega, q⟩]
theorem results_cellE {P : Program} {fn : Func} {p u : Tmp} {ty : TypeId} (h : fn.results = #[.cell p ty, .tmp u]) (tmps : Array Value) (w : World) (b : Nat) (t : TypeId) (cs : Array Value) (d : TypeDesc)
    (hp : tmps.getD p undef = .pointer (some ⟨b, 0, none⟩)) (hh : Holds w b t cs)
    (hu : P.underlying ty = some d) (hd : d.isRow = true) (hi : (P.info? ty).map (·.size) = some cs.size) : (results fn tmps).run P w = .ok (.tuple #[.agg cs, tmps.getD u undef]) w := by
  have hr := run_loadVar_row w b t ty cs (0, 0) d hh hu (by cases d <;> simp_all) hi
  rw [results_cell_tmp h, hp]
  simp [asAddr, hr]
theorem wp_then_F {c : Code} {K : Act → World → Prop} {Q : Exit → Act → World → Prop} {a : Act} {w : World} (F : Act → Act) (Inv : World → Prop) (h1 : c.wp Try.prog (Exit.then (fun a' w' => a' = F a ∧ Inv w') Q) a w) (h2 : ∀ w', Inv w' → K (F a) w') : c.wp Try.prog (Exit.then K Q) a w := by
  refine Code.wp_mono (fun e a' w' h => ?_) h1
  cases e with
  | normal =>
    obtain ⟨e1, e2⟩ : a' = F a ∧ Inv w' := h
    show K a' w'
    rw [e1]
    exact h2 w' e2
  | _ => exact h
set_option maxRecDepth 8000 in
set_option maxHeartbeats 4000000 in
theorem parsed_any (leaf : Bool) (s : List UInt8) (hs : s.length ≤ 2000) (w : World) : Calls Try.prog 39 #[.bool leaf, .string (txt s)] w fun e w' => ∃ v, e = .returned (.tuple #[nodeV leaf v, .bool (readP leaf s).2]) ∧ OwnCells w' w.heap.size v (readP leaf s).1 ∧ Below w.heap.size w w' := by
  have hnot := run_notE
  obtain ⟨g4, hg4⟩ : ∃ g, w.heap.size = g := ⟨_, rfl⟩
  obtain ⟨g6, hg6⟩ : ∃ g, g4 + 1 = g := ⟨_, rfl⟩
  obtain ⟨g7, hg7⟩ : ∃ g, g6 + 1 = g := ⟨_, rfl⟩
  obtain ⟨g8, hg8⟩ : ∃ g, g7 + 1 = g := ⟨_, rfl⟩
  obtain ⟨g10, hg10⟩ : ∃ g, g8 + 1 = g := ⟨_, rfl⟩
  obtain ⟨W5, hW5⟩ : ∃ W5, (((((w.alloc (.cells #[.bool false, .slice none 0 0] 24)).alloc (.cells #[.string (txt s)] 9)).alloc (.cells #[.bool true] 4)).alloc (.cells #[takeV g6 g7] 55)).alloc (.cells #[.bool leaf, .slice none 0 0] 24)) = W5 := ⟨_, rfl⟩
  have hI5 : PInv w W5 leaf g4 g6 g7 g8 g10 (s, true) (.slice none 0 0) [] := by
    have s1 : (w.alloc (.cells #[.bool false, .slice none 0 0] 24)).heap.size = g6 := by simp; omega
    have s2 : ((w.alloc (.cells #[.bool false, .slice none 0 0] 24)).alloc (.cells #[.string (txt s)] 9)).heap.size = g7 := by simp; omega
    have s3 : (((w.alloc (.cells #[.bool false, .slice none 0 0] 24)).alloc (.cells #[.string (txt s)] 9)).alloc (.cells #[.bool true] 4)).heap.size = g8 := by simp; omega
    have s4 : ((((w.alloc (.cells #[.bool false, .slice none 0 0] 24)).alloc (.cells #[.string (txt s)] 9)).alloc (.cells #[.bool true] 4)).alloc (.cells #[takeV g6 g7] 55)).heap.size = g10 := by simp; omega
    have h4 := Holds.new w 24 #[.bool false, .slice none 0 0]
    have h6 := Holds.new (w.alloc (.cells #[.bool false, .slice none 0 0] 24)) 9 #[.string (txt s)]
    have h7 := Holds.new ((w.alloc (.cells #[.bool false, .slice none 0 0] 24)).alloc (.cells #[.string (txt s)] 9)) 4 #[.bool true]
    have h8 := Holds.new (((w.alloc (.cells #[.bool false, .slice none 0 0] 24)).alloc (.cells #[.string (txt s)] 9)).alloc (.cells #[.bool true] 4)) 55 #[takeV g6 g7]
    have h10 := Holds.new ((((w.alloc (.cells #[.bool false, .slice none 0 0] 24)).alloc (.cells #[.string (txt s)] 9)).alloc (.cells #[.bool true] 4)).alloc (.cells #[takeV g6 g7] 55)) 24 #[.bool leaf, .slice none 0 0]
    rw [hg4] at h4
    rw [s1] at h6
    rw [s2] at h7
    rw [s3] at h8
    rw [s4] at h10
    rw [← hW5]
    refine ⟨?_, ?_, (((h4.alloc _).alloc _).alloc _).alloc _, ⟨((h6.alloc _).alloc _).alloc _, (h7.alloc _).alloc _, by omega⟩, h8.alloc _, h10, OwnCells.nil _ _, hs⟩
    · exact below_new (below_new (below_new (below_new (below_new1 w _) (below_new1 _ _)) (below_new1 _ _)) (below_new1 _ _)) (below_new1 _ _)
    · exact h10.lt
  have HI5 : Hid (PInv w W5 leaf g4 g6 g7 g8 g10 (s, true) (.slice none 0 0) []) := hI5
  have hnum := number_any hI5.rest hI5.clo 2 (by omega) (by have := hI5.len; omega)
  have HG : Hid (w.heap.size = g4 ∧ g4 < g6 ∧ g6 < g7 ∧ g7 < g8 ∧ g8 < g10) := ⟨hg4, by omega⟩
  obtain ⟨N, hN⟩ : ∃ N, (numP 2 (s, true)).1 = N := ⟨_, rfl⟩
  obtain ⟨st0, hst0⟩ : ∃ st0, (numP 2 (s, true)).2 = st0 := ⟨_, rfl⟩
  have hNl : N < 65536 := by
    rw [← hN]
    have h1 := beVal_lt (takeP 2 (s, true)).1
    have h2 := (takeP_len 2 (s, true)).2.2
    have h3 : 256 ^ (takeP 2 (s, true)).1.length ≤ 256 ^ 2 := Nat.pow_le_pow_right (by omega) h2
    exact Nat.lt_of_lt_of_le h1 h3
  have HL0 : Hid (st0.1.length ≤ 2000) := by
    show _ ≤ _
    rw [← hst0]
    exact Nat.le_trans (takeP_len 2 (s, true)).1 hs
  obtain ⟨T, hT⟩ : ∃ T, parseP leaf N st0 [] = T := ⟨_, rfl⟩
  have HT : Hid (parseP leaf N st0 [] = T) := hT
  have hrd : readP leaf s = (T.1, T.2.2) := by unfold readP; dsimp only; rw [hN, hst0, hT]
  rw [hrd]
  rw [hN, hst0] at hnum
  have HW5 : Hid ((((((w.alloc (.cells #[.bool false, .slice none 0 0] 24)).alloc (.cells #[.string (txt s)] 9)).alloc (.cells #[.bool true] 4)).alloc (.cells #[takeV (w.heap.size + 1) (w.heap.size + 1 + 1)] 55)).alloc (.cells #[.bool leaf, .slice none 0 0] 24)) = W5) := by show _ = _; rw [hg4, hg6, hg7]; exact hW5
  have HS : Hid (w.heap.size = g4 ∧ g4 + 1 = g6 ∧ g6 + 1 = g7 ∧ g7 + 1 = g8 ∧ g8 + 1 = g10) := ⟨hg4, hg6, hg7, hg8, hg10⟩
  clear hI5 hs hN hst0 hT hrd hW5 hg4 hg6 hg7 hg8 hg10
  unfold takeV at HW5
  dsimp only
  go_enter Try.func39, Try.ntmps39
  go_wp2_with fail
  rw [HW5.out, HS.out.1, HS.out.2.1, HS.out.2.2.1, HS.out.2.2.2.1, HS.out.2.2.2.2]
  refine hnum.mono ?_
  rintro e W6 ⟨rfl, hR6, hT6⟩
  go_wp2_with fail
  have HI6 : Hid (PInv w W6 leaf g4 g6 g7 g8 g10 st0 (.slice none 0 0) []) := by
    have h := HI5.out
    have hst := (Step.refl g6 g7 W5).two hT6
    have hg := HG.out
    exact ⟨⟨hT6.os.trans h.below.os, hT6.tape.trans h.below.tape, hT6.output.trans h.below.output, by rw [hT6.size]; exact h.below.size, fun k hk => (hT6.block k (by omega) (by omega)).trans (h.below.block k hk)⟩, by rw [hT6.size]; exact h.size, hst.holds h.n4 (by omega) (by omega), hR6, hst.holds h.clo (by omega) (by omega), hst.holds h.n10 (by omega) (by omega), hst.own h.own (by omega) (by omega), HL0.out⟩
  clear hR6 hT6 hnum HI5 HW5 HL0
  have HN0 : Hid (PInv w W6 leaf g4 g6 g7 g8 g10 st0 (.slice none 0 0) [] ∧ N < 65536) := ⟨HI6.out, hNl⟩
  go_loopw [11] (fun y wr => ∃ (k : Nat) (st : PS) (acc : List Cl) (v : Value), y = .int .i64 (k : Nat) ∧ Hid (acc.length + k ≤ 65536) ∧ Hid (parseP leaf k st acc = T) ∧ PInv w wr leaf g4 g6 g7 g8 g10 st v acc) (fun y _ => (intOf y).toNat)
  case atStart => exact ⟨N, st0, [], _, rfl, (by show _ ≤ _; rw [List.length_nil]; have := HN0.out.2; omega), HT, HN0.out.1⟩
  case round =>
    clear HT HI6 HN0
    obtain ⟨k, st, acc, v, rfl, HL, HT, hI⟩ := hrel
    have HI : Hid (PInv w wr leaf g4 g6 g7 g8 g10 st v acc) := hI
    obtain ⟨pv, mv, cv, rfl, hmv, hat⟩ := shape2 hI.own
    have b7 : wr.cell? ⟨g7, 0, none⟩ = some (.bool st.2) := hI.rest.2.1.cell 0
    have b8 : wr.cell? ⟨g8, 0, none⟩ = some (takeV g6 g7) := hI.clo.cell 0
    unfold takeV at b8
    by_cases hgo : 0 < k ∧ st.2 = true
    · have hk0 : (0 : Int) < k := by omega
      rw [hgo.2] at b7
      have hn1 := fun W (hR : Rest W g6 g7 st) (hC : Holds W g8 55 #[takeV g6 g7]) => number_any hR hC 1 (by omega) (by have := hI.len; omega)
      clear hat hmv
      obtain ⟨a1, ha1⟩ : ∃ a1, (numP 1 st).1 = a1 := ⟨_, rfl⟩
      obtain ⟨a2, ha2⟩ : ∃ a2, (numP 1 st).2 = a2 := ⟨_, rfl⟩
      obtain ⟨b1, hb1⟩ : ∃ b1, (takeP a1 a2).1 = b1 := ⟨_, rfl⟩
      obtain ⟨b2, hb2⟩ : ∃ b2, (takeP a1 a2).2 = b2 := ⟨_, rfl⟩
      have ht1 := fun W (hR : Rest W g6 g7 a2) => take_any hR a1 (by rw [← ha2]; have h1 := (takeP_len 1 st).1; have h2 := hI.len; unfold numP; dsimp only; omega)
      rw [ha1, ha2] at hn1
      rw [hb1, hb2] at ht1
      have HB2 : Hid (b2.1.length ≤ 2000) := by
        show _ ≤ _
        have h1 := (takeP_len 1 st).1
        have h2 := hI.len
        have h3 := (takeP_len a1 a2).1
        rw [hb2] at h3
        have h4 : a2.1.length ≤ st.1.length := by rw [← ha2]; exact h1
        omega
      have HP : Hid ((numP 1 st).1 = a1 ∧ (numP 1 st).2 = a2 ∧ (takeP a1 a2).1 = b1 ∧ (takeP a1 a2).2 = b2) := ⟨ha1, ha2, hb1, hb2⟩
      clear ha1 ha2 hb1 hb2
      obtain ⟨gz, hgz⟩ : ∃ gz, wr.heap.size = gz := ⟨_, rfl⟩
      have hgzz : g10 < gz := by rw [← hgz]; exact hI.size
      obtain ⟨hg0, hg1, hg2, hg3, hg4⟩ := HG.out
      go_wp2_with fail
      refine wp_then_F (fun a => ((((((a.put (some 27) (takeV g6 g7)).put (some 28) (.func (.func 49) #[] #[.pointer (some ⟨g8, 0, none⟩)])).put (some 29) (.int .i64 (a1 : Nat))).put (some 30) (.string (txt b1))).put (some 31) (.agg #[.string (txt b1), .string ⟨#[]⟩, .int .i64 0, .int .i64 0])).put (some 12) (.pointer (some ⟨gz, 0, none⟩)))) (fun W => Step g6 g7 wr W ∧ Rest W g6 g7 b2 ∧ Holds W gz 27 #[.string (txt b1), .string ⟨#[]⟩, .int .i64 0, .int .i64 0]) ?_ ?_
      · go_frame
        refine wp_region_tree (fun W => Holds W g8 55 #[takeV g6 g7]) [0, 1] (.two 2 (.two 3 (.two 4 (.one 5 (.one 6 .nil)) 5 (.one 4 (.one 6 .nil))) 5 (.one 3 (.one 4 (.one 6 .nil)))) 5 (.one 2 (.one 3 (.one 4 (.one 6 .nil))))) mixedP (by kernel_rfl) rfl (by kernel_rfl) (fun _ _ _ d _ h => by cases d <;> exact h) hI.clo.drew ?_
        refine tk_ld (some 27) rfl rfl rfl _ _ rfl rfl (v := takeV g6 g7) (fun W hW => by have := hW.cell 0; simp [go_sem, this, takeV]) ?_
        go_frame
        refine tk_val (some 28) rfl rfl rfl (.func (.func 49) #[] #[.pointer (some ⟨g8, 0, none⟩)]) (fun _ => by go_simp) ?_
        go_frame
        refine tk_nil ?_
        unfold takeV
        refine ⟨?_, ?_⟩
        · refine op_call (some 29) rfl rfl rfl (f := 49) (vs := #[.int .i64 ((1 : Nat) : Int), .pointer (some ⟨g8, 0, none⟩)]) (by go_simp) ?_
          refine (hn1 _ (show Rest wr.drew g6 g7 st from hI.rest) ((Step.refl g6 g7 wr).drew.holds HI.out.clo (by omega) (by omega))).mono ?_
          rintro e Y0 ⟨rfl, hRY0, hTY0⟩
          have hSY0 := (Step.refl g6 g7 wr).drew.two hTY0
          refine ⟨_, rfl, hSY0.holds HI.out.clo (by omega) (by omega), ?_⟩
          go_frame
          refine ⟨?_, ?_⟩
          · refine op_call (some 30) rfl rfl rfl (f := 48) (vs := #[.int .i64 (a1 : Nat), .pointer (some ⟨g6, 0, none⟩), .pointer (some ⟨g7, 0, none⟩)]) (by go_simp) ?_
            refine (ht1 _ hRY0).mono ?_
            rintro e Y1 ⟨rfl, hRY1, hTY1⟩
            have hSY1 := hSY0.two hTY1
            refine ⟨_, rfl, hSY1.holds HI.out.clo (by omega) (by omega), ?_⟩
            go_frame
            refine ⟨?_, ?_⟩
            · refine op_val (some 31) rfl rfl rfl (v := .agg #[.string (txt b1), .string ⟨#[]⟩, .int .i64 0, .int .i64 0]) (w' := Y1) (by go_simp) ?_
              refine ⟨hSY1.holds HI.out.clo (by omega) (by omega), ?_⟩
              go_frame
              obtain ⟨Y2, zY2, hWY2, hzY2, hBY2, hhY2⟩ : ∃ W g, Y1.alloc (.cells #[.string ⟨#[]⟩, .string ⟨#[]⟩, .int .i64 0, .int .i64 0] 27) = W ∧ Y1.heap.size = g ∧ Below Y1.heap.size Y1 W ∧ Holds W g 27 #[.string ⟨#[]⟩, .string ⟨#[]⟩, .int .i64 0, .int .i64 0] := ⟨_, _, rfl, rfl, below_new1 _ _, Holds.new _ _ _⟩
              have hzzY2 : zY2 = gz := by rw [← hzY2, ← hgz]; exact (hTY1.size.trans (hTY0.size.trans rfl))
              rw [hzzY2] at hhY2
              have hRY2 : Rest Y2 g6 g7 _ := ⟨below_holds hBY2 (hRY1).1, below_holds hBY2 (hRY1).2.1, (hRY1).2.2⟩
              have hSY2 := hSY1.below hBY2
              refine op_val (some 12) rfl rfl rfl (v := .pointer (some ⟨gz, 0, none⟩)) (w' := Y2) (by rw [← hzzY2]; go_simp <;> first | exact ⟨hzY2, hWY2⟩ | exact hWY2) ?_
              refine ⟨hSY2.holds HI.out.clo (by omega) (by omega), ?_⟩
              go_frame
              refine op_storeH none rfl rfl rfl 27 _ _ rfl gz _ rfl rfl 27 _ hhY2 infoCell2 rfl (by simp [Value.oneCell']) ?_
              intro W9 hH9 hO9 hs9
              have hS9 : Step g6 g7 wr W9 := ⟨hO9.os.trans hSY2.os, hO9.tape.trans hSY2.tape, hO9.output.trans hSY2.output, Nat.le_trans hSY2.size hO9.size, fun k hk h1 h2 => (hO9.block k (Nat.lt_of_lt_of_le hk hSY2.size) (by omega)).trans (hSY2.block k hk h1 h2)⟩
              have hR9 : Rest W9 g6 g7 b2 := ⟨hO9.holds (hRY2).1 (by omega), hO9.holds (hRY2).2.1 (by omega), (hRY2).2.2⟩
              refine ⟨hS9.holds HI.out.clo (by omega) (by omega), ?_⟩
              go_frame
              exact ⟨rfl, hS9, hR9, hH9⟩
            · obtain ⟨Y2, zY2, hWY2, hzY2, hBY2, hhY2⟩ : ∃ W g, Y1.alloc (.cells #[.string ⟨#[]⟩, .string ⟨#[]⟩, .int .i64 0, .int .i64 0] 27) = W ∧ Y1.heap.size = g ∧ Below Y1.heap.size Y1 W ∧ Holds W g 27 #[.string ⟨#[]⟩, .string ⟨#[]⟩, .int .i64 0, .int .i64 0] := ⟨_, _, rfl, rfl, below_new1 _ _, Holds.new _ _ _⟩
              have hzzY2 : zY2 = gz := by rw [← hzY2, ← hgz]; exact (hTY1.size.trans (hTY0.size.trans rfl))
              rw [hzzY2] at hhY2
              have hRY2 : Rest Y2 g6 g7 _ := ⟨below_holds hBY2 (hRY1).1, below_holds hBY2 (hRY1).2.1, (hRY1).2.2⟩
              have hSY2 := hSY1.below hBY2
              refine op_val (some 12) rfl rfl rfl (v := .pointer (some ⟨gz, 0, none⟩)) (w' := Y2) (by rw [← hzzY2]; go_simp <;> first | exact ⟨hzY2, hWY2⟩ | exact hWY2) ?_
              refine ⟨hSY2.holds HI.out.clo (by omega) (by omega), ?_⟩
              go_frame
              refine op_val (some 31) rfl rfl rfl (v := .agg #[.string (txt b1), .string ⟨#[]⟩, .int .i64 0, .int .i64 0]) (w' := Y2) (by go_simp) ?_
              refine ⟨hSY2.holds HI.out.clo (by omega) (by omega), ?_⟩
              go_frame
              refine op_storeH none rfl rfl rfl 27 _ _ rfl gz _ rfl rfl 27 _ hhY2 infoCell2 rfl (by simp [Value.oneCell']) ?_
              intro W9 hH9 hO9 hs9
              have hS9 : Step g6 g7 wr W9 := ⟨hO9.os.trans hSY2.os, hO9.tape.trans hSY2.tape, hO9.output.trans hSY2.output, Nat.le_trans hSY2.size hO9.size, fun k hk h1 h2 => (hO9.block k (Nat.lt_of_lt_of_le hk hSY2.size) (by omega)).trans (hSY2.block k hk h1 h2)⟩
              have hR9 : Rest W9 g6 g7 b2 := ⟨hO9.holds (hRY2).1 (by omega), hO9.holds (hRY2).2.1 (by omega), (hRY2).2.2⟩
              refine ⟨hS9.holds HI.out.clo (by omega) (by omega), ?_⟩
              go_frame
              exact ⟨rfl, hS9, hR9, hH9⟩
          · obtain ⟨Y1, zY1, hWY1, hzY1, hBY1, hhY1⟩ : ∃ W g, Y0.alloc (.cells #[.string ⟨#[]⟩, .string ⟨#[]⟩, .int .i64 0, .int .i64 0] 27) = W ∧ Y0.heap.size = g ∧ Below Y0.heap.size Y0 W ∧ Holds W g 27 #[.string ⟨#[]⟩, .string ⟨#[]⟩, .int .i64 0, .int .i64 0] := ⟨_, _, rfl, rfl, below_new1 _ _, Holds.new _ _ _⟩
            have hzzY1 : zY1 = gz := by rw [← hzY1, ← hgz]; exact (hTY0.size.trans rfl)
            rw [hzzY1] at hhY1
            have hRY1 : Rest Y1 g6 g7 _ := ⟨below_holds hBY1 (hRY0).1, below_holds hBY1 (hRY0).2.1, (hRY0).2.2⟩
            have hSY1 := hSY0.below hBY1
            refine op_val (some 12) rfl rfl rfl (v := .pointer (some ⟨gz, 0, none⟩)) (w' := Y1) (by rw [← hzzY1]; go_simp <;> first | exact ⟨hzY1, hWY1⟩ | exact hWY1) ?_
            refine ⟨hSY1.holds HI.out.clo (by omega) (by omega), ?_⟩
            go_frame
            refine op_call (some 30) rfl rfl rfl (f := 48) (vs := #[.int .i64 (a1 : Nat), .pointer (some ⟨g6, 0, none⟩), .pointer (some ⟨g7, 0, none⟩)]) (by go_simp) ?_
            refine (ht1 _ hRY1).mono ?_
            rintro e Y2 ⟨rfl, hRY2, hTY2⟩
            have hSY2 := hSY1.two hTY2
            refine ⟨_, rfl, hSY2.holds HI.out.clo (by omega) (by omega), ?_⟩
            go_frame
            refine op_val (some 31) rfl rfl rfl (v := .agg #[.string (txt b1), .string ⟨#[]⟩, .int .i64 0, .int .i64 0]) (w' := Y2) (by go_simp) ?_
            refine ⟨hSY2.holds HI.out.clo (by omega) (by omega), ?_⟩
            go_frame
            refine op_storeH none rfl rfl rfl 27 _ _ rfl gz _ rfl rfl 27 _ (hTY2.holds hhY1 (by omega) (by omega)) infoCell2 rfl (by simp [Value.oneCell']) ?_
            intro W9 hH9 hO9 hs9
            have hS9 : Step g6 g7 wr W9 := ⟨hO9.os.trans hSY2.os, hO9.tape.trans hSY2.tape, hO9.output.trans hSY2.output, Nat.le_trans hSY2.size hO9.size, fun k hk h1 h2 => (hO9.block k (Nat.lt_of_lt_of_le hk hSY2.size) (by omega)).trans (hSY2.block k hk h1 h2)⟩
            have hR9 : Rest W9 g6 g7 b2 := ⟨hO9.holds (hRY2).1 (by omega), hO9.holds (hRY2).2.1 (by omega), (hRY2).2.2⟩
            refine ⟨hS9.holds HI.out.clo (by omega) (by omega), ?_⟩
            go_frame
            exact ⟨rfl, hS9, hR9, hH9⟩
        · obtain ⟨Y0, zY0, hWY0, hzY0, hBY0, hhY0⟩ : ∃ W g, wr.drew.alloc (.cells #[.string ⟨#[]⟩, .string ⟨#[]⟩, .int .i64 0, .int .i64 0] 27) = W ∧ wr.drew.heap.size = g ∧ Below wr.drew.heap.size wr.drew W ∧ Holds W g 27 #[.string ⟨#[]⟩, .string ⟨#[]⟩, .int .i64 0, .int .i64 0] := ⟨_, _, rfl, rfl, below_new1 _ _, Holds.new _ _ _⟩
          have hzzY0 : zY0 = gz := by rw [← hzY0, ← hgz]; exact rfl
          rw [hzzY0] at hhY0
          have hRY0 : Rest Y0 g6 g7 _ := ⟨below_holds hBY0 (hI.rest).1, below_holds hBY0 (hI.rest).2.1, (hI.rest).2.2⟩
          have hSY0 := (Step.refl g6 g7 wr).drew.below hBY0
          refine op_val (some 12) rfl rfl rfl (v := .pointer (some ⟨gz, 0, none⟩)) (w' := Y0) (by rw [← hzzY0]; go_simp <;> first | exact ⟨hzY0, hWY0⟩ | exact hWY0) ?_
          refine ⟨hSY0.holds HI.out.clo (by omega) (by omega), ?_⟩
          go_frame
          refine op_call (some 29) rfl rfl rfl (f := 49) (vs := #[.int .i64 ((1 : Nat) : Int), .pointer (some ⟨g8, 0, none⟩)]) (by go_simp) ?_
          refine (hn1 _ (hRY0) (hSY0.holds HI.out.clo (by omega) (by omega))).mono ?_
          rintro e Y1 ⟨rfl, hRY1, hTY1⟩
          have hSY1 := hSY0.two hTY1
          refine ⟨_, rfl, hSY1.holds HI.out.clo (by omega) (by omega), ?_⟩
          go_frame
          refine op_call (some 30) rfl rfl rfl (f := 48) (vs := #[.int .i64 (a1 : Nat), .pointer (some ⟨g6, 0, none⟩), .pointer (some ⟨g7, 0, none⟩)]) (by go_simp) ?_
          refine (ht1 _ hRY1).mono ?_
          rintro e Y2 ⟨rfl, hRY2, hTY2⟩
          have hSY2 := hSY1.two hTY2
          refine ⟨_, rfl, hSY2.holds HI.out.clo (by omega) (by omega), ?_⟩
          go_frame
          refine op_val (some 31) rfl rfl rfl (v := .agg #[.string (txt b1), .string ⟨#[]⟩, .int .i64 0, .int .i64 0]) (w' := Y2) (by go_simp) ?_
          refine ⟨hSY2.holds HI.out.clo (by omega) (by omega), ?_⟩
          go_frame
          refine op_storeH none rfl rfl rfl 27 _ _ rfl gz _ rfl rfl 27 _ (hTY2.holds (hTY1.holds hhY0 (by omega) (by omega)) (by omega) (by omega)) infoCell2 rfl (by simp [Value.oneCell']) ?_
          intro W9 hH9 hO9 hs9
          have hS9 : Step g6 g7 wr W9 := ⟨hO9.os.trans hSY2.os, hO9.tape.trans hSY2.tape, hO9.output.trans hSY2.output, Nat.le_trans hSY2.size hO9.size, fun k hk h1 h2 => (hO9.block k (Nat.lt_of_lt_of_le hk hSY2.size) (by omega)).trans (hSY2.block k hk h1 h2)⟩
          have hR9 : Rest W9 g6 g7 b2 := ⟨hO9.holds (hRY2).1 (by omega), hO9.holds (hRY2).2.1 (by omega), (hRY2).2.2⟩
          refine ⟨hS9.holds HI.out.clo (by omega) (by omega), ?_⟩
          go_frame
          exact ⟨rfl, hS9, hR9, hH9⟩
      · rintro W ⟨hS, hR, hH⟩
        go_frame
        obtain ⟨j, hj⟩ : ∃ j, k = j + 1 := ⟨k - 1, by omega⟩
        have hkj : (k : Int) - 1 = (j : Int) := by omega
        have HJ : Hid (k = j + 1 ∧ st.2 = true) := ⟨hj, hgo.2⟩
        have HLA : Hid (acc.length + 1 ≤ 1000000000) := by have := HL.out; show _ ≤ _; omega
        have HLJ : Hid (acc.length + 1 + j ≤ 65536) := by have := HL.out; show _ ≤ _; omega
        have hk9 : (k : Int) ≤ 65536 := by have := HL.out; omega
        clear hj hgo hk0 b7 b8 hn1 ht1 hI
        have hclo := fun (W' : World) (h : Step g6 g7 wr W') => h.holds HI.out.clo (show g8 ≠ g6 by omega) (show g8 ≠ g7 by omega)
        unfold takeV
        go_at_K
        cases leaf with
        | false =>
          obtain ⟨c1, hc1⟩ : ∃ c1, (numP 4 b2).1 = c1 := ⟨_, rfl⟩
          obtain ⟨c2, hc2⟩ : ∃ c2, (numP 4 b2).2 = c2 := ⟨_, rfl⟩
          have hn2 := number_any hR (hclo W hS) 4 (by omega) (by have := HB2.out; omega)
          rw [hc1, hc2] at hn2
          have HCP : Hid (cellP false st = (⟨txt b1, ⟨#[]⟩, (c1 : Nat), 0⟩, c2)) := by
            show _ = _
            obtain ⟨e1, e2, e3, e4⟩ := HP.out
            unfold cellP
            simp only [e1, e2, e3, e4, Bool.false_eq_true, if_false, hc1, hc2]
          have HLN : Hid (c2.1.length ≤ 2000) := by
            show _ ≤ _
            rw [← hc2]
            exact Nat.le_trans (takeP_len 4 b2).1 HB2.out
          clear hc1 hc2
          go_wp2_with (first
            | (go_at_call 49; refine hn2.mono ?_; rintro e W2 ⟨rfl, hR2, hT2⟩; have hS2 := hS.two hT2; have hH2 := hT2.holds hH (by omega) (by omega); have q2 : W2.cell? ⟨gz, 2, none⟩ = some (.int .i64 0) := (hH2.cell 2); have q3 := hH2.frozen 2; have hH3 := hH2.set 2 (.int .i64 (c1 : Int)); obtain ⟨W3, hW3⟩ : ∃ W3, W2.setCell ⟨gz, 2, none⟩ (.int .i64 (c1 : Int)) = W3 := ⟨_, rfl⟩; rw [hW3] at hH3; have hS3 : Step g6 g7 wr W3 := (by rw [← hW3]; exact hS2.set (by omega) 2 _); have hR3 : Rest W3 g6 g7 c2 := (by rw [← hW3]; exact ⟨hR2.1.other _ _ (by simp only; omega), hR2.2.1.other _ _ (by simp only; omega), hR2.2.2⟩); obtain ⟨t1, ⟨t2, t3, t4, t5⟩, W4, gb, hW4, hgb, HB4, hone4, hown4, hbs4, HNX⟩ := tail_prep HI.out HG.out hS3 ⟨txt b1, ⟨#[]⟩, (c1 : Int), 0⟩ hH3; dsimp only at t2 t3 t4 t5 hW4; clear hn2 hR2 hT2 hS2 hH2 hH3)
            | (at_builtin; refine wpList_append_cl rfl _ _ rfl rfl rfl hown4 hone4 HLA.out hbs4 ?_; intro v6 w6 hown6 hg6; have hh6 := HNX.out w6 hg6; obtain ⟨p6, m6, c6, rfl, hm6, hat6⟩ := shape2 hown6; have HF : Hid (PInv w (w6.setCell ⟨g10, 1, none⟩ (.slice p6 m6 c6)) false g4 g6 g7 g8 g10 c2 (.slice p6 m6 c6) (acc ++ [⟨txt b1, ⟨#[]⟩, (c1 : Int), 0⟩])) := (pinv_next HI.out HG.out hS3 hR3 HLN.out HB4.out hown6 hg6); have s1 : w6.cell? ⟨g10, 1, none⟩ = some (.slice pv mv cv) := (hh6.cell 1); have s2 := hh6.frozen 1; clear hown6 hg6 hm6 hat6 hh6))
          exact ⟨⟨j, c2, acc ++ [⟨txt b1, ⟨#[]⟩, (c1 : Int), 0⟩], _, rfl, (by show _ ≤ _; rw [List.length_append, List.length_singleton]; exact HLJ.out), (by show _ = _; rw [← HT.out, HJ.out.1, parse_step HJ.out.2, HCP.out]), HF.out⟩, by have := HJ.out.1; simp [intOf]; omega⟩

        | true =>
          obtain ⟨c1, hc1⟩ : ∃ c1, (numP 1 b2).1 = c1 := ⟨_, rfl⟩
          obtain ⟨c2, hc2⟩ : ∃ c2, (numP 1 b2).2 = c2 := ⟨_, rfl⟩
          have hn2 := number_any hR (hclo W hS) 1 (by omega) (by have := HB2.out; omega)
          rw [hc1, hc2] at hn2
          have HLC : Hid (c2.1.length ≤ 2000) := by
            show _ ≤ _
            rw [← hc2]
            exact Nat.le_trans (takeP_len 1 b2).1 HB2.out
          by_cases hc0 : c1 = 0
          · subst hc0
            obtain ⟨d1, hd1⟩ : ∃ d1, (numP 1 c2).1 = d1 := ⟨_, rfl⟩
            obtain ⟨d2, hd2⟩ : ∃ d2, (numP 1 c2).2 = d2 := ⟨_, rfl⟩
            obtain ⟨e1, he1⟩ : ∃ e1, (takeP d1 d2).1 = e1 := ⟨_, rfl⟩
            obtain ⟨e2, he2⟩ : ∃ e2, (takeP d1 d2).2 = e2 := ⟨_, rfl⟩
            obtain ⟨ln, hln⟩ : ∃ ln, e1.length = ln := ⟨_, rfl⟩
            have HLD : Hid (d2.1.length ≤ 2000) := by
              show _ ≤ _
              rw [← hd2]
              exact Nat.le_trans (takeP_len 1 c2).1 HLC.out
            have HLN : Hid (e2.1.length ≤ 2000) := by
              show _ ≤ _
              rw [← he2]
              exact Nat.le_trans (takeP_len d1 d2).1 HLD.out
            have HCP : Hid (cellP true st = (⟨txt b1, txt e1, 0, (ln : Int)⟩, e2)) := by
              show _ = _
              obtain ⟨q1, q2, q3, q4⟩ := HP.out
              unfold cellP
              simp only [q1, q2, q3, q4, if_true, hc1, hc2, hd1, hd2, he1, he2, hln]
            have hsz : (txt e1).size = ln := by rw [txt_size]; exact hln
            clear hc1 hc2
            go_wp2_with (go_at_call 49; refine hn2.mono ?_; rintro e W2 ⟨rfl, hR2, hT2⟩)
            have hS2 := hS.two hT2
            have hH2 := hT2.holds hH (show gz ≠ g6 by omega) (show gz ≠ g7 by omega)
            have hn3 := number_any (w := W2.drew) (s := c2) hR2 (hclo W2 hS2).drew 1 (by omega) (by have := HLC.out; omega)
            rw [hd1, hd2] at hn3
            clear hn2 hT2 hd1 hd2 hln hS hR hH
            refine wp_region_tree (fun W => Holds W g8 55 #[takeV g6 g7]) [0, 1] (.one 2 (.one 3 (.one 4 (.one 5 .nil)))) mixedP (by kernel_rfl) rfl (by kernel_rfl) (fun _ _ _ d _ h => by cases d <;> exact h) (hclo W2 hS2).drew ?_
            refine tk_ld (some 48) rfl rfl rfl _ _ rfl rfl (v := takeV g6 g7) (fun W hW => by have := hW.cell 0; simp [go_sem, this, takeV]) ?_
            go_frame
            refine tk_val (some 49) rfl rfl rfl (.func (.func 49) #[] #[.pointer (some ⟨g8, 0, none⟩)]) (fun _ => by go_simp) ?_
            go_frame
            refine tk_nil ?_
            unfold takeV
            refine op_call (some 50) rfl rfl rfl (f := 49) (vs := #[.int .i64 ((1 : Nat) : Int), .pointer (some ⟨g8, 0, none⟩)]) (by go_simp) ?_
            refine hn3.mono ?_
            rintro e X3 ⟨rfl, hR3', hT3⟩
            have hSX3 := hS2.drew.two hT3
            have hHX3 := hT3.holds hH2.drew (show gz ≠ g6 by omega) (show gz ≠ g7 by omega)
            refine ⟨_, rfl, hclo X3 hSX3, ?_⟩
            go_frame
            have ht4 := take_any hR3' d1 (by have := HLD.out; omega)
            rw [he1, he2] at ht4
            refine op_call (some 51) rfl rfl rfl (f := 48) (vs := #[.int .i64 (d1 : Nat), .pointer (some ⟨g6, 0, none⟩), .pointer (some ⟨g7, 0, none⟩)]) (by go_simp) ?_
            refine ht4.mono ?_
            rintro e X4 ⟨rfl, hR4, hT4⟩
            have hSX4 := hSX3.two hT4
            have hHX4 := hT4.holds hHX3 (show gz ≠ g6 by omega) (show gz ≠ g7 by omega)
            refine ⟨_, rfl, hclo X4 hSX4, ?_⟩
            go_frame
            refine op_val (some 52) rfl rfl rfl (v := .pointer (some ⟨gz, 1, none⟩)) (w' := X4) (by go_simp) ?_
            refine ⟨hclo X4 hSX4, ?_⟩
            go_frame
            have q2 : X4.cell? ⟨gz, 1, none⟩ = some (.string ⟨#[]⟩) := hHX4.cell 1
            have q3 := hHX4.frozen 1
            refine op_skip none rfl rfl rfl (w' := X4.setCell ⟨gz, 1, none⟩ (.string (txt e1))) (by go_simp) ?_
            have hS5 := hSX4.set (show wr.heap.size ≤ gz by omega) 1 (.string (txt e1))
            have hH5 := hHX4.set 1 (.string (txt e1))
            have hR5 : Rest (X4.setCell ⟨gz, 1, none⟩ (.string (txt e1))) g6 g7 e2 := ⟨hR4.1.other _ _ (by simp only; omega), hR4.2.1.other _ _ (by simp only; omega), hR4.2.2⟩
            obtain ⟨X5, hX5⟩ : ∃ X5, X4.setCell ⟨gz, 1, none⟩ (.string (txt e1)) = X5 := ⟨_, rfl⟩
            rw [hX5] at hS5 hH5 hR5 ⊢
            refine ⟨hclo X5 hS5, ?_⟩
            go_frame
            clear hX5 q2 q3 hHX4 hSX4 hT4 hR4 ht4 hHX3 hSX3 hT3 hR3' hn3 hH2 hS2 hR2 he1 he2
            refine then_normalE ?_
            go_at_K
            have y1 : X5.cell? ⟨gz, 1, none⟩ = some (.string (txt e1)) := hH5.cell 1
            have y3 : X5.cell? ⟨gz, 3, none⟩ = some (.int .i64 0) := hH5.cell 3
            have y4 := hH5.frozen 3
            have hH3 := hH5.set 3 (.int .i64 (ln : Int))
            obtain ⟨W3, hW3⟩ : ∃ W3, X5.setCell ⟨gz, 3, none⟩ (.int .i64 (ln : Int)) = W3 := ⟨_, rfl⟩
            rw [hW3] at hH3
            have hS3 : Step g6 g7 wr W3 := by rw [← hW3]; exact hS5.set (by omega) 3 _
            have hR3 : Rest W3 g6 g7 e2 := by rw [← hW3]; exact ⟨hR5.1.other _ _ (by simp only; omega), hR5.2.1.other _ _ (by simp only; omega), hR5.2.2⟩
            obtain ⟨t1, ⟨t2, t3, t4, t5⟩, W4, gb, hW4, hgb, HB4, hone4, hown4, hbs4, HNX⟩ := tail_prep HI.out HG.out hS3 ⟨txt b1, txt e1, 0, (ln : Int)⟩ hH3; dsimp only at t2 t3 t4 t5 hW4
            clear hH5 hS5 hR5 hH3
            go_wp2_with (at_builtin; refine wpList_append_cl rfl _ _ rfl rfl rfl hown4 hone4 HLA.out hbs4 ?_; intro v6 w6 hown6 hg6; have hh6 := HNX.out w6 hg6; obtain ⟨p6, m6, c6, rfl, hm6, hat6⟩ := shape2 hown6; have HF : Hid (PInv w (w6.setCell ⟨g10, 1, none⟩ (.slice p6 m6 c6)) true g4 g6 g7 g8 g10 e2 (.slice p6 m6 c6) (acc ++ [⟨txt b1, txt e1, 0, (ln : Int)⟩])) := (pinv_next HI.out HG.out hS3 hR3 HLN.out HB4.out hown6 hg6); have s1 : w6.cell? ⟨g10, 1, none⟩ = some (.slice pv mv cv) := (hh6.cell 1); have s2 := hh6.frozen 1; clear hown6 hg6 hm6 hat6 hh6)
            exact ⟨⟨j, e2, acc ++ [⟨txt b1, txt e1, 0, (ln : Int)⟩], _, rfl, (by show _ ≤ _; rw [List.length_append, List.length_singleton]; exact HLJ.out), (by show _ = _; rw [← HT.out, HJ.out.1, parse_step HJ.out.2, HCP.out]), HF.out⟩, by have := HJ.out.1; simp [intOf]; omega⟩
          · have hcn : ((c1 : Int) == 0) = false := by simpa using hc0
            obtain ⟨d1, hd1⟩ : ∃ d1, (numP 4 c2).1 = d1 := ⟨_, rfl⟩
            obtain ⟨d2, hd2⟩ : ∃ d2, (numP 4 c2).2 = d2 := ⟨_, rfl⟩
            obtain ⟨e1, he1⟩ : ∃ e1, (numP 4 d2).1 = e1 := ⟨_, rfl⟩
            obtain ⟨e2, he2⟩ : ∃ e2, (numP 4 d2).2 = e2 := ⟨_, rfl⟩
            have HLD : Hid (d2.1.length ≤ 2000) := by
              show _ ≤ _
              rw [← hd2]
              exact Nat.le_trans (takeP_len 4 c2).1 HLC.out
            have HLN : Hid (e2.1.length ≤ 2000) := by
              show _ ≤ _
              rw [← he2]
              exact Nat.le_trans (takeP_len 4 d2).1 HLD.out
            have HCP : Hid (cellP true st = (⟨txt b1, ⟨#[]⟩, (d1 : Int), (e1 : Int)⟩, e2)) := by
              show _ = _
              obtain ⟨q1, q2, q3, q4⟩ := HP.out
              unfold cellP
              simp only [q1, q2, q3, q4, if_true, hc1, hc2, hd1, hd2, he1, he2, if_neg hc0]
            have hn3 := fun W2 (hR2 : Rest W2 g6 g7 c2) (hS2 : Step g6 g7 wr W2) => number_any hR2 (hclo W2 hS2) 4 (by omega) (by have := HLC.out; omega)
            have hn4 := fun W2 (hR2 : Rest W2 g6 g7 d2) (hS2 : Step g6 g7 wr W2) => number_any hR2 (hclo W2 hS2) 4 (by omega) (by have := HLD.out; omega)
            rw [hd1, hd2] at hn3
            rw [he1, he2] at hn4
            clear hc1 hc2 hd1 hd2 he1 he2 hc0
            go_wp2_with fail
            refine hn2.mono ?_
            rintro e W2 ⟨rfl, hR2, hT2⟩
            have hS2 := hS.two hT2
            have hH2 := hT2.holds hH (show gz ≠ g6 by omega) (show gz ≠ g7 by omega)
            replace hn3 := hn3 W2 hR2 hS2
            clear hn2 hT2 hS hR hH hR2
            go_wp2_with fail
            refine hn3.mono ?_
            rintro e X3 ⟨rfl, hR3', hT3⟩
            have hSX3 := hS2.two hT3
            have hHX3 := hT3.holds hH2 (show gz ≠ g6 by omega) (show gz ≠ g7 by omega)
            replace hn4 := hn4 X3 hR3' hSX3
            clear hn3 hT3 hR3' hS2 hH2
            go_wp2_with fail
            refine hn4.mono ?_
            rintro e X4 ⟨rfl, hR4, hT4⟩
            have hSX4 := hSX3.two hT4
            have hHX4 := hT4.holds hHX3 (show gz ≠ g6 by omega) (show gz ≠ g7 by omega)
            clear hn4 hT4 hSX3 hHX3
            have y2 : X4.cell? ⟨gz, 2, none⟩ = some (.int .i64 0) := hHX4.cell 2
            have y3 := hHX4.frozen 2
            have hS5 := hSX4.set (show wr.heap.size ≤ gz by omega) 2 (.int .i64 (d1 : Int))
            have hH5 := hHX4.set 2 (.int .i64 (d1 : Int))
            have hR5 : Rest (X4.setCell ⟨gz, 2, none⟩ (.int .i64 (d1 : Int))) g6 g7 e2 := ⟨hR4.1.other _ _ (by simp only; omega), hR4.2.1.other _ _ (by simp only; omega), hR4.2.2⟩
            obtain ⟨X5, hX5⟩ : ∃ X5, X4.setCell ⟨gz, 2, none⟩ (.int .i64 (d1 : Int)) = X5 := ⟨_, rfl⟩
            rw [hX5] at hS5 hH5 hR5
            have z3 : X5.cell? ⟨gz, 3, none⟩ = some (.int .i64 0) := hH5.cell 3
            have z4 := hH5.frozen 3
            have hH3 := hH5.set 3 (.int .i64 (e1 : Int))
            obtain ⟨W3, hW3⟩ : ∃ W3, X5.setCell ⟨gz, 3, none⟩ (.int .i64 (e1 : Int)) = W3 := ⟨_, rfl⟩
            rw [hW3] at hH3
            have hS3 : Step g6 g7 wr W3 := by rw [← hW3]; exact hS5.set (by omega) 3 _
            have hR3 : Rest W3 g6 g7 e2 := by rw [← hW3]; exact ⟨hR5.1.other _ _ (by simp only; omega), hR5.2.1.other _ _ (by simp only; omega), hR5.2.2⟩
            obtain ⟨t1, ⟨t2, t3, t4, t5⟩, W4, gb, hW4, hgb, HB4, hone4, hown4, hbs4, HNX⟩ := tail_prep HI.out HG.out hS3 ⟨txt b1, ⟨#[]⟩, (d1 : Int), (e1 : Int)⟩ hH3; dsimp only at t2 t3 t4 t5 hW4
            clear hH5 hS5 hR5 hH3 hSX4 hHX4 hR4
            go_wp2_with (at_builtin; refine wpList_append_cl rfl _ _ rfl rfl rfl hown4 hone4 HLA.out hbs4 ?_; intro v6 w6 hown6 hg6; have hh6 := HNX.out w6 hg6; obtain ⟨p6, m6, c6, rfl, hm6, hat6⟩ := shape2 hown6; have HF : Hid (PInv w (w6.setCell ⟨g10, 1, none⟩ (.slice p6 m6 c6)) true g4 g6 g7 g8 g10 e2 (.slice p6 m6 c6) (acc ++ [⟨txt b1, ⟨#[]⟩, (d1 : Int), (e1 : Int)⟩])) := (pinv_next HI.out HG.out hS3 hR3 HLN.out HB4.out hown6 hg6); have s1 : w6.cell? ⟨g10, 1, none⟩ = some (.slice pv mv cv) := (hh6.cell 1); have s2 := hh6.frozen 1; clear hown6 hg6 hm6 hat6 hh6)
            exact ⟨⟨j, e2, acc ++ [⟨txt b1, ⟨#[]⟩, (d1 : Int), (e1 : Int)⟩], _, rfl, (by show _ ≤ _; rw [List.length_append, List.length_singleton]; exact HLJ.out), (by show _ = _; rw [← HT.out, HJ.out.1, parse_step HJ.out.2, HCP.out]), HF.out⟩, by have := HJ.out.1; simp [intOf]; omega⟩
    · have HTT : Hid (T = (acc, st)) := by show _ = _; rw [← HT.out]; exact parse_stop hgo
      have hst := HI.out
      have HFin : Hid (Below w.heap.size w wr ∧ OwnCells wr (g10 + 1) (.slice pv mv cv) acc) := ⟨hI.below, hI.own⟩
      have c0 : wr.cell? ⟨g10, 0, none⟩ = some (.bool leaf) := hI.n10.cell 0
      have c1 : wr.cell? ⟨g10, 1, none⟩ = some (.slice pv mv cv) := hI.n10.cell 1
      obtain ⟨hg0, hg1, hg2, hg3, hg4⟩ := HG.out
      have hEnd : ∀ (kk : Bool), kk = kk := fun _ => rfl
      clear hEnd
      by_cases hk : 0 < k
      · have hk0 : (0 : Int) < k := by omega
        have hb : st.2 = false := by
          cases h : st.2 with
          | true => exact absurd ⟨hk, h⟩ hgo
          | false => rfl
        rw [hb] at b7
        clear hgo hk hat hmv hI
        go_wp2_with fail
        refine wp_region_tree (fun W => Holds W g7 4 #[.bool st.2] ∧ Holds W g10 24 #[.bool leaf, .slice pv mv cv]) [0, 1] (.one 2 (.one 3 .nil)) mixedP (by kernel_rfl) rfl (by kernel_rfl) (fun _ _ _ d _ h => by cases d <;> exact h) ⟨hst.rest.2.1.drew, hst.n10.drew⟩ ?_
        refine tk_ld (some 63) rfl rfl rfl _ _ rfl rfl (fun W hW => ldNode (hW.2.cell 0) (hW.2.cell 1)) ?_
        go_frame
        refine tk_ld (some 64) rfl rfl rfl _ _ rfl rfl (fun W hW => ldBool (hW.1.cell 0)) ?_
        go_frame
        refine tk_nil ?_
        unfold nodeV
        refine op_storeH none rfl rfl rfl 24 _ _ rfl g4 _ rfl rfl 24 _ hst.n4.drew infoNode2 rfl (by simp [Value.oneCell']) ?_
        intro W9 hH9 hO9 hs9
        refine ⟨⟨hO9.holds hst.rest.2.1.drew (by omega), hO9.holds hst.n10.drew (by omega)⟩, ?_⟩
        go_frame
        refine op_val (some 5) rfl rfl rfl (v := .bool st.2) (w' := W9) (by go_simp) ?_
        refine ⟨⟨hO9.holds hst.rest.2.1.drew (by omega), hO9.holds hst.n10.drew (by omega)⟩, ?_⟩
        go_frame
        refine then_normalE ?_
        go_at_K
        go_wp2_with fail
        refine bodyPost_ret (results_cellE (p := 4) (u := 5) rfl _ W9 g4 24 _ _ rfl hH9 Try.underlying24 rfl infoNode2) rfl ?_
        rw [HTT.out]
        refine ⟨_, rfl, ?_, ?_⟩
        · exact (own_only (w := wr.drew) HFin.out.2 hO9 (by omega)).mono (by omega)
        · exact Only.fresh (w' := wr.drew) HFin.out.1.drew hO9 (by omega)
      · have hk0 : ¬ (0 : Int) < k := by omega
        clear hgo hk hat hmv hI
        go_wp2_with fail
        refine wp_region_tree (fun W => Holds W g7 4 #[.bool st.2] ∧ Holds W g10 24 #[.bool leaf, .slice pv mv cv]) [0, 1] (.one 2 (.one 3 .nil)) mixedP (by kernel_rfl) rfl (by kernel_rfl) (fun _ _ _ d _ h => by cases d <;> exact h) ⟨hst.rest.2.1.drew, hst.n10.drew⟩ ?_
        refine tk_ld (some 63) rfl rfl rfl _ _ rfl rfl (fun W hW => ldNode (hW.2.cell 0) (hW.2.cell 1)) ?_
        go_frame
        refine tk_ld (some 64) rfl rfl rfl _ _ rfl rfl (fun W hW => ldBool (hW.1.cell 0)) ?_
        go_frame
        refine tk_nil ?_
        unfold nodeV
        refine op_storeH none rfl rfl rfl 24 _ _ rfl g4 _ rfl rfl 24 _ hst.n4.drew infoNode2 rfl (by simp [Value.oneCell']) ?_
        intro W9 hH9 hO9 hs9
        refine ⟨⟨hO9.holds hst.rest.2.1.drew (by omega), hO9.holds hst.n10.drew (by omega)⟩, ?_⟩
        go_frame
        refine op_val (some 5) rfl rfl rfl (v := .bool st.2) (w' := W9) (by go_simp) ?_
        refine ⟨⟨hO9.holds hst.rest.2.1.drew (by omega), hO9.holds hst.n10.drew (by omega)⟩, ?_⟩
        go_frame
        refine then_normalE ?_
        go_at_K
        go_wp2_with fail
        refine bodyPost_ret (results_cellE (p := 4) (u := 5) rfl _ W9 g4 24 _ _ rfl hH9 Try.underlying24 rfl infoNode2) rfl ?_
        rw [HTT.out]
        refine ⟨_, rfl, ?_, ?_⟩
        · exact (own_only (w := wr.drew) HFin.out.2 hO9 (by omega)).mono (by omega)
        · exact Only.fresh (w' := wr.drew) HFin.out.1.drew hO9 (by omega)
end Go.Proofs.Ytdgfjaidnedaiaa
