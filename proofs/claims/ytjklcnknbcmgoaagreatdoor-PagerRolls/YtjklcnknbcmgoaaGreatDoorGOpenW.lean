/-
  The pager's Open.
-/
import Derived.Test.YtjklcnknbcmgoaaGreatDoorGD
namespace Go.Proofs.YtjklcnknbcmgoaaGreatDoor
open Go Go.RowKit Go.Maps

theorem made_set (w : World) : ∃ W g, w.alloc (.map #[] 0) = W ∧ w.heap.size = g ∧ Below w.heap.size w W ∧ SetV W 0 (some g) (fun _ => none) := ⟨_, _, rfl, rfl, below_new1 _ _, MapAt.made w⟩
theorem MapV.belowG {w w' : World} {k g : Nat} {S : Int → Option Unit} (hB : Below w.heap.size w w') (m : SetV w k (some g) S) : SetV w' k (some g) S := MapAt.block m (hB.block g (MapAt.lt m))
theorem box_pager (w : World) (cs : Array Value) : ∃ W g, w.alloc (.cells cs 89) = W ∧ w.heap.size = g ∧ Below w.heap.size w W ∧ Holds W g 89 cs := ⟨_, _, rfl, rfl, below_new1 _ _, Holds.new _ _ _⟩
/-- A pager that was opened: of this meta, on this device. -/
def OpenOk (w : World) (h : Hd) (M : K.M4) (D : Dev) (w' : World) (b : Nat) : Prop :=
  ∃ h2 g29 g30, Done w h w' h2 D ∧ PgCells w' b ⟨h.b, none, .slice none 0 0, g29, g30⟩ ⟨M.tx, M.root, M.ents, M.pgs, max (M.pgs : Int) 2, 0, false, false, 0⟩ ∧ SetV w' 0 (some g29) (fun _ => none) ∧ SetV w' 0 (some g30) (fun _ => none) ∧ g29 ≠ g30 ∧ ¬ Blk h2 g29 ∧ ¬ Blk h2 g30 ∧ w.heap.size ≤ g29 ∧ w.heap.size ≤ g30 ∧ w.heap.size ≤ b
set_option maxRecDepth 8000 in
set_option maxHeartbeats 4000000 in
theorem gopen_any {w : World} {h : Hd} {D : Dev} (a : DiskAt w h D) {N : Nat} (ok : D.ok N) (hN : N + 5 < 1000000000) (hT : K.Tabs w) (hF : ∀ k, Foot h k → 4 ≤ k) (hs0 : (D.read 0).1.size ≤ 9223372036854775807) (hs1 : ((D.read 0).2.2.read 1).1.size ≤ 9223372036854775807) (hsz : 2 ≤ D.size) (okF : (foundP D).2.2.ok (N + 3)) :
    Calls Tryz.prog 10 #[.pointer (some ⟨h.b, 0, none⟩)] w fun e w' =>
      (∃ er : Int, ((er = (foundP D).2.1 ∧ ∃ h', Done w h w' h' (foundP D).2.2) ∨ ((foundP D).2.1 = 0 ∧ er = (foundP D).2.2.sync.1 ∧ ∃ h', Done w h w' h' (foundP D).2.2.sync.2)) ∧ er ≠ 0 ∧ e = .returned (.tuple #[.pointer none, .int .i64 er])) ∨
      ∃ b, e = .returned (.tuple #[.pointer (some ⟨b, 0, none⟩), .int .i64 0]) ∧ OpenOk w h (foundP D).1 (foundP D).2.2.sync.2 w' b := by
  have hq := ptr_eql
  have hmm := @run_makeMap Tryz.prog
  have hpg := pages_any a
  have hfd := gfound_any a ok (by omega) hT hF hs0 hs1
  have hszi : ¬ D.size < 2 := by omega
  obtain ⟨⟨M, er, D1⟩, hR⟩ : ∃ R, foundP D = R := ⟨_, rfl⟩
  rw [hR] at hfd okF ⊢
  dsimp only at hfd okF ⊢
  unfold K.m4A at hfd
  clear hR
  go_enter Tryz.func10, Tryz.ntmps10
  go_wp2_with fail
  refine hpg.mono ?_
  rintro e w' ⟨rfl, hw'⟩
  have hw2' := hw'.symm
  clear hw' hpg
  subst hw2'
  go_wp2_with fail
  refine hfd.mono ?_
  rintro e w1 ⟨rfl, h1, hd1⟩
  obtain ⟨W2, hW2⟩ : ∃ W2, w1.alloc (.cells #[.int .i64 M.tx, .int .i64 M.root, .int .i64 M.ents, .int .i64 M.pgs] 43) = W2 := ⟨_, rfl⟩
  obtain ⟨g4, hg4⟩ : ∃ g4, w1.heap.size = g4 := ⟨_, rfl⟩
  have hB2 : Below w1.heap.size w1 W2 := by rw [← hW2]; exact below_new1 _ _
  have hh4 := Holds.new w1 43 #[.int .i64 M.tx, .int .i64 M.root, .int .i64 M.ents, .int .i64 M.pgs]
  rw [hW2, hg4] at hh4
  have hd2 := hd1.below hB2
  have h4F : ¬ Foot h1 g4 := fun q => by have := hd1.at_.lt g4 q.blk; omega
  have hbe : h1.b = h.b := hd1.newer.1
  clear hfd hB2
  by_cases he : er = 0
  · subst he
    have hsy := sync_any hd2.at_ okF (by omega)
    rw [hbe] at hsy
    go_wp2_with fail
    refine hsy.mono ?_
    rintro e X ⟨rfl, h2, hd3⟩
    have hh4X := hd3.keep.holds hh4 h4F
    have HX : Hid (Done w h X h2 D1.sync.2) := hd2.trans hd3
    obtain ⟨⟨es, D2⟩, hS⟩ : ∃ S, D1.sync = S := ⟨_, rfl⟩
    rw [hS] at HX ⊢
    dsimp only at HX ⊢
    have HS : Hid (D1.sync = (es, D2)) := hS
    clear hsy hd3 hd2 hd1 hh4 hS
    by_cases hes : es = 0
    · subst hes
      go_wp2_with fail
      refine wp_region_tree (fun W => Below X.heap.size X W) [0, 1, 2] (.three 3 (.two 4 (.one 5 (.one 6 (.one 7 (.one 8 (.one 9 .nil))))) 5 (.one 4 (.one 6 (.one 7 (.one 8 (.one 9 .nil)))))) 4 (.two 3 (.one 5 (.one 6 (.one 7 (.one 8 (.one 9 .nil))))) 5 (.one 3 (.one 6 (.one 7 (.one 8 (.one 9 .nil)))))) 5 (.two 3 (.one 4 (.one 6 (.one 7 (.one 8 (.one 9 .nil))))) 4 (.one 3 (.one 6 (.one 7 (.one 8 (.one 9 .nil))))))) mixedP (by kernel_rfl) rfl (by kernel_rfl) (fun _ _ _ d _ h => by cases d <;> exact h) (Below.refl _ _).drew ?_
      refine tk_val (some 25) rfl rfl rfl (.pointer (some ⟨h.b, 0, none⟩)) (fun _ => by go_simp) ?_
      go_frame
      refine tk_ld (some 26) rfl rfl rfl _ _ rfl rfl (fun W hW => ldMeta (below_holds hW hh4X)) ?_
      go_frame
      refine tk_ld (some 27) rfl rfl rfl _ _ rfl rfl (fun W hW => ldMeta (below_holds hW hh4X)) ?_
      go_frame
      refine tk_nil ?_
      refine ⟨?_, ?_, ?_⟩
      · refine op_call (some 28) rfl rfl rfl (f := 33) (vs := #[.agg #[.int .i64 M.tx, .int .i64 M.root, .int .i64 M.ents, .int .i64 M.pgs]]) (by go_simp) ?_
        refine (gbehind_any M.tx M.root M.ents M.pgs _).mono ?_
        rintro e Y1 ⟨rfl, q1⟩
        have r1 : Below X.heap.size X Y1 := below_drewL q1
        refine ⟨_, rfl, r1, ?_⟩
        go_frame
        refine ⟨?_, ?_⟩
        · obtain ⟨Y2, g29, hw29, hg29, q2, m29⟩ := made_set Y1
          have HL29 : Hid (g29 < Y2.heap.size) := MapAt.lt m29
          have HX29 : Hid (X.heap.size ≤ g29) := (by show _ ≤ _; rw [← hg29]; exact r1.size)
          have r2 : Below X.heap.size X Y2 := below_new r1 q2
          refine op_val (some 29) rfl rfl rfl (v := .map (some g29)) (w' := Y2) (by go_simp <;> first | exact ⟨hg29, hw29⟩ | exact hw29) ?_
          refine ⟨r2, ?_⟩
          go_frame
          obtain ⟨Y3, g30, hw30, hg30, q3, m30⟩ := made_set Y2
          have HL30 : Hid (g30 < Y3.heap.size) := MapAt.lt m30
          have HX30 : Hid (X.heap.size ≤ g30) := (by show _ ≤ _; rw [← hg30]; exact r2.size)
          have HNE : Hid (g29 ≠ g30) := (by have := HL29.out; show _ ≠ _; omega)
          have r3 : Below X.heap.size X Y3 := below_new r2 q3
          replace m29 := MapV.belowG q3 m29
          replace HL29 : Hid (g29 < Y3.heap.size) := Nat.lt_of_lt_of_le HL29.out q3.size
          refine op_val (some 30) rfl rfl rfl (v := .map (some g30)) (w' := Y3) (by go_simp <;> first | exact ⟨hg30, hw30⟩ | exact hw30) ?_
          refine ⟨r3, ?_⟩
          go_frame
          refine op_val (some 31) rfl rfl rfl (v := .agg #[.pointer (some ⟨h.b, 0, none⟩), .int .i64 M.tx, .int .i64 M.root, .int .i64 M.ents, .int .i64 M.pgs, .int .i64 (max (M.pgs : Int) 2), .map none, .slice none 0 0, .int .i64 0, .map (some g29), .map (some g30), .bool false, .int .u32 0, .int .i32 0, .int .u32 0, .int .i64 0]) (w' := Y3) (by go_simp) ?_
          refine ⟨r3, ?_⟩
          go_frame
          obtain ⟨Y4, b, hw4, hb4, q4, hp4⟩ := box_pager Y3 #[.pointer (some ⟨h.b, 0, none⟩), .int .i64 M.tx, .int .i64 M.root, .int .i64 M.ents, .int .i64 M.pgs, .int .i64 (max (M.pgs : Int) 2), .map none, .slice none 0 0, .int .i64 0, .map (some g29), .map (some g30), .bool false, .int .u32 0, .int .i32 0, .int .u32 0, .int .i64 0]
          have r4 := below_new r3 q4
          refine op_val (some 32) rfl rfl rfl (v := .pointer (some ⟨b, 0, none⟩)) (w' := Y4) (by go_simp <;> first | exact ⟨hb4, hw4⟩ | exact hw4) ?_
          refine ⟨r4, ?_⟩
          go_frame
          refine op_val (some 2) rfl rfl rfl (v := .pointer (some ⟨b, 0, none⟩)) (w' := Y4) (by go_simp) ?_
          refine ⟨r4, ?_⟩
          go_frame
          refine op_val (some 3) rfl rfl rfl (v := .int .i64 0) (w' := Y4) (by go_simp) ?_
          refine ⟨r4, ?_⟩
          go_frame
          have HF : Hid (OpenOk w h M D2 Y4 b) := ⟨h2, g29, g30, HX.out.below r4, hp4, MapV.belowG q4 m29, MapV.belowG q4 m30, HNE.out, fun q => (by have := HX.out.at_.lt g29 q; have := HX29.out; omega), fun q => (by have := HX.out.at_.lt g30 q; have := HX30.out; omega), (by have := HX.out.keep.size; have := HX29.out; omega), (by have := HX.out.keep.size; have := HX30.out; omega), (by have := HX.out.keep.size; have := r3.size; omega)⟩
          refine then_normalG ?_
          go_at_K
          go_wp2_with fail
          go_ret2
          first | exact .inr ⟨b, rfl, HF.out⟩ | (rw [HS.out]; exact .inr ⟨b, rfl, HF.out⟩) | (refine .inr ⟨b, rfl, ?_⟩; have q := HS.out; rw [show D1.sync.2 = D2 by rw [q]]; exact HF.out)
        · obtain ⟨Y2, g30, hw30, hg30, q2, m30⟩ := made_set Y1
          have HL30 : Hid (g30 < Y2.heap.size) := MapAt.lt m30
          have HX30 : Hid (X.heap.size ≤ g30) := (by show _ ≤ _; rw [← hg30]; exact r1.size)
          have r2 : Below X.heap.size X Y2 := below_new r1 q2
          refine op_val (some 30) rfl rfl rfl (v := .map (some g30)) (w' := Y2) (by go_simp <;> first | exact ⟨hg30, hw30⟩ | exact hw30) ?_
          refine ⟨r2, ?_⟩
          go_frame
          obtain ⟨Y3, g29, hw29, hg29, q3, m29⟩ := made_set Y2
          have HL29 : Hid (g29 < Y3.heap.size) := MapAt.lt m29
          have HX29 : Hid (X.heap.size ≤ g29) := (by show _ ≤ _; rw [← hg29]; exact r2.size)
          have HNE : Hid (g29 ≠ g30) := (by have := HL30.out; show _ ≠ _; omega)
          have r3 : Below X.heap.size X Y3 := below_new r2 q3
          replace m30 := MapV.belowG q3 m30
          replace HL30 : Hid (g30 < Y3.heap.size) := Nat.lt_of_lt_of_le HL30.out q3.size
          refine op_val (some 29) rfl rfl rfl (v := .map (some g29)) (w' := Y3) (by go_simp <;> first | exact ⟨hg29, hw29⟩ | exact hw29) ?_
          refine ⟨r3, ?_⟩
          go_frame
          refine op_val (some 31) rfl rfl rfl (v := .agg #[.pointer (some ⟨h.b, 0, none⟩), .int .i64 M.tx, .int .i64 M.root, .int .i64 M.ents, .int .i64 M.pgs, .int .i64 (max (M.pgs : Int) 2), .map none, .slice none 0 0, .int .i64 0, .map (some g29), .map (some g30), .bool false, .int .u32 0, .int .i32 0, .int .u32 0, .int .i64 0]) (w' := Y3) (by go_simp) ?_
          refine ⟨r3, ?_⟩
          go_frame
          obtain ⟨Y4, b, hw4, hb4, q4, hp4⟩ := box_pager Y3 #[.pointer (some ⟨h.b, 0, none⟩), .int .i64 M.tx, .int .i64 M.root, .int .i64 M.ents, .int .i64 M.pgs, .int .i64 (max (M.pgs : Int) 2), .map none, .slice none 0 0, .int .i64 0, .map (some g29), .map (some g30), .bool false, .int .u32 0, .int .i32 0, .int .u32 0, .int .i64 0]
          have r4 := below_new r3 q4
          refine op_val (some 32) rfl rfl rfl (v := .pointer (some ⟨b, 0, none⟩)) (w' := Y4) (by go_simp <;> first | exact ⟨hb4, hw4⟩ | exact hw4) ?_
          refine ⟨r4, ?_⟩
          go_frame
          refine op_val (some 2) rfl rfl rfl (v := .pointer (some ⟨b, 0, none⟩)) (w' := Y4) (by go_simp) ?_
          refine ⟨r4, ?_⟩
          go_frame
          refine op_val (some 3) rfl rfl rfl (v := .int .i64 0) (w' := Y4) (by go_simp) ?_
          refine ⟨r4, ?_⟩
          go_frame
          have HF : Hid (OpenOk w h M D2 Y4 b) := ⟨h2, g29, g30, HX.out.below r4, hp4, MapV.belowG q4 m29, MapV.belowG q4 m30, HNE.out, fun q => (by have := HX.out.at_.lt g29 q; have := HX29.out; omega), fun q => (by have := HX.out.at_.lt g30 q; have := HX30.out; omega), (by have := HX.out.keep.size; have := HX29.out; omega), (by have := HX.out.keep.size; have := HX30.out; omega), (by have := HX.out.keep.size; have := r3.size; omega)⟩
          refine then_normalG ?_
          go_at_K
          go_wp2_with fail
          go_ret2
          first | exact .inr ⟨b, rfl, HF.out⟩ | (rw [HS.out]; exact .inr ⟨b, rfl, HF.out⟩) | (refine .inr ⟨b, rfl, ?_⟩; have q := HS.out; rw [show D1.sync.2 = D2 by rw [q]]; exact HF.out)
      · obtain ⟨Y1, g29, hw29, hg29, q1, m29⟩ := made_set X.drew
        have HL29 : Hid (g29 < Y1.heap.size) := MapAt.lt m29
        have HX29 : Hid (X.heap.size ≤ g29) := (show X.heap.size ≤ g29 from Nat.le_of_eq hg29)
        have r1 : Below X.heap.size X Y1 := below_drewL q1
        refine op_val (some 29) rfl rfl rfl (v := .map (some g29)) (w' := Y1) (by go_simp <;> first | exact ⟨hg29, hw29⟩ | exact hw29) ?_
        refine ⟨r1, ?_⟩
        go_frame
        refine ⟨?_, ?_⟩
        · refine op_call (some 28) rfl rfl rfl (f := 33) (vs := #[.agg #[.int .i64 M.tx, .int .i64 M.root, .int .i64 M.ents, .int .i64 M.pgs]]) (by go_simp) ?_
          refine (gbehind_any M.tx M.root M.ents M.pgs _).mono ?_
          rintro e Y2 ⟨rfl, q2⟩
          have r2 : Below X.heap.size X Y2 := below_new r1 q2
          replace m29 := MapV.belowG q2 m29
          replace HL29 : Hid (g29 < Y2.heap.size) := Nat.lt_of_lt_of_le HL29.out q2.size
          refine ⟨_, rfl, r2, ?_⟩
          go_frame
          obtain ⟨Y3, g30, hw30, hg30, q3, m30⟩ := made_set Y2
          have HL30 : Hid (g30 < Y3.heap.size) := MapAt.lt m30
          have HX30 : Hid (X.heap.size ≤ g30) := (by show _ ≤ _; rw [← hg30]; exact r2.size)
          have HNE : Hid (g29 ≠ g30) := (by have := HL29.out; show _ ≠ _; omega)
          have r3 : Below X.heap.size X Y3 := below_new r2 q3
          replace m29 := MapV.belowG q3 m29
          replace HL29 : Hid (g29 < Y3.heap.size) := Nat.lt_of_lt_of_le HL29.out q3.size
          refine op_val (some 30) rfl rfl rfl (v := .map (some g30)) (w' := Y3) (by go_simp <;> first | exact ⟨hg30, hw30⟩ | exact hw30) ?_
          refine ⟨r3, ?_⟩
          go_frame
          refine op_val (some 31) rfl rfl rfl (v := .agg #[.pointer (some ⟨h.b, 0, none⟩), .int .i64 M.tx, .int .i64 M.root, .int .i64 M.ents, .int .i64 M.pgs, .int .i64 (max (M.pgs : Int) 2), .map none, .slice none 0 0, .int .i64 0, .map (some g29), .map (some g30), .bool false, .int .u32 0, .int .i32 0, .int .u32 0, .int .i64 0]) (w' := Y3) (by go_simp) ?_
          refine ⟨r3, ?_⟩
          go_frame
          obtain ⟨Y4, b, hw4, hb4, q4, hp4⟩ := box_pager Y3 #[.pointer (some ⟨h.b, 0, none⟩), .int .i64 M.tx, .int .i64 M.root, .int .i64 M.ents, .int .i64 M.pgs, .int .i64 (max (M.pgs : Int) 2), .map none, .slice none 0 0, .int .i64 0, .map (some g29), .map (some g30), .bool false, .int .u32 0, .int .i32 0, .int .u32 0, .int .i64 0]
          have r4 := below_new r3 q4
          refine op_val (some 32) rfl rfl rfl (v := .pointer (some ⟨b, 0, none⟩)) (w' := Y4) (by go_simp <;> first | exact ⟨hb4, hw4⟩ | exact hw4) ?_
          refine ⟨r4, ?_⟩
          go_frame
          refine op_val (some 2) rfl rfl rfl (v := .pointer (some ⟨b, 0, none⟩)) (w' := Y4) (by go_simp) ?_
          refine ⟨r4, ?_⟩
          go_frame
          refine op_val (some 3) rfl rfl rfl (v := .int .i64 0) (w' := Y4) (by go_simp) ?_
          refine ⟨r4, ?_⟩
          go_frame
          have HF : Hid (OpenOk w h M D2 Y4 b) := ⟨h2, g29, g30, HX.out.below r4, hp4, MapV.belowG q4 m29, MapV.belowG q4 m30, HNE.out, fun q => (by have := HX.out.at_.lt g29 q; have := HX29.out; omega), fun q => (by have := HX.out.at_.lt g30 q; have := HX30.out; omega), (by have := HX.out.keep.size; have := HX29.out; omega), (by have := HX.out.keep.size; have := HX30.out; omega), (by have := HX.out.keep.size; have := r3.size; omega)⟩
          refine then_normalG ?_
          go_at_K
          go_wp2_with fail
          go_ret2
          first | exact .inr ⟨b, rfl, HF.out⟩ | (rw [HS.out]; exact .inr ⟨b, rfl, HF.out⟩) | (refine .inr ⟨b, rfl, ?_⟩; have q := HS.out; rw [show D1.sync.2 = D2 by rw [q]]; exact HF.out)
        · obtain ⟨Y2, g30, hw30, hg30, q2, m30⟩ := made_set Y1
          have HL30 : Hid (g30 < Y2.heap.size) := MapAt.lt m30
          have HX30 : Hid (X.heap.size ≤ g30) := (by show _ ≤ _; rw [← hg30]; exact r1.size)
          have HNE : Hid (g29 ≠ g30) := (by have := HL29.out; show _ ≠ _; omega)
          have r2 : Below X.heap.size X Y2 := below_new r1 q2
          replace m29 := MapV.belowG q2 m29
          replace HL29 : Hid (g29 < Y2.heap.size) := Nat.lt_of_lt_of_le HL29.out q2.size
          refine op_val (some 30) rfl rfl rfl (v := .map (some g30)) (w' := Y2) (by go_simp <;> first | exact ⟨hg30, hw30⟩ | exact hw30) ?_
          refine ⟨r2, ?_⟩
          go_frame
          refine op_call (some 28) rfl rfl rfl (f := 33) (vs := #[.agg #[.int .i64 M.tx, .int .i64 M.root, .int .i64 M.ents, .int .i64 M.pgs]]) (by go_simp) ?_
          refine (gbehind_any M.tx M.root M.ents M.pgs _).mono ?_
          rintro e Y3 ⟨rfl, q3⟩
          have r3 : Below X.heap.size X Y3 := below_new r2 q3
          replace m29 := MapV.belowG q3 m29
          replace m30 := MapV.belowG q3 m30
          replace HL29 : Hid (g29 < Y3.heap.size) := Nat.lt_of_lt_of_le HL29.out q3.size
          replace HL30 : Hid (g30 < Y3.heap.size) := Nat.lt_of_lt_of_le HL30.out q3.size
          refine ⟨_, rfl, r3, ?_⟩
          go_frame
          refine op_val (some 31) rfl rfl rfl (v := .agg #[.pointer (some ⟨h.b, 0, none⟩), .int .i64 M.tx, .int .i64 M.root, .int .i64 M.ents, .int .i64 M.pgs, .int .i64 (max (M.pgs : Int) 2), .map none, .slice none 0 0, .int .i64 0, .map (some g29), .map (some g30), .bool false, .int .u32 0, .int .i32 0, .int .u32 0, .int .i64 0]) (w' := Y3) (by go_simp) ?_
          refine ⟨r3, ?_⟩
          go_frame
          obtain ⟨Y4, b, hw4, hb4, q4, hp4⟩ := box_pager Y3 #[.pointer (some ⟨h.b, 0, none⟩), .int .i64 M.tx, .int .i64 M.root, .int .i64 M.ents, .int .i64 M.pgs, .int .i64 (max (M.pgs : Int) 2), .map none, .slice none 0 0, .int .i64 0, .map (some g29), .map (some g30), .bool false, .int .u32 0, .int .i32 0, .int .u32 0, .int .i64 0]
          have r4 := below_new r3 q4
          refine op_val (some 32) rfl rfl rfl (v := .pointer (some ⟨b, 0, none⟩)) (w' := Y4) (by go_simp <;> first | exact ⟨hb4, hw4⟩ | exact hw4) ?_
          refine ⟨r4, ?_⟩
          go_frame
          refine op_val (some 2) rfl rfl rfl (v := .pointer (some ⟨b, 0, none⟩)) (w' := Y4) (by go_simp) ?_
          refine ⟨r4, ?_⟩
          go_frame
          refine op_val (some 3) rfl rfl rfl (v := .int .i64 0) (w' := Y4) (by go_simp) ?_
          refine ⟨r4, ?_⟩
          go_frame
          have HF : Hid (OpenOk w h M D2 Y4 b) := ⟨h2, g29, g30, HX.out.below r4, hp4, MapV.belowG q4 m29, MapV.belowG q4 m30, HNE.out, fun q => (by have := HX.out.at_.lt g29 q; have := HX29.out; omega), fun q => (by have := HX.out.at_.lt g30 q; have := HX30.out; omega), (by have := HX.out.keep.size; have := HX29.out; omega), (by have := HX.out.keep.size; have := HX30.out; omega), (by have := HX.out.keep.size; have := r3.size; omega)⟩
          refine then_normalG ?_
          go_at_K
          go_wp2_with fail
          go_ret2
          first | exact .inr ⟨b, rfl, HF.out⟩ | (rw [HS.out]; exact .inr ⟨b, rfl, HF.out⟩) | (refine .inr ⟨b, rfl, ?_⟩; have q := HS.out; rw [show D1.sync.2 = D2 by rw [q]]; exact HF.out)
      · obtain ⟨Y1, g30, hw30, hg30, q1, m30⟩ := made_set X.drew
        have HL30 : Hid (g30 < Y1.heap.size) := MapAt.lt m30
        have HX30 : Hid (X.heap.size ≤ g30) := (show X.heap.size ≤ g30 from Nat.le_of_eq hg30)
        have r1 : Below X.heap.size X Y1 := below_drewL q1
        refine op_val (some 30) rfl rfl rfl (v := .map (some g30)) (w' := Y1) (by go_simp <;> first | exact ⟨hg30, hw30⟩ | exact hw30) ?_
        refine ⟨r1, ?_⟩
        go_frame
        refine ⟨?_, ?_⟩
        · refine op_call (some 28) rfl rfl rfl (f := 33) (vs := #[.agg #[.int .i64 M.tx, .int .i64 M.root, .int .i64 M.ents, .int .i64 M.pgs]]) (by go_simp) ?_
          refine (gbehind_any M.tx M.root M.ents M.pgs _).mono ?_
          rintro e Y2 ⟨rfl, q2⟩
          have r2 : Below X.heap.size X Y2 := below_new r1 q2
          replace m30 := MapV.belowG q2 m30
          replace HL30 : Hid (g30 < Y2.heap.size) := Nat.lt_of_lt_of_le HL30.out q2.size
          refine ⟨_, rfl, r2, ?_⟩
          go_frame
          obtain ⟨Y3, g29, hw29, hg29, q3, m29⟩ := made_set Y2
          have HL29 : Hid (g29 < Y3.heap.size) := MapAt.lt m29
          have HX29 : Hid (X.heap.size ≤ g29) := (by show _ ≤ _; rw [← hg29]; exact r2.size)
          have HNE : Hid (g29 ≠ g30) := (by have := HL30.out; show _ ≠ _; omega)
          have r3 : Below X.heap.size X Y3 := below_new r2 q3
          replace m30 := MapV.belowG q3 m30
          replace HL30 : Hid (g30 < Y3.heap.size) := Nat.lt_of_lt_of_le HL30.out q3.size
          refine op_val (some 29) rfl rfl rfl (v := .map (some g29)) (w' := Y3) (by go_simp <;> first | exact ⟨hg29, hw29⟩ | exact hw29) ?_
          refine ⟨r3, ?_⟩
          go_frame
          refine op_val (some 31) rfl rfl rfl (v := .agg #[.pointer (some ⟨h.b, 0, none⟩), .int .i64 M.tx, .int .i64 M.root, .int .i64 M.ents, .int .i64 M.pgs, .int .i64 (max (M.pgs : Int) 2), .map none, .slice none 0 0, .int .i64 0, .map (some g29), .map (some g30), .bool false, .int .u32 0, .int .i32 0, .int .u32 0, .int .i64 0]) (w' := Y3) (by go_simp) ?_
          refine ⟨r3, ?_⟩
          go_frame
          obtain ⟨Y4, b, hw4, hb4, q4, hp4⟩ := box_pager Y3 #[.pointer (some ⟨h.b, 0, none⟩), .int .i64 M.tx, .int .i64 M.root, .int .i64 M.ents, .int .i64 M.pgs, .int .i64 (max (M.pgs : Int) 2), .map none, .slice none 0 0, .int .i64 0, .map (some g29), .map (some g30), .bool false, .int .u32 0, .int .i32 0, .int .u32 0, .int .i64 0]
          have r4 := below_new r3 q4
          refine op_val (some 32) rfl rfl rfl (v := .pointer (some ⟨b, 0, none⟩)) (w' := Y4) (by go_simp <;> first | exact ⟨hb4, hw4⟩ | exact hw4) ?_
          refine ⟨r4, ?_⟩
          go_frame
          refine op_val (some 2) rfl rfl rfl (v := .pointer (some ⟨b, 0, none⟩)) (w' := Y4) (by go_simp) ?_
          refine ⟨r4, ?_⟩
          go_frame
          refine op_val (some 3) rfl rfl rfl (v := .int .i64 0) (w' := Y4) (by go_simp) ?_
          refine ⟨r4, ?_⟩
          go_frame
          have HF : Hid (OpenOk w h M D2 Y4 b) := ⟨h2, g29, g30, HX.out.below r4, hp4, MapV.belowG q4 m29, MapV.belowG q4 m30, HNE.out, fun q => (by have := HX.out.at_.lt g29 q; have := HX29.out; omega), fun q => (by have := HX.out.at_.lt g30 q; have := HX30.out; omega), (by have := HX.out.keep.size; have := HX29.out; omega), (by have := HX.out.keep.size; have := HX30.out; omega), (by have := HX.out.keep.size; have := r3.size; omega)⟩
          refine then_normalG ?_
          go_at_K
          go_wp2_with fail
          go_ret2
          first | exact .inr ⟨b, rfl, HF.out⟩ | (rw [HS.out]; exact .inr ⟨b, rfl, HF.out⟩) | (refine .inr ⟨b, rfl, ?_⟩; have q := HS.out; rw [show D1.sync.2 = D2 by rw [q]]; exact HF.out)
        · obtain ⟨Y2, g29, hw29, hg29, q2, m29⟩ := made_set Y1
          have HL29 : Hid (g29 < Y2.heap.size) := MapAt.lt m29
          have HX29 : Hid (X.heap.size ≤ g29) := (by show _ ≤ _; rw [← hg29]; exact r1.size)
          have HNE : Hid (g29 ≠ g30) := (by have := HL30.out; show _ ≠ _; omega)
          have r2 : Below X.heap.size X Y2 := below_new r1 q2
          replace m30 := MapV.belowG q2 m30
          replace HL30 : Hid (g30 < Y2.heap.size) := Nat.lt_of_lt_of_le HL30.out q2.size
          refine op_val (some 29) rfl rfl rfl (v := .map (some g29)) (w' := Y2) (by go_simp <;> first | exact ⟨hg29, hw29⟩ | exact hw29) ?_
          refine ⟨r2, ?_⟩
          go_frame
          refine op_call (some 28) rfl rfl rfl (f := 33) (vs := #[.agg #[.int .i64 M.tx, .int .i64 M.root, .int .i64 M.ents, .int .i64 M.pgs]]) (by go_simp) ?_
          refine (gbehind_any M.tx M.root M.ents M.pgs _).mono ?_
          rintro e Y3 ⟨rfl, q3⟩
          have r3 : Below X.heap.size X Y3 := below_new r2 q3
          replace m30 := MapV.belowG q3 m30
          replace m29 := MapV.belowG q3 m29
          replace HL30 : Hid (g30 < Y3.heap.size) := Nat.lt_of_lt_of_le HL30.out q3.size
          replace HL29 : Hid (g29 < Y3.heap.size) := Nat.lt_of_lt_of_le HL29.out q3.size
          refine ⟨_, rfl, r3, ?_⟩
          go_frame
          refine op_val (some 31) rfl rfl rfl (v := .agg #[.pointer (some ⟨h.b, 0, none⟩), .int .i64 M.tx, .int .i64 M.root, .int .i64 M.ents, .int .i64 M.pgs, .int .i64 (max (M.pgs : Int) 2), .map none, .slice none 0 0, .int .i64 0, .map (some g29), .map (some g30), .bool false, .int .u32 0, .int .i32 0, .int .u32 0, .int .i64 0]) (w' := Y3) (by go_simp) ?_
          refine ⟨r3, ?_⟩
          go_frame
          obtain ⟨Y4, b, hw4, hb4, q4, hp4⟩ := box_pager Y3 #[.pointer (some ⟨h.b, 0, none⟩), .int .i64 M.tx, .int .i64 M.root, .int .i64 M.ents, .int .i64 M.pgs, .int .i64 (max (M.pgs : Int) 2), .map none, .slice none 0 0, .int .i64 0, .map (some g29), .map (some g30), .bool false, .int .u32 0, .int .i32 0, .int .u32 0, .int .i64 0]
          have r4 := below_new r3 q4
          refine op_val (some 32) rfl rfl rfl (v := .pointer (some ⟨b, 0, none⟩)) (w' := Y4) (by go_simp <;> first | exact ⟨hb4, hw4⟩ | exact hw4) ?_
          refine ⟨r4, ?_⟩
          go_frame
          refine op_val (some 2) rfl rfl rfl (v := .pointer (some ⟨b, 0, none⟩)) (w' := Y4) (by go_simp) ?_
          refine ⟨r4, ?_⟩
          go_frame
          refine op_val (some 3) rfl rfl rfl (v := .int .i64 0) (w' := Y4) (by go_simp) ?_
          refine ⟨r4, ?_⟩
          go_frame
          have HF : Hid (OpenOk w h M D2 Y4 b) := ⟨h2, g29, g30, HX.out.below r4, hp4, MapV.belowG q4 m29, MapV.belowG q4 m30, HNE.out, fun q => (by have := HX.out.at_.lt g29 q; have := HX29.out; omega), fun q => (by have := HX.out.at_.lt g30 q; have := HX30.out; omega), (by have := HX.out.keep.size; have := HX29.out; omega), (by have := HX.out.keep.size; have := HX30.out; omega), (by have := HX.out.keep.size; have := r3.size; omega)⟩
          refine then_normalG ?_
          go_at_K
          go_wp2_with fail
          go_ret2
          first | exact .inr ⟨b, rfl, HF.out⟩ | (rw [HS.out]; exact .inr ⟨b, rfl, HF.out⟩) | (refine .inr ⟨b, rfl, ?_⟩; have q := HS.out; rw [show D1.sync.2 = D2 by rw [q]]; exact HF.out)
    · have hei : (es != 0) = true := by simpa using hes
      have HE : Hid (es ≠ 0) := hes
      clear hes
      go_wp2_with fail
      go_ret2
      refine .inl ⟨es, ?_, HE.out, rfl⟩
      (try rw [HS.out])
      first | exact .inr ⟨rfl, rfl, h2, HX.out⟩ | exact .inr ⟨h2, HX.out⟩ | exact .inr ⟨rfl, h2, HX.out⟩
  · have hei : (er != 0) = true := by simpa using he
    have HE : Hid (er ≠ 0) := he
    have HD : Hid (Done w h W2 h1 D1) := hd2
    clear he hd1 hd2
    go_wp2_with fail
    go_ret2
    refine .inl ⟨er, ?_, HE.out, rfl⟩
    first | exact .inl ⟨rfl, h1, HD.out⟩ | exact .inl ⟨h1, HD.out⟩
end Go.Proofs.YtjklcnknbcmgoaaGreatDoor
