/-
  Texts of this claim, put together.
-/
import Derived.Test.YtjklcnknbcmgoaaGreatDoorGC
import Derived.Test.YtjklcnknbcmgoaaGreatDoorGTree
/-
  The meta that counts on a device.
-/
namespace Go.Proofs.YtjklcnknbcmgoaaGreatDoor
open Go Go.RowKit Go.Maps

theorem then_normalG {K : Act → World → Prop} {Q : Exit → Act → World → Prop} {a : Act} {w : World} (h : K a w) : Exit.then K Q .normal a w := h
theorem ldMeta {w : World} {b : Nat} {x0 x1 x2 x3 : Value} (h : Holds w b 43 #[x0, x1, x2, x3]) : (loadVar 43 ⟨b, 0, none⟩).run Tryz.prog w = .ok (.agg #[x0, x1, x2, x3]) w :=
  run_loadVar_row w b 43 43 #[x0, x1, x2, x3] (0, 0) _ h Tryz.underlying43 rfl infoMetaG
/-- What is found: the meta, the error, the device then. -/
noncomputable def foundP (D : Dev) : K.M4 × Int × Dev :=
  if (D.read 0).2.1 ≠ 0 then (K.zeroM, (D.read 0).2.1, (D.read 0).2.2)
  else if ((D.read 0).2.2.read 1).2.1 ≠ 0 then (K.zeroM, ((D.read 0).2.2.read 1).2.1, ((D.read 0).2.2.read 1).2.2)
  else if (D.read 0).1 = zeros ∧ ((D.read 0).2.2.read 1).1 = zeros then (⟨0, 0, 0, 2⟩, (((D.read 0).2.2.read 1).2.2.write 0 (K.metaS ⟨0, 0, 0, 2⟩)).1, (((D.read 0).2.2.read 1).2.2.write 0 (K.metaS ⟨0, 0, 0, 2⟩)).2)
  else (K.newM (K.newS (D.read 0).1 ((D.read 0).2.2.read 1).1), K.newE (K.newS (D.read 0).1 ((D.read 0).2.2.read 1).1), ((D.read 0).2.2.read 1).2.2)
theorem results_cellG {P : Program} {fn : Func} {p u : Tmp} {ty : TypeId} (h : fn.results = #[.cell p ty, .tmp u]) (tmps : Array Value) (w : World) (b : Nat) (t : TypeId) (cs : Array Value) (d : TypeDesc)
    (hp : tmps.getD p undef = .pointer (some ⟨b, 0, none⟩)) (hh : Holds w b t cs)
    (hu : P.underlying ty = some d) (hd : d.isRow = true) (hi : (P.info? ty).map (·.size) = some cs.size) : (results fn tmps).run P w = .ok (.tuple #[.agg cs, tmps.getD u undef]) w := by
  have hr := run_loadVar_row w b t ty cs (0, 0) d hh hu (by cases d <;> simp_all) hi
  rw [results_cell_tmp h, hp]
  simp [asAddr, hr]
theorem done_only {w w1 w2 : World} {h h1 : Hd} {D1 : Dev} {g : Nat} (d : Done w h w1 h1 D1) (o : Only g w1 w2) (hg : w.heap.size ≤ g) (hb : ¬ Blk h1 g) : Done w h w2 h1 D1 :=
  ⟨d.at_.keep (S := fun k => k = g) (Keep.only o rfl) (fun _ hk e => hb (e ▸ hk)), d.newer, d.keep.trans (Keep.only (S := fun k => k = g) o rfl) (fun _ e => Or.inr (e ▸ hg)), d.fo⟩
section
variable {w : World} {h : Hd} {D : Dev}
theorem MapAt.noCellsG {α : Type} {F : Value → Option (DataW Unit × List MemPlace)} {enc : α → DataW Unit} {m n : Nat} {M : Int → Option α} (a : MapAt F enc w m n M) : ∀ cur t f, w.heap[m]? ≠ some (.cells cur t f) := fun cur t f q => by
  obtain ⟨D, ⟨es, clock, hm, _⟩, _⟩ := a
  rw [hm] at q
  cases q
/-- What stands in a device's blocks. -/
theorem DiskAt.objG (a : DiskAt w h D) {k : Nat} (hk : Blk h k) : ∀ cur t f, w.heap[k]? = some (.cells cur t f) → t = 64 ∨ t = 94 := fun cur t f q => by
  rcases hk with rfl | hk | hk | hk
  · have := a.ptr
    unfold Holds at this
    rw [this] at q
    injection q with q
    injection q with _ q
    exact .inl q.symm
  · have := a.pages
    rw [hk] at this
    exact absurd q (MapAt.noCellsG this cur t f)
  · obtain ⟨n, this⟩ := a.fails
    rw [hk] at this
    exact absurd q (MapAt.noCellsG this cur t f)
  · rcases a.writes with ⟨e, _⟩ | ⟨g, cap, c2, e, hg, _⟩
    · rw [e] at hk; cases hk
    · rw [e] at hk
      have : g = k := by simpa [Value.ownBlock] using hk
      subst this
      rw [hg] at q
      injection q with q
      injection q with _ q
      exact .inr q.symm
theorem DiskAt.notIn (a : DiskAt w h D) {g : Nat} {t : TypeId} {cs : Array Value} (hh : Holds w g t cs) (h1 : t ≠ 64) (h2 : t ≠ 94) : ¬ Blk h g := fun q => by
  rcases a.objG q _ _ _ hh with e | e
  · exact h1 e
  · exact h2 e
end
theorem zeroA : K.m4A K.zeroM = #[.int .i64 0, .int .i64 0, .int .i64 0, .int .i64 0] := rfl
set_option maxRecDepth 8000 in
set_option maxHeartbeats 2000000 in
theorem gfound_any {w : World} {h : Hd} {D : Dev} (a : DiskAt w h D) {N : Nat} (ok : D.ok N) (hN : N + 3 < 1000000000) (hT : K.Tabs w) (hF : ∀ k, Foot h k → 4 ≤ k) (hs0 : (D.read 0).1.size ≤ 9223372036854775807) (hs1 : ((D.read 0).2.2.read 1).1.size ≤ 9223372036854775807) :
    Calls Tryz.prog 31 #[.pointer (some ⟨h.b, 0, none⟩)] w fun e w' => e = .returned (.tuple #[.agg (K.m4A (foundP D).1), .int .i64 (foundP D).2.1]) ∧ ∃ h', Done w h w' h' (foundP D).2.2 := by
  obtain ⟨W0, hW0⟩ : ∃ W0, w.alloc (.cells #[.int .i64 0, .int .i64 0, .int .i64 0, .int .i64 0] 43) = W0 := ⟨_, rfl⟩
  obtain ⟨g, hg⟩ : ∃ g, w.heap.size = g := ⟨_, rfl⟩
  have hh := Holds.new w 43 #[.int .i64 0, .int .i64 0, .int .i64 0, .int .i64 0]
  have hB0 : Below w.heap.size w W0 := by rw [← hW0]; exact below_new1 _ _
  rw [hW0, hg] at hh
  have a0 := a.below hB0
  have hgB0 : ¬ Blk h g := fun q => by have := a.lt g q; omega
  have hgF : ¬ Foot h g := fun q => hgB0 q.blk
  have hrd := read_any a0 ok (by omega) 0 (by omega)
  have ok1 := read_ok ok 0
  have ok2 := read_ok ok1 1
  have hT0 := hT.below hB0
  have HB0 : Hid (Below w.heap.size w W0 ∧ w.heap.size = g) := ⟨hB0, hg⟩
  have hsZ := fun W => Tryz.strings_Repeat ⟨#[0]⟩ 1024 W (by omega) (by decide)
  rw [show (⟨#[0]⟩ : ByteArray).data.toList = [0] from rfl, repeat_zeros] at hsZ
  unfold foundP zeros
  obtain ⟨⟨t0, e0, D1⟩, hR⟩ : ∃ R, D.read 0 = R := ⟨_, rfl⟩
  rw [hR] at hrd ok1 ok2 hs0 hs1 ⊢
  dsimp only at hrd ok1 ok2 hs0 hs1 ⊢
  obtain ⟨Z, hZ⟩ : ∃ Z, fillOf 1024 0 = Z := ⟨_, rfl⟩
  rw [hZ] at hsZ ⊢
  clear hR hZ hB0 a
  by_cases he0 : e0 = 0
  · rw [if_neg (by simpa using he0)]
    subst he0
    have hrd1 := fun w1 (hd1 : Done W0 h w1 h D1) => read_any hd1.at_ ok1 (by omega) 1 (by omega)
    obtain ⟨⟨t1, e1, D2⟩, hR1⟩ : ∃ R, D1.read 1 = R := ⟨_, rfl⟩
    rw [hR1] at hrd1 ok2 hs1 ⊢
    dsimp only at hrd1 ok2 hs1 ⊢
    clear hR1
    by_cases he1 : e1 = 0
    · rw [if_neg (by simpa using he1)]
      subst he1
      by_cases hz : t0 = Z ∧ t1 = Z
      · rw [if_pos hz]
        obtain ⟨hz0, hz1⟩ := hz
        subst hz0
        subst hz1
        go_enter Tryz.func31, Tryz.ntmps31
        go_wp2_with fail
        refine hrd.mono ?_
        rintro e w1 ⟨rfl, hd1⟩
        have hh1 := hd1.keep.holds hh hgF
        replace hrd1 := hrd1 w1 hd1
        clear hrd hh
        go_wp2_with fail
        refine hrd1.mono ?_
        rintro e w2 ⟨rfl, hd2⟩
        have hh2 := hd2.keep.holds hh1 hgF
        have hT2 := tabs_keep hT0 (hd1.trans hd2).keep hF
        have HD2 : Hid (Done w h w2 h D2) := Done.ahead HB0.out.1 (hd1.trans hd2)
        clear hrd1 hh1 hd1 hd2
        go_wp2_with fail
        refine (hsZ _).mono ?_
        rintro e w3 ⟨rfl, hB3⟩
        have hh3 := below_holds hB3 hh2
        have hT3 := hT2.below hB3
        have HD3 : Hid (Done w h w3 h D2) := HD2.out.below hB3
        clear hsZ hB3 hh2 hT2 HD2
        have hzt : (t1.toList == t1.toList) = true := by simp
        obtain ⟨W5, hW5⟩ : ∃ W5, w3.alloc (.cells #[.int .i64 0, .int .i64 0, .int .i64 0, .int .i64 2] 43) = W5 := ⟨_, rfl⟩
        obtain ⟨g8, hg8⟩ : ∃ g8, w3.heap.size = g8 := ⟨_, rfl⟩
        have hB5 : Below w3.heap.size w3 W5 := by rw [← hW5]; exact below_new1 _ _
        have hh9 := Holds.new w3 43 #[.int .i64 0, .int .i64 0, .int .i64 0, .int .i64 2]
        rw [hW5, hg8] at hh9
        have hh5 := below_holds hB5 hh3
        have HD5 : Hid (Done w h W5 h D2) := HD3.out.below hB5
        have hT5 := hT3.below hB5
        have hg3 : g < w3.heap.size := hh3.lt
        have h8B : ¬ Foot h g8 := fun q => by have := HD3.out.at_.lt g8 q.blk; omega
        clear hB5 hh3 hT3
        go_wp2_with fail
        have h8g : g8 ≠ g := by omega
        refine wp_region_tree (fun W => Holds W g8 43 #[.int .i64 0, .int .i64 0, .int .i64 0, .int .i64 2]) [0, 1, 2] (.one 3 (.one 4 (.one 5 .nil))) mixedP (by kernel_rfl) rfl (by kernel_rfl) (fun _ _ _ d _ h => by cases d <;> exact h) hh9.drew ?_
        refine tk_ld (some 39) rfl rfl rfl _ _ rfl rfl (fun W hW => ldMeta hW) ?_
        go_frame
        refine tk_val (some 40) rfl rfl rfl (.pointer (some ⟨h.b, 0, none⟩)) (fun _ => by go_simp) ?_
        go_frame
        refine tk_ld (some 41) rfl rfl rfl _ _ rfl rfl (fun W hW => ldMeta hW) ?_
        go_frame
        refine tk_nil ?_
        have hwm := gwm_any HD5.out.at_.drew ok2 (by omega) ⟨0, 0, 0, 2⟩ (by unfold K.M4.small; simp) (hT5.below (w' := W5.drew) (Below.refl _ _).drew)
        have hsl : slotOf (⟨0, 0, 0, 2⟩ : K.M4).tx = 0 := by unfold slotOf; simp
        rw [hsl] at hwm
        refine op_call (some 42) rfl rfl rfl (f := 52) (vs := #[.pointer (some ⟨h.b, 0, none⟩), .agg #[.int .i64 0, .int .i64 0, .int .i64 0, .int .i64 2]]) (by go_simp) ?_
        refine Calls.mono hwm ?_
        rintro e w6 ⟨rfl, h', hd6⟩
        have hk8 := hd6.keep.holds hh9.drew h8B
        have hkg := hd6.keep.holds hh5.drew hgF
        refine ⟨_, rfl, hk8, ?_⟩
        go_frame
        refine op_storeH none rfl rfl rfl 43 _ _ rfl g _ rfl rfl 43 _ hkg infoMetaG rfl (by simp [Value.oneCell']) ?_
        intro w7 hH7 hO7 hs7
        have hk87 := hO7.holds hk8 h8g
        refine ⟨hk87, ?_⟩
        go_frame
        refine op_val (some 3) rfl rfl rfl (v := .int .i64 (D2.write 0 (K.metaS ⟨0, 0, 0, 2⟩)).1) (w' := w7) (by go_simp) ?_
        refine ⟨hk87, ?_⟩
        go_frame
        have HD7 : Hid (Done w h w7 h' (D2.write 0 (K.metaS ⟨0, 0, 0, 2⟩)).2) := done_only (HD5.out.trans (Done.ahead (Below.refl _ _).drew hd6)) hO7 (Nat.le_of_eq HB0.out.2) (hd6.at_.notIn hkg (by decide) (by decide))
        clear hd6 hk8 hkg hk87 hwm
        refine then_normalG ?_
        go_at_K
        go_wp2_with fail
        refine bodyPost_ret (results_cellG (p := 2) (u := 3) rfl _ w7 g 43 _ _ rfl hH7 Tryz.underlying43 rfl infoMetaG) rfl ?_
        exact ⟨rfl, h', HD7.out⟩
      · rw [if_neg hz]
        have hnw := fun w2 (hT2 : K.Tabs w2) => K.newest_any t0 t1 w2 hT2 hs0 hs1
        obtain ⟨M, hM⟩ : ∃ M, K.newM (K.newS t0 t1) = M := ⟨_, rfl⟩
        obtain ⟨E, hE⟩ : ∃ E, K.newE (K.newS t0 t1) = E := ⟨_, rfl⟩
        obtain ⟨A, hA⟩ : ∃ A, K.newA (K.newS t0 t1) = A := ⟨_, rfl⟩
        rw [hM, hE, hA] at hnw
        rw [hM, hE]
        unfold K.m4A at hnw ⊢
        have hzz : ((t0.toList == Z.toList) && (t1.toList == Z.toList)) = false := by
          rw [Bool.and_eq_false_iff]
          by_cases q : t0 = Z
          · exact Or.inr (beq_eq_false_iff_ne.2 fun e => hz ⟨q, ByteArray.ext (Array.toList_inj.mp (by rw [ByteArray.toList_eq, ByteArray.toList_eq] at e; exact e))⟩)
          · exact Or.inl (beq_eq_false_iff_ne.2 fun e => q (ByteArray.ext (Array.toList_inj.mp (by rw [ByteArray.toList_eq, ByteArray.toList_eq] at e; exact e))))
        clear hM hE hA hz
        go_enter Tryz.func31, Tryz.ntmps31
        go_wp2_with fail
        refine hrd.mono ?_
        rintro e w1 ⟨rfl, hd1⟩
        have hh1 := hd1.keep.holds hh hgF
        replace hrd1 := hrd1 w1 hd1
        clear hrd hh
        go_wp2_with fail
        refine hrd1.mono ?_
        rintro e w2 ⟨rfl, hd2⟩
        have hh2 := hd2.keep.holds hh1 hgF
        have hT2 := tabs_keep hT0 (hd1.trans hd2).keep hF
        have HD2 : Hid (Done w h w2 h D2) := Done.ahead HB0.out.1 (hd1.trans hd2)
        clear hrd1 hh1 hd1 hd2
        go_wp2_with fail
        refine (hsZ _).mono ?_
        rintro e w3 ⟨rfl, hB3⟩
        have hh3 := below_holds hB3 hh2
        have hT3 := hT2.below hB3
        have HD3 : Hid (Done w h w3 h D2) := HD2.out.below hB3
        clear hsZ hB3 hh2 hT2 HD2
        replace hnw := hnw w3 hT3
        clear hT3
        cases q0 : (t0.toList == Z.toList) with
        | false =>
          clear hzz
          go_wp2_with fail
          refine hnw.mono ?_
          rintro e w4 ⟨rfl, hB4⟩
          obtain ⟨W5, hW5⟩ : ∃ W5, w4.alloc (.cells #[.int .i64 M.tx, .int .i64 M.root, .int .i64 M.ents, .int .i64 M.pgs] 43) = W5 := ⟨_, rfl⟩
          obtain ⟨g9, hg9⟩ : ∃ g9, w4.heap.size = g9 := ⟨_, rfl⟩
          have hB5 : Below w4.heap.size w4 W5 := by rw [← hW5]; exact below_new1 _ _
          have hh9 := Holds.new w4 43 #[.int .i64 M.tx, .int .i64 M.root, .int .i64 M.ents, .int .i64 M.pgs]
          rw [hW5, hg9] at hh9
          have d0 : W5.cell? ⟨g9, 0, none⟩ = some (.int .i64 M.tx) := hh9.cell 0
          have d1 : W5.cell? ⟨g9, 1, none⟩ = some (.int .i64 M.root) := hh9.cell 1
          have d2 : W5.cell? ⟨g9, 2, none⟩ = some (.int .i64 M.ents) := hh9.cell 2
          have d3 : W5.cell? ⟨g9, 3, none⟩ = some (.int .i64 M.pgs) := hh9.cell 3
          have hh5 := below_holds hB5 (below_holds hB4 hh3)
          have HD5 : Hid (Done w h W5 h D2) := (HD3.out.below hB4).below hB5
          clear hnw hB4 hB5 hh9 hh3
          go_wp2_with ((with_reducible show wpList _ _ _ (Oper.mk _ (Op.store _ (Operand.tmp 2) _) _ _ _ _ :: _) _ _); go_must (refine wpList_storeH rfl 43 _ _ rfl g #[.int .i64 M.tx, .int .i64 M.root, .int .i64 M.ents, .int .i64 M.pgs] rfl rfl 43 #[.int .i64 0, .int .i64 0, .int .i64 0, .int .i64 0] hh5 infoMetaG rfl (by simp [Value.oneCell']) ?_; intro w7 hH hO hs7))
          refine bodyPost_ret (results_cellG (p := 2) (u := 3) rfl _ w7 g 43 _ _ rfl hH Tryz.underlying43 rfl infoMetaG) rfl ?_
          exact ⟨rfl, h, done_only HD5.out hO (Nat.le_of_eq HB0.out.2) hgB0⟩
        | true =>
          have q1 : (t1.toList == Z.toList) = false := by rw [q0] at hzz; simpa using hzz
          clear hzz
          go_wp2_with fail
          refine hnw.mono ?_
          rintro e w4 ⟨rfl, hB4⟩
          obtain ⟨W5, hW5⟩ : ∃ W5, w4.alloc (.cells #[.int .i64 M.tx, .int .i64 M.root, .int .i64 M.ents, .int .i64 M.pgs] 43) = W5 := ⟨_, rfl⟩
          obtain ⟨g9, hg9⟩ : ∃ g9, w4.heap.size = g9 := ⟨_, rfl⟩
          have hB5 : Below w4.heap.size w4 W5 := by rw [← hW5]; exact below_new1 _ _
          have hh9 := Holds.new w4 43 #[.int .i64 M.tx, .int .i64 M.root, .int .i64 M.ents, .int .i64 M.pgs]
          rw [hW5, hg9] at hh9
          have d0 : W5.cell? ⟨g9, 0, none⟩ = some (.int .i64 M.tx) := hh9.cell 0
          have d1 : W5.cell? ⟨g9, 1, none⟩ = some (.int .i64 M.root) := hh9.cell 1
          have d2 : W5.cell? ⟨g9, 2, none⟩ = some (.int .i64 M.ents) := hh9.cell 2
          have d3 : W5.cell? ⟨g9, 3, none⟩ = some (.int .i64 M.pgs) := hh9.cell 3
          have hh5 := below_holds hB5 (below_holds hB4 hh3)
          have HD5 : Hid (Done w h W5 h D2) := (HD3.out.below hB4).below hB5
          clear hnw hB4 hB5 hh9 hh3
          go_wp2_with ((with_reducible show wpList _ _ _ (Oper.mk _ (Op.store _ (Operand.tmp 2) _) _ _ _ _ :: _) _ _); go_must (refine wpList_storeH rfl 43 _ _ rfl g #[.int .i64 M.tx, .int .i64 M.root, .int .i64 M.ents, .int .i64 M.pgs] rfl rfl 43 #[.int .i64 0, .int .i64 0, .int .i64 0, .int .i64 0] hh5 infoMetaG rfl (by simp [Value.oneCell']) ?_; intro w7 hH hO hs7))
          refine bodyPost_ret (results_cellG (p := 2) (u := 3) rfl _ w7 g 43 _ _ rfl hH Tryz.underlying43 rfl infoMetaG) rfl ?_
          exact ⟨rfl, h, done_only HD5.out hO (Nat.le_of_eq HB0.out.2) hgB0⟩
    · rw [if_pos he1]
      have hei : (e1 != 0) = true := by simpa using he1
      rw [zeroA]
      clear he1
      go_enter Tryz.func31, Tryz.ntmps31
      go_wp2_with fail
      refine hrd.mono ?_
      rintro e w1 ⟨rfl, hd1⟩
      have hh1 := hd1.keep.holds hh hgF
      replace hrd1 := hrd1 w1 hd1
      clear hrd hh
      go_wp2_with fail
      refine hrd1.mono ?_
      rintro e w2 ⟨rfl, hd2⟩
      have hh2 := hd2.keep.holds hh1 hgF
      have HD : Hid (Done w h w2 h D2) := Done.ahead HB0.out.1 (hd1.trans hd2)
      clear hrd1 hh1 hd1 hd2
      go_wp2_with ((with_reducible show wpList _ _ _ (Oper.mk _ (Op.store _ (Operand.tmp 2) _) _ _ _ _ :: _) _ _); go_must (refine wpList_storeH rfl 43 _ _ rfl g #[.int .i64 0, .int .i64 0, .int .i64 0, .int .i64 0] rfl rfl 43 #[.int .i64 0, .int .i64 0, .int .i64 0, .int .i64 0] hh2 infoMetaG rfl (by simp [Value.oneCell']) ?_; intro w5 hH hO hs5))
      refine bodyPost_ret (results_cellG (p := 2) (u := 3) rfl _ w5 g 43 _ _ rfl hH Tryz.underlying43 rfl infoMetaG) rfl ?_
      exact ⟨rfl, h, done_only HD.out hO (Nat.le_of_eq HB0.out.2) hgB0⟩
  · rw [if_pos he0]
    have hei : (e0 != 0) = true := by simpa using he0
    rw [zeroA]
    clear he0
    go_enter Tryz.func31, Tryz.ntmps31
    go_wp2_with fail
    refine hrd.mono ?_
    rintro e w1 ⟨rfl, hd1⟩
    have hh1 := hd1.keep.holds hh hgF
    have HD : Hid (Done w h w1 h D1) := Done.ahead HB0.out.1 hd1
    clear hrd hh hd1
    go_wp2_with ((with_reducible show wpList _ _ _ (Oper.mk _ (Op.store _ (Operand.tmp 2) _) _ _ _ _ :: _) _ _); go_must (refine wpList_storeH rfl 43 _ _ rfl g #[.int .i64 0, .int .i64 0, .int .i64 0, .int .i64 0] rfl rfl 43 #[.int .i64 0, .int .i64 0, .int .i64 0, .int .i64 0] hh1 infoMetaG rfl (by simp [Value.oneCell']) ?_; intro w5 hH hO hs5))
    refine bodyPost_ret (results_cellG (p := 2) (u := 3) rfl _ w5 g 43 _ _ rfl hH Tryz.underlying43 rfl infoMetaG) rfl ?_
    exact ⟨rfl, h, done_only HD.out hO (Nat.le_of_eq HB0.out.2) hgB0⟩
end Go.Proofs.YtjklcnknbcmgoaaGreatDoor
/-
  The first call that is too late for Use; a device that is too small.
-/
namespace Go.Proofs.YtjklcnknbcmgoaaGreatDoor
open Go Go.RowKit

theorem gopen_small {w : World} {h : Hd} {D : Dev} (a : DiskAt w h D) (hs : D.size < 2) : Calls Tryz.prog 10 #[.pointer (some ⟨h.b, 0, none⟩)] w fun e w' => e = .returned (.tuple #[.pointer none, .int .i64 16]) ∧ w' = w := by
  have hq := ptr_eql
  have hp := pages_any a
  go_enter Tryz.func10, Tryz.ntmps10
  go_wp2_with fail
  refine hp.mono ?_
  rintro e w' ⟨rfl, rfl⟩
  go_wp2_with fail
  go_ret2
  exact ⟨rfl, rfl⟩
theorem noop_any (w : World) : Calls Tryz.prog 65 #[] w fun e w' => e = .returned (.tuple #[]) ∧ w' = w := by
  go_enter Tryz.func65, Tryz.ntmps65
  go_wp2_with fail
  go_end0
  exact ⟨rfl, rfl⟩
set_option maxRecDepth 8000 in
theorem gbegin_first {w : World} {b : Nat} {h : Pgh} {P : Pgr} (hp : PgCells w b h P) (hu : P.used = false) : Calls Tryz.prog 39 #[.pointer (some ⟨b, 0, none⟩)] w fun e w' => e = .returned (.tuple #[]) ∧ PgCells w' b h { P with used := true } ∧ Only b w w' := by
  have hp0 : Holds w b 89 (pgCells h P) := hp
  have c12 : w.cell? ⟨b, 12, none⟩ = some (.int .u32 0) := by have := hp0.cell 12; rw [this]; simp [pgCells, hu]
  have c13 : w.cell? ⟨b, 12 + 1, none⟩ = some (.int .i32 0) := hp0.cell 13
  have hp1 : Holds (w.setCell ⟨b, 13, none⟩ (.int .i32 1)) b 89 ((pgCells h P).setIfInBounds 13 (.int .i32 1)) := hp0.set 13 _
  have hd := do_begin b 12 w (fun w2 => w2 = w.setCell ⟨b, 13, none⟩ (.int .i32 1)) c12 c13 (hp0.frozen 13) ((noop_any _).mono fun e w' q => q) (fun w2 q => by
    subst q
    refine ⟨⟨?_, ?_⟩, hp1.frozen 12, hp1.frozen 13⟩
    · rw [hp1.cell 12]; simp [pgCells, hu]
    · rw [hp1.cell 13]; simp [pgCells])
  go_enter Tryz.func39, Tryz.ntmps39
  go_wp2_with fail
  refine hd.mono ?_
  rintro e w' ⟨rfl, w2, rfl, rfl⟩
  have HF : Hid (PgCells (((w.setCell ⟨b, 13, none⟩ (.int .i32 1)).drew.setCell ⟨b, 12, none⟩ (.int .u32 1)).setCell ⟨b, 12 + 1, none⟩ (.int .i32 0)) b h { P with used := true } ∧ Only b w (((w.setCell ⟨b, 13, none⟩ (.int .i32 1)).drew.setCell ⟨b, 12, none⟩ (.int .u32 1)).setCell ⟨b, 12 + 1, none⟩ (.int .i32 0))) := by
    refine ⟨?_, ((((Only.refl b w).set 13 _).drew).set 12 _).set 13 _⟩
    have q : Holds (((w.setCell ⟨b, 13, none⟩ (.int .i32 1)).drew.setCell ⟨b, 12, none⟩ (.int .u32 1)).setCell ⟨b, 12 + 1, none⟩ (.int .i32 0)) b 89 ((((pgCells h P).setIfInBounds 13 (.int .i32 1)).setIfInBounds 12 (.int .u32 1)).setIfInBounds 13 (.int .i32 0)) := (hp1.drew.set 12 _).set 13 _
    have e : (((pgCells h P).setIfInBounds 13 (.int .i32 1)).setIfInBounds 12 (.int .u32 1)).setIfInBounds 13 (.int .i32 0) = pgCells h { P with used := true } := by simp [pgCells]
    rw [e] at q
    exact q
  clear hd
  go_wp2_with fail
  go_end0
  exact ⟨rfl, HF.out⟩
end Go.Proofs.YtjklcnknbcmgoaaGreatDoor
