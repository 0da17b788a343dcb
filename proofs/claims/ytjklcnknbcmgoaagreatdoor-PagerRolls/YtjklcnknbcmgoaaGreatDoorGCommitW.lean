/-
  A pager's Commit, that goes through.
-/
import Derived.Test.YtjklcnknbcmgoaaGreatDoorGJ
namespace Go.Proofs.YtjklcnknbcmgoaaGreatDoor
open Go Go.RowKit Go.Maps

theorem PgAt.notIter {w : World} {b : Nat} {H : Hs} {S : St} (a : PgAt w b H S) {r : Nat} (hr : ∃ x y z u, w.heap[r]? = some (.mapIter x y z u)) : ¬ PgBlk b H r := by
  obtain ⟨x, y, z, u, hr⟩ := hr
  have nC : ∀ {t : TypeId} {cs : Array Value}, ¬ Holds w r t cs := fun h => by unfold Holds at h; rw [hr] at h; cases h
  have nM : ∀ {α : Type} {R : Value → Option (DataW Unit × List MemPlace)} {enc : α → DataW Unit} {n : Nat} {M : Int → Option α}, ¬ MapAt R enc w r n M := fun h => by obtain ⟨es, cl, hc⟩ := h.obj; rw [hr] at hc; cases hc
  rintro (q | q | q | q | q | q)
  · subst q; exact nC a.cells
  · have := a.sp.map
    rw [q] at this
    exact nM this
  · obtain ⟨cur, hc⟩ := a.sp.row.obj r q
    exact nC hc
  · subst q; exact nM a.fresh
  · subst q; exact nM a.freed
  · rcases q with q | q | q | q
    · subst q; exact nC a.disk.ptr
    · have := a.disk.pages
      rw [q] at this
      exact nM this
    · obtain ⟨n, hf⟩ := a.disk.fails
      rw [q] at hf
      exact nM hf
    · obtain ⟨cur, hc⟩ := a.disk.writes.obj r q
      exact nC hc
theorem PgAt.recount {w : World} {b : Nat} {H : Hs} {S : St} (a : PgAt w b H S) : PgAt w b H { S with P := { S.P with count := totR S.L } } := by
  have h := a.sp.cnt
  have : ({ S with P := { S.P with count := totR S.L } } : St) = S := by rw [← h]
  rw [this]
  exact a
theorem RangS.only {w w' : World} {r m : Nat} {M : Int → Option Unit} {lf : Int → Bool} {cnt : Nat} (h : RangS w r m M lf cnt) (hm : m < w.heap.size) {K : Nat → Prop} (hk : Keep K w w') (h1 : ¬ K r) (h2 : ¬ K m) : RangS w' r m M lf cnt := h.block (hk.block r h.lt h1) (hk.block m hm h2)
/-- The pages of a set are put among the spare ones, one by one: on its way. -/
structure CInv (b r : Nat) (w5 : World) (H5 : Hs) (S5 : St) (m : Nat) (F : Int → Option Unit) (ok : Int → Prop) (wr : World) (lf : Int → Bool) (ct : Nat) (H' : Hs) (L' : Runs) : Prop where
  rang : RangS wr r m F lf ct
  at_ : PgAt wr b H' { S5 with P := { S5.P with count := totR L' }, L := L' }
  done : PgDone w5 b H5 wr H'
  hfr : H'.h.freed = H5.h.freed ∧ H'.h.fresh = H5.h.fresh
  mem : ∀ q, q ∈ L' ↔ q ∈ S5.L ∨ ∃ n, (F n).isSome = true ∧ ok n ∧ lf n = false ∧ q = (n, n + 1)
/-- The meta of the next commit. -/
def nextM (S : St) (root ents : Nat) : K.M4 := ⟨S.P.tx.toNat + 1, root, ents, S.P.stop.toNat⟩
theorem ldPP {w : World} {ad : Addr} {p : Option Addr} (h : w.cell? ad = some (.pointer p)) : (loadVar 26 ad).run Tryz.prog w = .ok (.pointer p) w := by simp [go_sem, h]
theorem set4 (h : Pgh) (P : Pgr) (x0 x1 x2 x3 : Int) : ((((pgCells h P).setIfInBounds 1 (.int .i64 x0)).setIfInBounds 2 (.int .i64 x1)).setIfInBounds 3 (.int .i64 x2)).setIfInBounds 4 (.int .i64 x3) = pgCells h { P with tx := x0, root := x1, entries := x2, pages := x3 } := rfl
set_option maxRecDepth 8000 in
set_option maxHeartbeats 2000000 in
theorem gcommit_ok {w : World} {b : Nat} {H : Hs} {S : St} (a : PgAt w b H S) (hT : K.Tabs w) (hfoot : ∀ k, PgFoot b H k → 4 ≤ k) (hbr : S.P.broken = false) (root ents : Nat) (hre : root < 1000000000000 ∧ ents < 1000000000000) (htx : 0 ≤ S.P.tx ∧ S.P.tx < 1000000000000) (hst : 0 ≤ S.P.stop ∧ S.P.stop ≤ topPg)
    (hfd : ∀ u x, S.Fd u = some x → 0 ≤ u ∧ u < topPg ∧ ¬ inR S.L u) {N : Nat} (ok : S.D.ok N) (hN : N + 3 < 1000000000)
    (hs1 : S.D.sync.1 = 0) (hw1 : (S.D.sync.2.write (slotOf (nextM S root ents).tx) (K.metaS (nextM S root ents))).1 = 0) (hs2 : (S.D.sync.2.write (slotOf (nextM S root ents).tx) (K.metaS (nextM S root ents))).2.sync.1 = 0) :
    Calls Tryz.prog 25 #[.pointer (some ⟨b, 0, none⟩), .int .i64 (root : Nat), .int .i64 (ents : Nat)] w fun e w' => e = .returned (.int .i64 0) ∧ ∃ H' L', PgAt w' b H' ⟨{ S.P with used := true, tx := S.P.tx + 1, root := root, entries := ents, pages := S.P.stop, count := totR L' }, L', fun _ => none, fun _ => none, (S.D.sync.2.write (slotOf (nextM S root ents).tx) (K.metaS (nextM S root ents))).2.sync.2⟩ ∧ PgDone w b H w' H' ∧ (∀ q, q ∈ L' ↔ q ∈ S.L ∨ ∃ n, (S.Fd n).isSome = true ∧ q = (n, n + 1)) := by
  have hq := pg_eql
  obtain ⟨hre1, hre2⟩ := hre
  obtain ⟨htx1, htx2⟩ := htx
  obtain ⟨hst1, hst2⟩ := hst
  unfold topPg at hst2
  obtain ⟨m, hm⟩ : ∃ m, nextM S root ents = m := ⟨_, rfl⟩
  rw [hm] at hw1 hs2 ⊢
  have hmA : K.m4A m = #[.int .i64 (S.P.tx + 1), .int .i64 root, .int .i64 ents, .int .i64 S.P.stop] := by
    rw [← hm]
    unfold K.m4A nextM
    have e1 : ((S.P.tx.toNat + 1 : Nat) : Int) = S.P.tx + 1 := by omega
    have e2 : ((S.P.stop.toNat : Nat) : Int) = S.P.stop := by omega
    dsimp only
    rw [e1, e2]
  have hms : m.small := by
    rw [← hm]
    unfold K.M4.small nextM
    dsimp only
    omega
  obtain ⟨D1, hD1⟩ : ∃ D1, S.D.sync.2 = D1 := ⟨_, rfl⟩
  have ok1 : D1.ok (N + 1) := by rw [← hD1]; exact sync_ok ok
  rw [hD1] at hw1 hs2 ⊢
  obtain ⟨D2, hD2⟩ : ∃ D2, (D1.write (slotOf m.tx) (K.metaS m)).2 = D2 := ⟨_, rfl⟩
  have ok2 : D2.ok (N + 2) := by rw [← hD2]; exact write_ok ok1 _ _
  rw [hD2] at hs2 ⊢
  obtain ⟨D3, hD3⟩ : ∃ D3, D2.sync.2 = D3 := ⟨_, rfl⟩
  rw [hD3]
  obtain ⟨bp, hbp⟩ : ∃ bp, w.heap.size = bp := ⟨_, rfl⟩
  obtain ⟨W1, hW1⟩ : ∃ W1, w.alloc (.cells #[.pointer (some ⟨b, 0, none⟩)] 26) = W1 := ⟨_, rfl⟩
  have hB1 : Below w.heap.size w W1 := by rw [← hW1]; exact below_new1 _ _
  have hp1 : Holds W1 bp 26 #[.pointer (some ⟨b, 0, none⟩)] := by rw [← hW1, ← hbp]; exact Holds.new _ _ _
  have hT1 := hT.below hB1
  have a1 := a.below hB1
  have nbp : ¬ PgFoot b H bp := fun h => by have := a.lt _ h.blk; omega
  have c1p : W1.cell? ⟨bp, 0, none⟩ = some (.pointer (some ⟨b, 0, none⟩)) := hp1.cell 0
  have hbg := gbegin_any a1
  have HW : Hid (PgDone w b H W1 H) := PgDone.below hB1
  have hr0 : ¬ (root : Int) < 0 := by omega
  have he0 : ¬ (ents : Int) < 0 := by omega
  go_enter Tryz.func25, Tryz.ntmps25
  go_wp2_with fail
  refine hbg.mono ?_
  rintro e w2 ⟨rfl, a2, d2⟩
  have hp2 := d2.keep.holds hp1 nbp
  have hT2 := tabs_keep hT1 d2.keep hfoot
  have c2p : w2.cell? ⟨bp, 0, none⟩ = some (.pointer (some ⟨b, 0, none⟩)) := hp2.cell 0
  have c2b : w2.cell? ⟨b, 11, none⟩ = some (.bool false) := by have := a2.cells.cell 11; rw [this]; show some (Value.bool S.P.broken) = _; rw [hbr]
  have HD2 : Hid (PgDone w b H w2 H) := HW.out.trans d2
  clear hbg a1 hB1 hp1 hT1 d2 c1p
  have c2t : w2.cell? ⟨b, 1, none⟩ = some (.int .i64 S.P.tx) := a2.cells.cell 1
  have c2s : w2.cell? ⟨b, 5, none⟩ = some (.int .i64 S.P.stop) := a2.cells.cell 5
  have hwr : IntKind.i64.wrap (S.P.tx + 1) = S.P.tx + 1 := IntWalk.i64_in _ (by omega)
  go_wp2_with fail
  refine wp_region_tree (fun W => Below w2.heap.size w2 W) [0, 1, 2, 3, 4, 5, 6, 7, 8, 9, 10, 11, 12] (.one 13 (.one 14 .nil)) mixedP (by kernel_rfl) rfl (by kernel_rfl) (fun _ _ _ d _ h => by cases d <;> exact h) ?_ ?_
  · exact (Below.refl _ _).drew
  · have a2d := a2.drew
    have hB2 : Below w2.heap.size w2 w2.drew := (Below.refl _ _).drew
    have HD2d : Hid (PgDone w b H w2.drew H) := HD2.out.drew
    have hT2d := hT2.below hB2
    have hp2d : Holds w2.drew bp 26 #[.pointer (some ⟨b, 0, none⟩)] := hp2
    generalize w2.drew = X at a2d hB2 HD2d hT2d hp2d ⊢
    refine tk_ld (some 26) rfl rfl rfl _ _ rfl rfl (fun W hW => ldPP (by rw [← c2p]; exact hW.cell (World.block_lt_of_cell? _ _ c2p))) ?_
    go_frame
    refine tk_val (some 27) rfl rfl rfl (.pointer (some ⟨b, 0, none⟩)) (fun _ => by go_simp) ?_
    go_frame
    refine tk_val (some 28) rfl rfl rfl (.pointer (some ⟨b, 1, none⟩)) (fun _ => by go_simp) ?_
    go_frame
    refine tk_val (some 29) rfl rfl rfl (.pointer (some ⟨b, 1, none⟩)) (fun _ => by go_simp) ?_
    go_frame
    refine tk_ld (some 30) rfl rfl rfl _ _ rfl rfl (fun W hW => ldIntG (by rw [← c2t]; exact hW.cell (World.block_lt_of_cell? _ _ c2t))) ?_
    go_frame
    refine tk_val (some 31) rfl rfl rfl (.int .i64 (S.P.tx + 1)) (fun _ => by go_simp) ?_
    go_frame
    refine tk_val (some 32) rfl rfl rfl (.int .i64 (root : Nat)) (fun _ => by go_simp) ?_
    go_frame
    refine tk_val (some 33) rfl rfl rfl (.int .i64 (ents : Nat)) (fun _ => by go_simp) ?_
    go_frame
    refine tk_ld (some 34) rfl rfl rfl _ _ rfl rfl (fun W hW => ldPP (by rw [← c2p]; exact hW.cell (World.block_lt_of_cell? _ _ c2p))) ?_
    go_frame
    refine tk_val (some 35) rfl rfl rfl (.pointer (some ⟨b, 0, none⟩)) (fun _ => by go_simp) ?_
    go_frame
    refine tk_val (some 36) rfl rfl rfl (.pointer (some ⟨b, 5, none⟩)) (fun _ => by go_simp) ?_
    go_frame
    refine tk_ld (some 37) rfl rfl rfl _ _ rfl rfl (fun W hW => ldIntG (by rw [← c2s]; exact hW.cell (World.block_lt_of_cell? _ _ c2s))) ?_
    go_frame
    refine tk_val (some 38) rfl rfl rfl (.agg #[.int .i64 (S.P.tx + 1), .int .i64 (root : Nat), .int .i64 (ents : Nat), .int .i64 S.P.stop]) (fun _ => by go_simp) ?_
    go_frame
    refine tk_nil ?_
    obtain ⟨bm, hbm⟩ : ∃ bm, X.heap.size = bm := ⟨_, rfl⟩
    obtain ⟨Y, hY⟩ : ∃ Y, X.alloc (.cells #[.int .i64 0, .int .i64 0, .int .i64 0, .int .i64 0] 43) = Y := ⟨_, rfl⟩
    have hBY : Below X.heap.size X Y := by rw [← hY]; exact below_new1 _ _
    have hmY : Holds Y bm 43 #[.int .i64 0, .int .i64 0, .int .i64 0, .int .i64 0] := by rw [← hY, ← hbm]; exact Holds.new _ _ _
    refine op_val (some 7) rfl rfl rfl (v := .pointer (some ⟨bm, 0, none⟩)) (w' := Y) (by go_simp <;> first | exact ⟨hbm, hY⟩ | exact hY) ?_
    refine ⟨below_new hB2 hBY, ?_⟩
    go_frame
    refine op_storeH none rfl rfl rfl 43 _ _ rfl bm #[.int .i64 (S.P.tx + 1), .int .i64 (root : Nat), .int .i64 (ents : Nat), .int .i64 S.P.stop] rfl rfl 43 #[.int .i64 0, .int .i64 0, .int .i64 0, .int .i64 0] hmY infoMetaG rfl (by simp [Value.oneCell']) ?_
    intro Z hmZ hOZ hsZ
    have hBZ : Below X.heap.size X Z := Only.fresh hBY hOZ (by omega)
    refine ⟨below_new hB2 hBZ, ?_⟩
    go_frame
    refine then_normalS ?_
    rw [← hmA] at hmZ
    have aZ := a2d.below hBZ
    have hpZ := below_holds hBZ hp2d
    have hTZ := hT2d.below hBZ
    have HDZ : Hid (PgDone w b H Z H) := HD2d.out.trans (PgDone.below hBZ)
    have nbm : ¬ PgFoot b H bm := fun h => by have := a2d.lt _ h.blk; omega
    have hlZ : bm < Z.heap.size := hmZ.lt
    have hlbp : bp < bm := by have := hp2d.lt; omega
    clear a2 a2d hB2 HD2 HD2d hT2 hT2d hp2 hp2d c2p c2b c2t c2s hBY hmY hOZ hsZ hBZ hY
    obtain ⟨g, hg⟩ : ∃ g, Z.heap.size = g := ⟨_, rfl⟩
    obtain ⟨V, hV⟩ : ∃ V, Z.alloc (.cells #[.func (.func 50) #[] #[.pointer (some ⟨bp, 0, none⟩)], .func (.func 51) #[] #[.pointer (some ⟨bp, 0, none⟩), .pointer (some ⟨bm, 0, none⟩)], .func (.func 50) #[] #[.pointer (some ⟨bp, 0, none⟩)]] 67) = V := ⟨_, rfl⟩
    have hBV : Below Z.heap.size Z V := by rw [← hV]; exact below_new1 _ _
    have hgV : Holds V g 67 #[.func (.func 50) #[] #[.pointer (some ⟨bp, 0, none⟩)], .func (.func 51) #[] #[.pointer (some ⟨bp, 0, none⟩), .pointer (some ⟨bm, 0, none⟩)], .func (.func 50) #[] #[.pointer (some ⟨bp, 0, none⟩)]] := by rw [← hV, ← hg]; exact Holds.new _ _ _
    have aV := aZ.below hBV
    have hpV := below_holds hBV hpZ
    have hmV := below_holds hBV hmZ
    have hTV := hTZ.below hBV
    have ng : ¬ PgFoot b H g := fun h => by have := aZ.lt _ h.blk; omega
    have HDV : Hid (PgDone w b H V H) := HDZ.out.trans (PgDone.below hBV)
    have hturn := ginturn_any hgV 0 0 0 (fun W => ∃ d', PgAt W b { H with d := d' } { S.begun with D := D1 } ∧ PgDone V b H W { H with d := d' }) (fun W => ∃ d', PgAt W b { H with d := d' } { S.begun with D := D2 } ∧ PgDone V b H W { H with d := d' }) (fun W => ∃ d', PgAt W b { H with d := d' } { S.begun with D := D3 } ∧ PgDone V b H W { H with d := d' })
      (by
        refine (gsettle_any aV hpV ok (by omega)).mono ?_
        rintro e W ⟨rfl, d', aW, dW⟩
        refine ⟨?_, d', ?_, dW⟩
        · show Ending.returned (.int .i64 S.D.sync.1) = _
          rw [hs1]
        · have : S.begun.D.sync.2 = D1 := hD1
          rw [this] at aW
          exact aW)
      (by
        rintro W ⟨d', aW, dW⟩ _
        have hpW := dW.keep.holds hpV nbp
        have hmW := dW.keep.holds hmV nbm
        refine (gwritem_any aW hpW m hms hmW (tabs_keep hTV dW.keep hfoot) ok1 (by omega)).mono ?_
        rintro e W2 ⟨rfl, d2, aW2, dW2⟩
        refine ⟨by dsimp only; rw [hw1], d2, ?_, dW.trans dW2⟩
        dsimp only at aW2
        rw [hD2] at aW2
        exact aW2)
      (by
        rintro W ⟨d', aW, dW⟩ _
        have hpW := dW.keep.holds hpV nbp
        refine (gsettle_any aW hpW ok2 (by omega)).mono ?_
        rintro e W2 ⟨rfl, d2, aW2, dW2⟩
        refine ⟨by dsimp only; rw [hs2], d2, ?_, dW.trans dW2⟩
        dsimp only at aW2
        rw [hD3] at aW2
        exact aW2)
      (by rintro W ⟨d', aW, dW⟩; exact dW.keep.holds hgV ng)
      (by rintro W ⟨d', aW, dW⟩; exact dW.keep.holds hgV ng)
    have HmV : Hid (Holds V bm 43 (K.m4A m)) := hmV
    have HpV : Hid (Holds V bp 26 #[.pointer (some ⟨b, 0, none⟩)]) := hpV
    clear aZ aV hpZ hpV hmZ hmV hgV hBV hTZ hTV HDZ hs1 hs2 hw1 hD1 hD2 hD3 ok ok1 ok2
    go_at_K
    go_wp2_with fail
    refine hturn.mono ?_
    rintro e w3 (⟨h, _⟩ | ⟨_, h, _⟩ | ⟨_, _, rfl, d3, a3, dd3⟩)
    · exact absurd rfl h
    · exact absurd rfl h
    clear hturn
    have hp3 := dd3.keep.holds HpV.out nbp
    have hm3 := dd3.keep.holds HmV.out nbm
    rw [hmA] at hm3
    have c3p : w3.cell? ⟨bp, 0, none⟩ = some (.pointer (some ⟨b, 0, none⟩)) := hp3.cell 0
    have HD3 : Hid (PgDone w b H w3 { H with d := d3 }) := HDV.out.trans dd3
    have nbp3 : ¬ PgFoot b { H with d := d3 } bp := fun h => by
      rcases dd3.new bp h with q | q
      · exact nbp q
      · have := HpV.out.lt; omega
    have hth : w3.there b 1 4 := fun j hj => by
      have hc := a3.cells.cell (1 + j)
      refine ⟨?_, a3.cells.frozen _⟩
      rcases (by omega : j = 0 ∨ j = 1 ∨ j = 2 ∨ j = 3) with rfl | rfl | rfl | rfl <;> (rw [hc]; rfl)
    obtain ⟨w4, hw4⟩ : ∃ w4, w3.setCells b 1 [.int .i64 (S.P.tx + 1), .int .i64 (root : Nat), .int .i64 (ents : Nat), .int .i64 S.P.stop] = w4 := ⟨_, rfl⟩
    have hpc4 : PgCells w4 b H.h { S.begun.P with tx := S.P.tx + 1, root := root, entries := ents, pages := S.P.stop } := by
      rw [← hw4]
      exact (((((a3.cells.set 1 _).set 2 _).set 3 _).set 4 _)).congr (set4 _ _ _ _ _ _)
    have hO4 : Only b w3 w4 := by
      rw [← hw4]
      exact ((((Only.refl b w3).set 1 _).set 2 _).set 3 _).set 4 _
    obtain ⟨a4, d4⟩ := a3.cell hpc4 hO4 rfl
    have nbpb : bp ≠ b := fun e => nbp (.inl e)
    have hp4 := hO4.holds hp3 nbpb
    have c4p : w4.cell? ⟨bp, 0, none⟩ = some (.pointer (some ⟨b, 0, none⟩)) := hp4.cell 0
    have c4f : w4.cell? ⟨b, 10, none⟩ = some (.map (some H.h.freed)) := a4.cells.cell 10
    have hfd4 := a4.freed
    dsimp only [St.begun] at hfd4
    have HD4 : Hid (PgDone w b H w4 { H with d := d3 }) := HD3.out.trans d4
    have HA4 : Hid _ := a4
    clear HDV HmV HpV dd3 a3 d4 HD3 hp3 hpc4 hO4
    go_wp2_with (first
      | ((with_reducible show wpList _ _ _ (Oper.mk _ (Op.load 43 _) _ _ _ _ :: _) _ _); go_must (refine wpList_loadH rfl 43 _ rfl _ rfl 43 _ _ hm3 Tryz.underlying43 rfl infoMetaG ?_))
      | ((with_reducible show wpList _ _ _ (Oper.mk _ (Op.store 43 _ _) _ _ _ _ :: _) _ _); go_must (refine wpList_store_mid rfl 43 _ _ rfl b 1 #[.int .i64 (S.P.tx + 1), .int .i64 (root : Nat), .int .i64 (ents : Nat), .int .i64 S.P.stop] rfl rfl hth infoMetaG (by simp [Value.oneCell']) ?_; rw [show (#[Value.int .i64 (S.P.tx + 1), Value.int .i64 (root : Nat), Value.int .i64 (ents : Nat), Value.int .i64 S.P.stop] : Array Value).toList = [Value.int .i64 (S.P.tx + 1), Value.int .i64 (root : Nat), Value.int .i64 (ents : Nat), Value.int .i64 S.P.stop] from rfl, hw4]))
      | (at_range; refine wpList_rangeS rfl _ rfl rfl hfd4 ?_; intro w5 ct5 hrg5 hB5))
    go_frame
    obtain ⟨r, hr⟩ : ∃ r, w4.heap.size = r := ⟨_, rfl⟩
    have a5 := HA4.out.below hB5
    have d5 : PgDone w4 b { H with d := d3 } w5 { H with d := d3 } := PgDone.below hB5
    rw [hr] at hrg5 ⊢
    clear HA4 c4p c4f hfd4 hB5 hm3 c3p
    dsimp only [St.begun] at a5
    go_loopw [11] (fun _ wr => ∃ lf ct H' L', CInv b r w4 { H with d := d3 } ⟨{ S.P with used := true, tx := S.P.tx + 1, root := root, entries := ents, pages := S.P.stop }, S.L, S.Fr, S.Fd, D3⟩ H.h.freed S.Fd (fun _ => True) wr lf ct H' L') (fun _ wr => wr.rangeLeft H.h.freed r)
    case atStart =>
      refine ⟨_, _, _, S.L, hrg5, a5.recount, d5, ⟨rfl, rfl⟩, fun q => ⟨fun h => .inl h, fun h => ?_⟩⟩
      rcases h with h | ⟨n, h1, _, h2, _⟩
      · exact h
      · rw [h1] at h2; cases h2
    case round =>
      obtain ⟨lf, ct, H', L', hI⟩ := hrel
      have hrg := hI.rang
      have nr : ¬ PgBlk b H' r := hI.at_.notIter hrg.obj
      have hpr := hI.done.keep.holds hp4 nbp3
      go_wp2_with (first
        | (at_next; refine wpList_nextS rfl _ rfl rfl hrg ?_ ?_))
      · intro hl0
        have cp : wr.cell? ⟨bp, 0, none⟩ = some (.pointer (some ⟨b, 0, none⟩)) := hpr.cell 0
        have hfo := gforget_any hI.at_
        have HI : Hid _ := hI
        clear hI hrg nr hpr
        go_wp2_with fail
        refine hfo.mono ?_
        rintro e w9 ⟨rfl, a9, d9⟩
        clear hfo
        go_wp2_with fail
        go_ret
        refine ⟨rfl, H', L', a9, (HD4.out.trans HI.out.done).trans d9, fun q => ?_⟩
        rw [HI.out.mem q]
        constructor
        · rintro (h | ⟨n, h1, _, _, h2⟩)
          · exact .inl h
          · exact .inr ⟨n, h1, h2⟩
        · rintro (h | ⟨n, h1, h2⟩)
          · exact .inl h
          · exact .inr ⟨n, h1, trivial, hl0 n, h2⟩
      · intro u w6 ct6 v hlv hlf hrg6 hlt hO6 hen
        have a6 := hI.at_.kept (w' := w6) (fun k hk => hO6.block k (hI.at_.lt k hk) (fun e => nr (e ▸ hk)))
        have hp6 := hO6.holds hpr (fun e => by subst e; obtain ⟨x1, x2, x3, x4, hx⟩ := hrg.obj; unfold Holds at hpr; rw [hx] at hpr; cases hpr)
        have c6p : w6.cell? ⟨bp, 0, none⟩ = some (.pointer (some ⟨b, 0, none⟩)) := hp6.cell 0
        obtain ⟨xu, hxu⟩ := Option.isSome_iff_exists.1 hlv
        obtain ⟨hu1, hu2, hu3⟩ := hfd u xu hxu
        have hnu : ∀ n, u ≤ n → n < u + 1 → ¬ inR L' n := by
          intro n h1 h2 h3
          obtain ⟨q, hq, h4, h5⟩ := inR_iff.1 h3
          rcases (hI.mem q).1 hq with h | ⟨n', h6, _, h7, h8⟩
          · exact hu3 (inR_iff.2 ⟨q, h, by omega, by omega⟩)
          · subst h8
            dsimp only at h4 h5
            have : n' = u := by omega
            subst this
            rw [hlf] at h7
            cases h7
        have hadd := sadd_any (o := 6) a6.cells (by decide) rfl rfl rfl a6.sp u (u + 1) hu1 (by omega) hnu
        unfold topPg at hu2
        have HI : Hid _ := hI
        have HA6 : Hid _ := a6
        have HR : Hid (RangS w6 r H.h.freed S.Fd (fun x => lf x && !decide (x = u)) ct6) := hrg6
        have HO6 : Hid (Only r wr w6) := hO6
        have HH6 : Hid (¬ PgBlk b H' r) := nr
        have hlt1 := hrg.left
        clear hI a6 nr hpr hp6 hnu hrg6 hO6
        dsimp only at hadd
        go_wp2_with fail
        refine hadd.mono ?_
        rintro e w7 ⟨rfl, r', f', hp7, hs7, hk7, hn7⟩
        obtain ⟨a7, d7⟩ := HA6.out.setSp hp7 hs7 hk7 hn7
        have hfz : H'.h.freed = H.h.freed := HI.out.hfr.1
        have hrg7 : RangS w7 r H.h.freed S.Fd (fun x => lf x && !decide (x = u)) ct6 := by
          have hml : H.h.freed < w6.heap.size := by rw [← hfz]; exact HA6.out.freed.lt
          refine HR.out.only hml hk7 ?_ ?_
          · rintro (q | q | q)
            · exact HH6.out (.inl q)
            · exact HH6.out (.inr (.inl q))
            · exact HH6.out (.inr (.inr (.inl q)))
          · rw [← hfz]
            rintro (q | q | q)
            · exact HA6.out.apartB.2.2.2.2 q.symm
            · exact HA6.out.rf.2 q
            · exact (HA6.out.apartF q).2.2.2.2 rfl
        have HN : Hid (CInv b r w4 { H with d := d3 } ⟨{ S.P with used := true, tx := S.P.tx + 1, root := root, entries := ents, pages := S.P.stop }, S.L, S.Fr, S.Fd, D3⟩ H.h.freed S.Fd (fun _ => True) w7 (fun x => lf x && !decide (x = u)) ct6 { H' with h := { H'.h with runs := r', firsts := f' } } (addI L' u (u + 1))) := by
          have d6 : PgDone w4 b { H with d := d3 } w6 H' := ⟨HI.out.done.keep.trans (Keep.only HO6.out (S := fun i => i = r) rfl) (fun i hi => .inr (by omega)), HI.out.done.new⟩
          refine ⟨hrg7, a7, d6.trans d7, HI.out.hfr, fun q => ?_⟩
          have e : addI L' u (u + 1) = addR L' u (u + 1) := by unfold addI; rw [if_pos (by omega)]
          rw [e, mem_addR, HI.out.mem q]
          constructor
          · rintro (h | h | ⟨n, h1, h2, h3, h4⟩)
            · exact .inr ⟨u, by rw [hxu]; rfl, trivial, by simp, h⟩
            · exact .inl h
            · exact .inr ⟨n, h1, trivial, by simp [h3], h4⟩
          · rintro (h | ⟨n, h1, h2, h3, h4⟩)
            · exact .inr (.inl h)
            · by_cases hnu : n = u
              · subst hnu; exact .inl h4
              · exact .inr (.inr ⟨n, h1, trivial, by simpa [hnu] using h3, h4⟩)
        clear hadd hp7 hs7 hk7 hn7 a7 d7
        go_wp2_with fail
        go_roundw
        case rel => exact ⟨_, _, _, _, HN.out⟩
        case measure => rw [hrg7.left, hlt1]; exact hlt
end Go.Proofs.YtjklcnknbcmgoaaGreatDoor
