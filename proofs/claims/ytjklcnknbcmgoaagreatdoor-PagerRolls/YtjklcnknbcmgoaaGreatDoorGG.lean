/-
  Texts of this claim, put together.
-/
import Derived.Test.YtjklcnknbcmgoaaGreatDoorGF
/-
  Spares: the least one is taken.
-/
namespace Go.Proofs.YtjklcnknbcmgoaaGreatDoor
open Go Go.RowKit Go.Maps

theorem ldSl {w : World} {ad : Addr} {p : Option Addr} {n c : Nat} (h : w.cell? ad = some (.slice p n c)) : (loadVar 31 ad).run Tryz.prog w = .ok (.slice p n c) w := by simp [go_sem, h]
theorem ldMp {w : World} {ad : Addr} {m : Option Nat} (h : w.cell? ad = some (.map m)) : (loadVar 70 ad).run Tryz.prog w = .ok (.map m) w := by simp [go_sem, h]
theorem set_comm (cs : Array Value) {i j : Nat} (u v : Value) (h : i ≠ j) : (cs.setIfInBounds i u).setIfInBounds j v = (cs.setIfInBounds j v).setIfInBounds i u := by
  apply Array.ext_getElem?
  intro k
  simp only [Array.getElem?_setIfInBounds, Array.size_setIfInBounds]
  by_cases h1 : i = k
  · subst h1
    rw [if_neg (fun e => h e.symm), if_pos rfl, if_pos rfl]
  · rw [if_neg h1, if_neg h1]
set_option maxRecDepth 8000 in
theorem stake_none {w : World} {b o : Nat} {t : TypeId} {cs : Array Value} (hh : Holds w b t cs) (h2 : cs[o + 2]? = some (.int .i64 0)) :
    Calls Tryz.prog 43 #[.pointer (some ⟨b, o, none⟩)] w fun e w' => e = .returned (.tuple #[.int .i64 0, .bool false]) ∧ w' = w := by
  have c2 : w.cell? ⟨b, o + 2, none⟩ = some (.int .i64 0) := (hh.cell _).trans h2
  go_enter Tryz.func43, Tryz.ntmps43
  go_wp2_with fail
  go_ret2
  exact ⟨rfl, rfl⟩
set_option maxRecDepth 8000 in
set_option maxHeartbeats 1000000 in
theorem stake_last {w : World} {b o : Nat} {t : TypeId} {cs : Array Value} (hh : Holds w b t cs) (ht : t ≠ 3) {r : Option Nat} {f : Value} {c : Int} {q : Int × Int} {L : Runs} (h0 : cs[o]? = some (.map r)) (h1 : cs[o + 1]? = some f) (h2 : cs[o + 2]? = some (.int .i64 c))
    (a : SpAt w r f c (q :: L)) (hq : ¬ q.1 + 1 < q.2) :
    Calls Tryz.prog 43 #[.pointer (some ⟨b, o, none⟩)] w fun e w' => e = .returned (.tuple #[.int .i64 q.1, .bool true]) ∧ ∃ f', Holds w' b t (put3 cs o r f' (totR (tookR (q :: L)))) ∧ SpAt w' r f' (totR (tookR (q :: L))) (tookR (q :: L)) ∧ Keep (SpFoot b r f) w w' ∧ f'.ownBlock = f.ownBlock := by
  have hcn := a.count
  have hsr := a.srt
  have hbd := a.bnd
  have hq0 := hsr.1
  have hb0 := hbd q List.mem_cons_self
  have htn := totR_nonneg hsr.2.2
  unfold topPg at hcn hb0
  obtain ⟨hcn1, hcn2⟩ := hcn
  obtain ⟨hb01, hb02⟩ := hb0
  have hct : c = q.2 - q.1 + totR L := a.cnt
  have htk : totR (tookR (q :: L)) = c - 1 := by rw [totR_took hsr, a.cnt]
  have hc0 : ¬ c = 0 := by omega
  clear hct htn
  have hnx : tookR (q :: L) = L := by rw [tookR_cons, if_neg hq]
  have hlk := lookR_took hsr
  have c2 : w.cell? ⟨b, o + 2, none⟩ = some (.int .i64 c) := (hh.cell _).trans h2
  have c1 : w.cell? ⟨b, o + 1, none⟩ = some f := (hh.cell _).trans h1
  have c0 : w.cell? ⟨b, o, none⟩ = some (.map r) := (hh.cell _).trans h0
  cases r with
  | none => exact absurd a.isNil (by simp)
  | some m =>
    have hmp : MapAt RI encI w m KP (lookR (q :: L)) := a.map
    have hmb : m ≠ b := fun e => by
      obtain ⟨es, cl, hc⟩ := hmp.obj
      unfold Holds at hh
      rw [e, hh] at hc
      cases hc
    have hwf : (Lit.int .i64 q.1).wf = true := wfI (by omega) (by omega)
    have hlook : (Instr.lookup 70 (.map (some m)) (.int .i64 q.1) false).run Tryz.prog w = .ok (.int .i64 q.2) w := by
      have := hmp.look elemI Tryz.underlying70 (zeroI w) hwf false
      have e : lookR (q :: L) q.1 = some q.2 := by unfold lookR; rw [if_pos rfl]
      rw [e] at this
      exact this
    obtain ⟨w1, hdel, hm1, hO1, hs1⟩ := hmp.drop Tryz.underlying70 hwf 0
    have hro := a.row
    rcases hro with ⟨_, hn⟩ | ⟨g, off, cap, cur, rfl, hH, hle, hsz, hmx, hnz, hc⟩
    · simp [fsR] at hn
    · have hgb : g ≠ b := fun e => by
        unfold Holds at hH hh
        rw [e, hh] at hH
        injection hH with hH
        injection hH with _ hH
        exact ht hH
      have hgm : g ≠ m := fun e => by
        obtain ⟨es, cl, hc'⟩ := hmp.obj
        unfold Holds at hH
        rw [e, hc'] at hH
        cases hH
      have hln : (fsR (q :: L)).length = L.length + 1 := by simp [fsR]
      rw [hln] at hle c1 h1 ⊢
      have cg : w.cell? ⟨g, off, none⟩ = some (.int .i64 q.1) := by rw [hH.cell]; exact hc 0 q.1 rfl
      have hh1 := hO1.holds hh (Ne.symm hmb)
      have c12 : w1.cell? ⟨b, o + 2, none⟩ = some (.int .i64 c) := (hh1.cell _).trans h2
      have z12 := hh1.frozen (o + 2)
      obtain ⟨w2, hw2⟩ : ∃ w2, w1.setCell ⟨b, o + 2, none⟩ (.int .i64 (c - 1)) = w2 := ⟨_, rfl⟩
      have hh2 : Holds w2 b t (cs.setIfInBounds (o + 2) (.int .i64 (c - 1))) := by rw [← hw2]; exact hh1.set _ _
      have c21 : w2.cell? ⟨b, o + 1, none⟩ = some (.slice (some ⟨g, off, none⟩) (L.length + 1) cap) := by rw [hh2.cell, Array.getElem?_setIfInBounds_ne (by omega)]; exact h1
      have z21 := hh2.frozen (o + 1)
      go_enter Tryz.func43, Tryz.ntmps43
      have fin : ∀ (off' cap' : Nat) (w3 : World), w2.setCell ⟨b, o + 1, none⟩ (.slice (some ⟨g, off', none⟩) L.length cap') = w3 → L.length ≤ cap' → off' + cap' ≤ cur.size → (∀ j z, (fsR L)[j]? = some z → cur[off' + j]? = some (.int .i64 z)) →
          Holds w3 b t (put3 cs o (some m) (.slice (some ⟨g, off', none⟩) L.length cap') (totR L)) ∧ SpAt w3 (some m) (.slice (some ⟨g, off', none⟩) L.length cap') (totR L) L ∧ Keep (SpFoot b (some m) (.slice (some ⟨g, off, none⟩) (L.length + 1) cap)) w w3 := by
        intro off' cap' w3 hw3 e1 e2 e3
        have hh3 : Holds w3 b t ((cs.setIfInBounds (o + 2) (.int .i64 (c - 1))).setIfInBounds (o + 1) (.slice (some ⟨g, off', none⟩) L.length cap')) := by rw [← hw3]; exact hh2.set _ _
        have hO2 : Only b w1 w2 := by rw [← hw2]; exact (Only.refl b w1).set _ _
        have hO3 : Only b w2 w3 := by rw [← hw3]; exact (Only.refl b w2).set _ _
        have hO23 := hO2.trans hO3
        have hH3 : Holds w3 g 3 cur := hO23.holds (hO1.holds hH hgm) hgb
        have hm3 : MapAt RI encI w3 m KP (lookR L) := by
          refine MapAt.block (MapAt.congr hm1 (fun v => ?_)) (hO23.block m (MapAt.lt hm1) hmb)
          have := hlk v
          rw [if_neg hq, hnx] at this
          exact this.symm
        refine ⟨?_, ⟨hsr.2.2, fun q' hq' => hbd q' (List.mem_cons_of_mem _ hq'), rfl, hm3, .inr ⟨g, off', cap', cur, by rw [fsR_len], hH3, by rw [fsR_len]; exact e1, e2, hmx, hnz, e3⟩⟩, (Keep.only hO1 (.inr (.inl rfl))).trans' (Keep.only hO23 (.inl rfl))⟩
        have htL : totR L = c - 1 := by rw [← htk, hnx]
        rw [htL]
        refine hh3.congr ?_
        unfold put3
        rw [set_same h0]
        exact set_comm cs (i := o + 2) (j := o + 1) _ _ (by omega)
      have FIN : Hid _ := fin
      clear fin
      go_wp2_with fail
      · go_ret2
        obtain ⟨f1, f2, f3⟩ := FIN.out off 0 _ rfl (by omega) (by omega) (fun j z hz => by
          have := (List.getElem?_eq_some_iff.1 hz).1
          rw [fsR_len] at this
          omega)
        exact ⟨rfl, _, f1, f2, f3, rfl⟩
      · go_ret2
        obtain ⟨f1, f2, f3⟩ := FIN.out (off + 1) (cap - 1) _ rfl (by omega) (by omega) (fun j z hz => by
          have := hc (j + 1) z (by simpa [fsR] using hz)
          rw [show off + 1 + j = off + (j + 1) by omega]
          exact this)
        exact ⟨rfl, _, f1, f2, f3, rfl⟩
set_option maxRecDepth 8000 in
set_option maxHeartbeats 1000000 in
theorem stake_more {w : World} {b o : Nat} {t : TypeId} {cs : Array Value} (hh : Holds w b t cs) (ht : t ≠ 3) {r : Option Nat} {f : Value} {c : Int} {q : Int × Int} {L : Runs} (h0 : cs[o]? = some (.map r)) (h1 : cs[o + 1]? = some f) (h2 : cs[o + 2]? = some (.int .i64 c))
    (a : SpAt w r f c (q :: L)) (hq : q.1 + 1 < q.2) :
    Calls Tryz.prog 43 #[.pointer (some ⟨b, o, none⟩)] w fun e w' => e = .returned (.tuple #[.int .i64 q.1, .bool true]) ∧ ∃ f', Holds w' b t (put3 cs o r f' (totR (tookR (q :: L)))) ∧ SpAt w' r f' (totR (tookR (q :: L))) (tookR (q :: L)) ∧ Keep (SpFoot b r f) w w' ∧ f'.ownBlock = f.ownBlock := by
  have hcn := a.count
  have hsr := a.srt
  have hbd := a.bnd
  have hq0 := hsr.1
  have hb0 := hbd q List.mem_cons_self
  have htn := totR_nonneg hsr.2.2
  unfold topPg at hcn hb0
  obtain ⟨hcn1, hcn2⟩ := hcn
  obtain ⟨hb01, hb02⟩ := hb0
  have hct : c = q.2 - q.1 + totR L := a.cnt
  have htk : totR (tookR (q :: L)) = c - 1 := by rw [totR_took hsr, a.cnt]
  have hc0 : ¬ c = 0 := by omega
  clear hct htn
  have hnx : tookR (q :: L) = (q.1 + 1, q.2) :: L := by rw [tookR_cons, if_pos hq]
  have hlk := lookR_took hsr
  have c2 : w.cell? ⟨b, o + 2, none⟩ = some (.int .i64 c) := (hh.cell _).trans h2
  have c1 : w.cell? ⟨b, o + 1, none⟩ = some f := (hh.cell _).trans h1
  have c0 : w.cell? ⟨b, o, none⟩ = some (.map r) := (hh.cell _).trans h0
  cases r with
  | none => exact absurd a.isNil (by simp)
  | some m =>
    have hmp : MapAt RI encI w m KP (lookR (q :: L)) := a.map
    have hmb : m ≠ b := fun e => by
      obtain ⟨es, cl, hc⟩ := hmp.obj
      unfold Holds at hh
      rw [e, hh] at hc
      cases hc
    have hwf : (Lit.int .i64 q.1).wf = true := wfI (by omega) (by omega)
    have hlook : (Instr.lookup 70 (.map (some m)) (.int .i64 q.1) false).run Tryz.prog w = .ok (.int .i64 q.2) w := by
      have := hmp.look elemI Tryz.underlying70 (zeroI w) hwf false
      have e : lookR (q :: L) q.1 = some q.2 := by unfold lookR; rw [if_pos rfl]
      rw [e] at this
      exact this
    obtain ⟨w1, hdel, hm1, hO1, hs1⟩ := hmp.drop Tryz.underlying70 hwf 0
    have hro := a.row
    rcases hro with ⟨_, hn⟩ | ⟨g, off, cap, cur, rfl, hH, hle, hsz, hmx, hnz, hc⟩
    · simp [fsR] at hn
    · have hgb : g ≠ b := fun e => by
        unfold Holds at hH hh
        rw [e, hh] at hH
        injection hH with hH
        injection hH with _ hH
        exact ht hH
      have hgm : g ≠ m := fun e => by
        obtain ⟨es, cl, hc'⟩ := hmp.obj
        unfold Holds at hH
        rw [e, hc'] at hH
        cases hH
      have hln : (fsR (q :: L)).length = L.length + 1 := by simp [fsR]
      rw [hln] at hle c1 h1 ⊢
      have cg : w.cell? ⟨g, off, none⟩ = some (.int .i64 q.1) := by rw [hH.cell]; exact hc 0 q.1 rfl
      have hh1 := hO1.holds hh (Ne.symm hmb)
      have c12 : w1.cell? ⟨b, o + 2, none⟩ = some (.int .i64 c) := (hh1.cell _).trans h2
      have z12 := hh1.frozen (o + 2)
      obtain ⟨w2, hw2⟩ : ∃ w2, w1.setCell ⟨b, o + 2, none⟩ (.int .i64 (c - 1)) = w2 := ⟨_, rfl⟩
      have hh2 : Holds w2 b t (cs.setIfInBounds (o + 2) (.int .i64 (c - 1))) := by rw [← hw2]; exact hh1.set _ _
      have hO2 : Only b w1 w2 := by rw [← hw2]; exact (Only.refl b w1).set _ _
      have hm2 : MapAt RI encI w2 m KP (setM (lookR (q :: L)) q.1 none) := MapAt.block hm1 (hO2.block m (MapAt.lt hm1) hmb)
      have hH2 : Holds w2 g 3 cur := hO2.holds (hO1.holds hH hgm) hgb
      go_enter Tryz.func43, Tryz.ntmps43
      go_wp2_with fail
      refine wp_region_tree (fun W => W.cell? ⟨b, o + 1, none⟩ = some (.slice (some ⟨g, off, none⟩) (L.length + 1) cap) ∧ W.cell? ⟨b, o, none⟩ = some (.map (some m))) [0, 1, 2, 3, 4, 5, 6, 7, 8, 9, 10, 11, 12] (.one 13 (.one 14 (.one 15 (.one 16 (.one 17 .nil))))) mixedP (by kernel_rfl) rfl (by kernel_rfl) (fun _ _ _ d _ h => by cases d <;> exact h) ?_ ?_
      · exact ⟨(hh2.drew.cell _).trans (by rw [Array.getElem?_setIfInBounds_ne (by omega)]; exact h1), (hh2.drew.cell _).trans (by rw [Array.getElem?_setIfInBounds_ne (by omega)]; exact h0)⟩
      · have hH2' : Holds w2.drew g 3 cur := hH2
        have hh2' : Holds w2.drew b t (cs.setIfInBounds (o + 2) (.int .i64 (c - 1))) := hh2
        have hm2' : MapAt RI encI w2.drew m KP (setM (lookR (q :: L)) q.1 none) := hm2
        have K2' : Keep (SpFoot b (some m) (.slice (some ⟨g, off, none⟩) (L.length + 1) cap)) w w2.drew := ((Keep.only hO1 (.inr (.inl rfl))).trans' (Keep.only hO2 (.inl rfl))).trans' (Keep.drew _ _)
        clear hw2 hH2 hh2 hm2
        have hwr : IntKind.i64.wrap (q.1 + 1) = q.1 + 1 := IntWalk.i64_in _ (by omega)
        generalize w2.drew = X at hH2' hh2' hm2' K2' ⊢
        refine tk_val (some 39) rfl rfl rfl (.pointer (some ⟨b, o, none⟩)) (fun _ => by go_simp) ?_
        go_frame
        refine tk_val (some 40) rfl rfl rfl (.pointer (some ⟨b, o, none⟩)) (fun _ => by go_simp) ?_
        go_frame
        refine tk_val (some 41) rfl rfl rfl (.pointer (some ⟨b, o + 1, none⟩)) (fun _ => by go_simp) ?_
        go_frame
        refine tk_ld (some 42) rfl rfl rfl _ _ rfl rfl (fun W hW => ldSl (hW.1)) ?_
        go_frame
        refine tk_val (some 43) rfl rfl rfl (.pointer (some ⟨b, o, none⟩)) (fun _ => by go_simp) ?_
        go_frame
        refine tk_val (some 44) rfl rfl rfl (.pointer (some ⟨b, o, none⟩)) (fun _ => by go_simp) ?_
        go_frame
        refine tk_val (some 45) rfl rfl rfl (.pointer (some ⟨b, o, none⟩)) (fun _ => by go_simp) ?_
        go_frame
        refine tk_ld (some 46) rfl rfl rfl _ _ rfl rfl (fun W hW => ldMp (hW.2)) ?_
        go_frame
        refine tk_val (some 47) rfl rfl rfl (.int .i64 q.1) (fun _ => by go_simp) ?_
        go_frame
        refine tk_val (some 48) rfl rfl rfl (.int .i64 (q.1 + 1)) (fun _ => by go_simp) ?_
        go_frame
        refine tk_val (some 49) rfl rfl rfl (.int .i64 q.1) (fun _ => by go_simp) ?_
        go_frame
        refine tk_val (some 50) rfl rfl rfl (.int .i64 (q.1 + 1)) (fun _ => by go_simp) ?_
        go_frame
        refine tk_val (some 51) rfl rfl rfl (.int .i64 q.2) (fun _ => by go_simp) ?_
        go_frame
        refine tk_nil ?_
        have CX : X.cell? ⟨b, o + 1, none⟩ = some (.slice (some ⟨g, off, none⟩) (L.length + 1) cap) ∧ X.cell? ⟨b, o, none⟩ = some (.map (some m)) := ⟨(hh2'.cell _).trans (by rw [Array.getElem?_setIfInBounds_ne (by omega)]; exact h1), (hh2'.cell _).trans (by rw [Array.getElem?_setIfInBounds_ne (by omega)]; exact h0)⟩
        refine op_val (some 52) rfl rfl rfl (v := .pointer (some ⟨g, off, none⟩)) (w' := X) (by go_simp) ?_
        refine ⟨CX, ?_⟩
        go_frame
        have cgX : X.cell? ⟨g, off, none⟩ = some (.int .i64 q.1) := by rw [hH2'.cell]; exact hc 0 q.1 rfl
        have zgX := hH2'.frozen off
        obtain ⟨Y, hY⟩ : ∃ Y, X.setCell ⟨g, off, none⟩ (.int .i64 (q.1 + 1)) = Y := ⟨_, rfl⟩
        have hHY : Holds Y g 3 (cur.setIfInBounds off (.int .i64 (q.1 + 1))) := by rw [← hY]; exact hH2'.set _ _
        have hOY : Only g X Y := by rw [← hY]; exact (Only.refl g X).set _ _
        have hhY := hOY.holds hh2' (Ne.symm hgb)
        have hmY : MapAt RI encI Y m KP (setM (lookR (q :: L)) q.1 none) := MapAt.block hm2' (hOY.block m (MapAt.lt hm2') (Ne.symm hgm))
        have CY : Y.cell? ⟨b, o + 1, none⟩ = some (.slice (some ⟨g, off, none⟩) (L.length + 1) cap) ∧ Y.cell? ⟨b, o, none⟩ = some (.map (some m)) := ⟨(hhY.cell _).trans (by rw [Array.getElem?_setIfInBounds_ne (by omega)]; exact h1), (hhY.cell _).trans (by rw [Array.getElem?_setIfInBounds_ne (by omega)]; exact h0)⟩
        refine op_skip none rfl rfl rfl (w' := Y) (by go_simp) ?_
        refine ⟨CY, ?_⟩
        go_frame
        have hwf2 : (Lit.int .i64 (q.1 + 1)).wf = true := wfI (by omega) (by omega)
        have hno : setM (lookR (q :: L)) q.1 none (q.1 + 1) = none := by
          rw [setM_other _ _ (by omega)]
          refine lookR_none ?_
          intro x hx e
          rcases List.mem_cons.1 hx with rfl | hx
          · omega
          · have := hsr.2.1 x hx
            omega
        obtain ⟨st, Z1, he1, ho1, hsz1, Z2, he2, hmZ, ho2, hsz2⟩ := hmY.entry elemI Tryz.underlying70 zeroI (by decide) hwf2 hno q.2
        have hhZ1 := ho1.holds hhY (Ne.symm hmb)
        have hhZ2 := ho2.holds hhY (Ne.symm hmb)
        have CZ1 : Z1.cell? ⟨b, o + 1, none⟩ = some (.slice (some ⟨g, off, none⟩) (L.length + 1) cap) ∧ Z1.cell? ⟨b, o, none⟩ = some (.map (some m)) := ⟨(hhZ1.cell _).trans (by rw [Array.getElem?_setIfInBounds_ne (by omega)]; exact h1), (hhZ1.cell _).trans (by rw [Array.getElem?_setIfInBounds_ne (by omega)]; exact h0)⟩
        have CZ2 : Z2.cell? ⟨b, o + 1, none⟩ = some (.slice (some ⟨g, off, none⟩) (L.length + 1) cap) ∧ Z2.cell? ⟨b, o, none⟩ = some (.map (some m)) := ⟨(hhZ2.cell _).trans (by rw [Array.getElem?_setIfInBounds_ne (by omega)]; exact h1), (hhZ2.cell _).trans (by rw [Array.getElem?_setIfInBounds_ne (by omega)]; exact h0)⟩
        have hHZ := ho2.holds hHY hgm
        unfold mkI at he1 he2
        refine op_val (some 53) rfl rfl rfl (v := .tuple #[.int .i64 0, .int .i64 st]) (w' := Z1) (by go_simp) ?_
        refine ⟨CZ1, ?_⟩
        go_frame
        refine op_val (some 54) rfl rfl rfl (v := .int .i64 st) (w' := Z1) (by go_simp) ?_
        refine ⟨CZ1, ?_⟩
        go_frame
        refine op_skip none rfl rfl rfl (w' := Z2) (by go_simp) ?_
        refine ⟨CZ2, ?_⟩
        go_frame
        refine then_normalS ?_
        have HF : Hid (Holds Z2 b t (put3 cs o (some m) (.slice (some ⟨g, off, none⟩) (L.length + 1) cap) (totR (tookR (q :: L)))) ∧ SpAt Z2 (some m) (.slice (some ⟨g, off, none⟩) (L.length + 1) cap) (totR (tookR (q :: L))) (tookR (q :: L)) ∧ Keep (SpFoot b (some m) (.slice (some ⟨g, off, none⟩) (L.length + 1) cap)) w Z2) := by
          refine ⟨?_, ⟨srt_took hsr, ?_, rfl, ?_, .inr ⟨g, off, cap, _, ?_, hHZ, ?_, ?_, ?_, ?_, ?_⟩⟩, (K2'.trans' (Keep.only hOY (.inr (.inr rfl)))).trans' (Keep.only ho2 (.inr (.inl rfl)))⟩
          · rw [htk]
            refine hhZ2.congr ?_
            unfold put3
            rw [set_same h0, set_same h1]
          · rw [hnx]
            intro x hx
            rcases List.mem_cons.1 hx with rfl | hx
            · unfold topPg
              exact ⟨by dsimp only; omega, hb02⟩
            · exact hbd x (List.mem_cons_of_mem _ hx)
          · refine MapAt.smallN (MapAt.congr hmZ (fun v => ?_)) ?_
            · have := hlk v
              rw [if_pos hq] at this
              exact this.symm
            · intro u z hz
              have hz2 := lookR_mem hz
              rw [hnx] at hz2
              rcases List.mem_cons.1 hz2 with e | e
              · injection e with e1 e2
                subst e1 e2
                unfold topPg; omega
              · have h3 := hbd _ (List.mem_cons_of_mem _ e)
                have h4 := hsr.2.2.pos _ e
                dsimp only at h3 h4
                unfold topPg at *; omega
          · rw [hnx]; simp [fsR]
          · rw [hnx]; simp [fsR]; omega
          · simpa using hsz
          · simpa using hmx
          · simpa using hnz
          · intro j z hz
            rw [hnx] at hz
            cases j with
            | zero =>
              simp [fsR] at hz
              subst hz
              rw [Nat.add_zero, Array.getElem?_setIfInBounds_self_of_lt (by omega)]
            | succ j =>
              rw [Array.getElem?_setIfInBounds_ne (by omega)]
              exact hc (j + 1) z (by simpa [fsR] using hz)
        go_at_K
        go_wp2_with fail
        go_ret2
        exact ⟨rfl, _, HF.out.1, HF.out.2.1, HF.out.2.2, rfl⟩
/-- What is taken, and whether there is one. -/
def tookN : Runs → Int
  | [] => 0
  | q :: _ => q.1
def tookB : Runs → Bool
  | [] => false
  | _ :: _ => true
theorem stake_any {w : World} {b o : Nat} {t : TypeId} {cs : Array Value} (hh : Holds w b t cs) (ht : t ≠ 3) {r : Option Nat} {f : Value} {c : Int} {L : Runs} (h0 : cs[o]? = some (.map r)) (h1 : cs[o + 1]? = some f) (h2 : cs[o + 2]? = some (.int .i64 c))
    (a : SpAt w r f c L) :
    Calls Tryz.prog 43 #[.pointer (some ⟨b, o, none⟩)] w fun e w' => e = .returned (.tuple #[.int .i64 (tookN L), .bool (tookB L)]) ∧ ∃ f', Holds w' b t (put3 cs o r f' (totR (tookR L))) ∧ SpAt w' r f' (totR (tookR L)) (tookR L) ∧ Keep (SpFoot b r f) w w' ∧ f'.ownBlock = f.ownBlock := by
  cases L with
  | nil =>
    have hc := a.cnt
    have hc0 : c = 0 := hc
    subst hc0
    refine (stake_none hh h2).mono ?_
    rintro e w' ⟨rfl, rfl⟩
    exact ⟨rfl, f, by rw [show totR (tookR []) = 0 from rfl, put3_same h0 h1 h2]; exact hh, a, Keep.refl _ _, rfl⟩
  | cons q L =>
    by_cases hq : q.1 + 1 < q.2
    · exact stake_more hh ht h0 h1 h2 a hq
    · exact stake_last hh ht h0 h1 h2 a hq
end Go.Proofs.YtjklcnknbcmgoaaGreatDoor
/-
  Spares: whether a page is one; those from a page on are cut off.
-/
namespace Go.Proofs.YtjklcnknbcmgoaaGreatDoor
open Go Go.RowKit Go.Maps

theorem wpQ_at {P : Program} {ops : Array Oper} {rest : List Oper} {op : Oper} {a : Act} {C : World → Prop} {Q : Act → Prop} (hw : Region.wanted op (yielded ops a.tmps) = true) (v : Value) (hv : ∀ w, C w → (execOp a.eval op).run P w = .ok (.value v) w)
    (h : wpQuiet P ops C Q rest (a.put op.dst v)) : wpQuiet P ops C Q (op :: rest) a :=
  wpQuiet_step fun _ hK => by
    rw [if_pos hw]
    refine ⟨v, fun w hw => ?_, hK _ h⟩
    unfold Oper.quietAt
    rw [hv w hw]
    exact ⟨rfl, rfl⟩
open Classical in
noncomputable def inB (L : Runs) (n : Int) : Bool := decide (inR L n)
set_option maxRecDepth 8000 in
set_option maxHeartbeats 1000000 in
theorem shas_any {w : World} {b o : Nat} {t : TypeId} {cs : Array Value} (hh : Holds w b t cs) {r : Option Nat} {f : Value} {c : Int} {L : Runs} (h0 : cs[o]? = some (.map r)) (h1 : cs[o + 1]? = some f)
    (a : SpAt w r f c L) (n : Int) :
    Calls Tryz.prog 73 #[.pointer (some ⟨b, o, none⟩), .int .i64 n] w fun e w' => e = .returned (.bool (inB L n)) ∧ Below w.heap.size w w' := by
  have hbs := gsearch_any a n
  have hsr := a.srt
  have hbd := a.bnd
  have hln := a.len
  unfold topPg at hln
  have c0 : w.cell? ⟨b, o, none⟩ = some (.map r) := (hh.cell _).trans h0
  have c1 : w.cell? ⟨b, o + 1, none⟩ = some f := (hh.cell _).trans h1
  have hat := atR_le L n
  have hans := inR_has hsr n
  obtain ⟨k, hk⟩ : ∃ k, atR L n = k := ⟨_, rfl⟩
  obtain ⟨fd, hfd⟩ : ∃ fd, (fsR L).contains n = fd := ⟨_, rfl⟩
  rw [hk] at hbs hat hans
  rw [hfd] at hbs hans
  have HA : Hid (fd = true ∨ 0 < k ∧ n < (lookR L ((fsR L).getD (k - 1) 0)).getD 0 ↔ inR L n) := hans
  have c0q : ∀ q, (w.drewN q).cell? ⟨b, o, none⟩ = some (.map r) := fun q => c0
  have c1q : ∀ q, (w.drewN q).cell? ⟨b, o + 1, none⟩ = some f := fun q => c1
  clear hans
  cases fd with
  | true =>
    have hr : inB L n = true := by simpa [inB] using HA.out.1 (.inl rfl)
    rw [hr]
    go_enter Tryz.func73, Tryz.ntmps73
    go_wp2_with fail
    refine hbs.mono ?_
    rintro e w3 ⟨rfl, q, rfl⟩
    clear hbs hfd
    go_wp2_with fail
    refine wp_region_qtail 22 mixedP (by kernel_rfl) ?_
    simp only [List.take_succ_cons, List.take_zero, List.drop_succ_cons, List.drop_zero]
    go_big_quiet_step (fail)
    go_big_quiet_step (fail)
    go_big_quiet_step (fail)
    go_big_quiet_step (fail)
    go_big_quiet_step (fail)
    go_big_quiet_step (fail)
    go_big_quiet_step (fail)
    go_big_quiet_step (fail)
    go_big_quiet_step (fail)
    go_big_quiet_step (fail)
    go_big_quiet_step (fail)
    go_big_quiet_step (fail)
    go_big_quiet_step (fail)
    go_big_quiet_step (fail)
    go_big_quiet_step (fail)
    go_big_quiet_step (fail)
    go_big_quiet_step (fail)
    go_big_quiet_step (fail)
    go_big_quiet_step (fail)
    go_big_quiet_step (fail)
    go_big_quiet_step (fail)
    go_big_quiet_step (fail)
    refine wpQuiet_nil ?_
    go_wp2_with fail
    go_ret
    exact ⟨rfl, ⟨rfl, rfl, rfl, Nat.le_refl _, fun _ _ => rfl⟩⟩
  | false =>
    by_cases hk0 : k = 0
    · have hr : inB L n = false := by
        have := HA.out
        simp only [inB, decide_eq_false_iff_not]
        intro e
        rcases this.2 e with h | h
        · cases h
        · omega
      subst hk0
      rw [hr]
      clear hk
      go_enter Tryz.func73, Tryz.ntmps73
      go_wp2_with fail
      refine hbs.mono ?_
      rintro e w3 ⟨rfl, q, rfl⟩
      clear hbs hfd
      go_wp2_with fail
      refine wp_region_qtail 22 mixedP (by kernel_rfl) ?_
      simp only [List.take_succ_cons, List.take_zero, List.drop_succ_cons, List.drop_zero]
      go_big_quiet_step (fail)
      go_big_quiet_step (fail)
      go_big_quiet_step (fail)
      go_big_quiet_step (fail)
      go_big_quiet_step (fail)
      go_big_quiet_step (fail)
      go_big_quiet_step (fail)
      go_big_quiet_step (fail)
      go_big_quiet_step (fail)
      go_big_quiet_step (fail)
      go_big_quiet_step (fail)
      go_big_quiet_step (fail)
      go_big_quiet_step (fail)
      go_big_quiet_step (fail)
      go_big_quiet_step (fail)
      go_big_quiet_step (fail)
      go_big_quiet_step (fail)
      go_big_quiet_step (fail)
      go_big_quiet_step (fail)
      go_big_quiet_step (fail)
      go_big_quiet_step (fail)
      go_big_quiet_step (fail)
      refine wpQuiet_nil ?_
      go_wp2_with fail
      go_ret
      exact ⟨rfl, ⟨rfl, rfl, rfl, Nat.le_refl _, fun _ _ => rfl⟩⟩
    · obtain ⟨k', rfl⟩ : ∃ k', k = k' + 1 := ⟨k - 1, by omega⟩
      rw [show k' + 1 - 1 = k' from rfl] at HA
      cases r with
      | none =>
        have := a.isNil
        subst this
        simp at hat
      | some m =>
      rcases a.row with ⟨_, hn'⟩ | ⟨g, off, cap, cur, rfl, hH, hle, hsz, hmx, hnz, hc⟩
      · have : L = [] := by simpa [fsR] using hn'
        subst this
        simp at hat
      · rw [fsR_len] at hle hbs c1 c1q h1
        obtain ⟨z, hz⟩ : ∃ z, (fsR L)[k']? = some z := ⟨_, List.getElem?_eq_getElem (by rw [fsR_len]; omega)⟩
        have hzd : (fsR L).getD k' 0 = z := by rw [List.getD_eq_getElem?_getD, hz]; rfl
        rw [hzd] at HA
        have cg : w.cell? ⟨g, off + k', none⟩ = some (.int .i64 z) := by rw [hH.cell]; exact hc k' z hz
        have hzm : z ∈ fsR L := List.mem_of_getElem? hz
        obtain ⟨qz, hqz, hqe⟩ : ∃ qz ∈ L, qz.1 = z := by simpa [fsR] using hzm
        have hzb := hbd qz hqz
        have hzp := hsr.pos qz hqz
        unfold topPg at hzb
        have hwf : (Lit.int .i64 z).wf = true := wfI (by omega) (by omega)
        have hmp : MapAt RI encI w m KP (lookR L) := a.map
        obtain ⟨y, hy⟩ : ∃ y, (lookR L z).getD 0 = y := ⟨_, rfl⟩
        have hlook : ∀ q, (Instr.lookup 70 (.map (some m)) (.int .i64 z) false).run Tryz.prog (w.drewN q) = .ok (.int .i64 y) (w.drewN q) := fun q => by
          have h3 : MapAt RI encI (w.drewN q) m KP (lookR L) := hmp
          have := h3.look elemI Tryz.underlying70 (zeroI _) hwf false
          rw [hy] at this
          exact this
        rw [hy] at HA
        have hr : inB L n = decide (n < y) := by
          by_cases h : n < y
          · have := HA.out.1 (.inr ⟨by omega, h⟩)
            simp [inB, this, h]
          · have : ¬ inR L n := fun e => by
              rcases HA.out.2 e with h' | h'
              · cases h'
              · exact h h'.2
            simp [inB, this, h]
        rw [hr]
        clear hk hr hz hzd hzm hqz hqe hzb hzp a hmp hy
        go_enter Tryz.func73, Tryz.ntmps73
        go_wp2_with fail
        refine hbs.mono ?_
        rintro e w3 ⟨rfl, q, rfl⟩
        have hlk := hlook (q + 1)
        clear hbs hfd hlook
        go_wp2_with fail
        refine wp_region_qtail 22 mixedP (by kernel_rfl) ?_
        simp only [List.take_succ_cons, List.take_zero, List.drop_succ_cons, List.drop_zero]
        go_big_quiet_step (fail)
        go_big_quiet_step (fail)
        go_big_quiet_step (fail)
        go_big_quiet_step (fail)
        go_big_quiet_step (fail)
        go_big_quiet_step (fail)
        go_big_quiet_step (fail)
        go_big_quiet_step (fail)
        go_big_quiet_step (fail)
        go_big_quiet_step (fail)
        go_big_quiet_step (fail)
        go_big_quiet_step (fail)
        go_big_quiet_step (fail)
        go_big_quiet_step (fail)
        go_big_quiet_step (fail)
        go_big_quiet_step (fail)
        go_big_quiet_step (fail)
        go_big_quiet_step (fail)
        refine wpQ_at rfl (.int .i64 y) (fun W hW => by subst hW; go_simp) ?_
        go_frame
        go_big_quiet_step (fail)
        go_big_quiet_step (fail)
        go_big_quiet_step (fail)
        refine wpQuiet_nil ?_
        go_wp2_with fail
        go_ret
        exact ⟨rfl, ⟨rfl, rfl, rfl, Nat.le_refl _, fun _ _ => rfl⟩⟩
end Go.Proofs.YtjklcnknbcmgoaaGreatDoor
/-
  Spares: those from a page on are cut off.
-/
namespace Go.Proofs.YtjklcnknbcmgoaaGreatDoor
open Go Go.RowKit Go.Maps

theorem srt_rm {A R : Runs} {q : Int × Int} (h : Srt (A ++ q :: R)) : Srt (A ++ R) := by
  induction A with
  | nil => exact h.2.2
  | cons x A ih =>
    refine ⟨h.1, fun y hy => h.2.1 y ?_, ih h.2.2⟩
    rcases List.mem_append.1 hy with hy | hy
    · exact List.mem_append.2 (.inl hy)
    · exact List.mem_append.2 (.inr (List.mem_cons_of_mem _ hy))
theorem totR_rm {A R : Runs} {q : Int × Int} : totR (A ++ R) = totR (A ++ q :: R) - (q.2 - q.1) := by
  induction A with
  | nil => simp only [List.nil_append, totR]; omega
  | cons x A ih => simp only [List.cons_append, totR]; omega
theorem lookR_rm {A R : Runs} {q : Int × Int} (h : Srt (A ++ q :: R)) (v : Int) : lookR (A ++ R) v = setM (lookR (A ++ q :: R)) q.1 none v := by
  unfold setM
  induction A with
  | nil =>
    simp only [List.nil_append]
    by_cases e : v = q.1
    · rw [if_pos e, e]
      exact lookR_none (fun x hx e' => by have := Srt.first h x hx; omega)
    · rw [if_neg e]
      conv => rhs; unfold lookR
      rw [if_neg e]
  | cons x A ih =>
    simp only [List.cons_append]
    conv => lhs; unfold lookR
    have hx := Srt.first h q (List.mem_append.2 (.inr List.mem_cons_self))
    by_cases e : v = x.1
    · rw [if_pos e, if_neg (by omega)]
      conv => rhs; unfold lookR
      rw [if_pos e]
    · rw [if_neg e, ih h.2.2]
      by_cases e2 : v = q.1
      · rw [if_pos e2, if_pos e2]
      · rw [if_neg e2, if_neg e2]
        conv => rhs; unfold lookR
        rw [if_neg e]
theorem lookR_rm_q {A R : Runs} {q : Int × Int} (h : Srt (A ++ q :: R)) : lookR (A ++ q :: R) q.1 = some q.2 := lookR_of h (List.mem_append.2 (.inr List.mem_cons_self))
/-- Runs of which some are cut off already. -/
def midR (L : Runs) (k i : Nat) : Runs := L.take k ++ L.drop (k + i)
theorem midR_zero (L : Runs) (k : Nat) : midR L k 0 = L := by simp [midR]
theorem midR_all (L : Runs) (k i : Nat) (h : L.length ≤ k + i) : midR L k i = L.take k := by simp [midR, List.drop_eq_nil_of_le h]
theorem midR_step (L : Runs) (k i : Nat) (h : k + i < L.length) : midR L k i = L.take k ++ L[k + i] :: L.drop (k + (i + 1)) ∧ midR L k (i + 1) = L.take k ++ L.drop (k + (i + 1)) := by
  refine ⟨?_, rfl⟩
  unfold midR
  rw [List.drop_eq_getElem_cons h]
  rfl
set_option maxRecDepth 8000 in
set_option maxHeartbeats 1000000 in
theorem scut_any {w : World} {b o : Nat} {t : TypeId} {cs : Array Value} (hh : Holds w b t cs) (ht : t ≠ 3) {r : Option Nat} {f : Value} {c : Int} {L : Runs} (h0 : cs[o]? = some (.map r)) (h1 : cs[o + 1]? = some f) (h2 : cs[o + 2]? = some (.int .i64 c))
    (a : SpAt w r f c L) (x : Int) :
    Calls Tryz.prog 40 #[.pointer (some ⟨b, o, none⟩), .int .i64 x] w fun e w' => e = .returned (.tuple #[]) ∧ ∃ f', Holds w' b t (put3 cs o r f' (totR (cutR L x))) ∧ SpAt w' r f' (totR (cutR L x)) (cutR L x) ∧ Keep (SpFoot b r f) w w' ∧ f'.ownBlock = f.ownBlock := by
  have hbs := gsearch_any a x
  have hsr := a.srt
  have hbd := a.bnd
  have hln := a.len
  have hct : totR L = c := a.cnt.symm
  unfold topPg at hln
  have c0 : w.cell? ⟨b, o, none⟩ = some (.map r) := (hh.cell _).trans h0
  have c1 : w.cell? ⟨b, o + 1, none⟩ = some f := (hh.cell _).trans h1
  have hat := atR_le L x
  have hcu : cutR L x = L.take (atR L x) := rfl
  rw [hcu]
  obtain ⟨k, hk⟩ : ∃ k, atR L x = k := ⟨_, rfl⟩
  rw [hk] at hbs hat ⊢
  obtain ⟨fd, hfd⟩ : ∃ fd, (fsR L).contains x = fd := ⟨_, rfl⟩
  rw [hfd] at hbs
  have c1q : ∀ q, (w.drewN q).cell? ⟨b, o + 1, none⟩ = some f := fun q => c1
  rcases a.row with ⟨rfl, hn'⟩ | ⟨g, off, cap, cur, rfl, hH, hle, hsz, hmx, hnz, hc⟩
  · have hL : L = [] := by simpa [fsR] using hn'
    subst hL
    have hk0 : k = 0 := by simpa using hat
    subst hk0
    have z1 := hh.frozen (o + 1)
    go_enter Tryz.func40, Tryz.ntmps40
    go_wp2_with fail
    refine hbs.mono ?_
    rintro e w3 ⟨rfl, q, rfl⟩
    clear hbs hfd hk
    go_wp2_with fail
    go_loopw [7, 24] (fun _ y wr => y = .int .i64 0 ∧ wr = w.drewN q) (fun _ _ _ => 0)
    case atStart => exact ⟨rfl, rfl⟩
    case round =>
      obtain ⟨rfl, rfl⟩ := hrel
      go_wp2_with fail
      go_end0
      have hO : Only b w ((w.drewN q).setCell ⟨b, o + 1, none⟩ (.slice none 0 0)) := ((Only.refl b w).drewN q).set _ _
      refine ⟨rfl, .slice none 0 0, ?_, ⟨trivial, by simp, rfl, a.map.block (fun i hi => hO.block i (a.map.lt i hi) ?_), IRow.nil _⟩, Keep.only hO (.inl rfl), rfl⟩
      · refine (Holds.set (hh.drewN q) (o + 1) (.slice none 0 0)).congr ?_
        have hc0 : totR (List.take 0 ([] : Runs)) = c := hct
        rw [hc0, put3_same h0 h1 h2, set_same h1]
      · rintro rfl
        obtain ⟨es, cl, hc'⟩ := a.map.obj _ hi
        unfold Holds at hh
        rw [hh] at hc'
        cases hc'
  · rw [fsR_len] at hle hbs c1 c1q h1 a ⊢
    have hgb : g ≠ b := fun e => by
      unfold Holds at hH hh
      rw [e, hh] at hH
      injection hH with hH
      injection hH with _ hH
      exact ht hH
    by_cases hkl : k = L.length
    · subst hkl
      have z1 := hh.frozen (o + 1)
      have hca : ¬ cap < L.length := by omega
      have HE : ∀ q, Holds ((w.drewN q).setCell ⟨b, o + 1, none⟩ (.slice (some ⟨g, off, none⟩) L.length cap)) b t (put3 cs o r (.slice (some ⟨g, off, none⟩) L.length cap) (totR (L.take L.length))) ∧ SpAt ((w.drewN q).setCell ⟨b, o + 1, none⟩ (.slice (some ⟨g, off, none⟩) L.length cap)) r (.slice (some ⟨g, off, none⟩) L.length cap) (totR (L.take L.length)) (L.take L.length) ∧ Keep (SpFoot b r (.slice (some ⟨g, off, none⟩) L.length cap)) w ((w.drewN q).setCell ⟨b, o + 1, none⟩ (.slice (some ⟨g, off, none⟩) L.length cap)) := fun q => by
        have hO : Only b w ((w.drewN q).setCell ⟨b, o + 1, none⟩ (.slice (some ⟨g, off, none⟩) L.length cap)) := ((Only.refl b w).drewN q).set _ _
        rw [List.take_length, hct]
        refine ⟨?_, a.kept (fun i hi => hO.block i (a.map.lt i hi) ?_) (fun i hi => hO.block i (a.row.lt i hi) ?_), Keep.only hO (.inl rfl)⟩
        · refine (Holds.set (hh.drewN q) (o + 1) _).congr ?_
          rw [put3_same h0 h1 h2, set_same h1]
        · rintro rfl
          obtain ⟨es, cl, hc'⟩ := a.map.obj _ hi
          unfold Holds at hh
          rw [hh] at hc'
          cases hc'
        · rintro rfl
          simp [Value.ownBlock] at hi
          exact hgb hi
      have HEH : Hid _ := HE
      clear HE
      go_enter Tryz.func40, Tryz.ntmps40
      go_wp2_with fail
      refine hbs.mono ?_
      rintro e w3 ⟨rfl, q, rfl⟩
      clear hbs hfd hk
      have HEQ : Hid _ := HEH.out q
      clear HEH
      go_wp2_with fail
      all_goals
        go_loopw [7, 24] (fun _ y wr => y = .int .i64 0 ∧ wr = w.drewN q) (fun _ _ _ => 0)
        case atStart => exact ⟨rfl, rfl⟩
        case round =>
          obtain ⟨rfl, rfl⟩ := hrel
          go_wp2_with fail
          go_end0
          first
            | exact ⟨rfl, _, HEQ.out.1, HEQ.out.2.1, HEQ.out.2.2, rfl⟩
            | (have e : cap = L.length := by omega
               have h3 := HEQ.out
               rw [e] at h3
               exact ⟨rfl, _, h3.1, h3.2.1, h3.2.2, rfl⟩)
    · have hkl2 : k < L.length := by omega
      cases r with
      | none =>
        have := a.isNil
        subst this
        simp at hkl2
      | some m =>
      have hmp : MapAt RI encI w m KP (lookR L) := a.map
      have hmb : m ≠ b := fun e => by
        obtain ⟨es, cl, hc⟩ := hmp.obj
        unfold Holds at hh
        rw [e, hh] at hc
        cases hc
      have hgm : g ≠ m := fun e => by
        obtain ⟨es, cl, hc'⟩ := hmp.obj
        unfold Holds at hH
        rw [e, hc'] at hH
        cases hH
      have hkc : ¬ cap = k := by omega
      have hkc2 : k ≤ cap := by omega
      go_enter Tryz.func40, Tryz.ntmps40
      go_wp2_with fail
      refine hbs.mono ?_
      rintro e w3 ⟨rfl, q, rfl⟩
      clear hbs hfd
      go_wp2_with fail
      go_loopw [7, 24] (fun _ y wr => ∃ i : Nat, y = .int .i64 (i : Nat) ∧ i ≤ L.length - k ∧ Holds wr b t (cs.setIfInBounds (o + 2) (.int .i64 (totR (midR L k i)))) ∧ MapAt RI encI wr m KP (lookR (midR L k i)) ∧ Srt (midR L k i) ∧ Holds wr g 3 cur ∧ Keep (SpFoot b (some m) (.slice (some ⟨g, off, none⟩) L.length cap)) w wr) (fun _ y _ => L.length - k - (Lib.intOf y).toNat)
      case atStart =>
        refine ⟨0, rfl, by omega, ?_, ?_, ?_, hH.drewN q, ?_⟩
        · rw [midR_zero, hct, set_same h2]; exact hh.drewN q
        · rw [midR_zero]; exact hmp
        · rw [midR_zero]; exact hsr
        · exact ⟨rfl, rfl, rfl, Nat.le_refl _, fun _ _ _ => rfl⟩
      case round =>
        obtain ⟨i, rfl, hi, hhR, hmR, hsR, hHR, hKR⟩ := hrel
        by_cases hil : i = L.length - k
        · have hz1 := hhR.frozen (o + 1)
          have cr1 : wr.cell? ⟨b, o + 1, none⟩ = some (.slice (some ⟨g, off, none⟩) L.length cap) := by rw [hhR.cell, Array.getElem?_setIfInBounds_ne (by omega)]; exact h1
          have hmid : midR L k i = L.take k := midR_all L k i (by omega)
          rw [hmid] at hhR hmR hsR
          have hil2 : (i : Int) = (L.length : Int) - k := by omega
          go_wp2_with fail
          go_end0
          obtain ⟨w9, hw9⟩ : ∃ w9, wr.setCell ⟨b, o + 1, none⟩ (.slice (some ⟨g, off, none⟩) k cap) = w9 := ⟨_, rfl⟩
          have hO9 : Only b wr w9 := by rw [← hw9]; exact (Only.refl b wr).set _ _
          have hlen : (fsR (L.take k)).length = k := by rw [fsR_len]; simp; omega
          rw [hw9]
          refine ⟨rfl, .slice (some ⟨g, off, none⟩) k cap, ?_, ⟨hsR, fun q' hq' => hbd q' (List.mem_of_mem_take hq'), rfl, MapAt.block hmR (hO9.block m (MapAt.lt hmR) hmb), .inr ⟨g, off, cap, cur, by rw [hlen], hO9.holds hHR hgb, by omega, hsz, hmx, hnz, ?_⟩⟩, hKR.trans' (Keep.only hO9 (.inl rfl)), rfl⟩
          · have := hhR.set (o + 1) (.slice (some ⟨g, off, none⟩) k cap)
            rw [hw9] at this
            refine this.congr ?_
            unfold put3
            rw [set_same h0]
            exact set_comm cs (i := o + 2) (j := o + 1) _ _ (by omega)
          · intro j z hz
            refine hc j z ?_
            have hjl := (List.getElem?_eq_some_iff.1 hz).1
            rw [hlen] at hjl
            simp only [fsR, List.map_take] at hz
            rw [List.getElem?_take_of_lt hjl] at hz
            exact hz
        · have hil2 : (i : Int) < (L.length : Int) - k := by omega
          obtain ⟨hst1, hst2⟩ := midR_step L k i (by omega)
          obtain ⟨qq, hqq⟩ : ∃ qq, L[k + i]'(by omega) = qq := ⟨_, rfl⟩
          rw [hqq] at hst1
          have hLq : L[k + i]? = some qq := by rw [List.getElem?_eq_getElem (by omega), hqq]
          have hmem : qq ∈ L := List.mem_of_getElem? hLq
          have hqb := hbd qq hmem
          have hqp := hsr.pos qq hmem
          unfold topPg at hqb
          have cgi : wr.cell? ⟨g, off + k + i, none⟩ = some (.int .i64 qq.1) := by
            rw [hHR.cell, Nat.add_assoc]
            exact hc (k + i) qq.1 (by simp [fsR, hLq])
          have cr0 : wr.cell? ⟨b, o, none⟩ = some (.map (some m)) := by rw [hhR.cell, Array.getElem?_setIfInBounds_ne (by omega)]; exact h0
          obtain ⟨T, hT⟩ : ∃ T, totR (midR L k i) = T := ⟨_, rfl⟩
          rw [hT] at hhR
          have ho2 : o + 2 < cs.size := (Array.getElem?_eq_some_iff.1 h2).1
          have cr2 : wr.cell? ⟨b, o + 2, none⟩ = some (.int .i64 T) := by rw [hhR.cell, Array.getElem?_setIfInBounds_self_of_lt ho2]
          have z2 := hhR.frozen (o + 2)
          have hbT : 0 ≤ T ∧ T ≤ 1099511627776 := by
            have e1 := totR_nonneg hsR
            have e2 := totR_le hsR (lo := 0) (fun q' hq' => ?_) (fun q' hq' => ?_) (by decide)
            · unfold topPg at e2
              rw [hT] at e1 e2
              omega
            · unfold midR at hq'
              rcases List.mem_append.1 hq' with h | h
              · exact (hbd q' (List.mem_of_mem_take h)).1
              · exact (hbd q' (List.mem_of_mem_drop h)).1
            · unfold midR at hq'
              rcases List.mem_append.1 hq' with h | h
              · exact (hbd q' (List.mem_of_mem_take h)).2
              · exact (hbd q' (List.mem_of_mem_drop h)).2
          obtain ⟨hbT1, hbT2⟩ := hbT
          have hwf : (Lit.int .i64 qq.1).wf = true := wfI (by omega) (by omega)
          rw [hst1] at hmR hsR hT
          have hlk := lookR_rm_q hsR
          have hlook : (Instr.lookup 70 (.map (some m)) (.int .i64 qq.1) false).run Tryz.prog wr.drew = .ok (.int .i64 qq.2) wr.drew := by
            have h3 : MapAt RI encI wr.drew m KP (lookR (L.take k ++ qq :: L.drop (k + (i + 1)))) := hmR
            have := h3.look elemI Tryz.underlying70 (zeroI _) hwf false
            rw [hlk] at this
            exact this
          obtain ⟨X, hX⟩ : ∃ X, wr.drew.setCell ⟨b, o + 2, none⟩ (.int .i64 (T - (qq.2 - qq.1))) = X := ⟨_, rfl⟩
          have hhX : Holds X b t (cs.setIfInBounds (o + 2) (.int .i64 (T - (qq.2 - qq.1)))) := by
            rw [← hX]
            refine (hhR.drew.set (o + 2) _).congr ?_
            simp
          have hOX : Only b wr X := by rw [← hX]; exact (Only.refl b wr).drew.set _ _
          have cX0 : X.cell? ⟨b, o, none⟩ = some (.map (some m)) := by rw [hhX.cell, Array.getElem?_setIfInBounds_ne (by omega)]; exact h0
          have hmX : MapAt RI encI X m KP (lookR (L.take k ++ qq :: L.drop (k + (i + 1)))) := MapAt.block hmR (hOX.block m (MapAt.lt hmR) hmb)
          obtain ⟨Y, hdel, hmY, hOY, hsY⟩ := hmX.drop Tryz.underlying70 hwf 0
          have HN : Hid (Holds Y b t (cs.setIfInBounds (o + 2) (.int .i64 (totR (midR L k (i + 1))))) ∧ MapAt RI encI Y m KP (lookR (midR L k (i + 1))) ∧ Srt (midR L k (i + 1)) ∧ Holds Y g 3 cur ∧ Keep (SpFoot b (some m) (.slice (some ⟨g, off, none⟩) L.length cap)) w Y) := by
            rw [hst2]
            refine ⟨?_, MapAt.congr hmY (fun v => (lookR_rm hsR v).symm), srt_rm hsR, hOY.holds (hOX.holds hHR hgb) hgm, (hKR.trans' (Keep.only hOX (.inl rfl))).trans' (Keep.only hOY (.inr (.inl rfl)))⟩
            rw [totR_rm (q := qq), hT]
            exact hOY.holds hhX (Ne.symm hmb)
          clear hmR hsR hst1 hst2 hqq hLq hmem hlk hT hmX hmY hhX hOX hOY hKR hHR
          go_wp2_with fail
          refine wp_region_qtail 13 mixedP (by kernel_rfl) ?_
          simp only [List.take_succ_cons, List.take_zero, List.drop_succ_cons, List.drop_zero]
          go_big_quiet_step (fail)
          go_big_quiet_step (fail)
          go_big_quiet_step (fail)
          go_big_quiet_step (fail)
          go_big_quiet_step (fail)
          go_big_quiet_step (fail)
          go_big_quiet_step (fail)
          go_big_quiet_step (fail)
          go_big_quiet_step (fail)
          refine wpQ_at rfl (.int .i64 qq.2) (fun W hW => by subst hW; go_simp) ?_
          go_frame
          go_big_quiet_step (fail)
          go_big_quiet_step (fail)
          go_big_quiet_step (fail)
          refine wpQuiet_nil ?_
          go_wp2_with fail
          go_roundw
          case rel => exact ⟨i + 1, by go_num, by omega, HN.out.1, HN.out.2.1, HN.out.2.2.1, HN.out.2.2.2.1, HN.out.2.2.2.2⟩
          case measure => simp [Lib.intOf]; omega
end Go.Proofs.YtjklcnknbcmgoaaGreatDoor
