/-
  Texts of this claim, put together.
-/
import Derived.Test.YtjklcnknbcmgoaaGreatDoorGH
/-
  A pager's Free, of one page.
-/
namespace Go.Proofs.YtjklcnknbcmgoaaGreatDoor
open Go Go.RowKit Go.Maps

open Classical in
/-- What free tells, and the pager then. -/
noncomputable def freeS (S : St) (n : Int) : Bool × St :=
  if (S.Fr n).isSome = true then (true, { S with P := { S.P with count := totR (addI S.L n (n + 1)) }, L := addI S.L n (n + 1), Fr := setM S.Fr n none })
  else if n < 2 ∨ S.P.pages ≤ n ∨ inR S.L n ∨ (S.Fd n).isSome = true then (false, S)
  else (true, { S with Fd := setM S.Fd n (some ()) })
set_option maxRecDepth 8000 in
set_option maxHeartbeats 1000000 in
theorem gfree1_any {w : World} {b : Nat} {H : Hs} {S : St} (a : PgAt w b H S) (hfr : ∀ u x, S.Fr u = some x → 0 ≤ u ∧ u < topPg ∧ ¬ inR S.L u) (hfd : ∀ u x, S.Fd u = some x → 0 ≤ u ∧ u < topPg) (hpg : S.P.pages ≤ topPg) (n : Int) (hn : -9223372036854775808 ≤ n ∧ n < 9223372036854775807) :
    Calls Tryz.prog 54 #[.pointer (some ⟨b, 0, none⟩), .int .i64 n] w fun e w' => e = .returned (.bool (freeS S n).1) ∧ ∃ H', PgAt w' b H' (freeS S n).2 ∧ PgDone w b H w' H' := by
  have hq := pg_eql
  obtain ⟨hn1, hn2⟩ := hn
  have hwf : (Lit.int .i64 n).wf = true := wfI hn1 (by omega)
  have c9 : w.cell? ⟨b, 9, none⟩ = some (.map (some H.h.fresh)) := a.cells.cell 9
  have hhas := sethas_any (w := w) (mo := some H.h.fresh) (k := KP) (S := S.Fr) a.fresh n hwf
  unfold freeS
  cases hF : S.Fr n with
  | some x =>
    rw [if_pos (by rfl)]
    rw [hF] at hhas
    obtain ⟨hb1, hb2, hb3⟩ := hfr n x hF
    unfold topPg at hb2
    dsimp only
    go_enter Tryz.func54, Tryz.ntmps54
    go_wp2_with fail
    refine hhas.mono ?_
    rintro e w1 ⟨rfl, hB1⟩
    have a1 := a.below hB1
    have c19 : w1.cell? ⟨b, 9, none⟩ = some (.map (some H.h.fresh)) := a1.cells.cell 9
    obtain ⟨w2, hdel, hm2, hO2, hs2⟩ := a1.fresh.drop Tryz.underlying69 hwf 0
    obtain ⟨a2, d2⟩ := a1.setFresh hm2 hO2
    have hadd := sadd_any (o := 6) a2.cells (by decide) rfl rfl rfl a2.sp n (n + 1) hb1 (by unfold topPg; omega) (fun u h1 h2 hu => hb3 (by rw [show n = u by omega]; exact hu))
    have HA : Hid _ := a2
    have HD : Hid (PgDone w b H w2 H) := (PgDone.below hB1).trans d2
    clear hhas a1 a2 d2 hm2 hO2 hs2
    dsimp only at hadd
    go_wp2_with fail
    refine hadd.mono ?_
    rintro e w3 ⟨rfl, r', f', hp3, hs3, hk3, hn3⟩
    obtain ⟨a3, d3⟩ := HA.out.setSp hp3 hs3 hk3 hn3
    have HA3 : Hid _ := a3
    have HD3 : Hid _ := HD.out.trans d3
    clear hadd hp3 hs3 hk3 hn3 a3 d3
    go_wp2_with fail
    go_ret
    exact ⟨rfl, _, HA3.out, HD3.out⟩
  | none =>
    rw [if_neg (by simp)]
    rw [hF] at hhas
    by_cases hn2 : n < 2
    · rw [if_pos (.inl hn2)]
      dsimp only
      go_enter Tryz.func54, Tryz.ntmps54
      go_wp2_with fail
      refine hhas.mono ?_
      rintro e w1 ⟨rfl, hB1⟩
      clear hhas
      go_wp2_with fail
      go_ret
      exact ⟨rfl, H, a.below hB1, PgDone.below hB1⟩
    by_cases hnp : S.P.pages ≤ n
    · rw [if_pos (.inr (.inl hnp))]
      dsimp only
      go_enter Tryz.func54, Tryz.ntmps54
      go_wp2_with fail
      refine hhas.mono ?_
      rintro e w1 ⟨rfl, hB1⟩
      have a1 := a.below hB1
      have c14 : w1.cell? ⟨b, 1 + 3, none⟩ = some (.int .i64 S.P.pages) := a1.cells.cell 4
      clear hhas
      go_wp2_with fail
      go_ret
      exact ⟨rfl, H, a1, PgDone.below hB1⟩
    by_cases hin : inR S.L n
    · rw [if_pos (.inr (.inr (.inl hin)))]
      have hib : inB S.L n = true := by simpa [inB] using hin
      dsimp only
      go_enter Tryz.func54, Tryz.ntmps54
      go_wp2_with fail
      refine hhas.mono ?_
      rintro e w1 ⟨rfl, hB1⟩
      have a1 := a.below hB1
      have c14 : w1.cell? ⟨b, 1 + 3, none⟩ = some (.int .i64 S.P.pages) := a1.cells.cell 4
      have hsh := shas_any (o := 6) a1.cells rfl rfl a1.sp n
      rw [hib] at hsh
      have HD1 : Hid (PgDone w b H w1 H) := PgDone.below hB1
      have HA1 : Hid (PgAt w1 b H S) := a1
      clear hhas a1 hB1
      go_wp2_with fail
      refine hsh.mono ?_
      rintro e w2 ⟨rfl, hB2⟩
      clear hsh
      go_wp2_with fail
      go_ret
      exact ⟨rfl, H, HA1.out.below hB2, HD1.out.trans (PgDone.below hB2)⟩
    have hib : inB S.L n = false := by simpa [inB] using hin
    have hhas2 : ∀ W, PgAt W b H S → Calls Tryz.prog 47 #[.map (some H.h.freed), .int .i64 n] W fun e w' => e = .returned (.bool (S.Fd n).isSome) ∧ Below W.heap.size W w' := fun W hW => sethas_any (w := W) (mo := some H.h.freed) (k := KP) (S := S.Fd) hW.freed n hwf
    cases hD : S.Fd n with
    | some x =>
      rw [if_pos (.inr (.inr (.inr rfl)))]
      rw [hD] at hhas2
      dsimp only
      go_enter Tryz.func54, Tryz.ntmps54
      go_wp2_with fail
      refine hhas.mono ?_
      rintro e w1 ⟨rfl, hB1⟩
      have a1 := a.below hB1
      have c14 : w1.cell? ⟨b, 1 + 3, none⟩ = some (.int .i64 S.P.pages) := a1.cells.cell 4
      have hsh := shas_any (o := 6) a1.cells rfl rfl a1.sp n
      rw [hib] at hsh
      have HD1 : Hid (PgDone w b H w1 H) := PgDone.below hB1
      have HA1 : Hid (PgAt w1 b H S) := a1
      clear hhas a1 hB1
      go_wp2_with fail
      refine hsh.mono ?_
      rintro e w2 ⟨rfl, hB2⟩
      have a2 := HA1.out.below hB2
      have c2 : w2.cell? ⟨b, 10, none⟩ = some (.map (some H.h.freed)) := a2.cells.cell 10
      have hh2 := hhas2 w2 a2
      clear hsh hhas2
      go_wp2_with fail
      refine hh2.mono ?_
      rintro e w3 ⟨rfl, hB3⟩
      clear hh2
      go_wp2_with fail
      go_ret
      exact ⟨rfl, H, a2.below hB3, (HD1.out.trans (PgDone.below hB2)).trans (PgDone.below hB3)⟩
    | none =>
      rw [if_neg (by rintro (h | h | h | h); exact hn2 h; exact hnp h; exact hin h; cases h)]
      rw [hD] at hhas2
      have hbn : 0 ≤ n ∧ n < topPg := by unfold topPg at *; omega
      dsimp only
      go_enter Tryz.func54, Tryz.ntmps54
      go_wp2_with fail
      refine hhas.mono ?_
      rintro e w1 ⟨rfl, hB1⟩
      have a1 := a.below hB1
      have c14 : w1.cell? ⟨b, 1 + 3, none⟩ = some (.int .i64 S.P.pages) := a1.cells.cell 4
      have hsh := shas_any (o := 6) a1.cells rfl rfl a1.sp n
      rw [hib] at hsh
      have HD1 : Hid (PgDone w b H w1 H) := PgDone.below hB1
      have HA1 : Hid (PgAt w1 b H S) := a1
      clear hhas a1 hB1
      go_wp2_with fail
      refine hsh.mono ?_
      rintro e w2 ⟨rfl, hB2⟩
      have a2 := HA1.out.below hB2
      have c2 : w2.cell? ⟨b, 10, none⟩ = some (.map (some H.h.freed)) := a2.cells.cell 10
      have hh2 := hhas2 w2 a2
      clear hsh hhas2
      go_wp2_with fail
      refine hh2.mono ?_
      rintro e w3 ⟨rfl, hB3⟩
      have a3 := a2.below hB3
      have c3 : w3.cell? ⟨b, 10, none⟩ = some (.map (some H.h.freed)) := a3.cells.cell 10
      have hm3 := a3.freed
      have HA3 : Hid (PgAt w3 b H S) := a3
      have HD3 : Hid (PgDone w b H w3 H) := (HD1.out.trans (PgDone.below hB2)).trans (PgDone.below hB3)
      clear hh2 a2 a3
      go_wp2_with ((((with_reducible show wpList _ _ _ (Oper.mk _ (Op.mapUpdate _ _ _ _) _ _ _ _ :: _) _ _)); go_must (refine wpList_updI elemU Tryz.underlying69 rfl _ _ _ rfl hm3 (by decide) hwf () rfl rfl rfl ?_; intro w5 hm5 hO5 hs5)))
      go_ret
      obtain ⟨a5, d5⟩ := HA3.out.setFreed (MapAt.smallN hm5 (fun u x hu => by
        unfold setM at hu
        split at hu
        · rename_i e
          rw [e]; exact hbn
        · exact hfd u x hu)) hO5
      exact ⟨rfl, _, a5, HD3.out.trans d5⟩
end Go.Proofs.YtjklcnknbcmgoaaGreatDoor
/-
  A pager's Free, of one page; forget.
-/
namespace Go.Proofs.YtjklcnknbcmgoaaGreatDoor
open Go Go.RowKit Go.Maps

set_option maxRecDepth 8000 in
set_option maxHeartbeats 1000000 in
theorem gfree_one {w : World} {b : Nat} {H : Hs} {S : St} (a : PgAt w b H S) (hfr : ∀ u x, S.Fr u = some x → 0 ≤ u ∧ u < topPg ∧ ¬ inR S.L u) (hfd : ∀ u x, S.Fd u = some x → 0 ≤ u ∧ u < topPg) (hpg : S.P.pages ≤ topPg) (n : Int) (hn : -9223372036854775808 ≤ n ∧ n < 9223372036854775807)
    {g : Nat} {t : TypeId} (hg : Holds w g t #[.int .i64 n]) (hgf : ¬ PgFoot b H g) :
    Calls Tryz.prog 26 #[.pointer (some ⟨b, 0, none⟩), .slice (some ⟨g, 0, none⟩) 1 1] w fun e w' => e = .returned (.int .i64 (if (freeS S.begun n).1 = true then 1 else 0)) ∧ ∃ H', PgAt w' b H' (freeS S.begun n).2 ∧ PgDone w b H w' H' := by
  have hq := pg_eql
  have hbg := gbegin_any a
  have hf1 : ∀ W, PgAt W b H S.begun → Calls Tryz.prog 54 #[.pointer (some ⟨b, 0, none⟩), .int .i64 n] W fun e w' => e = .returned (.bool (freeS S.begun n).1) ∧ ∃ H', PgAt w' b H' (freeS S.begun n).2 ∧ PgDone W b H w' H' := fun W hW => gfree1_any hW hfr hfd hpg n hn
  obtain ⟨⟨B, S'⟩, hR⟩ : ∃ R, freeS S.begun n = R := ⟨_, rfl⟩
  rw [hR] at hf1 ⊢
  dsimp only at hf1 ⊢
  clear hR
  go_enter Tryz.func26, Tryz.ntmps26
  go_wp2_with fail
  refine hbg.mono ?_
  rintro e w1 ⟨rfl, a1, d1⟩
  have hg1 := d1.keep.holds hg hgf
  clear hbg
  go_wp2_with fail
  go_loopw [5, 7, 14] (fun c _ i wr => (c = .int .i64 0 ∧ i = .int .i64 0 ∧ wr = w1) ∨ (c = .int .i64 (if B = true then 1 else 0) ∧ i = .int .i64 1 ∧ ∃ H', PgAt wr b H' S' ∧ PgDone w b H wr H')) (fun _ _ i _ => 1 - (Lib.intOf i).toNat)
  case atStart => exact .inl ⟨rfl, rfl, rfl⟩
  case round =>
    rcases hrel with ⟨rfl, rfl, rfl⟩ | ⟨rfl, rfl, H', a', d'⟩
    · have cg : wr.cell? ⟨g, 0, none⟩ = some (.int .i64 n) := hg1.cell 0
      have hff := hf1 wr a1
      have HD : Hid (PgDone w b H wr H) := d1
      clear hf1 a1 d1
      go_wp2_with fail
      refine hff.mono ?_
      rintro e w2 ⟨rfl, H2, a2, d2⟩
      have HA2 : Hid (PgAt w2 b H2 S') := a2
      have HD2 : Hid (PgDone w b H w2 H2) := HD.out.trans d2
      clear hff a2 d2
      cases B with
      | true =>
        go_wp2_with fail
        go_roundw
        case rel => exact .inr ⟨rfl, rfl, H2, HA2.out, HD2.out⟩
        case measure => simp [Lib.intOf]
      | false =>
        go_wp2_with fail
        go_roundw
        case rel => exact .inr ⟨rfl, rfl, H2, HA2.out, HD2.out⟩
        case measure => simp [Lib.intOf]
    · have HA2 : Hid (PgAt wr b H' S') := a'
      have HD2 : Hid (PgDone w b H wr H') := d'
      clear a' d' hf1
      cases B with
      | true =>
        go_wp2_with fail
        go_ret
        exact ⟨rfl, H', HA2.out, HD2.out⟩
      | false =>
        go_wp2_with fail
        go_ret
        exact ⟨rfl, H', HA2.out, HD2.out⟩
/-- A map is made empty. -/
theorem MapAt.clear {α : Type} {R : Value → Option (DataW Unit × List MemPlace)} {enc : α → DataW Unit} {t e : TypeId} (ht : Tryz.prog.underlying t = some (.map 3 e)) {w : World} {m n : Nat} {M : Int → Option α} (h : MapAt R enc w m n M) (ty : TypeId) :
    ∃ w', (Builtin.clear_ #[t] ty #[.map (some m)]).run Tryz.prog w = .ok (.tuple #[]) w' ∧ MapAt R enc w' m n (fun _ => none) ∧ Only m w w' := by
  obtain ⟨D, ⟨es, clock, hb, F, hs, hD⟩, hr⟩ := h
  refine ⟨ChangeMaps.setBlock w m (.map #[] clock), ?_, ⟨.map [], ⟨#[], clock, ChangeMaps.heap_setBlock_same hb _, ⟨by simp, MapKept.stamped_empty clock, by simp⟩, Nat.zero_le _, rfl⟩, Says.empty⟩, ⟨rfl, rfl, rfl, by simp [ChangeMaps.setBlock], fun k _ hk => ChangeMaps.heap_setBlock_other hb _ (fun e => hk e)⟩⟩
  simp [Builtin.clear_, run_underlying ht, MapKept.run_getObj_map hb, MapKept.run_setObj_map _ hb, Result.andThen, ChangeMaps.setBlock]
def St.forgot (S : St) : St := { S with Fr := fun _ => none, Fd := fun _ => none }
set_option maxRecDepth 8000 in
theorem gforget_any {w : World} {b : Nat} {H : Hs} {S : St} (a : PgAt w b H S) : Calls Tryz.prog 42 #[.pointer (some ⟨b, 0, none⟩)] w fun e w' => e = .returned (.tuple #[]) ∧ PgAt w' b H S.forgot ∧ PgDone w b H w' H := by
  have c9 : w.cell? ⟨b, 9, none⟩ = some (.map (some H.h.fresh)) := a.cells.cell 9
  obtain ⟨w1, hc1, hm1, hO1⟩ := a.fresh.clear Tryz.underlying69 0
  obtain ⟨a1, d1⟩ := a.setFresh hm1 hO1
  have c10 : w1.cell? ⟨b, 10, none⟩ = some (.map (some H.h.freed)) := a1.cells.cell 10
  obtain ⟨w2, hc2, hm2, hO2⟩ := a1.freed.clear Tryz.underlying69 0
  obtain ⟨a2, d2⟩ := a1.setFreed hm2 hO2
  have HF : Hid (PgAt w2 b H S.forgot ∧ PgDone w b H w2 H) := ⟨a2, d1.trans d2⟩
  clear a1 d1 a2 d2 hm1 hm2 hO1 hO2 a
  go_enter Tryz.func42, Tryz.ntmps42
  go_wp2_with fail
  go_end0
  exact ⟨rfl, HF.out⟩
end Go.Proofs.YtjklcnknbcmgoaaGreatDoor
/-
  Steps in turn: three, of which the third is the first again.
-/
namespace Go.Proofs.YtjklcnknbcmgoaaGreatDoor
open Go Go.RowKit Go.Maps

set_option maxRecDepth 8000 in
set_option maxHeartbeats 1000000 in
theorem ginturn_any {w : World} {g : Nat} {t : TypeId} {x y : Value} (hg : Holds w g t #[.func (.func 50) #[] #[x], .func (.func 51) #[] #[x, y], .func (.func 50) #[] #[x]]) (e0 e1 e2 : Int) (Q1 Q2 Q3 : World → Prop)
    (h0 : Calls Tryz.prog 50 #[x] w fun e w' => e = .returned (.int .i64 e0) ∧ Q1 w')
    (h1 : ∀ W, Q1 W → e0 = 0 → Calls Tryz.prog 51 #[x, y] W fun e w' => e = .returned (.int .i64 e1) ∧ Q2 w')
    (h2 : ∀ W, Q2 W → e1 = 0 → Calls Tryz.prog 50 #[x] W fun e w' => e = .returned (.int .i64 e2) ∧ Q3 w')
    (hk1 : ∀ W, Q1 W → Holds W g t #[.func (.func 50) #[] #[x], .func (.func 51) #[] #[x, y], .func (.func 50) #[] #[x]])
    (hk2 : ∀ W, Q2 W → Holds W g t #[.func (.func 50) #[] #[x], .func (.func 51) #[] #[x, y], .func (.func 50) #[] #[x]]) :
    Calls Tryz.prog 53 #[.slice (some ⟨g, 0, none⟩) 3 3] w fun e w' => (e0 ≠ 0 ∧ e = .returned (.int .i64 e0) ∧ Q1 w') ∨ (e0 = 0 ∧ e1 ≠ 0 ∧ e = .returned (.int .i64 e1) ∧ Q2 w') ∨ (e0 = 0 ∧ e1 = 0 ∧ e = .returned (.int .i64 e2) ∧ Q3 w') := by
  have H1 : Hid _ := h1
  have H2 : Hid _ := h2
  have K1 : Hid _ := hk1
  have K2 : Hid _ := hk2
  clear h1 h2 hk1 hk2
  go_enter Tryz.func53, Tryz.ntmps53
  go_wp2_with fail
  go_loopw [4, 5, 8] (fun _ _ i wr => (i = .int .i64 0 ∧ wr = w) ∨ (i = .int .i64 1 ∧ e0 = 0 ∧ Q1 wr) ∨ (i = .int .i64 2 ∧ e0 = 0 ∧ e1 = 0 ∧ Q2 wr) ∨ (i = .int .i64 3 ∧ e0 = 0 ∧ e1 = 0 ∧ e2 = 0 ∧ Q3 wr)) (fun _ _ i _ => 3 - (Lib.intOf i).toNat)
  case atStart => exact .inl ⟨rfl, rfl⟩
  case round =>
    rcases hrel with ⟨rfl, rfl⟩ | ⟨rfl, hz, hq⟩ | ⟨rfl, hz, hz1, hq⟩ | ⟨rfl, hz, hz1, hz2, hq⟩
    · have cg : wr.cell? ⟨g, 0, none⟩ = some (.func (.func 50) #[] #[x]) := hg.cell 0
      go_wp2_with fail
      refine h0.mono ?_
      rintro e w2 ⟨rfl, hq⟩
      clear h0
      by_cases hz : e0 = 0
      · go_wp2_with fail
        go_roundw
        case rel => exact .inr (.inl ⟨rfl, hz, hq⟩)
        case measure => simp [Lib.intOf]
      · go_wp2_with fail
        go_ret
        exact .inl ⟨hz, rfl, hq⟩
    · have cg : wr.cell? ⟨g, 1, none⟩ = some (.func (.func 51) #[] #[x, y]) := (K1.out wr hq).cell 1
      have hh := H1.out wr hq hz
      clear h0
      go_wp2_with fail
      refine hh.mono ?_
      rintro e w2 ⟨rfl, hq2⟩
      clear hh
      by_cases hz1 : e1 = 0
      · go_wp2_with fail
        go_roundw
        case rel => exact .inr (.inr (.inl ⟨rfl, hz, hz1, hq2⟩))
        case measure => simp [Lib.intOf]
      · go_wp2_with fail
        go_ret
        exact .inr (.inl ⟨hz, hz1, rfl, hq2⟩)
    · have cg : wr.cell? ⟨g, 2, none⟩ = some (.func (.func 50) #[] #[x]) := (K2.out wr hq).cell 2
      have hh := H2.out wr hq hz1
      clear h0
      go_wp2_with fail
      refine hh.mono ?_
      rintro e w2 ⟨rfl, hq2⟩
      clear hh
      by_cases hz2 : e2 = 0
      · go_wp2_with fail
        go_roundw
        case rel => exact .inr (.inr (.inr ⟨rfl, hz, hz1, hz2, hq2⟩))
        case measure => simp [Lib.intOf]
      · go_wp2_with fail
        go_ret
        exact .inr (.inr ⟨hz, hz1, rfl, hq2⟩)
    · clear h0
      go_wp2_with fail
      go_ret
      exact .inr (.inr ⟨hz, hz1, by rw [hz2]; rfl, hq⟩)
end Go.Proofs.YtjklcnknbcmgoaaGreatDoor
