/-
  A pager's Rollback.
-/
import Derived.Test.YtjklcnknbcmgoaaGreatDoorGCommitW
namespace Go.Proofs.YtjklcnknbcmgoaaGreatDoor
open Go Go.RowKit Go.Maps

/-- The first page that was never used, by its meta. -/
def St.endB (S : St) : Int := max S.P.pages 2
set_option maxRecDepth 8000 in
set_option maxHeartbeats 2000000 in
theorem groll_any {w : World} {b : Nat} {H : Hs} {S : St} (a : PgAt w b H S) (hpg : S.P.pages ≤ topPg) (hfr : ∀ u x, S.Fr u = some x → 0 ≤ u ∧ u < topPg ∧ ¬ inR S.L u) :
    Calls Tryz.prog 21 #[.pointer (some ⟨b, 0, none⟩)] w fun e w' => e = .returned (.tuple #[]) ∧ ∃ H' L', PgAt w' b H' ⟨{ S.P with used := true, stop := S.endB, count := totR L' }, L', fun _ => none, fun _ => none, S.D⟩ ∧ PgDone w b H w' H' ∧ (∀ q, q ∈ L' ↔ (q ∈ S.L ∧ q.1 < S.endB) ∨ ∃ n, (S.Fr n).isSome = true ∧ n < S.endB ∧ q = (n, n + 1)) := by
  have hq := pg_eql
  have hbg := gbegin_any a
  obtain ⟨E, hE⟩ : ∃ E, S.endB = E := ⟨_, rfl⟩
  have hEd : max S.P.pages 2 = E := hE
  have hE1 : 2 ≤ E ∧ E ≤ 1099511627776 := by unfold topPg at hpg; omega
  obtain ⟨hE2, hE3⟩ := hE1
  rw [hE]
  go_enter Tryz.func21, Tryz.ntmps21
  go_wp2_with fail
  refine hbg.mono ?_
  rintro e w1 ⟨rfl, a1, d1⟩
  have hra : w1.rangeAt b 1 [.int .i64 S.P.tx, .int .i64 S.P.root, .int .i64 S.P.entries, .int .i64 S.P.pages] := fun j v hv => by
    have hc := a1.cells.cell (1 + j)
    rcases (by have := (List.getElem?_eq_some_iff.1 hv).1; simp at this; omega : j = 0 ∨ j = 1 ∨ j = 2 ∨ j = 3) with rfl | rfl | rfl | rfl <;> (rw [hc, ← hv]; rfl)
  have hbh := gbehind_any S.P.tx S.P.root S.P.entries S.P.pages w1
  rw [hEd] at hbh
  have HD1 : Hid (PgDone w b H w1 H) := d1
  clear hbg d1
  go_wp2_with ((with_reducible show wpList _ _ _ (Oper.mk _ (Op.load 43 _) _ _ _ _ :: _) _ _); go_must (refine wpList_load_mid rfl 43 _ rfl b 1 rfl [.int .i64 S.P.tx, .int .i64 S.P.root, .int .i64 S.P.entries, .int .i64 S.P.pages] _ hra Tryz.underlying43 rfl infoMetaG ?_))
  refine hbh.mono ?_
  rintro e w2 ⟨rfl, hB2⟩
  have a2 := a1.below hB2
  have c25 : w2.cell? ⟨b, 5, none⟩ = some (.int .i64 S.P.stop) := a2.cells.cell 5
  have z25 := a2.cells.frozen 5
  obtain ⟨w3, hw3⟩ : ∃ w3, w2.setCell ⟨b, 5, none⟩ (.int .i64 E) = w3 := ⟨_, rfl⟩
  have hp3 : PgCells w3 b H.h { S.begun.P with stop := E } := by rw [← hw3]; exact (a2.cells.set 5 (.int .i64 E)).congr rfl
  have hO3 : Only b w2 w3 := by rw [← hw3]; exact (Only.refl b w2).set _ _
  obtain ⟨a3, d3⟩ := a2.cell hp3 hO3 rfl
  have c35 : w3.cell? ⟨b, 5, none⟩ = some (.int .i64 E) := a3.cells.cell 5
  have HD3 : Hid (PgDone w b H w3 H) := (HD1.out.trans (PgDone.below hB2)).trans d3
  have hct := scut_any (o := 6) a3.drew.cells (by decide) rfl rfl rfl a3.drew.sp E
  have HA3 : Hid (PgAt w3.drew b H _) := a3.drew
  clear hbh hB2 a1 a2 hp3 hO3 d3 a3 hra HD1
  dsimp only [St.begun] at hct
  go_wp2_with fail
  refine wp_region_qtail 7 mixedP (by kernel_rfl) ?_
  simp only [List.take_succ_cons, List.take_zero, List.drop_succ_cons, List.drop_zero]
  go_big_quiet_step (fail)
  go_big_quiet_step (fail)
  go_big_quiet_step (fail)
  go_big_quiet_step (fail)
  go_big_quiet_step (fail)
  go_big_quiet_step (fail)
  go_big_quiet_step (fail)
  refine wpQuiet_nil ?_
  go_wp2_with fail
  refine hct.mono ?_
  rintro e w4 ⟨rfl, f4, hp4, hs4, hk4, hf4⟩
  obtain ⟨a4, d4⟩ := HA3.out.setSp hp4 hs4 hk4 ⟨fun i h => .inl h, fun i h => .inl (hf4.symm.trans h)⟩
  have HD4 : Hid (PgDone w b H w4 { H with h := { H.h with runs := H.h.runs, firsts := f4 } }) := HD3.out.drew.trans d4
  have c49 : w4.cell? ⟨b, 9, none⟩ = some (.map (some H.h.fresh)) := a4.cells.cell 9
  have hfd4 := a4.fresh
  dsimp only [St.begun] at hfd4
  have HA4 : Hid _ := a4
  clear hct hp4 hs4 hk4 hf4 d4 a4 HD3 HA3
  go_wp2_with (at_range; refine wpList_rangeS rfl _ rfl rfl hfd4 ?_; intro w5 ct5 hrg5 hB5)
  go_frame
  obtain ⟨r, hr⟩ : ∃ r, w4.heap.size = r := ⟨_, rfl⟩
  have a5 := HA4.out.below hB5
  have d5 : PgDone w4 b { H with h := { H.h with runs := H.h.runs, firsts := f4 } } w5 { H with h := { H.h with runs := H.h.runs, firsts := f4 } } := PgDone.below hB5
  rw [hr] at hrg5 ⊢
  clear HA4 c49 hfd4 hB5 c35 z25 c25
  dsimp only [St.begun] at a5
  have hcs := srt_cut a.sp.srt E
  have hcm : ∀ q, q ∈ cutR S.L E ↔ q ∈ S.L ∧ q.1 < E := fun q => mem_cutR a.sp.srt
  have HCM : Hid _ := hcm
  clear hcm
  go_loopw [2] (fun _ wr => ∃ lf ct H' L', CInv b r w4 { H with h := { H.h with runs := H.h.runs, firsts := f4 } } ⟨{ S.P with used := true, stop := E, count := totR (cutR S.L E) }, cutR S.L E, S.Fr, S.Fd, S.D⟩ H.h.fresh S.Fr (fun n => n < E) wr lf ct H' L') (fun _ wr => wr.rangeLeft H.h.fresh r)
  case atStart =>
    refine ⟨_, _, _, cutR S.L E, hrg5, a5, d5, ⟨rfl, rfl⟩, fun q => ⟨fun h => .inl h, fun h => ?_⟩⟩
    rcases h with h | ⟨n, h1, _, h2, _⟩
    · exact h
    · rw [h1] at h2; cases h2
  case round =>
    obtain ⟨lf, ct, H', L', hI⟩ := hrel
    have hrg := hI.rang
    have nr : ¬ PgBlk b H' r := hI.at_.notIter hrg.obj
    go_wp2_with (at_next; refine wpList_nextS rfl _ rfl rfl hrg ?_ ?_)
    · intro hl0
      have hfo := gforget_any hI.at_
      have HI : Hid _ := hI
      clear hI hrg nr
      go_wp2_with fail
      refine hfo.mono ?_
      rintro e w9 ⟨rfl, a9, d9⟩
      clear hfo
      go_wp2_with fail
      go_end0
      refine ⟨rfl, H', L', a9, (HD4.out.trans HI.out.done).trans d9, fun q => ?_⟩
      rw [HI.out.mem q, HCM.out q]
      constructor
      · rintro (h | ⟨n, h1, h3, _, h2⟩)
        · exact .inl h
        · exact .inr ⟨n, h1, h3, h2⟩
      · rintro (h | ⟨n, h1, h3, h2⟩)
        · exact .inl h
        · exact .inr ⟨n, h1, h3, hl0 n, h2⟩
    · intro u w6 ct6 v hlv hlf hrg6 hlt hO6 hen
      have a6 := hI.at_.kept (w' := w6) (fun k hk => hO6.block k (hI.at_.lt k hk) (fun e => nr (e ▸ hk)))
      have c65 : w6.cell? ⟨b, 5, none⟩ = some (.int .i64 E) := a6.cells.cell 5
      obtain ⟨xu, hxu⟩ := Option.isSome_iff_exists.1 hlv
      obtain ⟨hu1, hu2, hu3⟩ := hfr u xu hxu
      have hnu : ∀ n, u ≤ n → n < u + 1 → ¬ inR L' n := by
        intro n h1 h2 h3
        obtain ⟨q, hq, h4, h5⟩ := inR_iff.1 h3
        rcases (hI.mem q).1 hq with h | ⟨n', h6, _, h7, h8⟩
        · exact hu3 (inR_iff.2 ⟨q, ((HCM.out q).1 h).1, by omega, by omega⟩)
        · subst h8
          dsimp only at h4 h5
          have : n' = u := by omega
          subst this
          rw [hlf] at h7
          cases h7
      have hadd := sadd_any (o := 6) a6.cells (by decide) rfl rfl rfl a6.sp u (u + 1) hu1 (by omega) hnu
      unfold topPg at hu2
      have HI : Hid _ := hI
      have HA6 : Hid _ := a6
      have HR : Hid (RangS w6 r H.h.fresh S.Fr (fun x => lf x && !decide (x = u)) ct6) := hrg6
      have HO6 : Hid (Only r wr w6) := hO6
      have HH6 : Hid (¬ PgBlk b H' r) := nr
      have hlt1 := hrg.left
      have hfz : H'.h.fresh = H.h.fresh := HI.out.hfr.2
      have HFZ : Hid (H'.h.fresh = H.h.fresh) := hfz
      clear hfz
      have d6 : Hid (PgDone w4 b { H with h := { H.h with runs := H.h.runs, firsts := f4 } } w6 H') := ⟨HI.out.done.keep.trans (Keep.only HO6.out (S := fun i => i = r) rfl) (fun i hi => .inr (by omega)), HI.out.done.new⟩
      clear hI a6 nr hnu hrg6 hO6
      dsimp only at hadd
      by_cases hue : u < E
      · go_wp2_with fail
        refine hadd.mono ?_
        rintro e w7 ⟨rfl, r', f', hp7, hs7, hk7, hn7⟩
        obtain ⟨a7, d7⟩ := HA6.out.setSp hp7 hs7 hk7 hn7
        have hrg7 : RangS w7 r H.h.fresh S.Fr (fun x => lf x && !decide (x = u)) ct6 := by
          have hml : H.h.fresh < w6.heap.size := by rw [← HFZ.out]; exact HA6.out.fresh.lt
          refine HR.out.only hml hk7 ?_ ?_
          · rintro (q | q | q)
            · exact HH6.out (.inl q)
            · exact HH6.out (.inr (.inl q))
            · exact HH6.out (.inr (.inr (.inl q)))
          · rw [← HFZ.out]
            rintro (q | q | q)
            · exact HA6.out.apartB.2.2.2.1 q.symm
            · exact HA6.out.rf.1 q
            · exact (HA6.out.apartF q).2.2.2.1 rfl
        have HN : Hid (CInv b r w4 { H with h := { H.h with runs := H.h.runs, firsts := f4 } } ⟨{ S.P with used := true, stop := E, count := totR (cutR S.L E) }, cutR S.L E, S.Fr, S.Fd, S.D⟩ H.h.fresh S.Fr (fun n => n < E) w7 (fun x => lf x && !decide (x = u)) ct6 { H' with h := { H'.h with runs := r', firsts := f' } } (addI L' u (u + 1))) := by
          refine ⟨hrg7, a7, d6.out.trans d7, HI.out.hfr, fun q => ?_⟩
          have e : addI L' u (u + 1) = addR L' u (u + 1) := by unfold addI; rw [if_pos (by omega)]
          rw [e, mem_addR, HI.out.mem q]
          constructor
          · rintro (h | h | ⟨n, h1, h2, h3, h4⟩)
            · exact .inr ⟨u, by rw [hxu]; rfl, hue, by simp, h⟩
            · exact .inl h
            · exact .inr ⟨n, h1, h2, by simp [h3], h4⟩
          · rintro (h | ⟨n, h1, h2, h3, h4⟩)
            · exact .inr (.inl h)
            · by_cases hnu : n = u
              · subst hnu; exact .inl h4
              · exact .inr (.inr ⟨n, h1, h2, by simpa [hnu] using h3, h4⟩)
        clear hadd hp7 hs7 hk7 hn7 a7 d7
        go_wp2_with fail
        go_roundw
        case rel => exact ⟨_, _, _, _, HN.out⟩
        case measure => rw [hrg7.left, hlt1]; exact hlt
      · have HN : Hid (CInv b r w4 { H with h := { H.h with runs := H.h.runs, firsts := f4 } } ⟨{ S.P with used := true, stop := E, count := totR (cutR S.L E) }, cutR S.L E, S.Fr, S.Fd, S.D⟩ H.h.fresh S.Fr (fun n => n < E) w6 (fun x => lf x && !decide (x = u)) ct6 H' L') := by
          refine ⟨HR.out, HA6.out, d6.out, HI.out.hfr, fun q => ?_⟩
          rw [HI.out.mem q]
          constructor
          · rintro (h | ⟨n, h1, h2, h3, h4⟩)
            · exact .inl h
            · exact .inr ⟨n, h1, h2, by simp [h3], h4⟩
          · rintro (h | ⟨n, h1, h2, h3, h4⟩)
            · exact .inl h
            · have hnu : n ≠ u := fun e => by subst e; exact hue h2
              exact .inr ⟨n, h1, h2, by simpa [hnu] using h3, h4⟩
        clear hadd
        go_wp2_with fail
        go_roundw
        case rel => exact ⟨_, _, _, _, HN.out⟩
        case measure => rw [HR.out.left, hlt1]; exact hlt
end Go.Proofs.YtjklcnknbcmgoaaGreatDoor
