/-
  Texts of this claim, put together.
-/
import Derived.Test.YtjklcnknbcmgoaaGreatDoorGG
import Derived.Test.YtjklcnknbcmgoaaGreatDoorGD
/-
  A pager in memory, whole.
-/
namespace Go.Proofs.YtjklcnknbcmgoaaGreatDoor
open Go Go.RowKit Go.Maps

/-- A pager as data: its plain parts, the spare pages' runs, the new pages, the freed ones, its device. -/
structure St where
  P : Pgr
  L : Runs
  Fr : Int → Option Unit
  Fd : Int → Option Unit
  D : Dev
/-- Its handles. -/
structure Hs where
  h : Pgh
  d : Hd
/-- What its calls may turn. -/
def PgFoot (b : Nat) (H : Hs) (k : Nat) : Prop := k = b ∨ H.h.runs = some k ∨ H.h.firsts.ownBlock = some k ∨ k = H.h.fresh ∨ k = H.h.freed ∨ Foot H.d k
/-- What it lies in. -/
def PgBlk (b : Nat) (H : Hs) (k : Nat) : Prop := k = b ∨ H.h.runs = some k ∨ H.h.firsts.ownBlock = some k ∨ k = H.h.fresh ∨ k = H.h.freed ∨ Blk H.d k
theorem PgFoot.blk {b : Nat} {H : Hs} {k : Nat} (h : PgFoot b H k) : PgBlk b H k := by
  rcases h with h | h | h | h | h | h
  · exact .inl h
  · exact .inr (.inl h)
  · exact .inr (.inr (.inl h))
  · exact .inr (.inr (.inr (.inl h)))
  · exact .inr (.inr (.inr (.inr (.inl h))))
  · exact .inr (.inr (.inr (.inr (.inr h.blk))))
structure PgAt (w : World) (b : Nat) (H : Hs) (S : St) : Prop where
  cells : PgCells w b H.h S.P
  dev : H.h.dev = H.d.b
  disk : DiskAt w H.d S.D
  sp : SpAt w H.h.runs H.h.firsts S.P.count S.L
  fresh : MapAt unitElem encU w H.h.fresh KP S.Fr
  freed : MapAt unitElem encU w H.h.freed KP S.Fd
  ff : H.h.fresh ≠ H.h.freed
  rf : H.h.runs ≠ some H.h.fresh ∧ H.h.runs ≠ some H.h.freed
  df : ¬ Blk H.d H.h.fresh ∧ ¬ Blk H.d H.h.freed
  dr : ∀ m, H.h.runs = some m → ¬ Blk H.d m
/-- What a call leaves. -/
structure PgDone (w : World) (b : Nat) (H : Hs) (w' : World) (H' : Hs) : Prop where
  keep : Keep (PgFoot b H) w w'
  new : ∀ k, PgFoot b H' k → PgFoot b H k ∨ w.heap.size ≤ k
theorem PgDone.refl (w : World) (b : Nat) (H : Hs) : PgDone w b H w H := ⟨Keep.refl _ _, fun _ h => .inl h⟩
theorem PgDone.trans {w w1 w2 : World} {b : Nat} {H H1 H2 : Hs} (h : PgDone w b H w1 H1) (k : PgDone w1 b H1 w2 H2) : PgDone w b H w2 H2 :=
  ⟨h.keep.trans k.keep (fun i hi => h.new i hi), fun i hi => by
    rcases k.new i hi with q | q
    · exact h.new i q
    · exact .inr (Nat.le_trans h.keep.size q)⟩
theorem PgDone.below {w w1 : World} {b : Nat} {H : Hs} (h : Below w.heap.size w w1) : PgDone w b H w1 H := ⟨Keep.below h, fun _ h => .inl h⟩
theorem Holds.ne {w : World} {g b : Nat} {t t' : TypeId} {cs cs' : Array Value} (h : Holds w g t cs) (h' : Holds w b t' cs') (ht : t ≠ t') : g ≠ b := fun e => by
  subst e
  unfold Holds at h h'
  rw [h] at h'
  injection h' with h'
  injection h' with _ h'
  exact ht h'
theorem Holds.neMap {α : Type} {R : Value → Option (DataW Unit × List MemPlace)} {enc : α → DataW Unit} {w : World} {g m n : Nat} {t : TypeId} {cs : Array Value} {M : Int → Option α} (h : Holds w g t cs) (h' : MapAt R enc w m n M) : g ≠ m := fun e => by
  subst e
  obtain ⟨es, cl, hc⟩ := h'.obj
  unfold Holds at h
  rw [h] at hc
  cases hc
section
variable {w w' : World} {b : Nat} {H : Hs} {S : St}
theorem PgAt.lt (a : PgAt w b H S) : ∀ k, PgBlk b H k → k < w.heap.size := by
  rintro k (rfl | h | h | rfl | rfl | h)
  · exact a.cells.lt
  · exact a.sp.map.lt k h
  · exact a.sp.row.lt k h
  · exact a.fresh.lt
  · exact a.freed.lt
  · exact a.disk.lt k h
theorem PgAt.kept (a : PgAt w b H S) (hb : ∀ k, PgBlk b H k → w'.heap[k]? = w.heap[k]?) : PgAt w' b H S where
  cells := by have := a.cells; unfold PgCells Holds at *; rw [hb b (.inl rfl)]; exact this
  dev := a.dev
  disk := a.disk.kept (fun k hk => hb k (.inr (.inr (.inr (.inr (.inr hk))))))
  sp := a.sp.kept (fun k hk => hb k (.inr (.inl hk))) (fun k hk => hb k (.inr (.inr (.inl hk))))
  fresh := a.fresh.block (hb _ (.inr (.inr (.inr (.inl rfl)))))
  freed := a.freed.block (hb _ (.inr (.inr (.inr (.inr (.inl rfl))))))
  ff := a.ff
  rf := a.rf
  df := a.df
  dr := a.dr
theorem PgAt.below (a : PgAt w b H S) (hB : Below w.heap.size w w') : PgAt w' b H S := a.kept (fun k hk => hB.block k (a.lt k hk))
/-- The pager's own cells are in none of the other blocks. -/
theorem PgAt.apartB (a : PgAt w b H S) : ¬ Blk H.d b ∧ H.h.runs ≠ some b ∧ H.h.firsts.ownBlock ≠ some b ∧ b ≠ H.h.fresh ∧ b ≠ H.h.freed := by
  refine ⟨a.disk.notIn a.cells (by decide) (by decide), fun e => ?_, fun e => ?_, a.cells.neMap a.fresh, a.cells.neMap a.freed⟩
  · have := a.sp.map
    rw [e] at this
    exact a.cells.neMap this rfl
  · obtain ⟨cur, hc⟩ := a.sp.row.obj b e
    exact a.cells.ne hc (by decide) rfl
theorem PgAt.apartF (a : PgAt w b H S) {g : Nat} (hg : H.h.firsts.ownBlock = some g) : ¬ Blk H.d g ∧ g ≠ b ∧ H.h.runs ≠ some g ∧ g ≠ H.h.fresh ∧ g ≠ H.h.freed := by
  obtain ⟨cur, hc⟩ := a.sp.row.obj g hg
  refine ⟨a.disk.notIn hc (by decide) (by decide), hc.ne a.cells (by decide), fun e => ?_, hc.neMap a.fresh, hc.neMap a.freed⟩
  have := a.sp.map
  rw [e] at this
  exact hc.neMap this rfl
/-- The pager's own cells alone are turned. -/
theorem PgAt.cell (a : PgAt w b H S) {P' : Pgr} (hp : PgCells w' b H.h P') (hO : Only b w w') (hc : P'.count = S.P.count) : PgAt w' b H { S with P := P' } ∧ PgDone w b H w' H := by
  obtain ⟨n1, n2, n3, n4, n5⟩ := a.apartB
  have hb : ∀ k, k < w.heap.size → k ≠ b → w'.heap[k]? = w.heap[k]? := hO.block
  refine ⟨⟨hp, a.dev, a.disk.kept (fun k hk => hb k (a.disk.lt k hk) (fun e => n1 (e ▸ hk))), ?_, a.fresh.block (hb _ a.fresh.lt (Ne.symm n4)), a.freed.block (hb _ a.freed.lt (Ne.symm n5)), a.ff, a.rf, a.df, a.dr⟩, ⟨Keep.only hO (.inl rfl), fun _ h => .inl h⟩⟩
  have := a.sp.kept (w' := w') (fun k hk => hb k (a.sp.map.lt k hk) (fun e => n2 (e ▸ hk))) (fun k hk => hb k (a.sp.row.lt k hk) (fun e => n3 (e ▸ hk)))
  rw [← hc] at this
  exact this
/-- The new pages alone are turned. -/
theorem PgAt.setFresh (a : PgAt w b H S) {Fr' : Int → Option Unit} (hm : MapAt unitElem encU w' H.h.fresh KP Fr') (hO : Only H.h.fresh w w') : PgAt w' b H { S with Fr := Fr' } ∧ PgDone w b H w' H := by
  obtain ⟨n1, n2, n3, n4, n5⟩ := a.apartB
  refine ⟨⟨hO.holds a.cells n4, a.dev, a.disk.kept (fun k hk => hO.block k (a.disk.lt k hk) (fun e => a.df.1 (e ▸ hk))), a.sp.kept (fun k hk => hO.block k (a.sp.map.lt k hk) (fun e => a.rf.1 (e ▸ hk))) (fun k hk => hO.block k (a.sp.row.lt k hk) (a.apartF hk).2.2.2.1), hm, a.freed.block (hO.block _ a.freed.lt (Ne.symm a.ff)), a.ff, a.rf, a.df, a.dr⟩, ⟨Keep.only hO (.inr (.inr (.inr (.inl rfl)))), fun _ h => .inl h⟩⟩
/-- The freed pages alone are turned. -/
theorem PgAt.setFreed (a : PgAt w b H S) {Fd' : Int → Option Unit} (hm : MapAt unitElem encU w' H.h.freed KP Fd') (hO : Only H.h.freed w w') : PgAt w' b H { S with Fd := Fd' } ∧ PgDone w b H w' H := by
  obtain ⟨n1, n2, n3, n4, n5⟩ := a.apartB
  refine ⟨⟨hO.holds a.cells n5, a.dev, a.disk.kept (fun k hk => hO.block k (a.disk.lt k hk) (fun e => a.df.2 (e ▸ hk))), a.sp.kept (fun k hk => hO.block k (a.sp.map.lt k hk) (fun e => a.rf.2 (e ▸ hk))) (fun k hk => hO.block k (a.sp.row.lt k hk) (a.apartF hk).2.2.2.2), a.fresh.block (hO.block _ a.fresh.lt a.ff), hm, a.ff, a.rf, a.df, a.dr⟩, ⟨Keep.only hO (.inr (.inr (.inr (.inr (.inl rfl))))), fun _ h => .inl h⟩⟩
/-- The spare pages alone are turned. -/
theorem PgAt.setSp (a : PgAt w b H S) {r' : Option Nat} {f' : Value} {L' : Runs} (hp : Holds w' b 89 (put3 (pgCells H.h S.P) 6 r' f' (totR L'))) (hs : SpAt w' r' f' (totR L') L') (hk : Keep (SpFoot b H.h.runs H.h.firsts) w w') (hn : SpNew w H.h.runs H.h.firsts r' f') :
    PgAt w' b { H with h := { H.h with runs := r', firsts := f' } } { S with P := { S.P with count := totR L' }, L := L' } ∧ PgDone w b H w' { H with h := { H.h with runs := r', firsts := f' } } := by
  obtain ⟨n1, n2, n3, n4, n5⟩ := a.apartB
  have hno : ∀ k, k < w.heap.size → (k ≠ b) → (H.h.runs ≠ some k) → (H.h.firsts.ownBlock ≠ some k) → w'.heap[k]? = w.heap[k]? := fun k hlt h1 h2 h3 => by
    refine hk.block k hlt ?_
    rintro (q | q | q)
    · exact h1 q
    · exact h2 q
    · exact h3 q
  have hfr := hno H.h.fresh a.fresh.lt (Ne.symm n4) a.rf.1 (fun e => (a.apartF e).2.2.2.1 rfl)
  have hfd := hno H.h.freed a.freed.lt (Ne.symm n5) a.rf.2 (fun e => (a.apartF e).2.2.2.2 rfl)
  refine ⟨⟨?_, a.dev, a.disk.kept (fun k hk' => hno k (a.disk.lt k hk') (fun e => n1 (e ▸ hk')) (fun e => a.dr k e hk') (fun e => (a.apartF e).1 hk')), hs, a.fresh.block hfr, a.freed.block hfd, a.ff, ⟨fun e => ?_, fun e => ?_⟩, a.df, fun m e => ?_⟩, ⟨hk.mono ?_, ?_⟩⟩
  · exact hp
  · rcases hn.1 _ e with q | q
    · exact a.rf.1 q
    · exact absurd a.fresh.lt (Nat.not_lt.2 q)
  · rcases hn.1 _ e with q | q
    · exact a.rf.2 q
    · exact absurd a.freed.lt (Nat.not_lt.2 q)
  · rcases hn.1 _ e with q | q
    · exact a.dr m q
    · exact fun hb => absurd (a.disk.lt m hb) (Nat.not_lt.2 q)
  · rintro k (q | q | q)
    · exact .inl q
    · exact .inr (.inl q)
    · exact .inr (.inr (.inl q))
  · rintro k (q | q | q | q | q | q)
    · exact .inl (.inl q)
    · rcases hn.1 k q with q | q
      · exact .inl (.inr (.inl q))
      · exact .inr q
    · rcases hn.2 k q with q | q
      · exact .inl (.inr (.inr (.inl q)))
      · exact .inr q
    · exact .inl (.inr (.inr (.inr (.inl q))))
    · exact .inl (.inr (.inr (.inr (.inr (.inl q)))))
    · exact .inl (.inr (.inr (.inr (.inr (.inr q)))))
/-- The device alone is turned. -/
theorem PgAt.setDisk (a : PgAt w b H S) {d' : Hd} {D' : Dev} (d : Done w H.d w' d' D') : PgAt w' b { H with d := d' } { S with D := D' } ∧ PgDone w b H w' { H with d := d' } := by
  obtain ⟨n1, n2, n3, n4, n5⟩ := a.apartB
  have hkb : ∀ k, k < w.heap.size → ¬ Blk H.d k → w'.heap[k]? = w.heap[k]? := fun k hk hn => d.keep.block k hk (fun f => hn f.blk)
  have hfr := a.fresh.block (hkb _ a.fresh.lt a.df.1)
  have hfd := a.freed.block (hkb _ a.freed.lt a.df.2)
  have hmapsT : ∀ {α : Type} {R : Value → Option (DataW Unit × List MemPlace)} {enc : α → DataW Unit} {m n : Nat} {M : Int → Option α}, m < w.heap.size → MapAt R enc w' m n M → ¬ Blk H.d m → ¬ Blk d' m := by
    intro α R enc m n M hlt hm hnb hb
    rcases hb with q | q | q | q
    · exact hnb (.inl (q.trans d.newer.1))
    · rcases d.newer.2 m (.inr (.inl q)) with f | f
      · exact hnb f.blk
      · exact absurd hlt (Nat.not_lt.2 f)
    · rcases d.fo m q with f | f
      · exact hnb (.inr (.inr (.inl f)))
      · exact absurd hlt (Nat.not_lt.2 f)
    · obtain ⟨cur, hc⟩ := d.at_.writes.obj m q
      exact (show Holds w' m 94 cur from hc).neMap hm rfl
  have hmp : MapV RI encI w' KP H.h.runs (lookR S.L) := a.sp.map.block (fun m hm => hkb m (a.sp.map.lt m hm) (a.dr m hm))
  refine ⟨⟨d.keep.holds a.cells (fun f => n1 f.blk), a.dev.trans d.newer.1.symm, d.at_, a.sp.kept (fun m hm => hkb m (a.sp.map.lt m hm) (a.dr m hm)) (fun m hm => hkb m (a.sp.row.lt m hm) (a.apartF hm).1), hfr, hfd, a.ff, a.rf, ⟨hmapsT a.fresh.lt hfr a.df.1, hmapsT a.freed.lt hfd a.df.2⟩, fun m hm => ?_⟩, ⟨d.keep.mono (fun k hk => .inr (.inr (.inr (.inr (.inr hk))))), ?_⟩⟩
  · have h2 := hmp
    rw [hm] at h2
    exact hmapsT (a.sp.map.lt m hm) h2 (a.dr m hm)
  · rintro k (q | q | q | q | q | q)
    · exact .inl (.inl q)
    · exact .inl (.inr (.inl q))
    · exact .inl (.inr (.inr (.inl q)))
    · exact .inl (.inr (.inr (.inr (.inl q))))
    · exact .inl (.inr (.inr (.inr (.inr (.inl q)))))
    · rcases d.newer.2 k q with f | f
      · exact .inl (.inr (.inr (.inr (.inr (.inr f)))))
      · exact .inr f
end
end Go.Proofs.YtjklcnknbcmgoaaGreatDoor
/-
  A pager's begin and Alloc.
-/
namespace Go.Proofs.YtjklcnknbcmgoaaGreatDoor
open Go Go.RowKit Go.Maps

/-- It is too late for Use then. -/
def St.begun (S : St) : St := { S with P := { S.P with used := true } }
theorem PgAt.drew {w : World} {b : Nat} {H : Hs} {S : St} (a : PgAt w b H S) : PgAt w.drew b H S := a.kept (fun _ _ => rfl)
theorem PgDone.drew {w w' : World} {b : Nat} {H H' : Hs} (d : PgDone w b H w' H') : PgDone w b H w'.drew H' := d.trans ⟨⟨rfl, rfl, rfl, Nat.le_refl _, fun _ _ _ => rfl⟩, fun _ h => .inl h⟩
theorem gbegin_any {w : World} {b : Nat} {H : Hs} {S : St} (a : PgAt w b H S) : Calls Tryz.prog 39 #[.pointer (some ⟨b, 0, none⟩)] w fun e w' => e = .returned (.tuple #[]) ∧ PgAt w' b H S.begun ∧ PgDone w b H w' H := by
  by_cases hu : S.P.used = true
  · refine (gbegin_done a.cells hu).mono ?_
    rintro e w' ⟨rfl, rfl⟩
    have e : S.begun = S := by
      obtain ⟨P, L, Fr, Fd, D⟩ := S
      obtain ⟨p1, p2, p3, p4, p5, p6, p7, p8, p9⟩ := P
      dsimp only at hu
      subst hu
      rfl
    rw [e]
    exact ⟨rfl, a, PgDone.refl _ _ _⟩
  · refine (gbegin_first a.cells (by simpa using hu)).mono ?_
    rintro e w' ⟨rfl, hp, hO⟩
    exact ⟨rfl, a.cell hp hO rfl⟩
/-- What Alloc tells, and the pager then. -/
def allocS (S : St) : Int × Int × St :=
  if S.P.broken = true then (0, 13, S.begun) else
  match S.L with
  | q :: _ => (q.1, 0, { S.begun with P := { S.begun.P with count := totR (tookR S.L) }, L := tookR S.L, Fr := setM S.Fr q.1 (some ()) })
  | [] => if S.D.size ≤ S.P.stop then (0, 16, { S.begun with P := { S.begun.P with count := totR (tookR S.L) }, L := tookR S.L }) else (S.P.stop, 0, { S.begun with P := { S.begun.P with count := totR (tookR S.L), stop := S.P.stop + 1 }, L := tookR S.L, Fr := setM S.Fr S.P.stop (some ()) })
theorem ldPtrD {w : World} {ad : Addr} {p : Option Addr} (h : w.cell? ad = some (.pointer p)) : (loadVar 24 ad).run Tryz.prog w = .ok (.pointer p) w := by simp [go_sem, h]
theorem ldIntG {w : World} {ad : Addr} {x : Int} (h : w.cell? ad = some (.int .i64 x)) : (loadVar 3 ad).run Tryz.prog w = .ok (.int .i64 x) w := by simp [go_sem, h]
set_option maxRecDepth 8000 in
set_option maxHeartbeats 1000000 in
theorem galloc_any {w : World} {b : Nat} {H : Hs} {S : St} (a : PgAt w b H S) (hst : 0 ≤ S.P.stop ∧ S.P.stop < topPg) (hfr : ∀ u x, S.Fr u = some x → 0 ≤ u ∧ u < topPg) :
    Calls Tryz.prog 22 #[.pointer (some ⟨b, 0, none⟩)] w fun e w' => e = .returned (.tuple #[.int .i64 (allocS S).1, .int .i64 (allocS S).2.1]) ∧ ∃ H', PgAt w' b H' (allocS S).2.2 ∧ PgDone w b H w' H' := by
  have hq := pg_eql
  have hnot := run_not
  have hbg := gbegin_any a
  obtain ⟨hst1, hst2⟩ := hst
  unfold topPg at hst2
  by_cases hbr : S.P.broken = true
  · have e : allocS S = (0, 13, S.begun) := by unfold allocS; rw [if_pos hbr]
    rw [e]
    dsimp only
    clear e
    go_enter Tryz.func22, Tryz.ntmps22
    go_wp2_with fail
    refine hbg.mono ?_
    rintro e w1 ⟨rfl, a1, d1⟩
    have c11 : w1.cell? ⟨b, 11, none⟩ = some (.bool true) := by have := a1.cells.cell 11; rw [this]; show some (Value.bool S.P.broken) = _; rw [hbr]
    clear hbg
    go_wp2_with fail
    go_ret2
    exact ⟨rfl, H, a1, d1⟩
  · have hbr' : S.P.broken = false := by simpa using hbr
    cases hL : S.L with
    | cons q L0 =>
      have e : allocS S = (q.1, 0, { S.begun with P := { S.begun.P with count := totR (tookR S.L) }, L := tookR S.L, Fr := setM S.Fr q.1 (some ()) }) := by unfold allocS; rw [if_neg hbr, hL]
      rw [e]
      dsimp only
      clear e
      have hqb := a.sp.bnd q (by rw [hL]; exact List.mem_cons_self)
      have hqp := a.sp.srt.pos q (by rw [hL]; exact List.mem_cons_self)
      unfold topPg at hqb
      have hwf : (Lit.int .i64 q.1).wf = true := wfI (by omega) (by omega)
      go_enter Tryz.func22, Tryz.ntmps22
      go_wp2_with fail
      refine hbg.mono ?_
      rintro e w1 ⟨rfl, a1, d1⟩
      have c11 : w1.cell? ⟨b, 11, none⟩ = some (.bool false) := by have := a1.cells.cell 11; rw [this]; show some (Value.bool S.P.broken) = _; rw [hbr']
      have htk := stake_any (o := 6) a1.cells (by decide) rfl rfl rfl a1.sp
      have e1 : tookN S.begun.L = q.1 := by show tookN S.L = _; rw [hL]; rfl
      have e2 : tookB S.begun.L = true := by show tookB S.L = _; rw [hL]; rfl
      rw [e1, e2] at htk
      clear hbg e1 e2
      go_wp2_with fail
      refine htk.mono ?_
      rintro e w2 ⟨rfl, f', hp2, hs2, hk2, hf2⟩
      obtain ⟨a2, d2⟩ := a1.setSp hp2 hs2 hk2 ⟨fun i h => .inl h, fun i h => .inl (hf2.symm.trans h)⟩
      have c29 : w2.cell? ⟨b, 9, none⟩ = some (.map (some H.h.fresh)) := a2.cells.cell 9
      have hm2 := a2.fresh
      have HA : Hid _ := a2
      have HD : Hid _ := d1.trans d2
      clear htk hp2 hs2 hk2 hf2 a1 d1 d2 a2
      go_wp2_with ((((with_reducible show wpList _ _ _ (Oper.mk _ (Op.mapUpdate _ _ _ _) _ _ _ _ :: _) _ _)); go_must (refine wpList_updI elemU Tryz.underlying69 rfl _ _ _ rfl hm2 (by decide) hwf () rfl rfl rfl ?_; intro w3 hm3 hO3 hs3)))
      go_ret2
      obtain ⟨a3, d3⟩ := HA.out.setFresh (MapAt.smallN hm3 (fun u x hu => by
        unfold setM at hu
        split at hu
        · unfold topPg; omega
        · exact hfr u x hu)) hO3
      exact ⟨rfl, _, a3, HD.out.trans d3⟩
    | nil =>
      by_cases hfull : S.D.size ≤ S.P.stop
      · have e : allocS S = (0, 16, { S.begun with P := { S.begun.P with count := totR (tookR S.L) }, L := tookR S.L }) := by unfold allocS; rw [if_neg hbr, hL]; dsimp only; rw [if_pos hfull]
        rw [e]
        dsimp only
        clear e
        go_enter Tryz.func22, Tryz.ntmps22
        go_wp2_with fail
        refine hbg.mono ?_
        rintro e w1 ⟨rfl, a1, d1⟩
        have c11 : w1.cell? ⟨b, 11, none⟩ = some (.bool false) := by have := a1.cells.cell 11; rw [this]; show some (Value.bool S.P.broken) = _; rw [hbr']
        have htk := stake_any (o := 6) a1.cells (by decide) rfl rfl rfl a1.sp
        have e1 : tookN S.begun.L = 0 := by show tookN S.L = _; rw [hL]; rfl
        have e2 : tookB S.begun.L = false := by show tookB S.L = _; rw [hL]; rfl
        rw [e1, e2] at htk
        clear hbg e1 e2
        go_wp2_with fail
        refine htk.mono ?_
        rintro e w2 ⟨rfl, f', hp2, hs2, hk2, hf2⟩
        obtain ⟨a2, d2⟩ := a1.setSp hp2 hs2 hk2 ⟨fun i h => .inl h, fun i h => .inl (hf2.symm.trans h)⟩
        have c25 : w2.cell? ⟨b, 5, none⟩ = some (.int .i64 S.P.stop) := a2.cells.cell 5
        have c20 : w2.cell? ⟨b, 0, none⟩ = some (.pointer (some ⟨H.d.b, 0, none⟩)) := by have := a2.cells.cell 0; rw [this]; show some (Value.pointer (some ⟨H.h.dev, 0, none⟩)) = _; rw [a.dev]
        have hpg := pages_any a2.disk.drew
        have HA : Hid (PgAt w2.drew b _ _) := a2.drew
        have HD : Hid (PgDone w b H w2.drew _) := (d1.trans d2).drew
        clear htk hp2 hs2 hk2 hf2 a1 d1 d2 a2
        dsimp only [St.begun] at hpg
        go_wp2_with fail
        refine wp_region_class (fun W => W = w2.drew) mixedP (by kernel_rfl) rfl ?_
        go_big_quiet_step (exact fun _ => rfl)
        go_big_quiet_step (exact fun _ => rfl)
        go_big_quiet_step (exact fun _ => rfl)
        refine wpQ_at rfl (.int .i64 S.P.stop) (fun W hW => by subst hW; go_simp) ?_
        go_frame
        go_big_quiet_step (exact fun _ => rfl)
        go_big_quiet_step (exact fun _ => rfl)
        go_big_quiet_step (exact fun _ => rfl)
        refine wpQ_at rfl (.pointer (some ⟨H.d.b, 0, none⟩)) (fun W hW => by subst hW; go_simp) ?_
        go_frame
        refine wpQ_call rfl 30 #[.pointer (some ⟨H.d.b, 0, none⟩)] (fun _ => by go_simp) (.int .i64 S.D.size) (fun W hW => by subst hW; exact hpg) ?_
        go_frame
        go_big_quiet_step (exact fun _ => rfl)
        refine wpQuiet_nil ?_
        intro W6 hW6
        subst hW6
        refine then_normalS ?_
        go_at_K
        go_wp2_with fail
        go_ret2
        exact ⟨rfl, _, HA.out, HD.out⟩
      · have e : allocS S = (S.P.stop, 0, { S.begun with P := { S.begun.P with count := totR (tookR S.L), stop := S.P.stop + 1 }, L := tookR S.L, Fr := setM S.Fr S.P.stop (some ()) }) := by unfold allocS; rw [if_neg hbr, hL]; dsimp only; rw [if_neg hfull]
        rw [e]
        dsimp only
        clear e
        have hwf : (Lit.int .i64 S.P.stop).wf = true := wfI (by omega) (by omega)
        go_enter Tryz.func22, Tryz.ntmps22
        go_wp2_with fail
        refine hbg.mono ?_
        rintro e w1 ⟨rfl, a1, d1⟩
        have c11 : w1.cell? ⟨b, 11, none⟩ = some (.bool false) := by have := a1.cells.cell 11; rw [this]; show some (Value.bool S.P.broken) = _; rw [hbr']
        have htk := stake_any (o := 6) a1.cells (by decide) rfl rfl rfl a1.sp
        have e1 : tookN S.begun.L = 0 := by show tookN S.L = _; rw [hL]; rfl
        have e2 : tookB S.begun.L = false := by show tookB S.L = _; rw [hL]; rfl
        rw [e1, e2] at htk
        clear hbg e1 e2
        go_wp2_with fail
        refine htk.mono ?_
        rintro e w2 ⟨rfl, f', hp2, hs2, hk2, hf2⟩
        obtain ⟨a2, d2⟩ := a1.setSp hp2 hs2 hk2 ⟨fun i h => .inl h, fun i h => .inl (hf2.symm.trans h)⟩
        have c25 : w2.cell? ⟨b, 5, none⟩ = some (.int .i64 S.P.stop) := a2.cells.cell 5
        have c20 : w2.cell? ⟨b, 0, none⟩ = some (.pointer (some ⟨H.d.b, 0, none⟩)) := by have := a2.cells.cell 0; rw [this]; show some (Value.pointer (some ⟨H.h.dev, 0, none⟩)) = _; rw [a.dev]
        have hpg := pages_any a2.disk.drew
        have a2d : PgAt w2.drew b _ _ := a2.kept (fun _ _ => rfl)
        obtain ⟨w4, hw4⟩ : ∃ w4, w2.drew.setCell ⟨b, 5, none⟩ (.int .i64 (S.P.stop + 1)) = w4 := ⟨_, rfl⟩
        have z25 := a2d.cells.frozen 5
        have hp4 : PgCells w4 b { H.h with runs := H.h.runs, firsts := f' } { S.begun.P with count := totR (tookR S.L), stop := S.P.stop + 1 } := by rw [← hw4]; exact (a2d.cells.set 5 (.int .i64 (S.P.stop + 1))).congr rfl
        have hO4 : Only b w2.drew w4 := by rw [← hw4]; exact (Only.refl b _).set _ _
        obtain ⟨a4, d4⟩ := a2d.cell hp4 hO4 rfl
        have c49 : w4.cell? ⟨b, 9, none⟩ = some (.map (some H.h.fresh)) := a4.cells.cell 9
        have hm4 := a4.fresh
        have HA : Hid _ := a4
        have HD : Hid (PgDone w b H w4 _) := ((d1.trans d2).drew).trans d4
        clear htk hp2 hs2 hk2 hf2 a1 d1 d2 a2 d4 a4 a2d hp4 hO4
        dsimp only [St.begun] at hpg hm4
        go_wp2_with fail
        refine wp_region_class (fun W => W = w2.drew) mixedP (by kernel_rfl) rfl ?_
        go_big_quiet_step (exact fun _ => rfl)
        go_big_quiet_step (exact fun _ => rfl)
        go_big_quiet_step (exact fun _ => rfl)
        refine wpQ_at rfl (.int .i64 S.P.stop) (fun W hW => by subst hW; go_simp) ?_
        go_frame
        go_big_quiet_step (exact fun _ => rfl)
        go_big_quiet_step (exact fun _ => rfl)
        go_big_quiet_step (exact fun _ => rfl)
        refine wpQ_at rfl (.pointer (some ⟨H.d.b, 0, none⟩)) (fun W hW => by subst hW; go_simp) ?_
        go_frame
        refine wpQ_call rfl 30 #[.pointer (some ⟨H.d.b, 0, none⟩)] (fun _ => by go_simp) (.int .i64 S.D.size) (fun W hW => by subst hW; exact hpg) ?_
        go_frame
        go_big_quiet_step (exact fun _ => rfl)
        refine wpQuiet_nil ?_
        intro W6 hW6
        subst hW6
        refine then_normalS ?_
        go_at_K
        go_wp2_with ((((with_reducible show wpList _ _ _ (Oper.mk _ (Op.mapUpdate _ _ _ _) _ _ _ _ :: _) _ _)); go_must (refine wpList_updI elemU Tryz.underlying69 rfl _ _ _ rfl hm4 (by decide) hwf () rfl rfl rfl ?_; intro w5 hm5 hO5 hs5)))
        go_ret2
        obtain ⟨a5, d5⟩ := HA.out.setFresh (MapAt.smallN hm5 (fun u x hu => by
          unfold setM at hu
          split at hu
          · unfold topPg; omega
          · exact hfr u x hu)) hO5
        exact ⟨rfl, _, a5, HD.out.trans d5⟩
end Go.Proofs.YtjklcnknbcmgoaaGreatDoor
