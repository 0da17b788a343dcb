/-
  What keep and Crash do.
-/
import Derived.Test.YtonmjkalkkfhhaaDTornW
namespace Go.Proofs.Ytonmjkalkkfhhaa
open Go Go.RowKit Go.Maps

theorem range_size (n : Nat) (f : Nat → UInt8) : (⟨((List.range n).map f).toArray⟩ : ByteArray).size = n := by
  show ((List.range n).map f).toArray.size = n
  rw [List.size_toArray, List.length_map, List.length_range]
theorem wpQ_valC {P : Program} {ops : Array Oper} {rest : List Oper} {op : Oper} {a : Act} {C : World → Prop} {Q : Act → Prop} (hw : Region.wanted op (yielded ops a.tmps) = true) (v : Value) (hv : ∀ w, C w → (execOp a.eval op).run P w = .ok (.value v) w)
    (h : wpQuiet P ops C Q rest (a.put op.dst v)) : wpQuiet P ops C Q (op :: rest) a :=
  wpQuiet_step fun _ hK => by
    rw [if_pos hw]
    refine ⟨v, fun w hC => ?_, hK _ h⟩
    unfold Oper.quietAt
    rw [hv w hC]
    exact ⟨rfl, rfl⟩
theorem tornT_size {old data : ByteArray} {l : List Int} (ho : old.size = 0 ∨ old.size = 1024) : (tornT old data l).size = 0 ∨ (tornT old data l).size = 1024 := by
  unfold tornT
  split
  · right
    exact range_size _ _
  · exact ho
/-- What a crash makes of one write. -/
def keepM (M : Int → Option Pg) (p : Int × ByteArray) (picks : List Int) : Int → Option Pg :=
  if (tornT ((M p.1).getD (⟨#[]⟩, ⟨#[]⟩)).2 p.2 picks).size = 0 then setM M p.1 none
  else setM M p.1 (some (tornT ((M p.1).getD (⟨#[]⟩, ⟨#[]⟩)).2 p.2 picks, tornT ((M p.1).getD (⟨#[]⟩, ⟨#[]⟩)).2 p.2 picks))
/-- What it makes of writes. -/
def crashTo : List (Int × ByteArray) → List Int → (Int → Option Pg) → (Int → Option Pg)
  | [], _, M => M
  | p :: L, picks, M => crashTo L (picks.drop 4) (keepM M p picks)
theorem crashTo_app (L : List (Int × ByteArray)) (p : Int × ByteArray) (picks : List Int) (M : Int → Option Pg) : crashTo (L ++ [p]) picks M = keepM (crashTo L picks M) p (picks.drop (4 * L.length)) := by
  induction L generalizing picks M with
  | nil => rfl
  | cons q L ih =>
    simp only [List.cons_append, crashTo, ih, List.drop_drop, List.length_cons]
    congr 2
    omega
/-- Pages that may be. -/
def okM (M : Int → Option Pg) : Prop := ∀ u x, M u = some x → (0 ≤ u ∧ u < 65536) ∧ x.1.size = 1024 ∧ (x.2.size = 0 ∨ x.2.size = 1024)
theorem okM.last {M : Int → Option Pg} (h : okM M) (u : Int) : ((M u).getD (⟨#[]⟩, ⟨#[]⟩)).2.size = 0 ∨ ((M u).getD (⟨#[]⟩, ⟨#[]⟩)).2.size = 1024 := by
  cases e : M u with
  | none => exact .inl rfl
  | some x => exact (h u x e).2.2
theorem okM.keep {M : Int → Option Pg} (h : okM M) {p : Int × ByteArray} (hp : 0 ≤ p.1 ∧ p.1 < 65536 ∧ p.2.size = 1024) (picks : List Int) : okM (keepM M p picks) := by
  have ht := tornT_size (data := p.2) (l := picks) (h.last p.1)
  unfold keepM
  split
  · intro u x hu
    unfold setM at hu
    split at hu
    · cases hu
    · exact h u x hu
  · rename_i hne
    intro u x hu
    unfold setM at hu
    split at hu
    · rename_i e
      injection hu with hu
      rw [← hu, e]
      exact ⟨⟨hp.1, hp.2.1⟩, by rcases ht with q | q; exact absurd q hne; exact q, ht⟩
    · exact h u x hu
theorem okM.crash : ∀ {L : List (Int × ByteArray)} {picks : List Int} {M : Int → Option Pg}, okM M → (∀ p ∈ L, 0 ≤ p.1 ∧ p.1 < 65536 ∧ p.2.size = 1024) → okM (crashTo L picks M)
  | [], _, _, h, _ => h
  | p :: L, picks, M, h, hL => okM.crash (L := L) (h.keep (hL p (by simp)) picks) (fun q hq => hL q (by simp [hq]))
theorem Dev.ok.okM {D : Dev} {N : Nat} (h : D.ok N) : okM D.pages := fun u x hu => ⟨h.keys u x hu, h.texts u x hu⟩

theorem infoWr2 (n : Int) (s : ByteArray) : (Try.prog.info? 73).map (·.size) = some (#[.int .i64 n, .string s] : Array Value).size := by kernel_rfl
theorem setM_none {M : Int → Option Pg} (h : ∀ u, M u = none) (n : Int) : setM M n none = M := by
  funext u
  unfold setM
  split
  · rw [h]
  · rfl

set_option maxRecDepth 8000 in
set_option maxHeartbeats 2000000 in
theorem keep_any {w : World} {h : Hd} {D : Dev} (a : DiskAt w h D) (hM : okM D.pages) (n : Int) (s : ByteArray) (hn : 0 ≤ n ∧ n < 65536) (hs : s.size = 1024) {v : Value} {l : List Int} (hl : ∀ W, Keep (Foot h) w W → IntsAt W v l) (hlm : l.length ≤ 9223372036854775807) :
    Calls Try.prog 44 #[.pointer (some ⟨h.b, 0, none⟩), .agg #[.int .i64 n, .string s], v] w fun e w' => e = .returned (.tuple #[]) ∧ ∃ h', h'.wv = h.wv ∧ h'.fo = h.fo ∧ Done w h w' h' { D with pages := keepM D.pages (n, s) l } := by
  obtain ⟨W0, hW⟩ : ∃ W0, World.alloc w (.cells #[.int .i64 n, .string s] 73) = W0 := ⟨_, rfl⟩
  have hB : Below w.heap.size w W0 := by rw [← hW]; exact below_new1 _ _
  have q1 : Holds W0 w.heap.size 73 #[.int .i64 n, .string s] := by rw [← hW]; exact Holds.new _ _ _
  obtain ⟨g, hg⟩ : ∃ g, w.heap.size = g := ⟨_, rfl⟩
  rw [hg] at q1
  have a0 := a.below hB
  have c1 : W0.drew.cell? ⟨h.b, 1, none⟩ = some (.map h.po) := a0.drew.ptr.cell 1
  have cg0 : W0.drew.cell? ⟨g, 0, none⟩ = some (.int .i64 n) := q1.drew.cell 0
  have cg1 : W0.drew.cell? ⟨g, 1, none⟩ = some (.string s) := q1.drew.cell 1
  have hlk := lookP a0.drew (u := n) hn.1 (by omega)
  have hfl := fieldP1
  have hto := torn_any (w := W0.drew) ((D.pages n).getD (⟨#[]⟩, ⟨#[]⟩)).2 s (hM.last n) hs (v := v) (l := l) (fun W hW => hl W ((Keep.below hB).trans (T := fun _ => False) ((Keep.drew _ _).trans' (Keep.below hW)) (fun _ q => q.elim))) hlm
  unfold keepM
  dsimp only
  generalize hT : tornT ((D.pages n).getD (⟨#[]⟩, ⟨#[]⟩)).2 s l = T at hto
  obtain ⟨p, c, rfl⟩ := (hl w (Keep.refl _ _)).len
  have hkeys : ∀ u x, D.pages u = some x → 0 ≤ u ∧ u < 65536 := fun u x hu => (hM u x hu).1
  have HX : Hid (Done w h W0.drew h D) := Done.ahead hB (Done.refl a0).drew
  by_cases hz : T.size = 0
  · rw [if_pos hz]
    have hTe : T.toList.isEmpty = true := by
      rw [ByteArray.toList_eq]
      have : T.data.toList.length = 0 := hz
      rw [List.eq_nil_of_length_eq_zero this]; rfl
    clear hT
    go_enter Try.func44, Try.ntmps44
    go_wp2_with fail
    refine wp_region_qtail 11 mixedP (by kernel_rfl) ?_
    simp only [List.take_succ_cons, List.take_zero, List.drop_succ_cons, List.drop_zero]
    go_big_quiet_step (fail)
    go_big_quiet_step (fail)
    go_big_quiet_step (fail)
    go_big_quiet_step (fail)
    go_big_quiet_step (fail)
    go_big_quiet_step (fail)
    refine wpQ_valC rfl (.agg #[.string ((D.pages n).getD (⟨#[]⟩, ⟨#[]⟩)).1, .string ((D.pages n).getD (⟨#[]⟩, ⟨#[]⟩)).2]) (fun W hC => by subst hC; go_simp) ?_
    go_frame
    go_big_quiet_step (fail)
    go_big_quiet_step (fail)
    go_big_quiet_step (fail)
    go_big_quiet_step (fail)
    refine wpQuiet_nil ?_
    go_wp2_with (first
      | (go_at_call 54; refine hto.mono ?_; rintro e w1 ⟨rfl, hB1⟩; clear hto; have a1 := a0.drew.below hB1; have q11 := below_holds hB1 q1.drew; have c11 : w1.cell? ⟨h.b, 1, none⟩ = some (.map h.po) := a1.ptr.cell 1; have d0 : w1.cell? ⟨g, 0, none⟩ = some (.int .i64 n) := q11.cell 0; have d1 : w1.cell? ⟨g, 1, none⟩ = some (.string s) := q11.cell 1))
    cases hpo : h.po with
    | none =>
      rw [hpo] at c11
      have hdr := fun w => Maps.drop_nil (P := Try.prog) (w := w) keyed3 Try.underlying54 (keyOf_u (wfI (u := n) (by omega) (by omega))) 0
      have hpn := a1.pages
      rw [hpo] at hpn
      refine wp_region_qtail 6 mixedP (by kernel_rfl) ?_
      simp only [List.take_succ_cons, List.take_zero, List.drop_succ_cons, List.drop_zero]
      have c11d : w1.drew.cell? ⟨h.b, 1, none⟩ = some (.map none) := c11
      have d0d : w1.drew.cell? ⟨g, 0, none⟩ = some (.int .i64 n) := d0
      go_big_quiet_step (fail)
      go_big_quiet_step (fail)
      go_big_quiet_step (fail)
      go_big_quiet_step (fail)
      go_big_quiet_step (fail)
      go_big_quiet_step (fail)
      refine wpQuiet_nil ?_
      go_wp2_with fail
      go_end0
      refine ⟨rfl, h, rfl, rfl, ?_⟩
      rw [setM_none hpn]
      exact (HX.out.below hB1).drew
    | some m =>
      rw [hpo] at c11
      have hmp : MapAt RP encP w1.drew m 65536 D.pages := by have := a1.drew.pages; rw [hpo] at this; exact this
      obtain ⟨w', hrun, r1, r2, r3⟩ := hmp.drop Try.underlying54 (wfI (u := n) (by omega) (by omega)) 0
      have DN : Hid (Done w h w' h { D with pages := setM D.pages n none }) := (HX.out.below hB1).drew.trans (Done.map a1.drew hpo r2 r1)
      clear r1 r2 r3 hmp
      refine wp_region_qtail 6 mixedP (by kernel_rfl) ?_
      simp only [List.take_succ_cons, List.take_zero, List.drop_succ_cons, List.drop_zero]
      have c11d : w1.drew.cell? ⟨h.b, 1, none⟩ = some (.map (some m)) := c11
      have d0d : w1.drew.cell? ⟨g, 0, none⟩ = some (.int .i64 n) := d0
      go_big_quiet_step (fail)
      go_big_quiet_step (fail)
      go_big_quiet_step (fail)
      go_big_quiet_step (fail)
      go_big_quiet_step (fail)
      go_big_quiet_step (fail)
      refine wpQuiet_nil ?_
      go_wp2_with fail
      go_end0
      exact ⟨rfl, h, rfl, rfl, DN.out⟩
  · rw [if_neg hz]
    have hTe : T.toList.isEmpty = false := by
      rw [ByteArray.toList_eq]
      cases e : T.data.toList with
      | nil => exact absurd (show T.data.toList.length = 0 by rw [e]; rfl) hz
      | cons x y => rfl
    have hb1 := buildP
    clear hT
    go_enter Try.func44, Try.ntmps44
    go_wp2_with fail
    refine wp_region_qtail 11 mixedP (by kernel_rfl) ?_
    simp only [List.take_succ_cons, List.take_zero, List.drop_succ_cons, List.drop_zero]
    go_big_quiet_step (fail)
    go_big_quiet_step (fail)
    go_big_quiet_step (fail)
    go_big_quiet_step (fail)
    go_big_quiet_step (fail)
    go_big_quiet_step (fail)
    refine wpQ_valC rfl (.agg #[.string ((D.pages n).getD (⟨#[]⟩, ⟨#[]⟩)).1, .string ((D.pages n).getD (⟨#[]⟩, ⟨#[]⟩)).2]) (fun W hC => by subst hC; go_simp) ?_
    go_frame
    go_big_quiet_step (fail)
    go_big_quiet_step (fail)
    go_big_quiet_step (fail)
    go_big_quiet_step (fail)
    refine wpQuiet_nil ?_
    go_wp2_with (first
      | (go_at_call 54; refine hto.mono ?_; rintro e w1 ⟨rfl, hB1⟩; clear hto; have a1 := a0.drew.below hB1; have q11 := below_holds hB1 q1.drew; have c11 : w1.cell? ⟨h.b, 1, none⟩ = some (.map h.po) := a1.ptr.cell 1; have d0 : w1.cell? ⟨g, 0, none⟩ = some (.int .i64 n) := q11.cell 0; have d1 : w1.cell? ⟨g, 1, none⟩ = some (.string s) := q11.cell 1; have hpt := put_any a1 hkeys hn.1 hn.2 (T, T); unfold mkP at hpt; dsimp only at hpt)
      | (go_at_call 42; refine hpt.mono ?_; rintro e w3 ⟨rfl, h3, hv3, hf3, hd3⟩))
    go_end0
    exact ⟨rfl, h3, hv3, hf3, (HX.out.below hB1).trans hd3⟩
end Go.Proofs.Ytonmjkalkkfhhaa
