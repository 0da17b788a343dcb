/-
  What the document's call of Fail does.
-/
import Derived.Test.YtonmjkalkkfhhaaDRUsedW
namespace Go.Proofs.Ytonmjkalkkfhhaa
open Go Go.RowKit Go.Maps

theorem infoIntD : ∃ i, Try.prog.info? 3 = some i ∧ i.zero = some (.int .i64 0) ∧ i.size = 1 ∧ i.bytes = 8 := by
  have h : (Try.prog.info? 3).map (fun i => (i.zero, i.size, i.bytes)) = some (some (.int .i64 0), 1, 8) := by kernel_rfl
  cases hi : Try.prog.info? 3 with
  | none => rw [hi] at h; cases h
  | some i =>
    rw [hi] at h
    simp only [Option.map_some, Option.some.injEq, Prod.mk.injEq] at h
    exact ⟨i, rfl, h⟩
theorem underIntsD : Try.prog.underlying 28 = some (.slice 3) := by kernel_rfl
theorem grown_below {w w' : World} (h : w.grownBy w' none) : Below w.heap.size w w' := ⟨h.os, h.tape, h.output, h.size, fun k hk => h.block k hk (by simp)⟩
section
variable {w w3 : World} {base rb : Nat} {vl vp vf : Value} {R : RDev}
theorem RAt.noFails (h : RAt w base rb vl vp vf R) : RAt (w.setCell ⟨rb, 7, none⟩ (.slice none 0 0)) base rb vl vp (.slice none 0 0) { R with fails := [] } := by
  have o := (Only.refl rb w).set 7 (.slice none 0 0)
  exact ⟨(h.cells.set 7 _).congr rfl, h.keptL o, h.keptP' o, World.ownsRow_nil _ _ _ _, h.new⟩
theorem RAt.newF (h : RAt w base rb vl vp vf R) (hg : w.grownBy w3 none) {vf' : Value} {L : List Int} (hown : w3.ownsRow base 3 1 vf' L.length (L.map fun x => .int .i64 x)) :
    RAt (w3.setCell ⟨rb, 7, none⟩ vf') base rb vl vp vf' { R with fails := L } ∧ Only rb w (w3.setCell ⟨rb, 7, none⟩ vf') := by
  have h3 := h.below (grown_below hg)
  have o := (Only.refl rb w3).set 7 vf'
  refine ⟨⟨(h3.cells.set 7 _).congr rfl, h3.keptL o, h3.keptP' o, owns_keep hown fun k hk => ?_, h.new⟩, ?_⟩
  · exact Below.heap_setCell _ _ _ _ (fun q => owns_holds hown h3.cells (by decide) ((show k = rb from q) ▸ hk))
  · exact ((Only.refl rb w).below (grown_below hg)).trans o
set_option maxRecDepth 8000 in
set_option maxHeartbeats 4000000 in
theorem rfail_any (h : RAt w base rb vl vp vf R) {v : Value} {l : List Int} (hl : ∀ W, Only rb w W → IntsAt W v l) (hlm : l.length ≤ 17592186044416) :
    Calls Try.prog 21 #[.pointer (some ⟨rb, 0, none⟩), v] w fun e w' => e = .returned (.tuple #[]) ∧ Only rb w w' ∧ ∃ vf', RAt w' base rb vl vp vf' { R with fails := l, since := 0 } := by
  have hc7 : w.cell? ⟨rb, 7, none⟩ = some vf := h.cells.cell 7
  have hf7 := h.cells.frozen 7
  have hc8 : w.cell? ⟨rb, 8, none⟩ = some (.int .i64 R.since) := h.cells.cell 8
  have hf8 := h.cells.frozen 8
  have hn := h.noFails
  have ho : Only rb w (w.setCell ⟨rb, 7, none⟩ (.slice none 0 0)) := (Only.refl rb w).set 7 _
  have hI := hl _ ho
  have hc7' : (w.setCell ⟨rb, 7, none⟩ (.slice none 0 0)).cell? ⟨rb, 7, none⟩ = some (.slice none 0 0) := hn.cells.cell 7
  obtain ⟨i0, hi, hz0, hz1, hz2⟩ := infoIntD
  have hbs : base ≤ (w.setCell ⟨rb, 7, none⟩ (.slice none 0 0)).heap.size := by have := hn.new; have := hn.cells.lt; omega
  clear hl
  have fin : ∀ (w5 : World) (v5 : Value), (w.setCell ⟨rb, 7, none⟩ (.slice none 0 0)).grownBy w5 none → w5.ownsRow base 3 1 v5 l.length (l.map fun x => .int .i64 x) →
      RAt ((w5.setCell ⟨rb, 7, none⟩ v5).setCell ⟨rb, 8, none⟩ (.int .i64 0)) base rb vl vp v5 { R with fails := l, since := 0 } ∧ Only rb w ((w5.setCell ⟨rb, 7, none⟩ v5).setCell ⟨rb, 8, none⟩ (.int .i64 0)) := fun w5 v5 hg hown => by
    obtain ⟨h1, h2⟩ := hn.newF hg hown
    exact ⟨h1.turn ((Only.refl _ _).set 8 _) ((h1.cells.set 8 _).congr rfl) rfl rfl rfl, (ho.trans h2).set 8 _⟩
  have FIN : Hid _ := fin
  have cel : ∀ (w5 : World) (v5 : Value), (w.setCell ⟨rb, 7, none⟩ (.slice none 0 0)).grownBy w5 none → w5.ownsRow base 3 1 v5 l.length (l.map fun x => .int .i64 x) → w5.cell? ⟨rb, 7, none⟩ = some (.slice none 0 0) ∧ w5.frozen? ⟨rb, 7, none⟩ = false ∧ (w5.setCell ⟨rb, 7, none⟩ v5).cell? ⟨rb, 8, none⟩ = some (.int .i64 R.since) ∧ (w5.setCell ⟨rb, 7, none⟩ v5).frozen? ⟨rb, 8, none⟩ = false := fun w5 v5 hg hown => by
    have h3 := hn.below (grown_below hg)
    have h4 := (hn.newF hg hown).1
    exact ⟨h3.cells.cell 7, h3.cells.frozen 7, h4.cells.cell 8, h4.cells.frozen 8⟩
  have CEL : Hid _ := cel
  clear fin cel
  rcases hI with ⟨rfl, p, c, rfl⟩ | ⟨b, o, c, rfl, hI⟩
  · cases p with
    | none =>
      go_enter Try.func21, Try.ntmps21
      go_wp2_with fail
      go_end0
      have := FIN.out _ (.slice none 0 0) ⟨rfl, rfl, rfl, Nat.le_refl _, fun _ _ _ => rfl⟩ (World.ownsRow_nil _ _ _ _)
      exact ⟨rfl, this.2, _, this.1⟩
    | some ad =>
      go_enter Try.func21, Try.ntmps21
      go_wp2_with (at_builtin; refine wpList_append_own _ rfl _ _ 28 rfl base 3 i0 (.int .i64 0) 1 8 underIntsD hi hz0 hz1 hz2 rfl (by decide) _ _ _ rfl (World.ownsRow_nil _ base 3 1) ad 0 c [] rfl rfl (fun j u hu => by cases hu) (fun u hu => by cases hu) (by unfold maxLen; omega) (by omega) hbs ?_; intro v5 w5 hown5 hgrow5 hnil5; clear hnil5; obtain ⟨p5, k5, rfl⟩ := slice_of hown5; obtain ⟨c75, f75, c85, f85⟩ := CEL.out w5 _ hgrow5 hown5)
      go_end0
      have := FIN.out w5 _ hgrow5 hown5
      exact ⟨rfl, this.2, _, this.1⟩
  · have hnews : ∀ j u, (l.map fun x => Value.int .i64 x)[j]? = some u → (w.setCell ⟨rb, 7, none⟩ (.slice none 0 0)).cell? ((⟨b, o, none⟩ : Addr).add j) = some u := fun j u hu => by
      rw [add_plain]
      have hj : j < l.length := by
        have := (List.getElem?_eq_some_iff.1 hu).1
        simpa using this
      rw [hI j hj]
      rw [List.getElem?_map, List.getElem?_eq_getElem hj] at hu
      rw [List.getD_eq_getElem?_getD, List.getElem?_eq_getElem hj]
      exact hu
    have hlen : (l.map fun x => Value.int .i64 x).length = l.length * 1 := by simp
    have hone : ∀ u ∈ (l.map fun x => Value.int .i64 x), u.oneCell' = true := fun u hu => by
      obtain ⟨y, _, rfl⟩ := List.mem_map.1 hu
      rfl
    obtain ⟨m, hm⟩ : ∃ m, m = l.length := ⟨_, rfl⟩
    rw [← hm] at hlen hlm FIN CEL ⊢
    obtain ⟨ns, hns⟩ : ∃ ns, ns = l.map fun x => Value.int .i64 x := ⟨_, rfl⟩
    rw [← hns] at hlen hone hnews FIN CEL
    clear hns hI hm
    go_enter Try.func21, Try.ntmps21
    go_wp2_with (at_builtin; refine wpList_append_own _ rfl _ _ 28 rfl base 3 i0 (.int .i64 0) 1 8 underIntsD hi hz0 hz1 hz2 rfl (by decide) _ _ _ rfl (World.ownsRow_nil _ base 3 1) ⟨b, o, none⟩ m c ns rfl hlen hnews hone (by unfold maxLen; omega) (by omega) hbs ?_; intro v5 w5 hown5 hgrow5 hnil5; clear hnil5; rw [Nat.zero_add, List.nil_append] at hown5; obtain ⟨p5, k5, rfl⟩ := slice_of hown5; obtain ⟨c75, f75, c85, f85⟩ := CEL.out w5 _ hgrow5 hown5)
    go_end0
    have := FIN.out w5 _ hgrow5 hown5
    exact ⟨rfl, this.2, _, this.1⟩
end
end Go.Proofs.Ytonmjkalkkfhhaa
