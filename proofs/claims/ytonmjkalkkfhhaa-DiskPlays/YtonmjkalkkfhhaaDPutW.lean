/-
  What put and delete do to a device's pages; New and Clear.
-/
import Derived.Test.YtonmjkalkkfhhaaDBegW
namespace Go.Proofs.Ytonmjkalkkfhhaa
open Go Go.RowKit Go.Maps

theorem nodup_len : ∀ (N : Nat) (l : List Nat), l.Nodup → (∀ x ∈ l, x < N) → l.length ≤ N
  | 0, l, _, h => by
    cases l with
    | nil => simp
    | cons x l => have := h x (by simp); omega
  | N + 1, l, hn, h => by
    have h1 := nodup_len N (l.erase N) (hn.erase N) (fun x hx => by
      have h2 := h x (List.mem_of_mem_erase hx)
      have h3 : x ≠ N := fun e => by subst e; exact (List.Nodup.not_mem_erase hn) hx
      omega)
    have h2 := List.length_erase (a := N) (l := l)
    split at h2 <;> omega
def litN : Lit → Nat
  | .int _ n => n.toNat
  | _ => 0
theorem keys_len {l : List (Lit × DataW Unit)} {N : Nat} (hp : l.Pairwise (fun p q => p.1 ≠ q.1)) (h : ∀ p ∈ l, ∃ u : Int, (0 ≤ u ∧ u < N) ∧ p.1 = keyI u) : l.length ≤ N := by
  have := nodup_len N (l.map fun p => litN p.1) (by
    unfold List.Nodup
    rw [List.pairwise_map]
    refine hp.imp_of_mem fun {p q} hpm hqm hne e => ?_
    obtain ⟨u, _, hu⟩ := h p hpm
    obtain ⟨v, _, hv⟩ := h q hqm
    rw [hu, hv] at e
    simp [litN, keyI] at e
    rw [hu, hv] at hne
    exact hne (by rw [show u = v by omega])) (by
    intro x hx
    obtain ⟨p, hpm, rfl⟩ := List.mem_map.1 hx
    obtain ⟨u, hu, e⟩ := h p hpm
    rw [e]
    simp [litN, keyI]
    omega)
  simpa using this
theorem MapAt.small {α : Type} {enc : α → DataW Unit} {R : Value → Option (DataW Unit × List MemPlace)} {w : World} {m n : Nat} {M : Int → Option α} (h : MapAt R enc w m n M) (hk : ∀ u x, M u = some x → 0 ≤ u ∧ u < 65536) : MapAt R enc w m 65536 M := by
  obtain ⟨D, ho, hr⟩ := h
  obtain ⟨es0, he, hp, hl⟩ := ho.entries keyed3
  obtain ⟨es, clock, hb, F, _, hD⟩ := ho
  refine ⟨D, ⟨es, clock, hb, F, ?_, hD⟩, hr⟩
  have e1 : es.size = es0.length := by
    rw [hD] at he
    injection he with he
    rw [← he, length_read]
  rw [e1]
  refine keys_len hp fun p hpm => ?_
  have hh : Maps.has D p.1 = true := by
    rw [he]
    exact List.any_eq_true.2 ⟨p, hpm, WideAt.sameKey_self (hl p hpm)⟩
  obtain ⟨u, x, hu, hx⟩ := (hr.has p.1).1 hh
  exact ⟨u, hk u x hx, hu⟩

theorem eql_pages (mo : Option Nat) (w : World) : (binOp .eql 54 (.map mo) (.map none)).run Try.prog w = .ok (.bool mo.isNone) w := by
  have h := run_equal_map_nil (w := w) 54 3 66 mo Try.underlying54
  simp [binOp, h, Result.andThen]
theorem infoPg (x : Pg) : (Try.prog.info? 66).map (·.size) = some (#[.string x.1, .string x.2] : Array Value).size := by kernel_rfl

/-- The pages' map alone has turned. -/
theorem Done.map {w w' : World} {h : Hd} {D : Dev} {m : Nat} {P : Int → Option Pg} (a : DiskAt w h D) (hm : h.po = some m) (hO : Only m w w') (hp : MapAt RP encP w' m 65536 P) : Done w h w' h { D with pages := P } := by
  have hob : ∃ es clock, w.heap[m]? = some (.map es clock) := a.pages.obj m hm
  obtain ⟨es, clock, hob⟩ := hob
  have hbm : h.b ≠ m := by
    rintro rfl
    have := a.ptr
    unfold Holds at this
    rw [this] at hob
    cases hob
  refine ⟨⟨hO.holds a.ptr hbm, ?_, ?_, ?_, a.apart⟩, Newer.refl _ _, Keep.only hO (.inr (.inl hm))⟩
  · rw [hm]; exact hp
  · refine a.writes.block fun k hk => hO.block k (a.writes.lt k hk) ?_
    rintro rfl
    obtain ⟨cur, hq⟩ := a.writes.obj _ hk
    rw [hq] at hob
    cases hob
  · obtain ⟨n, hf⟩ := a.fails
    exact ⟨n, hf.block fun k e => hO.block k (hf.lt k e) (fun q => a.apart k e (by rw [q]; exact hm))⟩
/-- A map is made. -/
theorem Done.made {w : World} {h : Hd} {D : Dev} (a : DiskAt w h D) (hm : h.po = none) : Done w h ((w.alloc (.map #[] 0)).setCell ⟨h.b, 1, none⟩ (.map (some w.heap.size))) { h with po := some w.heap.size } D := by
  have a1 := a.below (below_new1 w (.map #[] 0))
  have hO : Only h.b (w.alloc (.map #[] 0)) ((w.alloc (.map #[] 0)).setCell ⟨h.b, 1, none⟩ (.map (some w.heap.size))) := (Only.refl _ _).set 1 _
  have hbl := a.ptr.lt
  refine ⟨⟨(a1.ptr.set 1 _).congr rfl, ?_, ?_, ?_, ?_⟩, ⟨rfl, ?_⟩, ?_⟩
  · have hp := a.pages
    rw [hm] at hp
    refine MapAt.block (w := w.alloc (.map #[] 0)) ?_ (hO.block _ (by simp) (by omega))
    refine ((MapAt.made w).mono (Nat.zero_le _)).congr fun u => (hp u).symm
  · refine a1.writes.block fun k hk => hO.block k (a1.writes.lt k hk) ?_
    rintro rfl
    obtain ⟨cur, hq⟩ := a1.writes.obj _ hk
    have := a1.ptr
    unfold Holds at this
    rw [this] at hq
    injection hq with hq
    injection hq with _ hq
    exact absurd hq (by decide)
  · obtain ⟨n, hf⟩ := a1.fails
    refine ⟨n, hf.block fun k e => hO.block k (hf.lt k e) ?_⟩
    rintro rfl
    obtain ⟨es, clock, hq⟩ := hf.obj _ e
    have := a1.ptr
    unfold Holds at this
    rw [this] at hq
    cases hq
  · intro m hf e
    injection e with e
    obtain ⟨n, hfl⟩ := a.fails
    have := hfl.lt m hf
    omega
  · rintro k (rfl | hk | hk)
    · exact .inl (.inl rfl)
    · injection hk with hk
      exact .inr (by omega)
    · exact .inl (.inr (.inr hk))
  · exact (Keep.below (below_new1 w _)).trans (Keep.only hO (S := Foot h) (.inl rfl)) fun _ => .inl

set_option maxRecDepth 8000 in
set_option maxHeartbeats 1000000 in
theorem put_any {w : World} {h : Hd} {D : Dev} (a : DiskAt w h D) (hk : ∀ u x, D.pages u = some x → 0 ≤ u ∧ u < 65536) {n : Int} (h0 : 0 ≤ n) (h1 : n < 65536) (x : Pg) :
    Calls Try.prog 42 #[.pointer (some ⟨h.b, 0, none⟩), .int .i64 n, mkP x] w fun e w' => e = .returned (.tuple #[]) ∧ ∃ h', h'.wv = h.wv ∧ h'.fo = h.fo ∧ Done w h w' h' { D with pages := setM D.pages n (some x) } := by
  have hk2 : ∀ u y, setM D.pages n (some x) u = some y → 0 ≤ u ∧ u < 65536 := fun u y hy => by
    unfold setM at hy
    split at hy
    · rename_i e; omega
    · exact hk u y hy
  have hwf := wfI (u := n) (by omega) (by omega)
  obtain ⟨W0, hW⟩ : ∃ W0, World.alloc w (.cells #[.string x.1, .string x.2] 66) = W0 := ⟨_, rfl⟩
  have hB : Below w.heap.size w W0 := by rw [← hW]; exact below_new1 _ _
  have q1 : Holds W0 w.heap.size 66 #[.string x.1, .string x.2] := by rw [← hW]; exact Holds.new _ _ _
  have a0 := a.below hB
  have c1 : W0.cell? ⟨h.b, 1, none⟩ = some (.map h.po) := a0.ptr.cell 1
  have f1 := frozenD a0 1
  have heq := eql_pages h.po
  have hbl := a.ptr.lt
  cases hpo : h.po with
  | some m =>
    have hmp : MapAt RP encP W0.drew m 65536 D.pages := by have := a0.drew.pages; rw [hpo] at this; exact this
    obtain ⟨w', hrun, r1, r2, r3⟩ := hmp.upd elemP Try.underlying54 (by unfold maxLen; omega) hwf x
    have DN : Hid (Done w h w' h { D with pages := setM D.pages n (some x) }) := Done.ahead hB ((Done.refl a0).drew.trans (Done.map a0.drew hpo r2 (r1.small hk2)))
    rw [hpo] at c1 heq
    clear r1 r2 r3 hmp a0 a hk hk2
    unfold mkP at *
    go_enter Try.func42, Try.ntmps42
    go_wp2_with fail
    refine wp_region_qtail 6 mixedP (by kernel_rfl) ?_
    simp only [List.take_succ_cons, List.take_zero, List.drop_succ_cons, List.drop_zero]
    go_big_quiet_step (fail)
    go_big_quiet_step (fail)
    go_big_quiet_step (fail)
    go_big_quiet_step (fail)
    go_big_quiet_step (fail)
    refine wpQ_load rfl 66 _ rfl _ rfl 66 _ _ (fun w' hw' => by subst hw'; exact q1.drew) Try.underlying66 rfl (infoPg x) ?_
    refine wpQuiet_nil ?_
    go_wp2_with fail
    go_end0
    exact ⟨rfl, h, rfl, rfl, DN.out⟩
  | none =>
    obtain ⟨W1, hW1⟩ : ∃ W, (W0.alloc (.map #[] 0)).setCell ⟨h.b, 1, none⟩ (.map (some W0.heap.size)) = W := ⟨_, rfl⟩
    have d1 : Done W0 h W1 { h with po := some W0.heap.size } D := by rw [← hW1]; exact Done.made a0 hpo
    have hf1' : (W0.alloc (.map #[] 0)).frozen? ⟨h.b, 1, none⟩ = false := frozenD (a0.below (below_new1 _ _)) 1
    have hc1' : (W0.alloc (.map #[] 0)).cell? ⟨h.b, 1, none⟩ = some (.map none) := by have := (a0.below (below_new1 W0 (.map #[] 0))).ptr.cell 1; rw [this]; show some (Value.map h.po) = _; rw [hpo]
    have c11 : W1.cell? ⟨h.b, 1, none⟩ = some (.map (some W0.heap.size)) := d1.at_.ptr.cell 1
    have q2 : Holds W1 w.heap.size 66 #[.string x.1, .string x.2] := by
      rw [← hW1]
      exact (q1.alloc _).other _ _ (by dsimp only; omega)
    have hmp : MapAt RP encP W1.drew W0.heap.size 65536 D.pages := d1.at_.drew.pages
    obtain ⟨w', hrun, r1, r2, r3⟩ := hmp.upd elemP Try.underlying54 (by unfold maxLen; omega) hwf x
    have DN : Hid (Done w h w' { h with po := some W0.heap.size } { D with pages := setM D.pages n (some x) }) := Done.ahead hB (d1.trans ((Done.refl d1.at_).drew.trans (Done.map d1.at_.drew rfl r2 (r1.small hk2))))
    have hmm := @run_makeMap Try.prog
    rw [hpo] at c1 heq
    clear r1 r2 r3 hmp a0 a hk hk2 d1
    unfold mkP at *
    go_enter Try.func42, Try.ntmps42
    go_wp2_with fail
    refine wp_region_qtail 6 mixedP (by kernel_rfl) ?_
    simp only [List.take_succ_cons, List.take_zero, List.drop_succ_cons, List.drop_zero]
    go_big_quiet_step (fail)
    go_big_quiet_step (fail)
    go_big_quiet_step (fail)
    go_big_quiet_step (fail)
    go_big_quiet_step (fail)
    refine wpQ_load rfl 66 _ rfl _ rfl 66 _ _ (fun w' hw' => by subst hw'; exact q2.drew) Try.underlying66 rfl (infoPg x) ?_
    refine wpQuiet_nil ?_
    go_wp2_with fail
    go_end0
    exact ⟨rfl, { h with po := some W0.heap.size }, rfl, rfl, DN.out⟩
end Go.Proofs.Ytonmjkalkkfhhaa
