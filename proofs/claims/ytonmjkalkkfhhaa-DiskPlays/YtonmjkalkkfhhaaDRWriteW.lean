/-
  What the document's call of Write does: a row that grows.
-/
import Derived.Test.YtonmjkalkkfhhaaDRReadW
namespace Go.Proofs.Ytonmjkalkkfhhaa
open Go Go.RowKit Go.Maps

theorem owns_ne {w : World} {base base' s s' n n' k : Nat} {t t' : TypeId} {v v' : Value} {xs xs' : List Value} (h : w.ownsRow base t s v n xs) (h' : w.ownsRow base' t' s' v' n' xs') (ht : t ≠ t') (hk : v.ownBlock = some k) : some k ≠ v'.ownBlock := fun q => by
  obtain ⟨_, c1, e1⟩ := owns_type h hk
  obtain ⟨_, c2, e2⟩ := owns_type h' q.symm
  rw [e1] at e2
  injection e2 with e2
  injection e2 with _ e2
  exact ht e2
theorem owns_holds {w : World} {base s n b : Nat} {t t' : TypeId} {v : Value} {xs : List Value} {cs : Array Value} (h : w.ownsRow base t s v n xs) (hh : Holds w b t' cs) (ht : t' ≠ t) : v.ownBlock ≠ some b := fun q => by
  obtain ⟨_, c1, e1⟩ := owns_type h q
  unfold Holds at hh
  rw [hh] at e1
  injection e1 with e1
  injection e1 with _ e1
  exact ht e1
theorem grown_holdsD {A B : World} {row : Option Nat} {tmp : Obj} (hg : (A.alloc tmp).grownBy B row) {b : Nat} {t : TypeId} {cs : Array Value} (h : Holds A b t cs) (hne : row ≠ some b) : Holds B b t cs := by
  have h1 := (h.alloc tmp).lt
  have h2 := h.alloc tmp
  unfold Holds at *
  rw [hg.block b h1 (fun q => hne q.symm)]; exact h2
section
variable {w w3 : World} {base rb : Nat} {vl vp vf : Value} {R : RDev} {tmp : Obj}
theorem RAt.rowL (h : RAt w base rb vl vp vf R) (hg : (w.alloc tmp).grownBy w3 vl.ownBlock) {vl' : Value} {L : List ByteArray} (hown : w3.ownsRow base 9 1 vl' L.length (L.map fun s => .string s)) :
    RAt (w3.setCell ⟨rb, 1, none⟩ vl') base rb vl' vp vf { R with lasts := L } ∧ Keep (RB rb vl vp vf) w (w3.setCell ⟨rb, 1, none⟩ vl') := by
  have hH : Holds w3 rb 45 (rcells vl vp vf R) := grown_holdsD hg h.cells h.ne.1
  have hset : ∀ k, k ≠ rb → (w3.setCell ⟨rb, 1, none⟩ vl').heap[k]? = w3.heap[k]? := fun k hk => Below.heap_setCell _ _ _ _ hk
  have hold : ∀ k, k < w.heap.size → k ≠ rb → some k ≠ vl.ownBlock → (w3.setCell ⟨rb, 1, none⟩ vl').heap[k]? = w.heap[k]? := fun k h1 h2 h3 =>
    (hset k h2).trans ((hg.block k (by simp; omega) h3).trans (Below.heap_alloc w _ k h1))
  refine ⟨⟨(hH.set 1 _).congr rfl, owns_keep hown fun k hk => hset k (fun q => owns_holds hown hH (by decide) (q ▸ hk)), owns_keep h.puts fun k hk => hold k (h.lt (.inr (.inr (.inl hk)))) (fun q => h.ne.2.1 (q ▸ hk)) (owns_ne h.puts h.lasts (by decide) hk), owns_keep h.fails fun k hk => hold k (h.lt (.inr (.inr (.inr hk)))) (fun q => h.ne.2.2 (q ▸ hk)) (owns_ne h.fails h.lasts (by decide) hk), h.new⟩, ?_⟩
  refine ⟨hg.os, hg.tape, hg.output, ?_, fun k h1 h2 => hold k h1 (fun q => h2 (.inl q)) (fun q => h2 (.inr (.inl q.symm)))⟩
  have := hg.size
  simp at this ⊢
  omega
theorem RAt.rowP (h : RAt w base rb vl vp vf R) (hg : (w.alloc tmp).grownBy w3 vp.ownBlock) {vp' : Value} {L : List (Int × ByteArray)} (hown : w3.ownsRow base 71 2 vp' L.length (wcells L)) :
    RAt (w3.setCell ⟨rb, 2, none⟩ vp') base rb vl vp' vf { R with puts := L } ∧ Keep (RB rb vl vp vf) w (w3.setCell ⟨rb, 2, none⟩ vp') := by
  have hH : Holds w3 rb 45 (rcells vl vp vf R) := grown_holdsD hg h.cells h.ne.2.1
  have hset : ∀ k, k ≠ rb → (w3.setCell ⟨rb, 2, none⟩ vp').heap[k]? = w3.heap[k]? := fun k hk => Below.heap_setCell _ _ _ _ hk
  have hold : ∀ k, k < w.heap.size → k ≠ rb → some k ≠ vp.ownBlock → (w3.setCell ⟨rb, 2, none⟩ vp').heap[k]? = w.heap[k]? := fun k h1 h2 h3 =>
    (hset k h2).trans ((hg.block k (by simp; omega) h3).trans (Below.heap_alloc w _ k h1))
  refine ⟨⟨(hH.set 2 _).congr rfl, owns_keep h.lasts fun k hk => hold k (h.lt (.inr (.inl hk))) (fun q => h.ne.1 (q ▸ hk)) (owns_ne h.lasts h.puts (by decide) hk), owns_keep hown fun k hk => hset k (fun q => owns_holds hown hH (by decide) (q ▸ hk)), owns_keep h.fails fun k hk => hold k (h.lt (.inr (.inr (.inr hk)))) (fun q => h.ne.2.2 (q ▸ hk)) (owns_ne h.fails h.puts (by decide) hk), h.new⟩, ?_⟩
  refine ⟨hg.os, hg.tape, hg.output, ?_, fun k h1 h2 => hold k h1 (fun q => h2 (.inl q)) (fun q => h2 (.inr (.inr (.inl q.symm))))⟩
  have := hg.size
  simp at this ⊢
  omega
theorem RAt.rowF (h : RAt w base rb vl vp vf R) (hg : (w.alloc tmp).grownBy w3 vf.ownBlock) {vf' : Value} {L : List Int} (hown : w3.ownsRow base 3 1 vf' L.length (L.map fun x => .int .i64 x)) :
    RAt (w3.setCell ⟨rb, 7, none⟩ vf') base rb vl vp vf' { R with fails := L } ∧ Keep (RB rb vl vp vf) w (w3.setCell ⟨rb, 7, none⟩ vf') := by
  have hH : Holds w3 rb 45 (rcells vl vp vf R) := grown_holdsD hg h.cells h.ne.2.2
  have hset : ∀ k, k ≠ rb → (w3.setCell ⟨rb, 7, none⟩ vf').heap[k]? = w3.heap[k]? := fun k hk => Below.heap_setCell _ _ _ _ hk
  have hold : ∀ k, k < w.heap.size → k ≠ rb → some k ≠ vf.ownBlock → (w3.setCell ⟨rb, 7, none⟩ vf').heap[k]? = w.heap[k]? := fun k h1 h2 h3 =>
    (hset k h2).trans ((hg.block k (by simp; omega) h3).trans (Below.heap_alloc w _ k h1))
  refine ⟨⟨(hH.set 7 _).congr rfl, owns_keep h.lasts fun k hk => hold k (h.lt (.inr (.inl hk))) (fun q => h.ne.1 (q ▸ hk)) (owns_ne h.lasts h.fails (by decide) hk), owns_keep h.puts fun k hk => hold k (h.lt (.inr (.inr (.inl hk)))) (fun q => h.ne.2.1 (q ▸ hk)) (owns_ne h.puts h.fails (by decide) hk), owns_keep hown fun k hk => hset k (fun q => owns_holds hown hH (by decide) (q ▸ hk)), h.new⟩, ?_⟩
  refine ⟨hg.os, hg.tape, hg.output, ?_, fun k h1 h2 => hold k h1 (fun q => h2 (.inl q)) (fun q => h2 (.inr (.inr (.inr q.symm))))⟩
  have := hg.size
  simp at this ⊢
  omega
end
theorem infoPut : ∃ i, Try.prog.info? 71 = some i ∧ i.zero = some (.agg #[.int .i64 0, .string ⟨#[]⟩]) ∧ i.size = 2 ∧ i.bytes = 24 := by
  have h : (Try.prog.info? 71).map (fun i => (i.zero, i.size, i.bytes)) = some (some (.agg #[.int .i64 0, .string ⟨#[]⟩]), 2, 24) := by kernel_rfl
  cases hi : Try.prog.info? 71 with
  | none => rw [hi] at h; cases h
  | some i =>
    rw [hi] at h
    simp only [Option.map_some, Option.some.injEq, Prod.mk.injEq] at h
    exact ⟨i, rfl, h⟩
theorem underPuts : Try.prog.underlying 43 = some (.slice 71) := by kernel_rfl
theorem buildPut (n : Int) (y : ByteArray) (w : World) : (Instr.build 71 #[(0, .int .i64 n), (1, .string y)]).run Try.prog w = .ok (.agg #[.int .i64 n, .string y]) w := run_build w _ _ _ (by kernel_rfl)
theorem cells_newD (W : World) (t : TypeId) (cs : List Value) : ∀ j v, cs[j]? = some v → (W.alloc (.cells cs.toArray t)).cell? ((⟨W.heap.size, 0, none⟩ : Addr).add j) = some v := fun j v hv => by
  rw [add_plain, Nat.zero_add]
  have h : Holds (W.alloc (.cells cs.toArray t)) W.heap.size t cs.toArray := Holds.new _ _ _
  rw [h.cell j, List.getElem?_toArray]
  exact hv
section
variable {w : World} {base rb : Nat} {vl vp vf : Value} {R : RDev}
set_option maxRecDepth 8000 in
set_option maxHeartbeats 4000000 in
theorem rwrite_any (h : RAt w base rb vl vp vf R) {N : Nat} (ok : R.ok N) (hN : N < 1000000000) (n : Int) (s : ByteArray) :
    Calls Try.prog 30 #[.pointer (some ⟨rb, 0, none⟩), .int .i64 n, .string s] w fun e w' => e = .returned (.int .i64 (R.write n s).1) ∧ (∃ vp', RAt w' base rb vl vp' vf (R.write n s).2) ∧ Keep (RB rb vl vp vf) w w' := by
  have hc3 : w.cell? ⟨rb, 3, none⟩ = some (.bool R.off) := h.cells.cell 3
  have hc0 : w.cell? ⟨rb, 0, none⟩ = some (.int .i64 R.most) := h.cells.cell 0
  obtain ⟨A, hA⟩ : ∃ A, A = R.write n s := ⟨_, rfl⟩
  rw [← hA]
  unfold RDev.write RDev.begin at hA
  have HA : Hid _ := hA
  clear hA
  obtain ⟨mo, hmo⟩ : ∃ mo, mo = R.most := ⟨_, rfl⟩
  have hm := ok.most
  rw [← hmo] at hc0 hm
  have HM : Hid (mo = R.most) := hmo
  clear hmo
  cases hof : R.off
  · rw [hof] at hc3
    rw [hof] at HA
    simp only [Bool.false_eq_true, if_false] at HA
    clear hof
    by_cases h0 : n < 0
    · have hA : Hid (A = (1, R)) := by
        have : R.has n = false := by unfold RDev.has; rw [decide_eq_false (by omega)]; rfl
        rw [this] at HA
        exact HA.out
      go_enter Try.func30, Try.ntmps30
      go_wp2_with fail
      go_ret
      rw [hA.out]
      exact ⟨rfl, ⟨vp, h⟩, Keep.refl _ _⟩
    · by_cases h1 : mo ≤ n
      · have hA : Hid (A = (1, R)) := by
          have : R.has n = false := by unfold RDev.has; rw [← HM.out, decide_eq_false (p := n < mo) (by omega), Bool.and_false]
          rw [this] at HA
          exact HA.out
        go_enter Try.func30, Try.ntmps30
        go_wp2_with fail
        go_ret
        rw [hA.out]
        exact ⟨rfl, ⟨vp, h⟩, Keep.refl _ _⟩
      · have hhas : R.has n = true := by unfold RDev.has; rw [← HM.out, decide_eq_true (p := n < mo) (by omega), decide_eq_true (p := 0 ≤ n) (by omega)]; rfl
        rw [hhas] at HA
        simp only [Bool.true_and] at HA
        clear hhas
        by_cases hs : s.size = 1024
        · have hsi : (s.size : Int) = 1024 := by omega
          have HS : Hid (s.size = 1024) := hs
          rw [decide_eq_true hs] at HA
          simp only [if_true] at HA
          clear hs
          have hg := goes_any h ok.left (by have := ok.since; omega) (by have := ok.done; omega) ok.fails
          have hlg := rgoes_last R n
          obtain ⟨e0, he0⟩ : ∃ e0, e0 = R.goes.1 := ⟨_, rfl⟩
          rw [← he0] at hg
          have HE : Hid (e0 = R.goes.1) := he0
          have HG : Hid (R.goes.2.last n = R.last n ∧ R.goes.2.lasts = R.lasts ∧ R.goes.2.puts = R.puts) := hlg
          have hpl := ok.puts
          rw [← hlg.2.2] at hpl
          clear he0 hlg ok
          by_cases hz : e0 = 0
          · subst hz
            have hA : Hid (A = (0, { R.goes.2 with puts := R.puts ++ [(n, s)] })) := by
              unfold Hid
              rw [HA.out, ← HE.out]
              exact if_pos rfl
            clear HA
            obtain ⟨i0, hi, hz0, hz1, hz2⟩ := infoPut
            have hbp := buildPut
            go_enter Try.func30, Try.ntmps30
            go_wp2_with fail
            refine hg.mono ?_
            rintro e w1 ⟨rfl, h1', hO1⟩
            have c2 : w1.cell? ⟨rb, 2, none⟩ = some vp := h1'.cells.cell 2
            have hbs : base ≤ w1.heap.size := by have := h1'.new; have := h1'.cells.lt; omega
            clear hg hc3 hc0
            go_wp2_with (at_builtin; refine wpList_append_own _ rfl _ _ 43 rfl base 71 i0 (.agg #[.int .i64 0, .string ⟨#[]⟩]) 2 24 underPuts hi hz0 hz1 hz2 rfl (by decide) _ _ _ rfl (h1'.puts.alloc _) ⟨w1.heap.size, 0, none⟩ 1 1 [.int .i64 n, .string s] rfl rfl (cells_newD _ _ _) (by simp [Value.oneCell']) (by unfold maxLen; omega) (by omega) (by simp; omega) ?_; intro v5 w5 hown5 hgrow5 hnil5; clear hnil5; obtain ⟨p5, k5, rfl⟩ := slice_of hown5; have hH5 := grown_holdsD hgrow5 h1'.cells h1'.ne.2.1; have c25 : w5.cell? ⟨rb, 2, none⟩ = some vp := hH5.cell 2; have f25 := hH5.frozen 2)
            go_ret
            rw [hA.out]
            have hr := h1'.rowP hgrow5 (L := R.goes.2.puts ++ [(n, s)]) (by rw [List.length_append, wcells_app]; exact hown5)
            rw [← HG.out.2.2]
            refine ⟨rfl, ⟨_, hr.1⟩, (Keep.only hO1 (.inl rfl)).trans hr.2 fun i => .inl⟩
          · have hzb : (e0 == 0) = false := beq_eq_false_iff_ne.2 hz
            have hA : Hid (A = (e0, R.goes.2)) := by
              unfold Hid
              rw [HA.out, if_neg (by rw [← HE.out]; exact hz), HE.out]
            clear HA
            go_enter Try.func30, Try.ntmps30
            go_wp2_with fail
            refine hg.mono ?_
            rintro e w1 ⟨rfl, h1', hO1⟩
            go_wp2_with fail
            go_ret
            rw [hA.out]
            exact ⟨rfl, ⟨vp, h1'⟩, Keep.only hO1 (.inl rfl)⟩
        · have hsi : ((s.size : Int) == 1024) = false := beq_eq_false_iff_ne.2 (by omega)
          have hA : Hid (A = (1, R)) := by
            rw [decide_eq_false hs] at HA
            exact HA.out
          clear hs
          go_enter Try.func30, Try.ntmps30
          go_wp2_with fail
          go_ret
          rw [hA.out]
          exact ⟨rfl, ⟨vp, h⟩, Keep.refl _ _⟩
  · rw [hof] at hc3
    rw [hof] at HA
    have hA : Hid (A = (15, R)) := HA.out
    go_enter Try.func30, Try.ntmps30
    go_wp2_with fail
    go_ret
    rw [hA.out]
    exact ⟨rfl, ⟨vp, h⟩, Keep.refl _ _⟩
end
end Go.Proofs.Ytonmjkalkkfhhaa
