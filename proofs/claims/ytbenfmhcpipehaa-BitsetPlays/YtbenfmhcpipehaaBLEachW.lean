/-
  each: the members from a number on, at most so many.
-/
import Derived.Test.YtbenfmhcpipehaaBNilW
namespace Go.Proofs.Ytbenfmhcpipehaa
open Go Go.RowKit Go.Maps
attribute [local go_sem] Oper.semAt_some

theorem grown_holdsQ {A B : World} {row : Option Nat} {tmp : Obj} (hg : (A.alloc tmp).grownBy B row) {b : Nat} {t : TypeId} {cs : Array Value} (h : Holds A b t cs) (hne : some b ≠ row) : Holds B b t cs := by
  have h1 := (h.alloc tmp).lt
  have h2 := h.alloc tmp
  unfold Holds at *
  rw [hg.block b h1 hne]; exact h2
set_option maxRecDepth 8000 in
set_option maxHeartbeats 2000000 in
theorem leach_any {w : World} {s : Value} {mo : Option Nat} {M : Nat → Bool} (h : View w s mo M) (f : Int) (hf : f ≤ 9223372036854775807) (q : Nat) (hq : 1 ≤ q) (hq2 : q ≤ 1000000) :
    Calls Try.prog 51 #[s, .int .i64 f, .int .i64 (q : Nat)] w fun e w' => ∃ v, e = .returned v ∧ OwnInts w' w.heap.size v ((memFrom M f.toNat).take q) ∧ Below w.heap.size w w' := by
  obtain ⟨i0, hi, hz0, hz1, hz2⟩ := info_parts info3
  obtain ⟨W0, hW0⟩ : ∃ W0, World.alloc (World.alloc w (.cells #[.int .i64 (q : Nat)] 3)) (.cells #[.slice none 0 0] 26) = W0 := ⟨_, rfl⟩
  have hB0 : Below w.heap.size w W0 := by rw [← hW0]; exact below_new2 _ _ _
  have hO0 : Holds W0 (w.heap.size + 1) 26 #[.slice none 0 0] := by rw [← hW0]; exact holds_new1 _ _ _ _
  have hQ0 : Holds W0 w.heap.size 3 #[.int .i64 (q : Nat)] := by rw [← hW0]; exact (Holds.new _ _ _).alloc _
  have hea := each_any (h.below hB0) f hf
  have hML := memFrom_len h.map.bound f.toNat
  have hfn : f.toNat ≤ 9223372036854775807 := by omega
  refine calls_of_wp_marks Try.func51 rfl ?_
  simp only [Try.ntmps51, List.size_toArray, List.length_cons, List.length_nil, Nat.reduceAdd, Nat.reduceSub, Array.replicate_succ, Array.replicate_zero, List.push_toArray, List.append_toArray, List.nil_append, List.cons_append]
  go_wp2_with (first
    | (go_at_call 54; refine hea.mono ?_; rintro e w3 ⟨bl, bf, rfl, vp, hl, hF, hP, hB3, hbl, hbf, hob⟩))
  have hBw := below_new hB0 hB3
  have hO3 := below_holds hB3 hO0
  have hQ3 := below_holds hB3 hQ0
  have hbfl := hF.lt
  have hsW0 : w.heap.size + 1 < W0.heap.size := hO0.lt
  have hw3 : W0.heap.size ≤ w3.heap.size := hB3.size
  have hseq := each_seqM (f := f.toNat) hl hF hP hfn
  have hpl : ∀ k, vp.ownBlock = some k → k < w3.heap.size := fun k e => by
    rcases hP with ⟨rfl, _⟩ | ⟨g, cap, rfl, hg, _⟩
    · cases e
    · simp [Value.ownBlock] at e; omega
  have hSl : ∀ k, (k = bf ∨ vp.ownBlock = some k) → k < w3.heap.size := fun k hk => by
    rcases hk with rfl | hk
    · exact hbfl
    · exact hpl k hk
  have hSg : ∀ k, (k = bf ∨ vp.ownBlock = some k) → w.heap.size + 1 < k := fun k hk => by
    rcases hk with rfl | hk
    · omega
    · have := hob k hk; omega
  have hrw : w3.ownsRow w.heap.size 3 1 (.slice none 0 0) 0 [] := World.ownsRow_nil _ _ _ _
  refine wp_rangeSeqO rfl (enters_of Try.func68 (by kernel_rfl) rfl) hseq (Below.refl _ _) hSl
    (fun pre O W => (∃ v, Boxed W (w.heap.size + 1) 26 v ∧ OwnInts W w.heap.size v pre ∧ O = rowO v w3.heap.size ∧ (∀ k, (k = bf ∨ vp.ownBlock = some k) → v.ownBlock ≠ some k) ∧ v.ownBlock ≠ some w.heap.size) ∧ pre.length < q ∧ Holds W w.heap.size 3 #[.int .i64 (q : Nat)] ∧ Below w.heap.size w W ∧ w3.heap.size ≤ W.heap.size)
    (fun c pre W => c = .exit 0 ∧ pre.length = q ∧ (∃ v, Boxed W (w.heap.size + 1) 26 v ∧ OwnInts W w.heap.size v pre) ∧ Below w.heap.size w W ∧ w3.heap.size ≤ W.heap.size)
    (fun O s A B row hs hg hr => by
      obtain ⟨⟨v, h1, h2, h3, h4, h4'⟩, h0, hQ, h5, h6⟩ := hs
      exact ⟨⟨v, holds_kept hg hr h1, ownsRow_kept hg hr h2, h3, h4, h4'⟩, h0, holds_kept hg hr hQ, below_kept hg hr (by omega) (Nat.le_refl _) h5, Nat.le_trans h6 hg.size⟩)
    (fun c s A B row hs hg hr => by
      obtain ⟨h0, h1, ⟨v, h2, h3⟩, h5, h6⟩ := hs
      exact ⟨h0, h1, ⟨v, holds_kept hg hr h2, ownsRow_kept hg hr h3⟩, below_kept hg hr (by omega) (Nat.le_refl _) h5, Nat.le_trans h6 hg.size⟩)
    ⟨⟨_, hO3, hrw, by funext k; simp [rowO, Value.ownBlock], fun k hk e => (by cases e), fun e => (by cases e)⟩, by simp; omega, hQ3, hBw, Nat.le_refl _⟩
    (fun pre O W hs k hk => by
      obtain ⟨⟨v, h1, h2, rfl, h4⟩, _⟩ := hs
      exact rowO_cells h2 hk)
    (fun x => { tmps := #[s, .int .i64 f, .int .i64 (q : Nat), undef, undef, .pointer (some ⟨w.heap.size, 0, none⟩), .slice none 0 0, .pointer (some ⟨w.heap.size + 1, 0, none⟩), .int .i64 (x : Nat), s, .int .i64 f, .func (.func 68) #[] #[.pointer (some ⟨bl, 0, none⟩), .pointer (some ⟨bf, 0, none⟩)], .int .i64 (x : Nat), undef, undef, undef, undef, undef, undef, undef, undef, undef], defers := [] }) ?assign ?body ?done ?stop
  case assign =>
    intro l x W K hK
    gi_wp2
    exact hK
  case body =>
    rintro l pre x rest O W hL hsz ⟨⟨v, hv, hr, rfl, hne, hne'⟩, hpq, hQW, gB, gs⟩
    have hlen : pre.length < 2147483648 := by omega
    have hc := hv.cell
    have hxw : IntKind.i64.wrap (x : Int) = x := by
      have := h.map.bound x ((mem_memFrom h.map.bound (f := f.toNat)).1 (by rw [hL]; simp)).2
      rw [IntKind.wrap_i64]; omega
    clear hL hl hF hP hrw hO3 hQ3
    by_cases hpe : pre.length + 1 = q
    · have HPE : Hid (pre.length + 1 = q) := hpe
      have hqp : (q : Int) = (pre.length : Int) + 1 := by omega
      have hpi : ((pre.length : Int) + 1 == (q : Int)) = true := by rw [hqp]; simp
      clear hpe hqp
      gi_wp2_with (gi_at_builtin; refine wpListIn_append_own2 _ rfl _ _ 26 rfl w.heap.size 3 i0 (.int .i64 0) 1 8 underInts hi hz0 hz1 hz2 rfl (by decide) _ _ _ rfl (hr.alloc _) ⟨W.heap.size, 0, none⟩ 1 1 [.int .i64 ((x : Nat) : Int)] rfl rfl (cell_one_new _ _ _) (by simp [Value.oneCell']) (by decide) (by unfold maxLen; omega) (by omega) (by have := gB.size; simp; omega) ?_; intro v' w5 hown' hgrow hwh; obtain ⟨g', cap', rfl⟩ := ownsRow_succ hown'; obtain ⟨hv1, hv2, hr2, hk2, hb2⟩ := hv.appended (by decide) hr gB.size (by omega) hown' hgrow; have hc1 := hv1.cell; have hf1 := hv1.frozen; have hc2 := hv2.cell; have hQ5 : Holds (w5.setCell ⟨w.heap.size + 1, 0, none⟩ (.slice (some ⟨g', 0, none⟩) (pre.length + 1) cap')) w.heap.size 3 #[.int .i64 (q : Nat)] := (grown_holdsQ hgrow hQW (fun e => hne' e.symm)).other _ _ (by simp); have hq5 := hQ5.cell 0)
      refine ⟨hk2.from _, keepO_append hgrow _ (by omega), rfl, ?_, ⟨_, hv2, ?_⟩, gB.trans hb2, ?_⟩
      · rw [List.length_append]; exact HPE.out
      · unfold OwnInts
        rw [List.length_append, List.map_append]
        exact hr2
      · have := hgrow.size
        simp at this ⊢
        omega
    · have hpi : ((pre.length : Int) + 1 == (q : Int)) = false := beq_eq_false_iff_ne.2 (by omega)
      gi_wp2_with (gi_at_builtin; refine wpListIn_append_own2 _ rfl _ _ 26 rfl w.heap.size 3 i0 (.int .i64 0) 1 8 underInts hi hz0 hz1 hz2 rfl (by decide) _ _ _ rfl (hr.alloc _) ⟨W.heap.size, 0, none⟩ 1 1 [.int .i64 ((x : Nat) : Int)] rfl rfl (cell_one_new _ _ _) (by simp [Value.oneCell']) (by decide) (by unfold maxLen; omega) (by omega) (by have := gB.size; simp; omega) ?_; intro v' w5 hown' hgrow hwh; obtain ⟨g', cap', rfl⟩ := ownsRow_succ hown'; obtain ⟨hv1, hv2, hr2, hk2, hb2⟩ := hv.appended (by decide) hr gB.size (by omega) hown' hgrow; have hc1 := hv1.cell; have hf1 := hv1.frozen; have hc2 := hv2.cell; have hQ5 : Holds (w5.setCell ⟨w.heap.size + 1, 0, none⟩ (.slice (some ⟨g', 0, none⟩) (pre.length + 1) cap')) w.heap.size 3 #[.int .i64 (q : Nat)] := (grown_holdsQ hgrow hQW (fun e => hne' e.symm)).other _ _ (by simp); have hq5 := hQ5.cell 0)
      refine ⟨hk2.from _, keepB_append hgrow _ (fun k hk => ⟨by have := hSl k hk; omega, fun e => hne k hk e.symm, by have := hSg k hk; omega⟩), keepO_append hgrow _ (by omega), rowO (.slice (some ⟨g', 0, none⟩) (pre.length + 1) cap') w3.heap.size, rowO_next hwh, ⟨_, hv2, ?_, rfl, fun k hk e => ?_, fun e => ?_⟩, ?_, hQ5, gB.trans hb2, ?_⟩
      · unfold OwnInts
        rw [List.length_append, List.map_append]
        exact hr2
      · rcases hwh with q | q
        · rw [q] at e; exact hne k hk e
        · rw [q] at e
          injection e with e
          have := hSl k hk
          simp at e
          omega
      · rcases hwh with q | q
        · rw [q] at e; exact hne' e
        · rw [q] at e
          injection e with e
          simp at e
          omega
      · rw [List.length_append]; simp; omega
      · have := hgrow.size
        simp at this ⊢
        omega
  case done =>
    rintro D O W hD ⟨⟨v, hv, hr, rfl, hne⟩, hpq, hQW, gB, gs⟩ hK
    have hc := hv.cell
    clear hl hF hP hrw hO3 hQ3
    go_wp2_with fail
    refine leaves_marks (Marks.one (B := w.heap.size) (by omega) hK) fun w' hw' => ⟨_, results_tmp rfl _ _ _, _, rfl, ?_, gB.trans hw'.below⟩
    rw [List.take_of_length_le (by omega)]
    exact ownsRow_shut hw' hr
  case stop =>
    rintro D c pre x rest W hD hL ⟨rfl, hpl2, ⟨v, hv, hr⟩, gB, gs⟩ hK
    have hc := hv.cell
    have HTK : Hid ((memFrom M f.toNat).take q = pre ++ [x]) := (by
      show (memFrom M f.toNat).take q = pre ++ [x]
      rw [hL, show pre ++ x :: rest = (pre ++ [x]) ++ rest by simp, ← hpl2, List.take_left])
    clear hl hF hP hrw hO3 hQ3 hL
    go_wp2_with fail
    refine leaves_marks (Marks.one (B := w.heap.size) (by omega) hK) fun w' hw' => ⟨_, results_tmp rfl _ _ _, _, rfl, ?_, gB.trans hw'.below⟩
    rw [HTK.out]
    exact ownsRow_shut hw' hr
end Go.Proofs.Ytbenfmhcpipehaa
