/-
  Greatest and each, of no set.
-/
import Derived.Test.YtiokbhbggpibpaaBUnionW
import Derived.Test.YtiokbhbggpibpaaBCutsW
namespace Go.Proofs.Ytiokbhbggpibpaa
open Go Go.RowKit Go.Maps
attribute [local go_sem] Oper.semAt_some

theorem lows_none : lowsL (fun _ => false) 0 = [] := by
  unfold lowsL
  rw [List.filter_eq_nil_iff]
  simp

set_option maxRecDepth 8000 in
set_option maxHeartbeats 2000000 in
theorem great_nil (w : World) : Calls Try.prog 34 #[.pointer none] w fun e w' => e = .returned (.tuple #[.int .i64 0, .bool false]) ∧ Below w.heap.size w w' := by
  have hv := View.nil w
  obtain ⟨W0, hW0⟩ : ∃ W0, World.alloc (World.alloc w (.cells #[.int .i64 (-1)] 3)) (.cells #[.int .i64 0] 3) = W0 := ⟨_, rfl⟩
  have hB0 : Below w.heap.size w W0 := by rw [← hW0]; exact below_new2 _ _ _
  have hL0 : Holds W0 w.heap.size 3 #[.int .i64 (-1)] := by rw [← hW0]; exact (Holds.new _ _ _).alloc _
  have hF0 : Holds W0 (w.heap.size + 1) 3 #[.int .i64 0] := by rw [← hW0]; exact holds_new1 _ _ _ _
  have hh := fun W => held_any (View.nil W)
  have HW : Hid (World.alloc (World.alloc w (.cells #[.int .i64 (-1)] 3)) (.cells #[.int .i64 0] 3) = W0) := hW0
  clear hW0
  refine calls_of_wp_marks Try.func34 rfl ?_
  simp only [Try.ntmps34, List.size_toArray, List.length_cons, List.length_nil, Nat.reduceAdd, Nat.reduceSub, Array.replicate_succ, Array.replicate_zero, List.push_toArray, List.append_toArray, List.nil_append, List.cons_append]
  go_wp2_with (first
    | (go_at_call 44; rw [HW.out]; refine (hh _).mono ?_; rintro e w1 ⟨rfl, rfl⟩)
    | (at_range; refine wpList_rangeV rfl _ rfl rfl (View.nil _).map ?_; intro wA cnt0 hrg0 hB1 hs0; clear hs0)
    | go_in)
  go_frame
  have hlA := below_holds hB1 hL0
  have hFA := below_holds hB1 hF0
  have hBA := hB0.trans (hB1.mono hB0.size)
  go_loopw [11] (fun _ wr => wr = wA) (fun _ _ => 0)
  case atStart => rfl
  case round =>
    obtain rfl := hrel
    go_wp2_with (first
      | (at_next; refine wpList_nextV rfl _ rfl rfl hrg0 ?_ ?_)
      | go_in)
    · intro _
      have hcl : ∀ W, W = wr.drew → W.cell? ⟨w.heap.size, 0, none⟩ = some (.int .i64 (-1)) := fun W e => by subst e; exact hlA.cell 0
      have hlk := fun W => run_look_nil W (u := -1) (wfI (by decide) (by decide))
      have hlo := lows_any (fun _ => false) 0
      have hsq := fun b W h1 h2 => lows_seq (fun _ => false) 0 b (b + 1) W h1 h2
      have hC := IsC.mk fun _ => false
      generalize hcs : (contA fun _ => false) = cs at hlk hlo hsq hC
      go_wp2_with fail
      refine wp_region_qtail 3 mixedP (by kernel_rfl) ?_
      simp only [List.take_succ_cons, List.take_zero, List.drop_succ_cons, List.drop_zero]
      go_big_quiet_step (fail)
      refine wpQ_call rfl 44 #[.pointer none] (fun _ => by go_simp) (.map none) (fun w2 h2 => (hh w2).mono fun e w3 ⟨he, h3⟩ => ⟨he, h3.trans h2⟩) ?_
      go_frame
      refine wpQ_ldI rfl _ rfl rfl (fun w' hw' => hcl w' hw') ?_
      go_frame
      refine wpQuiet_nil ?_
      go_wp2_with (first
        | (go_at_call 49; refine (hlo _).mono ?_; rintro e w4 ⟨b, rfl, hb, hCb, hFb, hB4⟩))
      have hseq := hsq b w4 hCb hFb
      rw [show (0 : Int).toNat = 0 from rfl, lows_none] at hseq
      have hB4w : Below w.heap.size w w4 := hBA.drew.trans (hB4.mono hBA.size)
      have hl4 := below_holds hB4 hlA.drew
      have hF4 := below_holds hB4 hFA.drew
      have hbl := hCb.lt
      refine wp_rangeSeq rfl (enters_of Try.func65 (by kernel_rfl) rfl) hseq (Below.refl _ _) (fun k hk => by subst hk; exact hbl)
        (fun pre W => Holds W w.heap.size 3 #[.int .i64 (-1)] ∧ Holds W (w.heap.size + 1) 3 #[.int .i64 0] ∧ Below w.heap.size w W)
        (fun _ _ _ => False)
        (fun s A B row hs hg hr => ⟨holds_kept hg hr hs.1, holds_kept hg hr hs.2.1, below_kept hg hr (by have := hB4w.size; omega) (Nat.le_refl _) hs.2.2⟩)
        (fun c s A B row hs hg hr => hs)
        ⟨hl4, hF4, hB4w⟩
        (fun x => { tmps := #[.pointer none, undef, .int .i64 0, .bool false, .pointer (some ⟨w.heap.size, 0, none⟩), .pointer (some ⟨w.heap.size + 1, 0, none⟩), u6, .int .i64 (x : Nat), .pointer none, .map none, .pointer (some ⟨w1.heap.size, 0, none⟩), .tuple #[.bool false], .bool false, u13, u14, u15, u16, u17, .pointer none, .map none, .int .i64 (-1), .agg cs, .func (.func 65) #[] #[.pointer (some ⟨b + 1, 0, none⟩), .pointer (some ⟨b, 0, none⟩)], .int .i64 (x : Nat), undef, undef, undef, undef, undef, undef, undef], defers := [] }) ?assign ?body ?done ?stop
      case assign =>
        intro l x W K hK
        gi_wp2
        exact hK
      case body =>
        rintro l pre x rest W hL
        simp at hL
      case done =>
        rintro D W hD ⟨g1, g2, gB⟩ hK
        have c1 : W.cell? ⟨w.heap.size, 0, none⟩ = some (.int .i64 (-1)) := g1.cell 0
        have c2 : W.cell? ⟨w.heap.size + 1, 0, none⟩ = some (.int .i64 0) := g2.cell 0
        go_wp2_with fail
        go_region
        go_wp2_with fail
        refine leaves_marks (w := W.drew) (Marks.one (B := w.heap.size) (by have := hB4w.size; omega) hK) fun w' hw' => ⟨_, results_tmp2 rfl _ _ _, rfl, gB.drew.trans hw'.below⟩
      case stop =>
        rintro D c pre x rest W hD hL
        simp at hL
    · intro u w2 ct2 hu hlv
      obtain ⟨l, _, hl⟩ := hlv
      cases hl

theorem mem_none : memFrom (fun _ => false) 0 = [] := by
  cases h : memFrom (fun _ => false) 0 with
  | nil => rfl
  | cons a l =>
    have := (mem_memFrom (M := fun _ => false) (by simp) (f := 0) (n := a)).1 (by rw [h]; simp)
    simp at this

theorem ints4 (w : World) : IntsAt (w.alloc (.cells #[.int .i64 4] 3)) (.slice (some ⟨w.heap.size, 0, none⟩) 1 1) [4] := by
  refine .inr ⟨w.heap.size, 0, 1, rfl, fun i hi => ?_⟩
  have hh := Holds.new w 3 #[.int .i64 4]
  rw [Nat.zero_add, hh.cell i]
  match i, hi with
  | 0, _ => rfl
theorem card_none : card (fun _ => false) = 0 := by rw [card_len, mem_none]; rfl
theorem bytes_none : bytesM (fun _ => false) = [] := by
  have h : (fun _ => false) = cutM (fun _ => false) 0 := by funext n; rfl
  rw [h]; exact bytes_cut0 _
theorem least_none {f n : Nat} {b : Bool} (h : LeastOf (fun _ => false) f n b) : b = false := by
  cases b with
  | false => rfl
  | true => exact absurd h.1 (by simp)
theorem hasI_none (n : Int) : hasI (fun _ => false) n = false := by simp [hasI]
theorem uni4 : hasI (fun n => false || ofInts [4] n) 4 = true := by decide
theorem setAt_onlyS {w w' : World} {b b' m : Nat} {M : Nat → Bool} (h : SetAt w b (some m) M) (k : OnlyS b' none w w') (h1 : b ≠ b') (h2 : m ≠ b') : SetAt w' b (some m) M := by
  refine ⟨?_, MapAt.block h.map (k.block m (MapAt.lt h.map) h2 (by simp))⟩
  have h3 := h.ptr
  have h4 := h3.lt
  unfold Holds at *
  rw [k.block b h4 h1 (by simp)]; exact h3
theorem addB_three : addB (fun _ => false) 3 = true := by decide
end Go.Proofs.Ytiokbhbggpibpaa
