/-
  What writeList does: a container's lower parts as bytes.
-/
import Derived.Test.YtbenfmhcpipehaaBBelowW
import Derived.Laws.IdiomStrings
namespace Go.Proofs.Ytbenfmhcpipehaa
open Go Go.RowKit
attribute [local go_sem] Oper.semAt_some

theorem ownsRow_kept {A B : World} {row : Option Nat} {Bd : Nat} (hg : A.grownBy B row) (hr : ∀ r, row = some r → Bd ≤ r ∧ ∃ o : Obj, A.heap[r]? = some o ∧ o.isCells = false) {base : Nat} {e : TypeId} {size n : Nat} {v : Value} {xs : List Value} (h : A.ownsRow base e size v n xs) : B.ownsRow base e size v n xs := by
  refine h.kept hg ?_
  rcases h.2 with ⟨rfl, _⟩ | ⟨g, cap, cur, rfl, _, hc, _⟩
  · exact .inl rfl
  · refine .inr fun e => ?_
    obtain ⟨_, o, ho, hn⟩ := hr g (by rw [← e]; rfl)
    rw [hc] at ho; cases ho; cases hn
theorem ownsRow_below {w w' : World} (hb : Below w.heap.size w w') {base : Nat} {e : TypeId} {size n : Nat} {v : Value} {xs : List Value} (h : w.ownsRow base e size v n xs) : w'.ownsRow base e size v n xs :=
  ownsRow_kept (Bd := 0) (grown_below hb) (fun r e => by cases e) h

theorem keepB_append {S : Nat → Prop} {W w3 : World} {tmp : Obj} {row : Option Nat} (hg : (W.alloc tmp).grownBy w3 row) {B : Nat} (u : Value) (hS : ∀ k, S k → k < W.heap.size ∧ some k ≠ row ∧ k ≠ B) : KeepB S W (w3.setCell ⟨B, 0, none⟩ u) := by
  refine ⟨by have := hg.size; simp at this ⊢; omega, fun k hk => ?_⟩
  obtain ⟨h1, h2, h3⟩ := hS k hk
  rw [Below.heap_setCell _ _ _ _ h3, hg.block k (by simp; omega) h2, Below.heap_alloc _ _ _ h1]

/-- A row's block is none of another type. -/
theorem row_ne {W : World} {base g b n : Nat} {e t : TypeId} {size len cap : Nat} {xs : List Value} {cs : Array Value} (h : W.ownsRow base e size (.slice (some ⟨g, 0, none⟩) len cap) n xs) (hh : Holds W b t cs) (ht : t ≠ e) : g ≠ b := by
  rintro rfl
  rcases h.2 with ⟨h, _⟩ | ⟨g2, cap2, cur, h, _, hcur, _⟩
  · cases h
  · injection h with h _ _
    injection h with h
    injection h with h _ _
    subst h
    unfold Holds at hh
    rw [hh] at hcur
    injection hcur with hcur
    injection hcur with _ hcur _
    exact ht hcur

theorem info5 : (Try.prog.info? 5).map (fun i => (i.zero, i.size, i.bytes)) = some (some (.int .u8 0), 1, 1) := by kernel_rfl
theorem info3 : (Try.prog.info? 3).map (fun i => (i.zero, i.size, i.bytes)) = some (some (.int .i64 0), 1, 8) := by kernel_rfl
theorem underBytes : Try.prog.underlying 86 = some (.slice 5) := by kernel_rfl

/-- The lower parts as bytes. -/
def lowB (p : Nat → Bool) : List UInt8 := (lowsL p 0).map UInt8.ofNat
theorem lowB_len (p : Nat → Bool) : (lowB p).length = (lowsL p 0).length := by simp [lowB]
theorem lowsL_len (p : Nat → Bool) (k : Nat) : (lowsL p k).length ≤ 256 := by
  unfold lowsL
  refine Nat.le_trans (List.length_filter_le _ _) ?_
  simp

theorem convert_lows {w : World} {base : Nat} {g cap : Nat} {p : Nat → Bool} (h : w.ownsRow base 5 1 (.slice (some ⟨g, 0, none⟩) (lowsL p 0).length cap) (lowsL p 0).length ((lowsL p 0).map fun x => .int .u8 ((x : Nat) : Int))) :
    (convert 86 9 (.slice (some ⟨g, 0, none⟩) (lowsL p 0).length cap)).run Try.prog w = .ok (.string ⟨(lowB p).toArray⟩) w := by
  rw [← lowB_len] at h ⊢
  refine run_convert_bytes_back w 86 9 5 ⟨g, 0, none⟩ cap (lowB p) underBytes (by kernel_rfl) (by kernel_rfl) (fun j hj => ?_)
  have hj' : j < (lowsL p 0).length := by rw [← lowB_len]; exact hj
  refine (h.cells (g := g) rfl j (.int .u8 (((lowsL p 0)[j] : Nat) : Int)) (by rw [List.getElem?_map, List.getElem?_eq_getElem hj']; rfl)).trans ?_
  have hlt := (lowsL_lt (List.getElem_mem hj')).2.1
  simp [lowB]
  omega

set_option maxRecDepth 8000 in
set_option maxHeartbeats 1000000 in
theorem writeList_any (p : Nat → Bool) (w : World) :
    Calls Try.prog 72 #[.agg (contA p)] w fun en w' => en = .returned (.string ⟨(lowB p).toArray⟩) ∧ Below w.heap.size w w' := by
  obtain ⟨i0, hi, hz0, hz1, hz2⟩ := info_parts info5
  refine calls_of_wp_marks Try.func72 rfl ?_
  simp only [Try.ntmps72, List.size_toArray, List.length_cons, List.length_nil, Nat.reduceAdd, Nat.reduceSub, Array.replicate_succ, Array.replicate_zero, List.push_toArray, List.append_toArray, List.nil_append, List.cons_append]
  obtain ⟨W0, hW⟩ : ∃ W0, World.alloc w (.cells (contA p) 74) = W0 := ⟨_, rfl⟩
  have h1 : Holds W0 w.heap.size 74 (contA p) := by rw [← hW]; exact Holds.new _ _ _
  have hB : Below w.heap.size w W0 := by rw [← hW]; exact below_new1 _ _
  have hz : w.heap.size ≤ W0.heap.size := hB.size
  go_wp2_with (first
    | (at_make; refine wpList_make_own _ rfl _ _ 86 rfl w.heap.size 5 i0 (.int .u8 0) 1 underBytes hi hz0 hz1 .i64 .i64 32 32 rfl rfl rfl (by rw [hz2]; decide) (by decide) hz ?_; intro w1 hrow hg1; have h1' : ∀ o, Holds (w1.alloc o) w.heap.size 74 (contA p) := fun o => Holds.alloc (holds_kept (Bd := 0) hg1 (fun r e => by cases e) h1) o)
    | (refine wpList_ldC rfl _ rfl rfl (h1' _) ?_)
    | (go_at_call 65; refine (lows_any p 0 _).mono ?_; rintro e w2 ⟨b, rfl, hb, hC, hF, hB1⟩))
  clear hW h1 h1'
  have hB01 : Below w.heap.size w (w1.alloc (.cells #[.slice (some ⟨W0.heap.size, 0, none⟩) 0 32] 86)) := (hB.grown hg1 hz (fun k e => by cases e)).alloc (by have := hg1.size; omega) _
  have hbx : Boxed w2 w1.heap.size 86 (.slice (some ⟨W0.heap.size, 0, none⟩) 0 32) := below_holds hB1 (Boxed.new w1 _ _)
  have hrw : w2.ownsRow w.heap.size 5 1 (.slice (some ⟨W0.heap.size, 0, none⟩) 0 32) 0 [] := ownsRow_below hB1 (hrow.alloc _)
  have hB2 := below_new hB01 hB1
  have hb2 : w1.heap.size < b := by have := hb; simp at this; omega
  have hbl := hC.lt
  have hw1 : w.heap.size ≤ w1.heap.size := by have := hg1.size; omega
  clear hrow hg1 hb
  refine wp_rangeSeq rfl (enters_of Try.func79 (by kernel_rfl) rfl) (lows_seq p 0 b (b + 1) w2 hC hF) (Below.refl _ _) (fun k hk => by subst hk; exact hbl)
    (fun pre W => (∃ g cap, Boxed W w1.heap.size 86 (.slice (some ⟨g, 0, none⟩) pre.length cap) ∧ W.ownsRow w.heap.size 5 1 (.slice (some ⟨g, 0, none⟩) pre.length cap) pre.length (pre.map fun x => .int .u8 ((x : Nat) : Int)) ∧ Holds W b 74 (contA p)) ∧ Below w.heap.size w W)
    (fun _ _ _ => False)
    (fun s A B row hs hg hr => by
      obtain ⟨⟨g, cap, h1, h2, h4⟩, h3⟩ := hs
      exact ⟨⟨g, cap, holds_kept hg hr h1, ownsRow_kept hg hr h2, holds_kept hg hr h4⟩, below_kept hg hr (by have := hB2.size; omega) (Nat.le_refl _) h3⟩)
    (fun c s A B row hs hg hr => hs)
    ⟨⟨_, _, hbx, hrw, hC⟩, hB2⟩
    (fun x => { tmps := #[.agg (contA p), .pointer (some ⟨w.heap.size, 0, none⟩), .string ⟨#[]⟩, .pointer (some ⟨w1.heap.size, 0, none⟩), .int .i64 (x : Nat), .slice (some ⟨W0.heap.size, 0, none⟩) 0 32, .agg (contA p), .func (.func 79) #[] #[.pointer (some ⟨b + 1, 0, none⟩), .pointer (some ⟨b, 0, none⟩)], .int .i64 (x : Nat), undef, undef, undef, undef, undef, undef, undef], defers := [] }) ?assign ?body ?done ?stop
  case assign =>
    intro l x W K hK
    gi_wp2
    exact hK
  case body =>
    rintro l pre x rest W hL hsz ⟨⟨g, cap, hv, hr, hCW⟩, gB⟩
    have hx := (lowsL_lt (p := p) (k := 0) (l := x) (by have := hL; simp at this; rw [this]; simp)).2.1
    have hlen : pre.length < 256 := by
      have := lowsL_len p 0
      have e : (lowsL p 0).length = pre.length + (rest.length + 1) := by have := hL; simp at this; rw [this]; simp
      omega
    have hxi : ((x : Nat) : Int) % 256 = x := by omega
    have hxw : IntKind.u8.wrap (x : Int) = x := by rw [IntKind.wrap_u8]; exact hxi
    have hc := hv.cell
    clear hL hC hF hB1 hbx hrw
    gi_wp2_with (gi_at_builtin; refine wpListIn_append_own _ rfl _ _ 86 rfl w.heap.size 5 i0 (.int .u8 0) 1 1 underBytes hi hz0 hz1 hz2 rfl (by decide) _ _ _ rfl (hr.alloc _) ⟨W.heap.size, 0, none⟩ 1 1 [.int .u8 ((x : Nat) : Int)] rfl rfl (cell_one_new _ _ _) (by simp [Value.oneCell']) (by unfold maxLen; omega) (by omega) (by have := gB.size; simp; omega) ?_; intro v' w3 hown' hgrow _; obtain ⟨g', cap', rfl⟩ := ownsRow_succ hown'; obtain ⟨hv1, hv2, hr2, hk2, hb2⟩ := hv.appended (by decide) hr gB.size hw1 hown' hgrow; have hc1 := hv1.cell; have hf1 := hv1.frozen)
    have hgb : g ≠ b := row_ne hr hCW (by decide)
    have k2 := keepB_append (S := fun k => k = b) hgrow (B := w1.heap.size) (.slice (some ⟨g', 0, none⟩) (pre.length + 1) cap') (by rintro k rfl; exact ⟨by omega, fun e => hgb (by injection e with e; exact e.symm), by omega⟩)
    refine ⟨hk2.from _, k2, ⟨g', cap', ?_, ?_, k2.holds rfl hCW⟩, gB.trans hb2⟩
    · rw [List.length_append]; exact hv2
    · rw [List.length_append, List.map_append]; exact hr2
  case done =>
    rintro D W hD ⟨⟨g, cap, hv, hr, hCW⟩, gB⟩ hK
    have hcv := convert_lows (p := p) hr
    have hc := hv.cell
    clear hC hF hB1 hbx hrw hv hr hCW
    simp only [Int.toNat_zero] at hc hcv
    generalize (lowsL p 0).length = n0 at hc hcv
    go_wp2_with fail
    refine leaves_marks (Marks.one (B := w.heap.size) (by have := hB2.size; omega) hK) fun w' hw' => ⟨_, results_tmp rfl _ _ _, ?_⟩
    exact ⟨rfl, gB.trans hw'.below⟩
  case stop =>
    rintro D c pre x rest W _ _ h _
    exact h.elim
end Go.Proofs.Ytbenfmhcpipehaa
