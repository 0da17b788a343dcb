/-
  What below and writeList do: who ranges over a container's lower parts.
-/
import Derived.Test.YtbenfmhcpipehaaBLowsW
import Derived.Maps.AppendAt
namespace Go.Proofs.Ytbenfmhcpipehaa
open Go Go.RowKit
attribute [local go_sem] Oper.semAt_some

theorem holds_kept {A B : World} {row : Option Nat} {Bd : Nat} (hg : A.grownBy B row) (hr : ∀ r, row = some r → Bd ≤ r ∧ ∃ o : Obj, A.heap[r]? = some o ∧ o.isCells = false) {b : Nat} {t : TypeId} {cs : Array Value} (h : Holds A b t cs) : Holds B b t cs := by
  unfold Holds at *
  refine (hg.block b (Array.getElem?_eq_some_iff.1 h).1 (fun e => ?_)).trans h
  obtain ⟨_, o, ho, hc⟩ := hr b e.symm
  rw [h] at ho; cases ho; cases hc
theorem below_kept {A B w : World} {row : Option Nat} {Bd n : Nat} (hg : A.grownBy B row) (hr : ∀ r, row = some r → Bd ≤ r ∧ ∃ o : Obj, A.heap[r]? = some o ∧ o.isCells = false) (hn : n ≤ Bd) (hw : n ≤ w.heap.size) (h : Below n w A) : Below n w B :=
  h.grown hg (Nat.le_trans hw h.size) (fun k e => Nat.le_trans hn (hr k e).1)

/-- The container of a list of lower parts. -/
def ofList (l : List Nat) (x : Nat) : Bool := decide (x ∈ l)
theorem ofList_snoc (l : List Nat) (x : Nat) : contA (fun y => decide (y = x) || ofList l y) = contA (ofList (l ++ [x])) := contA_congr fun y _ => by
  unfold ofList
  rw [← Bool.decide_or]
  exact decide_eq_decide.2 (by simp [or_comm])

theorem ofList_nil : contA (ofList []) = contA (fun _ => false) := contA_congr fun y _ => by simp [ofList]

theorem lowsL_rises (p : Nat → Bool) (k : Nat) : (lowsL p k).Pairwise (· < ·) := List.Pairwise.filter _ List.pairwise_lt_range
theorem mem_lowsL {p : Nat → Bool} {k l : Nat} : l ∈ lowsL p k ↔ k ≤ l ∧ l < 256 ∧ p l = true := by
  refine ⟨lowsL_lt, fun ⟨h1, h2, h3⟩ => ?_⟩
  unfold lowsL
  rw [List.mem_filter, List.mem_range]
  exact ⟨h2, by simp [h1, h3]⟩

theorem below_all {p : Nat → Bool} {e : Nat} {pre : List Nat} (hL : lowsL p 0 = pre) (hpre : ∀ l ∈ pre, l < e) : contA (ofList pre) = contA (fun l => p l && decide (l < e)) := contA_congr fun l hl => by
  unfold ofList
  rw [← hL, Bool.eq_iff_iff]
  simp [mem_lowsL, hl]
  intro h
  exact hpre l (by rw [← hL]; exact mem_lowsL.2 ⟨by omega, hl, h⟩)
theorem below_some {p : Nat → Bool} {e x : Nat} {pre rest : List Nat} (hL : lowsL p 0 = pre ++ x :: rest) (hpre : ∀ l ∈ pre, l < e) (hx : e ≤ x) : contA (ofList pre) = contA (fun l => p l && decide (l < e)) := contA_congr fun l hl => by
  have hr := lowsL_rises p 0
  rw [hL] at hr
  have hr2 := (List.pairwise_append.1 hr).2.1
  rw [List.pairwise_cons] at hr2
  unfold ofList
  rw [Bool.eq_iff_iff]
  simp
  constructor
  · intro h
    exact ⟨(lowsL_lt (p := p) (k := 0) (by rw [hL]; simp [h])).2.2, hpre l h⟩
  · rintro ⟨h1, h2⟩
    have hm : l ∈ lowsL p 0 := mem_lowsL.2 ⟨by omega, hl, h1⟩
    rw [hL, List.mem_append, List.mem_cons] at hm
    rcases hm with h | h | h
    · exact h
    · omega
    · have := hr2.1 l h; omega

/-- New blocks, one behind the other. -/
theorem holds_new1 (w : World) (t1 : TypeId) (c1 : Array Value) (o : Obj) : Holds ((w.alloc o).alloc (.cells c1 t1)) (w.heap.size + 1) t1 c1 := by
  have := Holds.new (w.alloc o) t1 c1
  rw [World.size_alloc] at this
  exact this
theorem holds_new2 (w : World) (t1 : TypeId) (c1 : Array Value) (o o' : Obj) : Holds (((w.alloc o).alloc o').alloc (.cells c1 t1)) (w.heap.size + 1 + 1) t1 c1 := by
  have := holds_new1 (w.alloc o) t1 c1 o'
  rw [World.size_alloc] at this
  exact this
theorem holds_new3 (w : World) (t1 : TypeId) (c1 : Array Value) (o o' o2 : Obj) : Holds ((((w.alloc o).alloc o').alloc o2).alloc (.cells c1 t1)) (w.heap.size + 1 + 1 + 1) t1 c1 := by
  have := holds_new2 (w.alloc o) t1 c1 o' o2
  rw [World.size_alloc] at this
  exact this
theorem below_new1 (w : World) (o : Obj) : Below w.heap.size w (w.alloc o) := (Below.refl _ w).alloc (Nat.le_refl _) _
theorem below_new2 (w : World) (o o' : Obj) : Below w.heap.size w ((w.alloc o).alloc o') := (below_new1 w o).alloc (by simp) _
theorem below_new3 (w : World) (o o' o2 : Obj) : Below w.heap.size w (((w.alloc o).alloc o').alloc o2) := (below_new2 w o o').alloc (by simp; omega) _
theorem below_new4 (w : World) (o o' o2 o3 : Obj) : Below w.heap.size w ((((w.alloc o).alloc o').alloc o2).alloc o3) := (below_new3 w o o' o2).alloc (by simp; omega) _

set_option maxRecDepth 8000 in
set_option maxHeartbeats 4000000 in
theorem below_any (p : Nat → Bool) (e : Nat) (w : World) :
    Calls Try.prog 42 #[.agg (contA p), .int .i64 (e : Nat)] w fun en w' => en = .returned (.agg (contA fun l => p l && decide (l < e))) ∧ Below w.heap.size w w' := by
  refine calls_of_wp_marks Try.func42 rfl ?_
  simp only [Try.ntmps42, List.size_toArray, List.length_cons, List.length_nil, Nat.reduceAdd, Nat.reduceSub, Array.replicate_succ, Array.replicate_zero, List.push_toArray, List.append_toArray, List.nil_append, List.cons_append]
  obtain ⟨W0, hW⟩ : ∃ W0, World.alloc (World.alloc (World.alloc (World.alloc w (.cells (contA p) 74)) (.cells #[.int .i64 (e : Nat)] 3)) (.cells (contA fun _ => false) 74)) (.cells (contA fun _ => false) 74) = W0 := ⟨_, rfl⟩
  have h1 : Holds W0 w.heap.size 74 (contA p) := by rw [← hW]; exact (((Holds.new _ _ _).alloc _).alloc _).alloc _
  have h2 : Holds W0 (w.heap.size + 1) 3 #[.int .i64 (e : Nat)] := by rw [← hW]; exact ((holds_new1 _ _ _ _).alloc _).alloc _
  have h3 : Holds W0 (w.heap.size + 1 + 1) 74 (contA fun _ => false) := by rw [← hW]; exact (holds_new2 _ _ _ _ _).alloc _
  have h4 : Holds W0 (w.heap.size + 1 + 1 + 1) 74 (contA fun _ => false) := by rw [← hW]; exact holds_new3 _ _ _ _ _ _
  have hB : Below w.heap.size w W0 := by rw [← hW]; exact below_new4 _ _ _ _ _
  rw [zeroC] at hW
  go_wp2_with (first
    | (refine wpList_ldC rfl _ rfl rfl h1 ?_)
    | (go_at_call 65; refine (lows_any p 0 _).mono ?_; rintro e w1 ⟨b, rfl, hb, hC, hF, hB1⟩))
  clear hW
  have hb4 : w.heap.size + 1 + 1 + 1 < b := Nat.lt_of_lt_of_le h4.lt hb
  replace h2 := below_holds hB1 h2
  replace h3 := below_holds hB1 h3
  replace h4 := below_holds hB1 h4
  have hbl := hC.lt
  replace hB := below_new hB hB1
  clear hb
  refine wp_rangeSeq rfl (enters_of Try.func79 (by kernel_rfl) rfl) (lows_seq p 0 b (b + 1) w1 hC hF) (Below.refl _ _) (fun k hk => by subst hk; exact hbl)
    (fun pre W => Holds W (w.heap.size + 1 + 1 + 1) 74 (contA (ofList pre)) ∧ Holds W (w.heap.size + 1) 3 #[.int .i64 (e : Nat)] ∧ Holds W (w.heap.size + 1 + 1) 74 (contA fun _ => false) ∧ (∀ l ∈ pre, l < e) ∧ Below w.heap.size w W)
    (fun c pre W => c = .exit 0 ∧ (∃ pre' x, pre = pre' ++ [x] ∧ e ≤ x ∧ (∀ l ∈ pre', l < e) ∧ Holds W (w.heap.size + 1 + 1 + 1) 74 (contA (ofList pre'))) ∧ Holds W (w.heap.size + 1 + 1) 74 (contA fun _ => false) ∧ Below w.heap.size w W)
    (fun s A B row hs hg hr => ⟨holds_kept hg hr hs.1, holds_kept hg hr hs.2.1, holds_kept hg hr hs.2.2.1, hs.2.2.2.1, below_kept hg hr (by have := hB.size; omega) (Nat.le_refl _) hs.2.2.2.2⟩)
    (fun c s A B row hs hg hr => by
      obtain ⟨h1, ⟨pre', x, h2, h3, h4, h5⟩, h6, h7⟩ := hs
      exact ⟨h1, ⟨pre', x, h2, h3, h4, holds_kept hg hr h5⟩, holds_kept hg hr h6, below_kept hg hr (by have := hB.size; omega) (Nat.le_refl _) h7⟩)
    ⟨h4.congr ofList_nil.symm, h2, h3, by simp, hB⟩
    (fun x => { tmps := #[.agg (contA p), .int .i64 (e : Nat), .pointer (some ⟨w.heap.size, 0, none⟩), .pointer (some ⟨w.heap.size + 1, 0, none⟩), .pointer (some ⟨w.heap.size + 1 + 1, 0, none⟩), .pointer (some ⟨w.heap.size + 1 + 1 + 1, 0, none⟩), .int .i64 (x : Nat), .agg (contA p), .func (.func 79) #[] #[.pointer (some ⟨b + 1, 0, none⟩), .pointer (some ⟨b, 0, none⟩)], .int .i64 (x : Nat), undef, undef, undef, undef, undef, undef, undef], defers := [] }) ?assign ?body ?done ?stop
  case assign =>
    intro l x W K hK
    gi_wp2
    exact hK
  case body =>
    rintro l pre x rest W hL hsz ⟨g4, g2, g3, gl, gB⟩
    have hx := lowsL_lt (p := p) (k := 0) (l := x) (by have := hL; simp at this; rw [this]; simp)
    have hc2 : W.cell? ⟨w.heap.size + 1, 0, none⟩ = some (.int .i64 (e : Nat)) := g2.cell 0
    have HG : Hid (Holds W (w.heap.size + 1) 3 #[.int .i64 (e : Nat)]) := g2
    clear hL h1 h2 h3 h4 hC hF hB1 g2
    by_cases hxe : e ≤ x
    · have hxi : (e : Int) ≤ x := by omega
      gi_wp2
      exact ⟨KeepsFrom.refl _ _, rfl, ⟨pre, x, rfl, hxe, gl, g4⟩, g3, gB⟩
    · have hxi : ¬ (e : Int) ≤ x := by omega
      gi_wp2_with (first
        | (refine wpListIn_ldC rfl _ rfl rfl g4 ?_)
        | (refine ⟨trivial, rfl, ?_⟩; gi_at_call 53; refine (CallsIn.inRound l (callsIn_wide.2 (with_any (ofList pre) x W hx.2.1))).mono ?_; rintro e w2 ⟨rfl, hB2⟩; have g4' := below_holds hB2 g4; rw [ofList_snoc])
        | (refine wpListIn_stC rfl _ _ rfl rfl rfl g4' ?_; intro W3 h5 hO hS))
      have k2 : KeepB (fun k => k = b) W W3 := (KeepB.below hB2 (by rintro k rfl; omega)).trans (KeepB.only hO (by omega) (by rintro k rfl; have := hB2.size; omega))
      exact ⟨(keepsFrom_below hB2).trans (keepsFrom_only hO (by omega)), k2, h5, hO.holds (below_holds hB2 HG.out) (by omega), hO.holds (below_holds hB2 g3) (by omega), fun l hl => by rcases List.mem_append.1 hl with h | h; exact gl l h; simp at h; omega, Only.fresh (gB.trans (hB2.mono gB.size)) hO (by omega)⟩
  case done =>
    rintro D W hD ⟨g4, g2, g3, gl, gB⟩ hK
    have HC := below_all (e := e) rfl gl
    clear h1 h2 h3 h4 hC hF hB1 g2
    go_wp2_with (first
      | (refine wpList_ldC rfl _ rfl rfl g4 ?_)
      | (refine wpList_stC rfl _ _ rfl rfl rfl g3 ?_; intro W3 h5 hO hS))
    refine leaves_marks (Marks.one (B := w.heap.size) (by have := hB.size; omega) ((hO.block D (Array.getElem?_eq_some_iff.1 hK).1 (by omega)).trans hK)) fun w' hw' => ⟨_, results_contC rfl _ _ _ _ _ rfl (hw'.holds h5), ?_⟩
    exact ⟨congrArg (fun c => Ending.returned (Value.agg c)) HC, (Only.fresh gB hO (by omega)).trans hw'.below⟩
  case stop =>
    rintro D c pre x rest W hD hL ⟨rfl, ⟨pre', x', hp, hx, gl, g4⟩, g3, gB⟩ hK
    obtain ⟨rfl, rfl⟩ : pre' = pre ∧ x' = x := by
      have := List.append_inj' hp rfl
      simp at this
      exact ⟨this.1.symm, this.2.symm⟩
    have HC := below_some hL gl hx
    clear h1 h2 h3 h4 hC hF hB1
    go_wp2_with (first
      | (refine wpList_ldC rfl _ rfl rfl g4 ?_)
      | (refine wpList_stC rfl _ _ rfl rfl rfl g3 ?_; intro W3 h5 hO hS))
    refine leaves_marks (Marks.one (B := w.heap.size) (by have := hB.size; omega) ((hO.block D (Array.getElem?_eq_some_iff.1 hK).1 (by omega)).trans hK)) fun w' hw' => ⟨_, results_contC rfl _ _ _ _ _ rfl (hw'.holds h5), ?_⟩
    exact ⟨congrArg (fun c => Ending.returned (Value.agg c)) HC, (Only.fresh gB hO (by omega)).trans hw'.below⟩
end Go.Proofs.Ytbenfmhcpipehaa
