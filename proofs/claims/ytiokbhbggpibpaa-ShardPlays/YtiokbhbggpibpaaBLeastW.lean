/-
  What Least does.
-/
import Derived.Test.YtiokbhbggpibpaaBGF
namespace Go.Proofs.Ytiokbhbggpibpaa
open Go Go.RowKit Go.Maps
attribute [local go_sem] Oper.semAt_some

/-- The least member from a number on, among those whose upper parts are gone over. -/
def LeastIn (M lf : Nat → Bool) (f n : Nat) : Bool → Prop
  | true => M n = true ∧ f ≤ n ∧ ∀ x, M x = true → lf (x / 256) = false → f ≤ x → n ≤ x
  | false => n = 0 ∧ ∀ x, M x = true → lf (x / 256) = false → x < f
/-- The least member from a number on. -/
def LeastOf (M : Nat → Bool) (f n : Nat) (b : Bool) : Prop := LeastIn M (fun _ => false) f n b
theorem LeastIn.start (M : Nat → Bool) (f : Nat) : LeastIn M (liveB M) f 0 false := by
  refine ⟨rfl, fun x h1 h2 => ?_⟩
  have : liveB M (x / 256) = true := liveB_iff.2 ⟨x % 256, by omega, by rw [show 256 * (x / 256) + x % 256 = x by omega]; exact h1⟩
  rw [h2] at this; cases this
theorem LeastIn.ended {M lf : Nat → Bool} {f n : Nat} {b : Bool} (h : LeastIn M lf f n b) (hl : ∀ u, lf u = false) : LeastOf M f n b := by
  have : lf = fun _ => false := funext hl
  rw [this] at h; exact h
theorem LeastIn.bound {M lf : Nat → Bool} {f n : Nat} {b : Bool} (hM : ∀ n, M n = true → n < 2147483648) (h : LeastIn M lf f n b) : n < 2147483648 := by
  cases b with
  | true => exact hM n h.1
  | false => rw [h.1]; decide
/-- A container that begins behind it. -/
theorem LeastIn.skip {M lf : Nat → Bool} {f n u : Nat} (h : LeastIn M lf f n true) (hu : n < 256 * u) : LeastIn M (fun v => lf v && !decide (v = u)) f n true := by
  refine ⟨h.1, h.2.1, fun x h1 h2 h3 => ?_⟩
  by_cases e : x / 256 = u
  · omega
  · exact h.2.2 x h1 (by simpa [e] using h2) h3
/-- A container without such. -/
theorem LeastIn.none {M lf : Nat → Bool} {f n u : Nat} {b : Bool} (h : LeastIn M lf f n b) (hu : lowsL (atU M u) (f - 256 * u) = []) : LeastIn M (fun v => lf v && !decide (v = u)) f n b := by
  have key : ∀ x, M x = true → x / 256 = u → x < f := fun x h1 e => by
    apply Classical.byContradiction
    intro h3
    have : x % 256 ∈ lowsL (atU M u) (f - 256 * u) := mem_lowsL.2 ⟨by omega, by omega, by unfold atU; rw [show 256 * u + x % 256 = x by omega]; exact h1⟩
    rw [hu] at this; cases this
  cases b with
  | true =>
    refine ⟨h.1, h.2.1, fun x h1 h2 h3 => ?_⟩
    by_cases e : x / 256 = u
    · have := key x h1 e; omega
    · exact h.2.2 x h1 (by simpa [e] using h2) h3
  | false =>
    refine ⟨h.1, fun x h1 h2 => ?_⟩
    by_cases e : x / 256 = u
    · exact key x h1 e
    · exact h.2 x h1 (by simpa [e] using h2)
/-- A container that has such, and begins no later. -/
theorem LeastIn.some {M lf : Nat → Bool} {f n u x : Nat} {b : Bool} {rest : List Nat} (h : LeastIn M lf f n b) (hu : lowsL (atU M u) (f - 256 * u) = x :: rest) (hb : b = true → 256 * u ≤ n) : LeastIn M (fun v => lf v && !decide (v = u)) f (256 * u + x) true := by
  have hx := lowsL_lt (p := atU M u) (k := f - 256 * u) (l := x) (by rw [hu]; simp)
  have hr := lowsL_rises (atU M u) (f - 256 * u)
  rw [hu, List.pairwise_cons] at hr
  refine ⟨hx.2.2, by omega, fun y h1 h2 h3 => ?_⟩
  by_cases e : y / 256 = u
  · have : y % 256 ∈ lowsL (atU M u) (f - 256 * u) := mem_lowsL.2 ⟨by omega, by omega, by unfold atU; rw [show 256 * u + y % 256 = y by omega]; exact h1⟩
    rw [hu, List.mem_cons] at this
    rcases this with h | h
    · omega
    · have := hr.1 _ h; omega
  · have hly : lf (y / 256) = false := by simpa [e] using h2
    cases b with
    | true =>
      have := h.2.2 y h1 hly h3
      have := hb rfl
      omega
    | false => have := h.2 y h1 hly; omega

theorem RangV.iter {w : World} {r : Nat} {M lf : Nat → Bool} {cnt : Nat} {mo : Option Nat} (h : RangV w r M lf cnt mo) : ∀ ds, w.heap[r]? ≠ .some (.deferred ds) := fun ds e => by
  cases mo with
  | none => rw [h.1] at e; cases e
  | some m =>
    obtain ⟨D, left, ⟨es, clock, since, seen, c0, hb, F, hs, hD, hr, rest⟩, hR, hl⟩ := h
    rw [hr] at e; cases e
theorem RangV.onlyC {w w' : World} {r : Nat} {M lf : Nat → Bool} {cnt : Nat} {mo : Option Nat} (h : RangV w r M lf cnt mo) {b : Nat} {t : TypeId} {cs : Array Value} (k : Only b w w') (hb : Holds w b t cs) : RangV w' r M lf cnt mo := by
  obtain ⟨⟨o, h1, h2⟩, h3⟩ := h.objs
  unfold Holds at hb
  refine h.block (k.block r h.lt (fun e => ?_)) (fun m hm => ?_)
  · subst e; rw [h1] at hb; cases hb; cases h2
  · obtain ⟨o, h4, h5⟩ := h3 m hm
    refine k.block m (h.map.lt m hm) (fun e => ?_)
    subst e; rw [h4] at hb; cases hb; cases h5
theorem RangV.kept {A B : World} {row : Option Nat} {Bd : Nat} (hg : A.grownBy B row) (hr : ∀ r, row = .some r → Bd ≤ r ∧ ∃ o : Obj, A.heap[r]? = .some o ∧ o.isCells = false) {r : Nat} {M lf : Nat → Bool} {cnt : Nat} {mo : Option Nat} (h : RangV A r M lf cnt mo) (h1 : r < Bd) (h2 : ∀ m, mo = .some m → m < Bd) : RangV B r M lf cnt mo :=
  h.block (hg.block r h.lt (fun e => by have := (hr r e.symm).1; omega)) (fun m hm => hg.block m (h.map.lt m hm) (fun e => by have := (hr m e.symm).1; have := h2 m hm; omega))
theorem marks_only {n r : Nat} {w w' : World} (ho : Only r w w') (hr : ∀ ds, w.heap[r]? ≠ .some (.deferred ds)) : ∀ {ds : List Deferred}, Marks n ds w → Marks n ds w'
  | [], _ => trivial
  | _ :: _, ⟨⟨D, h1, h2, h3, h4⟩, hs⟩ => ⟨⟨D, h1, h2, (ho.block D (Array.getElem?_eq_some_iff.1 h3).1 (fun e => by subst e; exact hr _ h3)).trans h3, h4⟩, marks_only ho hr hs⟩

set_option maxRecDepth 8000 in
set_option maxHeartbeats 2000000 in
theorem least_any {w : World} {s : Value} {mo : Option Nat} {M : Nat → Bool} (h : View w s mo M) (f : Int) (m : Nat) (hm : max f 0 = (m : Int)) (hfm : m ≤ 9223372036854775807) :
    Calls Try.prog 29 #[s, .int .i64 f] w fun e w' => ∃ n b, e = .returned (.tuple #[.int .i64 (n : Nat), .bool b]) ∧ LeastOf M m n b ∧ Below w.heap.size w w' := by
  obtain ⟨W0, hW0⟩ : ∃ W0, World.alloc (World.alloc w (.cells #[.int .i64 0] 3)) (.cells #[.bool false] 4) = W0 := ⟨_, rfl⟩
  have hB0 : Below w.heap.size w W0 := by rw [← hW0]; exact below_new2 _ _ _
  have hL0 : Holds W0 w.heap.size 3 #[.int .i64 0] := by rw [← hW0]; exact (Holds.new _ _ _).alloc _
  have hF0 : Holds W0 (w.heap.size + 1) 4 #[.bool false] := by rw [← hW0]; exact holds_new1 _ _ _ _
  have h' := h.below hB0
  have hh := held_any h'
  have hMb := h.map.bound
  have HW : Hid (World.alloc (World.alloc w (.cells #[.int .i64 0] 3)) (.cells #[.bool false] 4) = W0) := hW0
  clear hW0
  refine calls_of_wp_marks Try.func29 rfl ?_
  simp only [Try.ntmps29, List.size_toArray, List.length_cons, List.length_nil, Nat.reduceAdd, Nat.reduceSub, Array.replicate_succ, Array.replicate_zero, List.push_toArray, List.append_toArray, List.nil_append, List.cons_append]
  go_wp2_with (first
    | (go_at_call 44; rw [HW.out]; refine hh.mono ?_; rintro e w1 ⟨rfl, rfl⟩)
    | (at_range; refine wpList_rangeV rfl _ rfl rfl h'.map ?_; intro wA cnt0 hrg0 hB1 hs0; clear hs0)
    | go_in)
  have hB1' : Below w.heap.size w wA := below_new hB0 hB1
  have hLA := below_holds hB1 hL0
  have hFA := below_holds hB1 hF0
  have hs1 : w.heap.size + 1 < w1.heap.size := hF0.lt
  clear hh h' HW hL0 hF0 hB0
  refine wp_loop (fun a wr => ∃ (n : Nat) (b : Bool) (lf : Nat → Bool) (ct : Nat) (u8 u9 u10 u17 u18 u19 u20 u21 u22 u23 u24 u25 u26 u27 u28 u29 u30 u31 u32 u33 u34 : Value) (ds : List Deferred),
      a = { tmps := #[s, .int .i64 (m : Nat), undef, undef, .int .i64 0, .bool false, .pointer (some ⟨w.heap.size, 0, none⟩), .pointer (some ⟨w.heap.size + 1, 0, none⟩), u8, u9, u10, undef, .int .i64 f, .int .i64 (m : Nat), s, .map mo, .pointer (some ⟨w1.heap.size, 0, none⟩), u17, u18, u19, u20, u21, u22, u23, u24, u25, u26, u27, u28, u29, u30, u31, u32, u33, u34, undef, undef, undef, undef, undef, undef], defers := ds } ∧
      RangV wr w1.heap.size M lf ct mo ∧ LeastIn M lf m n b ∧ Holds wr w.heap.size 3 #[.int .i64 (n : Nat)] ∧ Holds wr (w.heap.size + 1) 4 #[.bool b] ∧ Marks w.heap.size ds wr ∧ Below w.heap.size w wr ∧ w1.heap.size ≤ wr.heap.size) (fun _ wr => leftV wr w1.heap.size mo) ?_ ?_
  · exact ⟨0, false, _, _, undef, undef, undef, undef, undef, undef, undef, undef, undef, undef, undef, undef, undef, undef, undef, undef, undef, undef, undef, undef, undef, [], rfl, hrg0, LeastIn.start M m, hLA, hFA, trivial, hB1', hB1.size⟩
  · rintro a wr ⟨n, b, lf, ct, u8, u9, u10, u17, u18, u19, u20, u21, u22, u23, u24, u25, u26, u27, u28, u29, u30, u31, u32, u33, u34, ds, rfl, hrg, hli, hL, hF, hmk, hBr, hsr⟩
    clear hrg0 hB1 hLA hFA hB1'
    go_wp2_with (first
      | (at_next; refine wpList_nextV rfl _ rfl rfl hrg ?_ ?_)
      | go_in)
    · intro hl0
      have hend := hli.ended hl0
      have hcL : wr.cell? ⟨w.heap.size, 0, none⟩ = some (.int .i64 (n : Nat)) := hL.cell 0
      have hcF : wr.cell? ⟨w.heap.size + 1, 0, none⟩ = some (.bool b) := hF.cell 0
      clear hL hF
      go_wp2_with fail
      go_region
      go_wp2_with fail
      refine leaves_marks (ds := ds) (w := wr.drew) (marks_below (below_drewL (Below.refl _ _)) hmk) fun w' hw' => ⟨_, results_tmp2 rfl _ _ _, n, b, rfl, hend, hBr.drew.trans hw'.below⟩
    · intro u w2 ct2 hu hlv hlf hrg2 hlt hO hsz hen
      clear hsz
      rw [NU_eq] at hu
      have hs2 : wr.heap.size ≤ w2.heap.size := hO.size
      have hL2 := hO.holds hL (by omega)
      have hF2 := hO.holds hF (by omega)
      have hB2 : Below w.heap.size w w2 := Only.fresh hBr hO (by omega)
      have hmk2 : Marks w.heap.size ds w2 := marks_only hO (by
        have := hrg.iter
        exact this) hmk
      have hnb := hli.bound hMb
      have hlo := lows_any (atU M u) ((m : Int) - (u : Int) * 256)
      have hto : ((m : Int) - (u : Int) * 256).toNat = m - 256 * u := by omega
      have hC := IsC.mk (atU M u)
      generalize hcs : contA (atU M u) = cs at hen hlo hC ⊢
      have HC : Hid (contA (atU M u) = cs) := hcs
      have HT : Hid (((m : Int) - (u : Int) * 256).toNat = m - 256 * u) := hto
      clear hcs hto
      have hZ := IsC.mk fun _ => false
      obtain ⟨W3, hW⟩ : ∃ W3, World.alloc w2 (.cells (contA fun _ => false) 76) = W3 := ⟨_, rfl⟩
      have h1 : Holds W3 w2.heap.size 76 (contA fun _ => false) := by rw [← hW]; exact Holds.new _ _ _
      have hB3 : Below w2.heap.size w2 W3 := by rw [← hW]; exact below_new1 _ _
      rw [zeroC] at hW
      have huI : (u : Int) * 256 ≤ 2147483648 := by omega
      have huI0 : (0 : Int) ≤ (u : Int) * 256 := by omega
      have hfI : (m : Int) ≤ 9223372036854775807 := by omega
      have hfI0 : (0 : Int) ≤ m := by omega
      have hlc := hrg.left
      clear hL hF hmk hlv
      by_cases hsk : b = true ∧ n < 256 * u
      · obtain ⟨rfl, hnu⟩ := hsk
        have hnI : (n : Int) < (u : Int) * 256 := by omega
        go_wp2_with (first
          | (refine wpList_stK rfl _ _ rfl rfl rfl h1 hC hZ ?_; intro W4 h2 hO4 hs4; clear hs4; have hB4 : Below w2.heap.size w2 W4 := Only.fresh hB3 hO4 (Nat.le_refl _); obtain ⟨W5, hW5⟩ : ∃ W5, World.alloc W4 (.cells #[.int .i64 ((u : Int) * 256)] 3) = W5 := ⟨_, rfl⟩; have hB5 : Below W4.heap.size W4 W5 := (by rw [← hW5]; exact below_new1 _ _); have h5 : Holds W5 W4.heap.size 3 #[.int .i64 ((u : Int) * 256)] := (by rw [← hW5]; exact Holds.new _ _ _); have hB25 : Below w2.heap.size w2 W5 := below_new hB4 hB5; have hc5 : W5.cell? ⟨W4.heap.size, 0, none⟩ = some (.int .i64 ((u : Int) * 256)) := h5.cell 0; have hL5 := below_holds hB25 hL2; have hF5 := below_holds hB25 hF2; have hcL : W5.cell? ⟨w.heap.size, 0, none⟩ = some (.int .i64 (n : Nat)) := hL5.cell 0; have hcF : W5.cell? ⟨w.heap.size + 1, 0, none⟩ = some (.bool true) := hF5.cell 0)
          | fail)
        have hrg5 := hrg2.below hB25
        refine ⟨⟨n, true, _, ct2, _, _, _, _, _, _, _, _, _, _, _, _, _, _, _, _, _, _, _, _, _, ds, rfl, hrg5, hli.skip hnu, hL5, hF5, marks_below hB25 hmk2, hB2.trans (hB25.mono hB2.size), by have := hB25.size; omega⟩, ?_⟩
        rw [hrg5.left, hlc]; exact hlt
      · have hsk' : b = true → 256 * u ≤ n := fun e => by
          apply Classical.byContradiction
          intro q
          exact hsk ⟨e, by omega⟩
        have HSK : Hid (b = true → 256 * u ≤ n) := hsk'
        have hbI : ∀ e : b = true, ¬ ((n : Int) < (u : Int) * 256) := fun e => by have := hsk' e; omega
        clear hsk hsk'
        have hcond : b = false ∨ (b = true ∧ ¬ ((n : Int) < (u : Int) * 256)) := by
          cases b with
          | true => exact .inr ⟨rfl, hbI rfl⟩
          | false => exact .inl rfl
        clear hbI
        rcases hcond with hb | ⟨hb, hnI⟩
        · subst hb
          go_wp2_with (first
            | (refine wpList_stK rfl _ _ rfl rfl rfl h1 hC hZ ?_; intro W4 h2 hO4 hs4; clear hs4; have hB4 : Below w2.heap.size w2 W4 := Only.fresh hB3 hO4 (Nat.le_refl _); obtain ⟨W5, hW5⟩ : ∃ W5, World.alloc W4 (.cells #[.int .i64 ((u : Int) * 256)] 3) = W5 := ⟨_, rfl⟩; have hB5 : Below W4.heap.size W4 W5 := (by rw [← hW5]; exact below_new1 _ _); have h5 : Holds W5 W4.heap.size 3 #[.int .i64 ((u : Int) * 256)] := (by rw [← hW5]; exact Holds.new _ _ _); have hB25 : Below w2.heap.size w2 W5 := below_new hB4 hB5; have hc5 : W5.cell? ⟨W4.heap.size, 0, none⟩ = some (.int .i64 ((u : Int) * 256)) := h5.cell 0; have hL5 := below_holds hB25 hL2; have hF5 := below_holds hB25 hF2; have hcL := hL5.cell 0; have hcF := hF5.cell 0; have h25 := below_holds hB5 h2)
            | (refine wpList_ldK rfl _ rfl rfl h25 hC ?_)
            | (go_at_call 49; refine (hlo _).mono ?_; rintro e w6 ⟨bb, rfl, hbb, hCb, hFb, hB6⟩))
          have hBw : Below w2.heap.size w2 w6 := below_new hB25 hB6
          have hz45 : w2.heap.size < W4.heap.size := h2.lt
          have hz56 : W4.heap.size < W5.heap.size := h5.lt
          have hbl4 := hCb.lt
          have hw2z : w1.heap.size ≤ w2.heap.size := by omega
          have hCb' : Holds w6 bb 76 (contA (atU M u)) := by rw [HC.out]; exact hCb
          have hdl := marks_lt hmk2
          have hml := hrg2.map.lt
          have hrl := hrg2.lt
          have hseq := lows_seq (atU M u) ((m : Int) - (u : Int) * 256) bb (bb + 1) w6 hCb' hFb
          rw [HT.out] at hseq
          have hwz := hBw.size
          refine wp_rangeSeq rfl (enters_of Try.func65 (by kernel_rfl) rfl) hseq (Below.refl _ _) (fun k hk => by subst hk; exact hbl4)
            (fun pre W' => pre = [] ∧ Holds W' w.heap.size 3 #[.int .i64 (n : Nat)] ∧ Holds W' (w.heap.size + 1) 4 #[.bool false] ∧ Holds W' W4.heap.size 3 #[.int .i64 ((u : Int) * 256)] ∧ RangV W' w1.heap.size M (fun v => lf v && !decide (v = u)) ct2 mo ∧ Marks w.heap.size ds W' ∧ Below w.heap.size w W' ∧ w6.heap.size ≤ W'.heap.size)
            (fun c pre W' => c = .exit 2 ∧ (∃ x, pre = [x] ∧ Holds W' w.heap.size 3 #[.int .i64 ((256 * u + x : Nat) : Int)]) ∧ Holds W' (w.heap.size + 1) 4 #[.bool true] ∧ RangV W' w1.heap.size M (fun v => lf v && !decide (v = u)) ct2 mo ∧ Marks w.heap.size ds W' ∧ Below w.heap.size w W' ∧ w6.heap.size ≤ W'.heap.size)
            (fun s A B row hs hg hr => by
              obtain ⟨h1, h2, h3, h4, h5, h6, h7, h8⟩ := hs
              exact ⟨h1, holds_kept hg hr h2, holds_kept hg hr h3, holds_kept hg hr h4, h5.kept hg hr (by omega) (fun m hm => by have := hml m hm; omega), marks_kept hg hr (fun d hd D hD => by have := hdl d hd D hD; omega) h6, below_kept hg hr (by have := hB2.size; omega) (Nat.le_refl _) h7, Nat.le_trans h8 hg.size⟩)
            (fun c s A B row hs hg hr => by
              obtain ⟨h1, ⟨x, h2, h2'⟩, h3, h5, h6, h7, h8⟩ := hs
              exact ⟨h1, ⟨x, h2, holds_kept hg hr h2'⟩, holds_kept hg hr h3, h5.kept hg hr (by omega) (fun m hm => by have := hml m hm; omega), marks_kept hg hr (fun d hd D hD => by have := hdl d hd D hD; omega) h6, below_kept hg hr (by have := hB2.size; omega) (Nat.le_refl _) h7, Nat.le_trans h8 hg.size⟩)
            ⟨rfl, below_holds hBw hL2, below_holds hBw hF2, below_holds hB6 h5, hrg2.below hBw, marks_below hBw hmk2, hB2.trans (hBw.mono hB2.size), Nat.le_refl _⟩
            (fun x => { tmps := #[s, .int .i64 (m : Nat), undef, undef, .int .i64 0, .bool false, .pointer (some ⟨w.heap.size, 0, none⟩), .pointer (some ⟨w.heap.size + 1, 0, none⟩), .int .i64 (u : Nat), .pointer (some ⟨w2.heap.size, 0, none⟩), .pointer (some ⟨W4.heap.size, 0, none⟩), .int .i64 (x : Nat), .int .i64 f, .int .i64 (m : Nat), s, .map mo, .pointer (some ⟨w1.heap.size, 0, none⟩), .tuple #[.bool true, .int .i64 (u : Nat), .agg cs], .bool true, .tuple #[.int .i64 (u : Nat), .agg cs], .int .i64 (u : Nat), .agg cs, .int .i64 (u : Nat), .int .i64 ((u : Int) * 256), .bool false, .bool false, undef, undef, undef, .bool false, .agg cs, .int .i64 (m : Nat), .int .i64 ((u : Int) * 256), .int .i64 ((m : Int) - (u : Int) * 256), .func (.func 65) #[] #[.pointer (some ⟨bb + 1, 0, none⟩), .pointer (some ⟨bb, 0, none⟩)], .int .i64 (x : Nat), undef, undef, undef, undef, undef], defers := [] }) ?assign ?body ?done ?stop
          case assign =>
            intro l' x W' K hK
            gi_wp2
            exact hK
          case body =>
            rintro l' pre x rest W' hLs hsz4 ⟨rfl, k1, k2, k3, k4, k5, k6, k7⟩
            have hx := (lowsL_lt (by rw [hLs]; simp : x ∈ lowsL (atU M u) (m - 256 * u))).2.1
            have hxI : (x : Int) < 256 := by omega
            have hxI0 : (0 : Int) ≤ x := by omega
            have c1 : W'.cell? ⟨w.heap.size, 0, none⟩ = some (.int .i64 (n : Nat)) := k1.cell 0
            have f1 := k1.frozen 0
            have c3 : W'.cell? ⟨W4.heap.size, 0, none⟩ = some (.int .i64 ((u : Int) * 256)) := k3.cell 0
            obtain ⟨V1, hV1⟩ : ∃ V1, W'.setCell ⟨w.heap.size, 0, none⟩ (.int .i64 ((u : Int) * 256 + x)) = V1 := ⟨_, rfl⟩
            have o1 : Only w.heap.size W' V1 := by rw [← hV1]; exact (Only.refl _ _).set 0 _
            have v1 : Holds V1 w.heap.size 3 #[.int .i64 ((256 * u + x : Nat) : Int)] := by
              rw [← hV1, show ((256 * u + x : Nat) : Int) = (u : Int) * 256 + x by omega]; exact k1.set 0 _
            have v2 := o1.holds k2 (by omega)
            have c2 : V1.cell? ⟨w.heap.size + 1, 0, none⟩ = some (.bool false) := v2.cell 0
            have f2 := v2.frozen 0
            obtain ⟨V2, hV2⟩ : ∃ V2, V1.setCell ⟨w.heap.size + 1, 0, none⟩ (.bool true) = V2 := ⟨_, rfl⟩
            have o2 : Only (w.heap.size + 1) V1 V2 := by rw [← hV2]; exact (Only.refl _ _).set 0 _
            have z2 : Holds V2 (w.heap.size + 1) 4 #[.bool true] := by rw [← hV2]; exact v2.set 0 _
            have z1 := o2.holds v1 (by omega)
            have zr := (k4.onlyC o1 k1).onlyC o2 v2
            have zm := marks_only o2 (fun ds e => by have q := v2; unfold Holds at q; rw [q] at e; cases e) (marks_only o1 (fun ds e => by have q := k1; unfold Holds at q; rw [q] at e; cases e) k5)
            have zb := Only.fresh (Only.fresh k6 o1 (Nat.le_refl _)) o2 (by omega)
            have zk : KeepsFrom w6.heap.size W' V2 := (keepsFrom_only o1 (by omega)).trans (keepsFrom_only o2 (by omega))
            have zs : w6.heap.size ≤ V2.heap.size := by have := o1.size; have := o2.size; omega
            clear hLs k1 k2 k3 k4 k5 k6 o1 o2 v1 v2
            gi_wp2
            exact ⟨zk, rfl, ⟨x, rfl, z1⟩, z2, zr, zm, zb, zs⟩
          case done =>
            rintro D W' hD ⟨k0, k1, k2, k3, k4, k5, k6, k7⟩ hK
            have hn := hli.none k0
            clear hseq hCb hCb' hFb hB6 hbb h25 hW5 h2 hO4 h1 hW
            go_wp2_with fail
            refine ⟨⟨n, false, _, ct2, _, _, _, _, _, _, _, _, _, _, _, _, _, _, _, _, _, _, _, _, _, _, rfl, k4, hn, k1, k2, Marks.cons k5 (by have := hB2.size; omega) hK (fun d hd D' hD' => by have := hdl d hd D' hD'; omega), k6, by omega⟩, ?_⟩
            rw [k4.left, hlc]; exact hlt
          case stop =>
            rintro D c pre x rest W' hD hLs ⟨rfl, ⟨x', hp, k1⟩, k2, k4, k5, k6, k7⟩ hK
            obtain ⟨rfl, rfl⟩ : pre = [] ∧ x' = x := by
              cases pre with
              | nil => simp at hp; exact ⟨rfl, hp.symm⟩
              | cons a l => simp at hp
            have hn := hli.some hLs HSK.out
            clear hseq hCb hCb' hFb hB6 hbb h25 hW5 h2 hO4 h1 hW hLs
            go_wp2_with fail
            refine ⟨⟨256 * u + x', true, _, ct2, _, _, _, _, _, _, _, _, _, _, _, _, _, _, _, _, _, _, _, _, _, _, rfl, k4, hn, k1, k2, Marks.cons k5 (by have := hB2.size; omega) hK (fun d hd D' hD' => by have := hdl d hd D' hD'; omega), k6, by omega⟩, ?_⟩
            rw [k4.left, hlc]; exact hlt
        · subst hb
          go_wp2_with (first
            | (refine wpList_stK rfl _ _ rfl rfl rfl h1 hC hZ ?_; intro W4 h2 hO4 hs4; clear hs4; have hB4 : Below w2.heap.size w2 W4 := Only.fresh hB3 hO4 (Nat.le_refl _); obtain ⟨W5, hW5⟩ : ∃ W5, World.alloc W4 (.cells #[.int .i64 ((u : Int) * 256)] 3) = W5 := ⟨_, rfl⟩; have hB5 : Below W4.heap.size W4 W5 := (by rw [← hW5]; exact below_new1 _ _); have h5 : Holds W5 W4.heap.size 3 #[.int .i64 ((u : Int) * 256)] := (by rw [← hW5]; exact Holds.new _ _ _); have hB25 : Below w2.heap.size w2 W5 := below_new hB4 hB5; have hc5 : W5.cell? ⟨W4.heap.size, 0, none⟩ = some (.int .i64 ((u : Int) * 256)) := h5.cell 0; have hL5 := below_holds hB25 hL2; have hF5 := below_holds hB25 hF2; have hcL := hL5.cell 0; have hcF := hF5.cell 0; have h25 := below_holds hB5 h2)
            | (refine wpList_ldK rfl _ rfl rfl h25 hC ?_)
            | (go_at_call 49; refine (hlo _).mono ?_; rintro e w6 ⟨bb, rfl, hbb, hCb, hFb, hB6⟩))
          have hBw : Below w2.heap.size w2 w6 := below_new hB25 hB6
          have hz45 : w2.heap.size < W4.heap.size := h2.lt
          have hz56 : W4.heap.size < W5.heap.size := h5.lt
          have hbl4 := hCb.lt
          have hw2z : w1.heap.size ≤ w2.heap.size := by omega
          have hCb' : Holds w6 bb 76 (contA (atU M u)) := by rw [HC.out]; exact hCb
          have hdl := marks_lt hmk2
          have hml := hrg2.map.lt
          have hrl := hrg2.lt
          have hseq := lows_seq (atU M u) ((m : Int) - (u : Int) * 256) bb (bb + 1) w6 hCb' hFb
          rw [HT.out] at hseq
          have hwz := hBw.size
          refine wp_rangeSeq rfl (enters_of Try.func65 (by kernel_rfl) rfl) hseq (Below.refl _ _) (fun k hk => by subst hk; exact hbl4)
            (fun pre W' => pre = [] ∧ Holds W' w.heap.size 3 #[.int .i64 (n : Nat)] ∧ Holds W' (w.heap.size + 1) 4 #[.bool true] ∧ Holds W' W4.heap.size 3 #[.int .i64 ((u : Int) * 256)] ∧ RangV W' w1.heap.size M (fun v => lf v && !decide (v = u)) ct2 mo ∧ Marks w.heap.size ds W' ∧ Below w.heap.size w W' ∧ w6.heap.size ≤ W'.heap.size)
            (fun c pre W' => c = .exit 2 ∧ (∃ x, pre = [x] ∧ Holds W' w.heap.size 3 #[.int .i64 ((256 * u + x : Nat) : Int)]) ∧ Holds W' (w.heap.size + 1) 4 #[.bool true] ∧ RangV W' w1.heap.size M (fun v => lf v && !decide (v = u)) ct2 mo ∧ Marks w.heap.size ds W' ∧ Below w.heap.size w W' ∧ w6.heap.size ≤ W'.heap.size)
            (fun s A B row hs hg hr => by
              obtain ⟨h1, h2, h3, h4, h5, h6, h7, h8⟩ := hs
              exact ⟨h1, holds_kept hg hr h2, holds_kept hg hr h3, holds_kept hg hr h4, h5.kept hg hr (by omega) (fun m hm => by have := hml m hm; omega), marks_kept hg hr (fun d hd D hD => by have := hdl d hd D hD; omega) h6, below_kept hg hr (by have := hB2.size; omega) (Nat.le_refl _) h7, Nat.le_trans h8 hg.size⟩)
            (fun c s A B row hs hg hr => by
              obtain ⟨h1, ⟨x, h2, h2'⟩, h3, h5, h6, h7, h8⟩ := hs
              exact ⟨h1, ⟨x, h2, holds_kept hg hr h2'⟩, holds_kept hg hr h3, h5.kept hg hr (by omega) (fun m hm => by have := hml m hm; omega), marks_kept hg hr (fun d hd D hD => by have := hdl d hd D hD; omega) h6, below_kept hg hr (by have := hB2.size; omega) (Nat.le_refl _) h7, Nat.le_trans h8 hg.size⟩)
            ⟨rfl, below_holds hBw hL2, below_holds hBw hF2, below_holds hB6 h5, hrg2.below hBw, marks_below hBw hmk2, hB2.trans (hBw.mono hB2.size), Nat.le_refl _⟩
            (fun x => { tmps := #[s, .int .i64 (m : Nat), undef, undef, .int .i64 0, .bool false, .pointer (some ⟨w.heap.size, 0, none⟩), .pointer (some ⟨w.heap.size + 1, 0, none⟩), .int .i64 (u : Nat), .pointer (some ⟨w2.heap.size, 0, none⟩), .pointer (some ⟨W4.heap.size, 0, none⟩), .int .i64 (x : Nat), .int .i64 f, .int .i64 (m : Nat), s, .map mo, .pointer (some ⟨w1.heap.size, 0, none⟩), .tuple #[.bool true, .int .i64 (u : Nat), .agg cs], .bool true, .tuple #[.int .i64 (u : Nat), .agg cs], .int .i64 (u : Nat), .agg cs, .int .i64 (u : Nat), .int .i64 ((u : Int) * 256), .bool true, .bool true, .int .i64 ((u : Int) * 256), .int .i64 (n : Nat), .bool false, .bool false, .agg cs, .int .i64 (m : Nat), .int .i64 ((u : Int) * 256), .int .i64 ((m : Int) - (u : Int) * 256), .func (.func 65) #[] #[.pointer (some ⟨bb + 1, 0, none⟩), .pointer (some ⟨bb, 0, none⟩)], .int .i64 (x : Nat), undef, undef, undef, undef, undef], defers := [] }) ?assign ?body ?done ?stop
          case assign =>
            intro l' x W' K hK
            gi_wp2
            exact hK
          case body =>
            rintro l' pre x rest W' hLs hsz4 ⟨rfl, k1, k2, k3, k4, k5, k6, k7⟩
            have hx := (lowsL_lt (by rw [hLs]; simp : x ∈ lowsL (atU M u) (m - 256 * u))).2.1
            have hxI : (x : Int) < 256 := by omega
            have hxI0 : (0 : Int) ≤ x := by omega
            have c1 : W'.cell? ⟨w.heap.size, 0, none⟩ = some (.int .i64 (n : Nat)) := k1.cell 0
            have f1 := k1.frozen 0
            have c3 : W'.cell? ⟨W4.heap.size, 0, none⟩ = some (.int .i64 ((u : Int) * 256)) := k3.cell 0
            obtain ⟨V1, hV1⟩ : ∃ V1, W'.setCell ⟨w.heap.size, 0, none⟩ (.int .i64 ((u : Int) * 256 + x)) = V1 := ⟨_, rfl⟩
            have o1 : Only w.heap.size W' V1 := by rw [← hV1]; exact (Only.refl _ _).set 0 _
            have v1 : Holds V1 w.heap.size 3 #[.int .i64 ((256 * u + x : Nat) : Int)] := by
              rw [← hV1, show ((256 * u + x : Nat) : Int) = (u : Int) * 256 + x by omega]; exact k1.set 0 _
            have v2 := o1.holds k2 (by omega)
            have c2 : V1.cell? ⟨w.heap.size + 1, 0, none⟩ = some (.bool true) := v2.cell 0
            have f2 := v2.frozen 0
            obtain ⟨V2, hV2⟩ : ∃ V2, V1.setCell ⟨w.heap.size + 1, 0, none⟩ (.bool true) = V2 := ⟨_, rfl⟩
            have o2 : Only (w.heap.size + 1) V1 V2 := by rw [← hV2]; exact (Only.refl _ _).set 0 _
            have z2 : Holds V2 (w.heap.size + 1) 4 #[.bool true] := by rw [← hV2]; exact v2.set 0 _
            have z1 := o2.holds v1 (by omega)
            have zr := (k4.onlyC o1 k1).onlyC o2 v2
            have zm := marks_only o2 (fun ds e => by have q := v2; unfold Holds at q; rw [q] at e; cases e) (marks_only o1 (fun ds e => by have q := k1; unfold Holds at q; rw [q] at e; cases e) k5)
            have zb := Only.fresh (Only.fresh k6 o1 (Nat.le_refl _)) o2 (by omega)
            have zk : KeepsFrom w6.heap.size W' V2 := (keepsFrom_only o1 (by omega)).trans (keepsFrom_only o2 (by omega))
            have zs : w6.heap.size ≤ V2.heap.size := by have := o1.size; have := o2.size; omega
            clear hLs k1 k2 k3 k4 k5 k6 o1 o2 v1 v2
            gi_wp2
            exact ⟨zk, rfl, ⟨x, rfl, z1⟩, z2, zr, zm, zb, zs⟩
          case done =>
            rintro D W' hD ⟨k0, k1, k2, k3, k4, k5, k6, k7⟩ hK
            have hn := hli.none k0
            clear hseq hCb hCb' hFb hB6 hbb h25 hW5 h2 hO4 h1 hW
            go_wp2_with fail
            refine ⟨⟨n, true, _, ct2, _, _, _, _, _, _, _, _, _, _, _, _, _, _, _, _, _, _, _, _, _, _, rfl, k4, hn, k1, k2, Marks.cons k5 (by have := hB2.size; omega) hK (fun d hd D' hD' => by have := hdl d hd D' hD'; omega), k6, by omega⟩, ?_⟩
            rw [k4.left, hlc]; exact hlt
          case stop =>
            rintro D c pre x rest W' hD hLs ⟨rfl, ⟨x', hp, k1⟩, k2, k4, k5, k6, k7⟩ hK
            obtain ⟨rfl, rfl⟩ : pre = [] ∧ x' = x := by
              cases pre with
              | nil => simp at hp; exact ⟨rfl, hp.symm⟩
              | cons a l => simp at hp
            have hn := hli.some hLs (fun _ => HSK.out trivial)
            clear hseq hCb hCb' hFb hB6 hbb h25 hW5 h2 hO4 h1 hW hLs
            go_wp2_with fail
            refine ⟨⟨256 * u + x', true, _, ct2, _, _, _, _, _, _, _, _, _, _, _, _, _, _, _, _, _, _, _, _, _, _, rfl, k4, hn, k1, k2, Marks.cons k5 (by have := hB2.size; omega) hK (fun d hd D' hD' => by have := hdl d hd D' hD'; omega), k6, by omega⟩, ?_⟩
            rw [k4.left, hlc]; exact hlt
end Go.Proofs.Ytiokbhbggpibpaa
