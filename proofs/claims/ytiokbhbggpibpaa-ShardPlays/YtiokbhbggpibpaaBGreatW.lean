/-
  Greatest.
-/
import Derived.Test.YtiokbhbggpibpaaBNilW
import Derived.Test.YtiokbhbggpibpaaBReadN
namespace Go.Proofs.Ytiokbhbggpibpaa
open Go Go.RowKit Go.Maps
attribute [local go_sem] Oper.semAt_some

/-- The greatest upper part that was met. -/
def TopIn (M : Nat → Bool) (lf : Nat → Bool) (t : Int) : Prop := (t = -1 ∧ ∀ u, liveU M u → lf u = true) ∨ ∃ v : Nat, t = v ∧ v < NU ∧ liveU M v ∧ ∀ u, liveU M u → lf u = false → u ≤ v
theorem TopIn.start (M : Nat → Bool) : TopIn M (liveB M) (-1) := .inl ⟨rfl, fun _ h => liveB_iff.2 h⟩
theorem TopIn.step {M lf : Nat → Bool} {t : Int} {u : Nat} (h : TopIn M lf t) (hu : u < NU) (hl : liveU M u) : TopIn M (fun v => lf v && !decide (v = u)) (max t (u : Int)) := by
  rcases h with ⟨rfl, h⟩ | ⟨v, rfl, hv, hlv, h⟩
  · refine .inr ⟨u, by omega, hu, hl, fun x hx hf => ?_⟩
    have := h x hx
    simp only [this] at hf
    simp at hf
    omega
  · by_cases e : v ≤ u
    · refine .inr ⟨u, by omega, hu, hl, fun x hx hf => ?_⟩
      cases hx2 : lf x with
      | true => simp only [hx2] at hf; simp at hf; omega
      | false => have := h x hx hx2; omega
    · refine .inr ⟨v, by omega, hv, hlv, fun x hx hf => ?_⟩
      cases hx2 : lf x with
      | true => simp only [hx2] at hf; simp at hf; omega
      | false => exact h x hx hx2
theorem TopIn.bound {M lf : Nat → Bool} {t : Int} (h : TopIn M lf t) : -1 ≤ t ∧ t < 8388608 := by
  rcases h with ⟨rfl, _⟩ | ⟨v, rfl, hv, _⟩
  · omega
  · rw [NU_eq] at hv; omega
theorem last_max {l : List Nat} (h : l.Pairwise (· < ·)) {x : Nat} (hx : l.getLast? = some x) : ∀ y ∈ l, y ≤ x := fun y hy => by
  obtain ⟨pre, rfl⟩ : ∃ pre, l = pre ++ [x] := by
    rw [List.getLast?_eq_some_iff] at hx
    exact hx
  rcases List.mem_append.1 hy with h1 | h1
  · exact Nat.le_of_lt ((List.pairwise_append.1 h).2.2 y h1 x (by simp))
  · rw [List.mem_singleton.1 h1]; exact Nat.le_refl _
/-- What Greatest tells. -/
def GreatOf (M : Nat → Bool) (g : Nat) (ok : Bool) : Prop := (ok = true ∧ M g = true ∧ ∀ n, M n = true → n ≤ g) ∨ (ok = false ∧ g = 0 ∧ ∀ n, M n = false)
/-- The number that stands there behind these lower parts. -/
def gOf (t : Int) (pre : List Nat) : Int := match pre.getLast? with
  | none => 0
  | some x => t * 256 + x
theorem gOf_snoc (t : Int) (pre : List Nat) (x : Nat) : gOf t (pre ++ [x]) = t * 256 + x := by unfold gOf; rw [List.getLast?_concat]
theorem live_of {M : Nat → Bool} {n : Nat} (h : M n = true) : liveU M (n / 256) := ⟨n % 256, by omega, by rw [show 256 * (n / 256) + n % 256 = n by omega]; exact h⟩
theorem TopIn.ended {M lf : Nat → Bool} {t : Int} (h : TopIn M lf t) (hl : ∀ u, lf u = false) : ∃ g : Nat, gOf t (lowsL (atI M t) 0) = (g : Int) ∧ GreatOf M g (decide (0 ≤ t)) := by
  rcases h with ⟨rfl, h⟩ | ⟨v, rfl, hv, hlv, h⟩
  · refine ⟨0, ?_, .inr ⟨by decide, rfl, fun n => ?_⟩⟩
    · have : lowsL (atI M (-1)) 0 = [] := lows_none
      rw [this]; rfl
    · cases hn : M n with
      | false => rfl
      | true => have := h _ (live_of hn); rw [hl] at this; cases this
  · rw [atI_nat]
    have hne : lowsL (atU M v) 0 ≠ [] := fun e => by
      obtain ⟨l, h1, h2⟩ := hlv
      have : l ∈ lowsL (atU M v) 0 := mem_lowsL.2 ⟨Nat.zero_le _, h1, h2⟩
      rw [e] at this; cases this
    obtain ⟨x, hx⟩ : ∃ x, (lowsL (atU M v) 0).getLast? = some x := by
      cases h9 : (lowsL (atU M v) 0).getLast? with
      | none => exact absurd (List.getLast?_eq_none_iff.1 h9) hne
      | some x => exact ⟨x, rfl⟩
    have hxm := List.mem_of_getLast? hx
    obtain ⟨_, hx1, hx2⟩ := mem_lowsL.1 hxm
    refine ⟨256 * v + x, by unfold gOf; rw [hx]; show (v : Int) * 256 + x = _; omega, .inl ⟨by simp, hx2, fun n hn => ?_⟩⟩
    have hnv := h _ (live_of hn) (hl _)
    by_cases e : n / 256 = v
    · have hnl : n % 256 ∈ lowsL (atU M v) 0 := mem_lowsL.2 ⟨Nat.zero_le _, by omega, by unfold atU; rw [show 256 * v + n % 256 = n by omega]; exact hn⟩
      have : n % 256 ≤ x := last_max (lowsL_rises _ _) hx _ hnl
      omega
    · omega
set_option maxRecDepth 8000 in
set_option maxHeartbeats 2000000 in
theorem great_any {w : World} {s : Value} {mo : Option Nat} {M : Nat → Bool} (h : View w s mo M) : Calls Try.prog 34 #[s] w fun e w' => ∃ g ok, e = .returned (.tuple #[.int .i64 (g : Nat), .bool ok]) ∧ GreatOf M g ok ∧ Below w.heap.size w w' := by
  obtain ⟨W0, hW0⟩ : ∃ W0, World.alloc (World.alloc w (.cells #[.int .i64 (-1)] 3)) (.cells #[.int .i64 0] 3) = W0 := ⟨_, rfl⟩
  have hB0 : Below w.heap.size w W0 := by rw [← hW0]; exact below_new2 _ _ _
  have hL0 : Holds W0 w.heap.size 3 #[.int .i64 (-1)] := by rw [← hW0]; exact (Holds.new _ _ _).alloc _
  have hF0 : Holds W0 (w.heap.size + 1) 3 #[.int .i64 0] := by rw [← hW0]; exact holds_new1 _ _ _ _
  have h' := h.below hB0
  have hh := held_any h'
  have HW : Hid (World.alloc (World.alloc w (.cells #[.int .i64 (-1)] 3)) (.cells #[.int .i64 0] 3) = W0) := hW0
  clear hW0
  refine calls_of_wp_marks Try.func34 rfl ?_
  simp only [Try.ntmps34, List.size_toArray, List.length_cons, List.length_nil, Nat.reduceAdd, Nat.reduceSub, Array.replicate_succ, Array.replicate_zero, List.push_toArray, List.append_toArray, List.nil_append, List.cons_append]
  go_wp2_with (first
    | (go_at_call 44; rw [HW.out]; refine hh.mono ?_; rintro e w1 ⟨rfl, rfl⟩)
    | (at_range; refine wpList_rangeV rfl _ rfl rfl h'.map ?_; intro wA cnt0 hrg0 hB1 hs0; clear hs0)
    | go_in)
  go_frame
  have hlA := below_holds hB1 hL0
  have hFA := below_holds hB1 hF0
  have hBA := hB0.trans (hB1.mono hB0.size)
  have hs1 : w.heap.size + 1 < w1.heap.size := hF0.lt
  clear hh HW hL0 hF0
  go_loopw [11] (fun _ wr => ∃ (lf : Nat → Bool) (ct : Nat) (t : Int), RangV wr w1.heap.size M lf ct mo ∧ TopIn M lf t ∧ Holds wr w.heap.size 3 #[.int .i64 t] ∧ Holds wr (w.heap.size + 1) 3 #[.int .i64 0] ∧ Below w.heap.size w wr) (fun _ wr => leftV wr w1.heap.size mo)
  case atStart => exact ⟨_, _, -1, hrg0, TopIn.start M, hlA, hFA, hBA⟩
  case round =>
    obtain ⟨lf, ct, t, hrg, hti, hl, hF, hBr⟩ := hrel
    have htb := hti.bound
    go_wp2_with (first
      | (at_next; refine wpList_nextV rfl _ rfl rfl hrg ?_ ?_)
      | go_in)
    · intro hl0
      have hvr := h.below hBr
      have hh := fun W (hW : W = wr.drew) => held_any (h.below (w' := W) (by subst hW; exact hBr.drew))
      have hcl : ∀ W, W = wr.drew → W.cell? ⟨w.heap.size, 0, none⟩ = some (.int .i64 t) := fun W e => by subst e; exact hl.cell 0
      have hlk := fun W (hW : W = wr.drew) => run_lookV (h.below (w' := W) (by subst hW; exact hBr.drew)).map (u := t) (wfI (by omega) (by omega))
      have hlk1 := hlk wr.drew rfl
      have hend := hti.ended hl0
      have hlo := lows_any (atI M t) 0
      have hsq := fun b W h1 h2 => lows_seq (atI M t) 0 b (b + 1) W h1 h2
      have hC := IsC.mk (atI M t)
      generalize hcs : contA (atI M t) = cs at hlk1 hlo hsq hC
      clear hlk
      go_wp2_with fail
      refine wp_region_qtail 3 mixedP (by kernel_rfl) ?_
      simp only [List.take_succ_cons, List.take_zero, List.drop_succ_cons, List.drop_zero]
      go_big_quiet_step (fail)
      refine wpQ_call rfl 44 #[s] (fun _ => by go_simp) (.map mo) (fun w2 h2 => (hh w2 h2).mono fun e w3 ⟨he, h3⟩ => ⟨he, h3.trans h2⟩) ?_
      go_frame
      refine wpQ_ldI rfl _ rfl rfl (fun w' hw' => hcl w' hw') ?_
      go_frame
      refine wpQuiet_nil ?_
      go_wp2_with (first
        | (go_at_call 49; refine (hlo _).mono ?_; rintro e w4 ⟨b, rfl, hb, hCb, hFb, hB4⟩))
      have hseq := hsq b w4 hCb hFb
      rw [show (0 : Int).toNat = 0 from rfl] at hseq
      have hB4w : Below w.heap.size w w4 := hBr.drew.trans (hB4.mono hBr.size)
      have hl4 := below_holds hB4 hl.drew
      have hF4 := below_holds hB4 hF.drew
      have hbl := hCb.lt
      have hsr : w.heap.size + 1 < wr.heap.size := hF.lt
      refine wp_rangeSeq rfl (enters_of Try.func65 (by kernel_rfl) rfl) hseq (Below.refl _ _) (fun k hk => by subst hk; exact hbl)
        (fun pre W => Holds W w.heap.size 3 #[.int .i64 t] ∧ Holds W (w.heap.size + 1) 3 #[.int .i64 (gOf t pre)] ∧ Below w.heap.size w W ∧ w4.heap.size ≤ W.heap.size)
        (fun _ _ _ => False)
        (fun s A B row hs hg hr => ⟨holds_kept hg hr hs.1, holds_kept hg hr hs.2.1, below_kept hg hr (by have := hB4w.size; omega) (Nat.le_refl _) hs.2.2.1, Nat.le_trans hs.2.2.2 hg.size⟩)
        (fun c s A B row hs hg hr => hs)
        ⟨hl4, hF4, hB4w, Nat.le_refl _⟩
        (fun x => { tmps := #[s, undef, .int .i64 0, .bool false, .pointer (some ⟨w.heap.size, 0, none⟩), .pointer (some ⟨w.heap.size + 1, 0, none⟩), u6, .int .i64 (x : Nat), s, .map mo, .pointer (some ⟨w1.heap.size, 0, none⟩), .tuple #[.bool false], .bool false, u13, u14, u15, u16, u17, s, .map mo, .int .i64 t, .agg cs, .func (.func 65) #[] #[.pointer (some ⟨b + 1, 0, none⟩), .pointer (some ⟨b, 0, none⟩)], .int .i64 (x : Nat), undef, undef, undef, undef, undef, undef, undef], defers := [] }) ?assign ?body ?done ?stop
      case assign =>
        intro l x W K hK
        gi_wp2
        exact hK
      case body =>
        rintro l pre x rest W hL hsz4 ⟨k1, k2, k3, k4⟩
        have hx := (lowsL_lt (by rw [hL]; simp : x ∈ lowsL (atI M t) 0)).2.1
        have hxI : (x : Int) < 256 := by omega
        have hxI0 : (0 : Int) ≤ x := by omega
        have c1 : W.cell? ⟨w.heap.size, 0, none⟩ = some (.int .i64 t) := k1.cell 0
        have c2 : W.cell? ⟨w.heap.size + 1, 0, none⟩ = some (.int .i64 (gOf t pre)) := k2.cell 0
        have f2 := k2.frozen 0
        obtain ⟨V2, hV2⟩ : ∃ V2, W.setCell ⟨w.heap.size + 1, 0, none⟩ (.int .i64 (t * 256 + x)) = V2 := ⟨_, rfl⟩
        have o2 : Only (w.heap.size + 1) W V2 := by rw [← hV2]; exact (Only.refl _ _).set 0 _
        have z2 : Holds V2 (w.heap.size + 1) 3 #[.int .i64 (gOf t (pre ++ [x]))] := by rw [← hV2, gOf_snoc]; exact k2.set 0 _
        have z1 := o2.holds k1 (by omega)
        have zb := Only.fresh k3 o2 (by omega)
        have zk : KeepsFrom w4.heap.size W V2 := keepsFrom_only o2 (by have := hB4.size; simp at this; omega)
        have zs : w4.heap.size ≤ V2.heap.size := by have := o2.size; omega
        have e1 : IntKind.i64.wrap (t * 256) = t * 256 := by rw [IntKind.wrap_i64]; omega
        have e2 : IntKind.i64.wrap (t * 256 + x) = t * 256 + x := by rw [IntKind.wrap_i64]; omega
        have zq : KeepB (fun k => k = b) W V2 := KeepB.only o2 (by have hdz : wr.drew.heap.size = wr.heap.size := rfl; have := hb; omega) (by rintro k rfl; omega)
        clear hL k1 k2 k3 o2
        gi_wp2
        exact ⟨zk, zq, z1, z2, zb, zs⟩
      case done =>
        rintro D W hD ⟨g1, g2, gB, _⟩ hK
        obtain ⟨g, hg, hgo⟩ := hend
        rw [hg] at g2
        have c1 : W.cell? ⟨w.heap.size, 0, none⟩ = some (.int .i64 t) := g1.cell 0
        have c2 : W.cell? ⟨w.heap.size + 1, 0, none⟩ = some (.int .i64 (g : Nat)) := g2.cell 0
        go_wp2_with fail
        go_region
        go_wp2_with fail
        refine leaves_marks (w := W.drew) (Marks.one (B := w.heap.size) (by have := hB4w.size; omega) hK) fun w' hw' => ⟨_, results_tmp2 rfl _ _ _, g, _, rfl, hgo, gB.drew.trans hw'.below⟩
      case stop =>
        rintro D c pre x rest W hD hL hf
        exact hf.elim
    · intro u w2 ct2 hu hlv hlf hrg2 hlt hO hsz hen
      have hst := hti.step hu hlv
      rw [NU_eq] at hu
      have hl2 := hO.holds hl (by omega)
      have hF2 := hO.holds hF (by omega)
      have hB2 : Below w.heap.size w w2 := Only.fresh hBr hO (by omega)
      have c1 : w2.cell? ⟨w.heap.size, 0, none⟩ = some (.int .i64 t) := hl2.cell 0
      have f1 := hl2.frozen 0
      obtain ⟨V, hV⟩ : ∃ V, w2.setCell ⟨w.heap.size, 0, none⟩ (.int .i64 (max t (u : Int))) = V := ⟨_, rfl⟩
      have o1 : Only w.heap.size w2 V := by rw [← hV]; exact (Only.refl _ _).set 0 _
      have v1 : Holds V w.heap.size 3 #[.int .i64 (max t (u : Int))] := by rw [← hV]; exact hl2.set 0 _
      have v2 := o1.holds hF2 (by omega)
      have vr := hrg2.onlyC o1 hl2
      have vb := Only.fresh hB2 o1 (Nat.le_refl _)
      have hlc := hrg.left
      have HST : Hid (TopIn M (fun v => lf v && !decide (v = u)) (max t (u : Int))) := hst
      clear hst hl hF hl2 hF2 o1 hB2 hrg hti hsz
      go_wp2_with fail
      exact ⟨⟨_, ct2, _, vr, HST.out, v1, v2, vb⟩, by rw [vr.left, hlc]; exact hlt⟩
end Go.Proofs.Ytiokbhbggpibpaa
