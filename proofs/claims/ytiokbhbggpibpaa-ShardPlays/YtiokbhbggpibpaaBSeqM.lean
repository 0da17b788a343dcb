/-
  A range over a function whose body turns blocks that are no loop's and no deferred calls' (a map's too): contracts, and Each's.
-/
import Derived.Test.YtiokbhbggpibpaaBGF
namespace Go.Proofs.Ytiokbhbggpibpaa
open Go Go.RowKit Go.Maps
namespace Mk
attribute [local go_sem] Oper.semAt_some

/-- A loop's record, or a block of deferred calls. -/
def mark : Obj → Bool
  | .loop .. => true
  | .deferred .. => true
  | _ => false
structure KeepsFrom (B : Nat) (W W' : World) : Prop where
  size : W.heap.size ≤ W'.heap.size
  same : ∀ (k : Nat) (o : Obj), B ≤ k → W.heap[k]? = some o → mark o = true → W'.heap[k]? = some o
theorem KeepsFrom.refl (B : Nat) (W : World) : KeepsFrom B W W := ⟨Nat.le_refl _, fun _ _ _ h _ => h⟩
theorem KeepsFrom.trans {B : Nat} {X Y Z : World} (h : KeepsFrom B X Y) (k : KeepsFrom B Y Z) : KeepsFrom B X Z := ⟨Nat.le_trans h.size k.size, fun i o hB hi ho => k.same i o hB (h.same i o hB hi ho) ho⟩
/-- What is said of the world abides new blocks and the turn of a loop's record or of deferred calls from B on. -/
def OwnFrom {β : Type} (B : Nat) (I : β → World → Prop) : Prop :=
  ∀ s W W' row, I s W → W.grownBy W' row → (∀ r, row = some r → B ≤ r ∧ ∃ o : Obj, W.heap[r]? = some o ∧ mark o = true) → I s W'
theorem OwnFrom.putObj {β : Type} {B : Nat} {I : β → World → Prop} (h : OwnFrom B I) {s : β} {W : World} {l : Nat} {o : Obj} (o' : Obj) (hs : I s W) (hB : B ≤ l) (hl : W.heap[l]? = some o) (ho : mark o = true) : I s (W.putObj l o') :=
  h s W _ (some l) hs (grownBy_putObj' W l o') (fun r e => by cases e; exact ⟨hB, o, hl, ho⟩)
theorem OwnFrom.alloc {β : Type} {B : Nat} {I : β → World → Prop} (h : OwnFrom B I) {s : β} {W : World} (o : Obj) (hs : I s W) : I s (W.alloc o) :=
  h s W _ none hs (World.grownBy_alloc W o none) (fun r e => by cases e)
/-- How a round's body may be left. -/
def roundPost {α : Type} (B : Nat) (Kp : World → World → Prop) (I : List α → World → Prop) (Ix : Code → List α → World → Prop) (xs : List α) (W : World) (e : Exit) (_ : Act) (W' : World) : Prop :=
  KeepsFrom B W W' ∧ match e with
    | .normal => Kp W W' ∧ I xs W'
    | .ret => Ix .ret xs W'
    | .exit id => Ix (.exit id) xs W'
    | .goto t => Ix (.goto t) xs W'
    | _ => False
/-- The contract of a function value that hands out the members of L, in their order, as long as it is told to go on. -/
def SeqW {α : Type} (P : Program) (g : Nat) (lb : Array Value) (enc : α → Value) (S : Nat → Prop) (L : List α) (w : World) : Prop :=
  ∀ (l : Nat) (J Jx : List α → World → Prop) (W : World), Below w.heap.size w W → OwnFrom W.heap.size J → OwnFrom W.heap.size Jx →
    (∀ pre x rest W1, L = pre ++ x :: rest → J pre W1 → YieldAt Fence.wide 0 P l #[enc x] W1 fun e W' =>
      (e = .returned (.bool true) ∧ J (pre ++ [x]) W' ∧ KeepB S W1 W') ∨ (e = .returned (.bool false) ∧ Jx (pre ++ [x]) W')) →
    J [] W →
    Calls P g (#[.func (.yield l) #[] #[]] ++ lb) W fun e W' => (∃ v, e = .returned v) ∧ (J L W' ∨ ∃ pre x rest, L = pre ++ x :: rest ∧ Jx (pre ++ [x]) W')

section
variable {P : Program}

/-- Who ranges over such a value. -/
theorem wp_rangeSeq {α : Type} {g : Operand} {t : Tmp} {assign body : Code} {Q : Exit → Act → World → Prop} {a : Act} {w : World}
    {gf : Nat} {lb : Array Value} (hg : a.eval g = .func (.func gf) #[] lb) (eg : ∀ args w, (callFunc gf args).run P w = .ok (.enter gf args) w)
    {enc : α → Value} {S : Nat → Prop} {L : List α} {w0 : World} (hseq : SeqW P gf lb enc S L w0) (hb0 : Below w0.heap.size w0 w) (hS : ∀ k, S k → k < w.heap.size)
    (I : List α → World → Prop) (Ix : Code → List α → World → Prop) (hI : OwnFrom w.heap.size I) (hIx : ∀ c, OwnFrom w.heap.size (Ix c)) (h0 : I [] w) (a₁ : α → Act)
    (hassign : ∀ (l : Nat) (x : α) (W : World) (K : Act → World → Prop), K (a₁ x) W →
      assign.wpIn (Fence.wide.inRound l) 0 P (Exit.then K (fun _ _ _ => False)) { tmps := ((#[t] : Array Tmp).zip #[enc x]).foldl (fun tm (p, v) => tm.setIfInBounds p v) a.tmps, defers := [] } W)
    (hbody : ∀ (l : Nat) (pre : List α) (x : α) (rest : List α) (W : World), L = pre ++ x :: rest → w.heap.size ≤ W.heap.size → I pre W → body.wpIn (Fence.wide.inRound l) 0 P (roundPost w.heap.size (KeepB S) I Ix (pre ++ [x]) W) (a₁ x) W)
    (hdone : ∀ (D : Nat) (W : World), w.heap.size ≤ D → I L W → W.heap[D]? = some (.deferred (some [])) → Q .normal { a with defers := { target := .collected D, args := #[] } :: a.defers } W)
    (hstop : ∀ (D : Nat) (c : Code) (pre : List α) (x : α) (rest : List α) (W : World), w.heap.size ≤ D → L = pre ++ x :: rest → Ix c (pre ++ [x]) W → W.heap[D]? = some (.deferred (some [])) → c.wp P Q { a with defers := { target := .collected D, args := #[] } :: a.defers } W) :
    (Code.rangeFunc g #[t] assign body).wp P Q a w := by
  refine (wpIn_wide (n := 2)).1 ?_
  refine wpIn_rangeFunc ?_
  intro fn hfn
  rw [show Fence.wide.round = none from rfl]
  obtain ⟨rec, hrec⟩ : ∃ rec : LoopState → Option Code → Loop, rec = fun st pe => { state := st, pending := pe, fn, tmps := a.tmps, params := #[t], assign, body, defers := w.heap.size } := ⟨_, rfl⟩
  obtain ⟨W1, hW1⟩ : ∃ W1, (w.alloc (.deferred (some []))).alloc (.loop (rec .ready none)) = W1 := ⟨_, rfl⟩
  have hL1 : W1.heap[w.heap.size + 1]? = some (.loop (rec .ready none)) := by
    rw [← hW1]; have := World.alloc_heap_new (w.alloc (.deferred (some []))) (.loop (rec .ready none)); rwa [World.size_alloc] at this
  have hK1 : W1.heap[w.heap.size]? = some (.deferred (some [])) := by
    rw [← hW1]; exact (Below.heap_alloc _ _ _ (by simp)).trans (World.alloc_heap_new w _)
  have hI1 : I [] W1 := by rw [← hW1]; exact hI.alloc _ (hI.alloc _ h0)
  have hs1 : W1.heap.size = w.heap.size + 2 := by rw [← hW1]; simp
  have hb1 : Below w0.heap.size w0 W1 := by
    rw [← hW1]; exact hb0.trans ((((Below.refl _ w).alloc (Nat.le_refl _) _).alloc (by simp) _).mono hb0.size)
  refine ⟨w.heap.size + 1, [{ target := .collected w.heap.size, args := #[] }], W1, { target := .fn (.func gf) lb, args := #[.func (.yield (w.heap.size + 1)) #[] #[]] }, W1, gf,
    #[.func (.yield (w.heap.size + 1)) #[] #[]] ++ lb, W1, ?_, ?_, ?_, ?_, fun _ => by omega, ?_⟩
  · rw [← hW1, hrec]; exact run_enterLoop_outer _ _ _ _ _
  · simp only [resolve, hg]
    simp [go_sem]
  · intro f' _; trivial
  · simp [invoke, go_sem, eg]
  · have hkeep : ∀ {A B : World} {row : Option Nat} {k : Nat} {o : Obj}, k < W1.heap.size → A.grownBy B row → (∀ r, row = some r → W1.heap.size ≤ r ∧ ∃ o : Obj, A.heap[r]? = some o ∧ mark o = true) → A.heap[k]? = some o → B.heap[k]? = some o :=
      fun hk hg hr ho => (hg.block _ (Array.getElem?_eq_some_iff.1 ho).1 (fun e => by have := (hr _ e.symm).1; omega)).trans ho
    have hup : ∀ {A : World} {row : Option Nat}, (∀ r, row = some r → W1.heap.size ≤ r ∧ ∃ o : Obj, A.heap[r]? = some o ∧ mark o = true) → (∀ r, row = some r → w.heap.size ≤ r ∧ ∃ o : Obj, A.heap[r]? = some o ∧ mark o = true) :=
      fun hr r e => ⟨by have := (hr r e).1; omega, (hr r e).2⟩
    refine CallsIn.mono (callsIn_wide.2 (hseq (w.heap.size + 1)
      (fun pre W => I pre W ∧ W.heap[w.heap.size + 1]? = some (.loop (rec .ready none)) ∧ W.heap[w.heap.size]? = some (.deferred (some [])))
      (fun pre W => ∃ c, Ix c pre W ∧ W.heap[w.heap.size + 1]? = some (.loop (rec .done (some c))) ∧ W.heap[w.heap.size]? = some (.deferred (some [])))
      W1 hb1
      (fun s A B row hs hg' hr => ⟨hI s A B row hs.1 hg' (hup hr), hkeep (by omega) hg' hr hs.2.1, hkeep (by omega) hg' hr hs.2.2⟩)
      (fun s A B row hs hg' hr => by
        obtain ⟨c, hc, hl, hk⟩ := hs
        exact ⟨c, hIx c s A B row hc hg' (hup hr), hkeep (by omega) hg' hr hl, hkeep (by omega) hg' hr hk⟩)
      ?_ ⟨hI1, hL1, hK1⟩)) ?_
    · rintro pre x rest W hpre ⟨hi, hl, hk⟩
      have hlt : w.heap.size + 1 < W.heap.size := (Array.getElem?_eq_some_iff.1 hl).1
      have hy := run_yield (P := P) (args := #[enc x]) hl (by rw [hrec]; rfl)
      rw [hrec] at hy
      refine ⟨fn, _, assign, body, hy, roundIn_of_wpIn hfn (hassign _ x W _ ⟨_, run_beginRound hl (by rw [hrec]), ?_⟩)⟩
      have hl2 : (W.putObj (w.heap.size + 1) (.loop { rec .ready none with state := .busy })).heap[w.heap.size + 1]? = some (.loop { rec .ready none with state := .busy }) := World.putObj_heap_same hlt
      have hk2 : (W.putObj (w.heap.size + 1) (.loop { rec .ready none with state := .busy })).heap[w.heap.size]? = some (.deferred (some [])) := (World.putObj_heap_other (by omega)).trans hk
      have hSne : ∀ k, S k → k ≠ w.heap.size + 1 := fun k hk' => by have := hS k hk'; omega
      have hw2 : KeepB S W (W.putObj (w.heap.size + 1) (.loop { rec .ready none with state := .busy })) := KeepB.putObj _ _ _ hSne
      refine wpIn_mono (hbody _ pre x rest _ hpre (by simp; omega) (hI.putObj _ hi (by omega) hl rfl)) ?_
      have fin : ∀ (jump : Option Code) (W3 : World), KeepsFrom w.heap.size (W.putObj (w.heap.size + 1) (.loop { rec .ready none with state := .busy })) W3 →
          (Instr.endRound (w.heap.size + 1) jump).run P W3 = .ok (.bool jump.isNone) (W3.putObj (w.heap.size + 1) (.loop (rec (if jump.isNone then .ready else .done) jump))) ∧
          W3.heap[w.heap.size + 1]? = some (.loop { rec .ready none with state := .busy }) ∧
          (W3.putObj (w.heap.size + 1) (.loop (rec (if jump.isNone then .ready else .done) jump))).heap[w.heap.size + 1]? = some (.loop (rec (if jump.isNone then .ready else .done) jump)) ∧
          (W3.putObj (w.heap.size + 1) (.loop (rec (if jump.isNone then .ready else .done) jump))).heap[w.heap.size]? = some (.deferred (some [])) := fun jump W3 hk3 => by
        have hl3 := hk3.same _ _ (by omega) hl2 rfl
        have := run_endRound (P := P) jump hl3
        rw [hrec] at this ⊢
        exact ⟨this, by rw [hrec] at hl3; exact hl3, World.putObj_heap_same (Array.getElem?_eq_some_iff.1 hl3).1, (World.putObj_heap_other (by omega)).trans (hk3.same _ _ (Nat.le_refl _) hk2 rfl)⟩
      rintro e a3 W3 hp
      cases e with
      | normal =>
        obtain ⟨hk3, hkp3, hi3⟩ := hp
        obtain ⟨hr, hl3, hl4, hk4⟩ := fin none W3 hk3
        exact ⟨_, _, hr, .inl ⟨rfl, ⟨hI.putObj _ hi3 (by omega) hl3 rfl, hl4, hk4⟩, (hw2.trans hkp3).trans (KeepB.putObj _ _ _ hSne)⟩⟩
      | ret =>
        obtain ⟨hk3, hi3⟩ := hp
        obtain ⟨hr, hl3, hl4, hk4⟩ := fin (some .ret) W3 hk3
        exact ⟨_, _, hr, .inr ⟨rfl, .ret, (hIx _).putObj _ hi3 (by omega) hl3 rfl, hl4, hk4⟩⟩
      | exit id =>
        obtain ⟨hk3, hi3⟩ := hp
        obtain ⟨hr, hl3, hl4, hk4⟩ := fin (some (.exit id)) W3 hk3
        exact ⟨_, _, hr, .inr ⟨rfl, .exit id, (hIx _).putObj _ hi3 (by omega) hl3 rfl, hl4, hk4⟩⟩
      | goto t =>
        obtain ⟨hk3, hi3⟩ := hp
        obtain ⟨hr, hl3, hl4, hk4⟩ := fin (some (.goto t)) W3 hk3
        exact ⟨_, _, hr, .inr ⟨rfl, .goto t, (hIx _).putObj _ hi3 (by omega) hl3 rfl, hl4, hk4⟩⟩
      | panic ch => exact hp.2.elim
      | outgrown => exact hp.2.elim
    · rintro e W2 ⟨⟨v, rfl⟩, (⟨hi, hl, hk⟩ | ⟨pre, x, rest, hpre, c, hi, hl, hk⟩)⟩
      · exact ⟨none, _, by have := run_endLoop (P := P) hl (by rw [hrec]; simp); rw [hrec] at this; exact this, hdone _ _ (Nat.le_refl _) (hI.putObj _ hi (by omega) hl rfl) ((World.putObj_heap_other (by omega)).trans hk)⟩
      · exact ⟨some c, _, by have := run_endLoop (P := P) hl (by rw [hrec]; simp); rw [hrec] at this; exact this, wpIn_wide.2 (hstop _ c pre x rest _ (Nat.le_refl _) hpre ((hIx c).putObj _ hi (by omega) hl rfl) ((World.putObj_heap_other (by omega)).trans hk))⟩
end

theorem OwnFrom.grow {β : Type} {B : Nat} {I : β → World → Prop} (h : OwnFrom B I) {s : β} {w w' : World} (hs : I s w) (hb : Below w.heap.size w w') : I s w' :=
  h s w w' none hs (grown_below hb) (fun r e => by cases e)
theorem OwnFrom.up {β : Type} {B B' : Nat} {I : β → World → Prop} (h : OwnFrom B I) (hB : B ≤ B') : OwnFrom B' I :=
  fun s w w' row hs hg hr => h s w w' row hs hg (fun r e => ⟨Nat.le_trans hB (hr r e).1, (hr r e).2⟩)

set_option maxRecDepth 8000 in
theorem lows_in (p : Nat → Bool) (f : Int) (bC bF l : Nat) (J Jx : List Nat → World → Prop) (W : World) (hC : Holds W bC 76 (contA p)) (hF : Holds W bF 3 #[.int .i64 f]) (hJ : OwnFrom W.heap.size J)
    (hY : ∀ pre x rest W1, lowsL p f.toNat = pre ++ x :: rest → J pre W1 → YieldAt Fence.wide 0 Try.prog l #[.int .i64 (x : Nat)] W1 fun e W' =>
      (e = .returned (.bool true) ∧ J (pre ++ [x]) W' ∧ KeepB (fun k => k = bC) W1 W') ∨ (e = .returned (.bool false) ∧ Jx (pre ++ [x]) W'))
    (h0 : J [] W) :
    CallsIn Fence.wide 1 Try.prog 65 #[.func (.yield l) #[] #[], .pointer (some ⟨bF, 0, none⟩), .pointer (some ⟨bC, 0, none⟩)] W fun e W' => (∃ v, e = .returned v) ∧ (J (lowsL p f.toNat) W' ∨ ∃ pre x rest, lowsL p f.toNat = pre ++ x :: rest ∧ Jx (pre ++ [x]) W') := by
  have hFc : W.cell? ⟨bF, 0, none⟩ = some (.int .i64 f) := hF.cell 0
  clear hF
  obtain ⟨m, hm⟩ : ∃ m, f.toNat = m := ⟨_, rfl⟩
  rw [hm] at hY ⊢
  have HY : Hid (∀ pre x rest W1, lowsL p m = pre ++ x :: rest → J pre W1 → YieldAt Fence.wide 0 Try.prog l #[.int .i64 (x : Nat)] W1 fun e W' =>
      (e = .returned (.bool true) ∧ J (pre ++ [x]) W' ∧ KeepB (fun k => k = bC) W1 W') ∨ (e = .returned (.bool false) ∧ Jx (pre ++ [x]) W')) := hY
  clear hY
  by_cases hf : f < 0
  · obtain rfl : m = 0 := by omega
    clear hm
    have hf0 : ¬ 0 ≤ f := by omega
    refine callsIn_of_wp Try.func65 rfl trivial ?_ rfl
    simp only [Try.ntmps65, List.size_toArray, List.length_cons, List.length_nil, Nat.reduceAdd, Nat.reduceSub, Array.replicate_succ, Array.replicate_zero, List.push_toArray, List.append_toArray, List.nil_append, List.cons_append]
    gi_wp2
    gi_loopw [4] (fun y wr => ∃ (k : Nat) (pre : List Nat), y = .int .i64 (k : Nat) ∧ lowsL p 0 = pre ++ lowsL p k ∧ J pre wr ∧ Holds wr bC 76 (contA p) ∧ W.heap.size ≤ wr.heap.size) (fun y _ => 256 - (intOf y).toNat)
    case atStart => exact ⟨0, [], by first | rfl | rw [show max f 0 = ((0 : Nat) : Int) by omega], rfl, h0, hC, Nat.le_refl _⟩
    case round =>
      obtain ⟨k, pre, rfl, hL, hj, hc, hsz⟩ := hrel
      by_cases hk : k < 256
      · have hki : (k : Int) < 256 := by omega
        have hk0 : (0 : Int) ≤ k := by omega
        have hcell := hc.cell (k / 8)
        rw [contA_get p (k / 8) (by omega)] at hcell
        by_cases hz : bt p (k / 8) = 0
        · rw [hz] at hcell
          have ho := or7 k hk
          have HL : Hid (lowsL p 0 = pre ++ lowsL p (8 * (k / 8) + 7 + 1)) := by
            have e := lowsL_skip p (8 * (k / 8) + 8 - k) k (by omega) (fun l h1 h2 => bt_zero hz l h1 (by omega))
            rw [show k + (8 * (k / 8) + 8 - k) = 8 * (k / 8) + 7 + 1 by omega] at e
            rw [← e]; exact hL
          clear hz hL
          have hq : ((8 * (k / 8) + 7 : Nat) : Int) < 9223372036854775807 := by omega
          have hq0 : (0 : Int) ≤ ((8 * (k / 8) + 7 : Nat) : Int) := by omega
          have hkk : k ≤ 8 * (k / 8) + 7 := by omega
          generalize 8 * (k / 8) + 7 = kk at ho HL hq hq0 hkk
          gi_wp2
          go_roundw
          case rel => exact ⟨kk + 1, pre, by simp, HL.out, hj, hc, hsz⟩
          case measure => simp [intOf]; omega
        · have hzi : ¬ ((bt p (k / 8) : Nat) : Int) = 0 := by omega
          cases hp : p k with
          | true =>
            have HL : Hid (lowsL p 0 = pre ++ k :: lowsL p (k + 1)) := by
              rw [lowsL_step p k hk, hp] at hL; exact hL
            have hh := has_any p k
            rw [hp] at hh
            have HH : Hid _ := hh
            clear hz hL hh hp
            gi_wp2_with (first
              | (refine wpListIn_ldC rfl _ rfl rfl hc ?_)
              | (refine ⟨trivial, ?_⟩; gi_at_call 58; refine (callsIn_wide.2 (HH.out wr hk)).mono ?_; rintro e w1 ⟨rfl, hB1⟩; obtain ⟨fn, tmps, assign, body, hy, hR⟩ := HY.out pre k _ w1 HL.out (OwnFrom.grow hJ hj hB1)))
            refine hR.mono ?_
            rintro e W3 (⟨rfl, hJ3, hk3⟩ | ⟨rfl, hJx3⟩)
            · have hc3 := hk3.holds rfl (below_holds hB1 hc)
              have hs3 := hk3.size
              have hs1 := hB1.size
              clear hy hR
              gi_wp2
              go_roundw
              case rel => exact ⟨k + 1, pre ++ [k], by simp, by rw [HL.out]; simp, hJ3, hc3, by omega⟩
              case measure => simp [intOf]; omega
            · clear hy hR
              gi_wp2
              refine bodyPost_ret (results_none rfl _ _ _) rfl ?_
              exact ⟨⟨_, rfl⟩, .inr ⟨pre, k, _, HL.out, hJx3⟩⟩
          | false =>
            have HL : Hid (lowsL p 0 = pre ++ lowsL p (k + 1)) := by
              rw [lowsL_step p k hk, hp] at hL; exact hL
            have hh := has_any p k
            rw [hp] at hh
            have HH : Hid _ := hh
            clear hz hL hh hp
            gi_wp2_with (first
              | (refine wpListIn_ldC rfl _ rfl rfl hc ?_)
              | (refine ⟨trivial, ?_⟩; gi_at_call 58; refine (callsIn_wide.2 (HH.out wr hk)).mono ?_; rintro e w1 ⟨rfl, hB1⟩))
            have hs1 := hB1.size
            refine ⟨fun _ h => (by cases h), ?_⟩
            gi_wp2
            go_roundw
            case rel => exact ⟨k + 1, pre, by simp, HL.out, OwnFrom.grow hJ hj hB1, below_holds hB1 hc, by omega⟩
            case measure => simp [intOf]; omega
      · have hki : ¬ (k : Int) < 256 := by omega
        rw [lowsL_end p k (by omega), List.append_nil] at hL
        have HL : Hid _ := hL
        clear hL
        gi_wp2
        go_end0
        exact ⟨⟨_, rfl⟩, .inl (by rw [HL.out]; exact hj)⟩
  · obtain rfl : f = (m : Int) := by omega
    clear hm hf
    have hm0 : ¬ (m : Int) < 0 := by omega
    have hm1 : (0 : Int) ≤ m := by omega
    refine callsIn_of_wp Try.func65 rfl trivial ?_ rfl
    simp only [Try.ntmps65, List.size_toArray, List.length_cons, List.length_nil, Nat.reduceAdd, Nat.reduceSub, Array.replicate_succ, Array.replicate_zero, List.push_toArray, List.append_toArray, List.nil_append, List.cons_append]
    gi_wp2
    gi_loopw [4] (fun y wr => ∃ (k : Nat) (pre : List Nat), y = .int .i64 (k : Nat) ∧ lowsL p m = pre ++ lowsL p k ∧ J pre wr ∧ Holds wr bC 76 (contA p) ∧ W.heap.size ≤ wr.heap.size) (fun y _ => 256 - (intOf y).toNat)
    case atStart => exact ⟨m, [], by rfl, rfl, h0, hC, Nat.le_refl _⟩
    case round =>
      obtain ⟨k, pre, rfl, hL, hj, hc, hsz⟩ := hrel
      by_cases hk : k < 256
      · have hki : (k : Int) < 256 := by omega
        have hk0 : (0 : Int) ≤ k := by omega
        have hcell := hc.cell (k / 8)
        rw [contA_get p (k / 8) (by omega)] at hcell
        by_cases hz : bt p (k / 8) = 0
        · rw [hz] at hcell
          have ho := or7 k hk
          have HL : Hid (lowsL p m = pre ++ lowsL p (8 * (k / 8) + 7 + 1)) := by
            have e := lowsL_skip p (8 * (k / 8) + 8 - k) k (by omega) (fun l h1 h2 => bt_zero hz l h1 (by omega))
            rw [show k + (8 * (k / 8) + 8 - k) = 8 * (k / 8) + 7 + 1 by omega] at e
            rw [← e]; exact hL
          clear hz hL
          have hq : ((8 * (k / 8) + 7 : Nat) : Int) < 9223372036854775807 := by omega
          have hq0 : (0 : Int) ≤ ((8 * (k / 8) + 7 : Nat) : Int) := by omega
          have hkk : k ≤ 8 * (k / 8) + 7 := by omega
          generalize 8 * (k / 8) + 7 = kk at ho HL hq hq0 hkk
          gi_wp2
          go_roundw
          case rel => exact ⟨kk + 1, pre, by simp, HL.out, hj, hc, hsz⟩
          case measure => simp [intOf]; omega
        · have hzi : ¬ ((bt p (k / 8) : Nat) : Int) = 0 := by omega
          cases hp : p k with
          | true =>
            have HL : Hid (lowsL p m = pre ++ k :: lowsL p (k + 1)) := by
              rw [lowsL_step p k hk, hp] at hL; exact hL
            have hh := has_any p k
            rw [hp] at hh
            have HH : Hid _ := hh
            clear hz hL hh hp
            gi_wp2_with (first
              | (refine wpListIn_ldC rfl _ rfl rfl hc ?_)
              | (refine ⟨trivial, ?_⟩; gi_at_call 58; refine (callsIn_wide.2 (HH.out wr hk)).mono ?_; rintro e w1 ⟨rfl, hB1⟩; obtain ⟨fn, tmps, assign, body, hy, hR⟩ := HY.out pre k _ w1 HL.out (OwnFrom.grow hJ hj hB1)))
            refine hR.mono ?_
            rintro e W3 (⟨rfl, hJ3, hk3⟩ | ⟨rfl, hJx3⟩)
            · have hc3 := hk3.holds rfl (below_holds hB1 hc)
              have hs3 := hk3.size
              have hs1 := hB1.size
              clear hy hR
              gi_wp2
              go_roundw
              case rel => exact ⟨k + 1, pre ++ [k], by simp, by rw [HL.out]; simp, hJ3, hc3, by omega⟩
              case measure => simp [intOf]; omega
            · clear hy hR
              gi_wp2
              refine bodyPost_ret (results_none rfl _ _ _) rfl ?_
              exact ⟨⟨_, rfl⟩, .inr ⟨pre, k, _, HL.out, hJx3⟩⟩
          | false =>
            have HL : Hid (lowsL p m = pre ++ lowsL p (k + 1)) := by
              rw [lowsL_step p k hk, hp] at hL; exact hL
            have hh := has_any p k
            rw [hp] at hh
            have HH : Hid _ := hh
            clear hz hL hh hp
            gi_wp2_with (first
              | (refine wpListIn_ldC rfl _ rfl rfl hc ?_)
              | (refine ⟨trivial, ?_⟩; gi_at_call 58; refine (callsIn_wide.2 (HH.out wr hk)).mono ?_; rintro e w1 ⟨rfl, hB1⟩))
            have hs1 := hB1.size
            refine ⟨fun _ h => (by cases h), ?_⟩
            gi_wp2
            go_roundw
            case rel => exact ⟨k + 1, pre, by simp, HL.out, OwnFrom.grow hJ hj hB1, below_holds hB1 hc, by omega⟩
            case measure => simp [intOf]; omega
      · have hki : ¬ (k : Int) < 256 := by omega
        rw [lowsL_end p k (by omega), List.append_nil] at hL
        have HL : Hid _ := hL
        clear hL
        gi_wp2
        go_end0
        exact ⟨⟨_, rfl⟩, .inl (by rw [HL.out]; exact hj)⟩

/-- What lows hands back. -/
theorem lows_seq (p : Nat → Bool) (f : Int) (bC bF : Nat) (w : World) (hC : Holds w bC 76 (contA p)) (hF : Holds w bF 3 #[.int .i64 f]) :
    SeqW Try.prog 65 #[.pointer (some ⟨bF, 0, none⟩), .pointer (some ⟨bC, 0, none⟩)] (fun x : Nat => .int .i64 (x : Nat)) (fun k => k = bC) (lowsL p f.toNat) w :=
  fun l J Jx W hW hJ _ hY h0 => callsIn_wide.1 (lows_in p f bC bF l J Jx W (below_holds hW hC) (below_holds hW hF) hJ hY h0)

theorem holds_kept {A B : World} {row : Option Nat} {Bd : Nat} (hg : A.grownBy B row) (hr : ∀ r, row = some r → Bd ≤ r ∧ ∃ o : Obj, A.heap[r]? = some o ∧ mark o = true) {b : Nat} {t : TypeId} {cs : Array Value} (h : Holds A b t cs) : Holds B b t cs := by
  unfold Holds at *
  refine (hg.block b (Array.getElem?_eq_some_iff.1 h).1 (fun e => ?_)).trans h
  obtain ⟨_, o, ho, hc⟩ := hr b e.symm
  rw [h] at ho; cases ho; cases hc
theorem below_kept {A B w : World} {row : Option Nat} {Bd n : Nat} (hg : A.grownBy B row) (hr : ∀ r, row = some r → Bd ≤ r ∧ ∃ o : Obj, A.heap[r]? = some o ∧ mark o = true) (hn : n ≤ Bd) (hw : n ≤ w.heap.size) (h : Below n w A) : Below n w B :=
  h.grown hg (Nat.le_trans hw h.size) (fun k e => Nat.le_trans hn (hr k e).1)


/-- The blocks from B on that are none of O are as they were. -/
def KeepO (B : Nat) (O : Nat → Prop) (W W' : World) : Prop := W.heap.size ≤ W'.heap.size ∧ ∀ k, B ≤ k → k < W.heap.size → ¬ O k → W'.heap[k]? = W.heap[k]?

/-- The contract of a function value that hands out the members of L and has blocks of its own meanwhile: who is handed them may turn blocks of his own, O, alone. -/
def SeqO {α : Type} (P : Program) (g : Nat) (lb : Array Value) (enc : α → Value) (S : Nat → Prop) (L : List α) (w : World) : Prop :=
  ∀ (l : Nat) (J : List α → (Nat → Prop) → World → Prop) (Jx : List α → World → Prop) (W : World), Below w.heap.size w W → (∀ O, OwnFrom W.heap.size (fun pre W => J pre O W)) → OwnFrom W.heap.size Jx → (∀ pre O W, J pre O W → ∀ k, O k → ∃ o : Obj, W.heap[k]? = some o ∧ mark o = false) →
    (∀ pre x rest O W1, L = pre ++ x :: rest → J pre O W1 → YieldAt Fence.wide 0 P l #[enc x] W1 fun e W' =>
      (e = .returned (.bool true) ∧ ∃ O', J (pre ++ [x]) O' W' ∧ (∀ k, O' k → O k ∨ W1.heap.size ≤ k) ∧ KeepB S W1 W' ∧ KeepO W.heap.size O W1 W') ∨ (e = .returned (.bool false) ∧ Jx (pre ++ [x]) W' ∧ KeepO W.heap.size O W1 W')) →
    J [] (fun _ => False) W →
    Calls P g (#[.func (.yield l) #[] #[]] ++ lb) W fun e W' => (∃ v, e = .returned v) ∧ ((∃ O, J L O W') ∨ ∃ pre x rest, L = pre ++ x :: rest ∧ Jx (pre ++ [x]) W')

/-- How the body of a round may be left. -/
def ownPostO {α : Type} (B : Nat) (S O : Nat → Prop) (I : List α → (Nat → Prop) → World → Prop) (Ix : Code → List α → World → Prop) (xs : List α) (W : World) : Exit → Act → World → Prop
  | .normal, _, W' => KeepsFrom B W W' ∧ KeepB S W W' ∧ KeepO (B + 2) O W W' ∧ ∃ O', (∀ k, O' k → O k ∨ W.heap.size ≤ k) ∧ I xs O' W'
  | .ret, _, W' => KeepsFrom B W W' ∧ KeepO (B + 2) O W W' ∧ Ix .ret xs W'
  | .exit id, _, W' => KeepsFrom B W W' ∧ KeepO (B + 2) O W W' ∧ Ix (.exit id) xs W'
  | .goto t, _, W' => KeepsFrom B W W' ∧ KeepO (B + 2) O W W' ∧ Ix (.goto t) xs W'
  | .panic _, _, _ => False
  | .outgrown, _, _ => False

section
variable {P : Program}

/-- Who ranges over such a value. -/
theorem wp_rangeSeqO {α : Type} {g : Operand} {t : Tmp} {assign body : Code} {Q : Exit → Act → World → Prop} {a : Act} {w : World}
    {gf : Nat} {lb : Array Value} (hg : a.eval g = .func (.func gf) #[] lb) (eg : ∀ args w, (callFunc gf args).run P w = .ok (.enter gf args) w)
    {enc : α → Value} {S : Nat → Prop} {L : List α} {w0 : World} (hseq : SeqO P gf lb enc S L w0) (hb0 : Below w0.heap.size w0 w) (hS : ∀ k, S k → k < w.heap.size)
    (I : List α → (Nat → Prop) → World → Prop) (Ix : Code → List α → World → Prop) (hI : ∀ O, OwnFrom w.heap.size (fun pre W => I pre O W)) (hIx : ∀ c, OwnFrom w.heap.size (Ix c)) (h0 : I [] (fun _ => False) w) (hOc : ∀ pre O W, I pre O W → ∀ k, O k → ∃ o : Obj, W.heap[k]? = some o ∧ mark o = false) (a₁ : α → Act)
    (hassign : ∀ (l : Nat) (x : α) (W : World) (K : Act → World → Prop), K (a₁ x) W →
      assign.wpIn (Fence.wide.inRound l) 0 P (Exit.then K (fun _ _ _ => False)) { tmps := ((#[t] : Array Tmp).zip #[enc x]).foldl (fun tm (p, v) => tm.setIfInBounds p v) a.tmps, defers := [] } W)
    (hbody : ∀ (l : Nat) (pre : List α) (x : α) (rest : List α) (O : Nat → Prop) (W : World), L = pre ++ x :: rest → w.heap.size ≤ W.heap.size → I pre O W → body.wpIn (Fence.wide.inRound l) 0 P (ownPostO (w.heap.size) S O I Ix (pre ++ [x]) W) (a₁ x) W)
    (hdone : ∀ (D : Nat) (O : Nat → Prop) (W : World), w.heap.size ≤ D → I L O W → W.heap[D]? = some (.deferred (some [])) → Q .normal { a with defers := { target := .collected D, args := #[] } :: a.defers } W)
    (hstop : ∀ (D : Nat) (c : Code) (pre : List α) (x : α) (rest : List α) (W : World), w.heap.size ≤ D → L = pre ++ x :: rest → Ix c (pre ++ [x]) W → W.heap[D]? = some (.deferred (some [])) → c.wp P Q { a with defers := { target := .collected D, args := #[] } :: a.defers } W) :
    (Code.rangeFunc g #[t] assign body).wp P Q a w := by
  refine (wpIn_wide (n := 2)).1 ?_
  refine wpIn_rangeFunc ?_
  intro fn hfn
  rw [show Fence.wide.round = none from rfl]
  obtain ⟨rec, hrec⟩ : ∃ rec : LoopState → Option Code → Loop, rec = fun st pe => { state := st, pending := pe, fn, tmps := a.tmps, params := #[t], assign, body, defers := w.heap.size } := ⟨_, rfl⟩
  obtain ⟨W1, hW1⟩ : ∃ W1, (w.alloc (.deferred (some []))).alloc (.loop (rec .ready none)) = W1 := ⟨_, rfl⟩
  have hL1 : W1.heap[w.heap.size + 1]? = some (.loop (rec .ready none)) := by
    rw [← hW1]; have := World.alloc_heap_new (w.alloc (.deferred (some []))) (.loop (rec .ready none)); rwa [World.size_alloc] at this
  have hK1 : W1.heap[w.heap.size]? = some (.deferred (some [])) := by
    rw [← hW1]; exact (Below.heap_alloc _ _ _ (by simp)).trans (World.alloc_heap_new w _)
  have hI1 : I [] (fun _ => False) W1 := by rw [← hW1]; exact (hI _).alloc (s := []) _ ((hI _).alloc (s := []) _ h0)
  have hs1 : W1.heap.size = w.heap.size + 2 := by rw [← hW1]; simp
  have hb1 : Below w0.heap.size w0 W1 := by
    rw [← hW1]; exact hb0.trans ((((Below.refl _ w).alloc (Nat.le_refl _) _).alloc (by simp) _).mono hb0.size)
  refine ⟨w.heap.size + 1, [{ target := .collected w.heap.size, args := #[] }], W1, { target := .fn (.func gf) lb, args := #[.func (.yield (w.heap.size + 1)) #[] #[]] }, W1, gf,
    #[.func (.yield (w.heap.size + 1)) #[] #[]] ++ lb, W1, ?_, ?_, ?_, ?_, fun _ => by omega, ?_⟩
  · rw [← hW1, hrec]; exact run_enterLoop_outer _ _ _ _ _
  · simp only [resolve, hg]
    simp [go_sem]
  · intro f' _; trivial
  · simp [invoke, go_sem, eg]
  · have hkeep : ∀ {A B : World} {row : Option Nat} {k : Nat} {o : Obj}, k < W1.heap.size → A.grownBy B row → (∀ r, row = some r → W1.heap.size ≤ r ∧ ∃ o : Obj, A.heap[r]? = some o ∧ mark o = true) → A.heap[k]? = some o → B.heap[k]? = some o :=
      fun hk hg hr ho => (hg.block _ (Array.getElem?_eq_some_iff.1 ho).1 (fun e => by have := (hr _ e.symm).1; omega)).trans ho
    have hup : ∀ {A : World} {row : Option Nat}, (∀ r, row = some r → W1.heap.size ≤ r ∧ ∃ o : Obj, A.heap[r]? = some o ∧ mark o = true) → (∀ r, row = some r → w.heap.size ≤ r ∧ ∃ o : Obj, A.heap[r]? = some o ∧ mark o = true) :=
      fun hr r e => ⟨by have := (hr r e).1; omega, (hr r e).2⟩
    refine CallsIn.mono (callsIn_wide.2 (hseq (w.heap.size + 1)
      (fun pre O W => I pre O W ∧ W.heap[w.heap.size + 1]? = some (.loop (rec .ready none)) ∧ W.heap[w.heap.size]? = some (.deferred (some [])))
      (fun pre W => ∃ c, Ix c pre W ∧ W.heap[w.heap.size + 1]? = some (.loop (rec .done (some c))) ∧ W.heap[w.heap.size]? = some (.deferred (some [])))
      W1 hb1
      (fun O s A B row hs hg' hr => ⟨hI O s A B row hs.1 hg' (hup hr), hkeep (by omega) hg' hr hs.2.1, hkeep (by omega) hg' hr hs.2.2⟩)
      (fun s A B row hs hg' hr => by
        obtain ⟨c, hc, hl, hk⟩ := hs
        exact ⟨c, hIx c s A B row hc hg' (hup hr), hkeep (by omega) hg' hr hl, hkeep (by omega) hg' hr hk⟩)
      (fun pre O W h => hOc pre O W h.1)
      ?_ ⟨hI1, hL1, hK1⟩)) ?_
    · rintro pre x rest O W hpre ⟨hi, hl, hk⟩
      have hlt : w.heap.size + 1 < W.heap.size := (Array.getElem?_eq_some_iff.1 hl).1
      have hy := run_yield (P := P) (args := #[enc x]) hl (by rw [hrec]; rfl)
      rw [hrec] at hy
      refine ⟨fn, _, assign, body, hy, roundIn_of_wpIn hfn (hassign _ x W _ ⟨_, run_beginRound hl (by rw [hrec]), ?_⟩)⟩
      have hl2 : (W.putObj (w.heap.size + 1) (.loop { rec .ready none with state := .busy })).heap[w.heap.size + 1]? = some (.loop { rec .ready none with state := .busy }) := World.putObj_heap_same hlt
      have hk2 : (W.putObj (w.heap.size + 1) (.loop { rec .ready none with state := .busy })).heap[w.heap.size]? = some (.deferred (some [])) := (World.putObj_heap_other (by omega)).trans hk
      have hSne : ∀ k, S k → k ≠ w.heap.size + 1 := fun k hk' => by have := hS k hk'; omega
      have hw2 : KeepB S W (W.putObj (w.heap.size + 1) (.loop { rec .ready none with state := .busy })) := KeepB.putObj _ _ _ hSne
      refine wpIn_mono (hbody _ pre x rest O _ hpre (by simp; omega) ((hI O).putObj (s := pre) _ hi (by omega) hl rfl)) ?_
      have hko : ∀ (W3 : World) (o : Obj), KeepO (w.heap.size + 2) O (W.putObj (w.heap.size + 1) (.loop { rec .ready none with state := .busy })) W3 → KeepO W1.heap.size O W (W3.putObj (w.heap.size + 1) o) := fun W3 o h => by
        refine ⟨by have := h.1; simp at this ⊢; omega, fun k h1 h2 h3 => ?_⟩
        rw [World.putObj_heap_other (by omega), h.2 k (by omega) (by simp; omega) h3, World.putObj_heap_other (by omega)]
      have fin : ∀ (jump : Option Code) (W3 : World), KeepsFrom w.heap.size (W.putObj (w.heap.size + 1) (.loop { rec .ready none with state := .busy })) W3 →
          (Instr.endRound (w.heap.size + 1) jump).run P W3 = .ok (.bool jump.isNone) (W3.putObj (w.heap.size + 1) (.loop (rec (if jump.isNone then .ready else .done) jump))) ∧
          W3.heap[w.heap.size + 1]? = some (.loop { rec .ready none with state := .busy }) ∧
          (W3.putObj (w.heap.size + 1) (.loop (rec (if jump.isNone then .ready else .done) jump))).heap[w.heap.size + 1]? = some (.loop (rec (if jump.isNone then .ready else .done) jump)) ∧
          (W3.putObj (w.heap.size + 1) (.loop (rec (if jump.isNone then .ready else .done) jump))).heap[w.heap.size]? = some (.deferred (some [])) := fun jump W3 hk3 => by
        have hl3 := hk3.same _ _ (by omega) hl2 rfl
        have := run_endRound (P := P) jump hl3
        rw [hrec] at this ⊢
        exact ⟨this, by rw [hrec] at hl3; exact hl3, World.putObj_heap_same (Array.getElem?_eq_some_iff.1 hl3).1, (World.putObj_heap_other (by omega)).trans (hk3.same _ _ (Nat.le_refl _) hk2 rfl)⟩
      rintro e a3 W3 hp
      cases e with
      | normal =>
        obtain ⟨hk3, hkp3, hko3, O', hO', hi3⟩ := hp
        obtain ⟨hr, hl3, hl4, hk4⟩ := fin none W3 hk3
        exact ⟨_, _, hr, .inl ⟨rfl, O', ⟨(hI O').putObj (s := pre ++ [x]) _ hi3 (by omega) hl3 rfl, hl4, hk4⟩, fun k h => by have := hO' k h; simpa using this, (hw2.trans hkp3).trans (KeepB.putObj _ _ _ hSne), hko W3 _ hko3⟩⟩
      | ret =>
        obtain ⟨hk3, hko3, hi3⟩ := hp
        obtain ⟨hr, hl3, hl4, hk4⟩ := fin (some .ret) W3 hk3
        exact ⟨_, _, hr, .inr ⟨rfl, ⟨.ret, (hIx _).putObj _ hi3 (by omega) hl3 rfl, hl4, hk4⟩, hko W3 _ hko3⟩⟩
      | exit id =>
        obtain ⟨hk3, hko3, hi3⟩ := hp
        obtain ⟨hr, hl3, hl4, hk4⟩ := fin (some (.exit id)) W3 hk3
        exact ⟨_, _, hr, .inr ⟨rfl, ⟨.exit id, (hIx _).putObj _ hi3 (by omega) hl3 rfl, hl4, hk4⟩, hko W3 _ hko3⟩⟩
      | goto t =>
        obtain ⟨hk3, hko3, hi3⟩ := hp
        obtain ⟨hr, hl3, hl4, hk4⟩ := fin (some (.goto t)) W3 hk3
        exact ⟨_, _, hr, .inr ⟨rfl, ⟨.goto t, (hIx _).putObj _ hi3 (by omega) hl3 rfl, hl4, hk4⟩, hko W3 _ hko3⟩⟩
      | panic ch => exact hp.elim
      | outgrown => exact hp.elim
    · rintro e W2 ⟨⟨v, rfl⟩, (⟨O, hi, hl, hk⟩ | ⟨pre, x, rest, hpre, c, hi, hl, hk⟩)⟩
      · exact ⟨none, _, by have := run_endLoop (P := P) hl (by rw [hrec]; simp); rw [hrec] at this; exact this, hdone _ O _ (Nat.le_refl _) ((hI O).putObj (s := L) _ hi (by omega) hl rfl) ((World.putObj_heap_other (by omega)).trans hk)⟩
      · exact ⟨some c, _, by have := run_endLoop (P := P) hl (by rw [hrec]; simp); rw [hrec] at this; exact this, wpIn_wide.2 (hstop _ c pre x rest _ (Nat.le_refl _) hpre ((hIx c).putObj _ hi (by omega) hl rfl) ((World.putObj_heap_other (by omega)).trans hk))⟩

end

theorem KeepO.up {B B' : Nat} {O : Nat → Prop} {W W' : World} (h : KeepO B O W W') (hB : B ≤ B') : KeepO B' O W W' := ⟨h.1, fun k h1 h2 h3 => h.2 k (by omega) h2 h3⟩
theorem KeepO.holds {B : Nat} {O : Nat → Prop} {W W' : World} (h : KeepO B O W W') {b : Nat} {t : TypeId} {cs : Array Value} (hh : Holds W b t cs) (hb : B ≤ b) (ho : ¬ O b) : Holds W' b t cs := by
  have := hh.lt
  unfold Holds at *
  rw [h.2 b hb this ho]; exact hh
theorem KeepO.marks {B : Nat} {O : Nat → Prop} {W W' : World} (h : KeepO B O W W') (hO : ∀ k, O k → ∃ o : Obj, W.heap[k]? = some o ∧ mark o = false) : ∀ {ds : List Deferred}, Marks B ds W → Marks B ds W'
  | [], _ => trivial
  | _ :: _, ⟨⟨D, h1, h2, h3, h4⟩, hr⟩ => ⟨⟨D, h1, h2, (h.2 D h2 (Array.getElem?_eq_some_iff.1 h3).1 (fun q => by
      obtain ⟨o, ho, hc⟩ := hO D q
      rw [h3] at ho; cases ho; cases hc)).trans h3, h4⟩, h.marks hO hr⟩
theorem KeepO.from {B B' : Nat} {O : Nat → Prop} {W W' : World} (h : KeepO B O W W') (hO : ∀ k, O k → ∃ o : Obj, W.heap[k]? = some o ∧ mark o = false) (hB : B ≤ B') : KeepsFrom B' W W' :=
  ⟨h.1, fun k o hk ho hc => (h.2 k (by omega) (Array.getElem?_eq_some_iff.1 ho).1 (fun q => by
    obtain ⟨o', ho', hc'⟩ := hO k q
    rw [ho] at ho'; cases ho'; rw [hc] at hc'; cases hc')).trans ho⟩
theorem marks_kept {A B : World} {row : Option Nat} {Bd n : Nat} (hg : A.grownBy B row) (hr : ∀ r, row = some r → Bd ≤ r ∧ ∃ o : Obj, A.heap[r]? = some o ∧ mark o = true) : ∀ {ds : List Deferred}, (∀ d ∈ ds, ∀ D, d.target = .collected D → D < Bd) → Marks n ds A → Marks n ds B
  | [], _, _ => trivial
  | d :: _, hd, ⟨⟨D, h1, h2, h3, h4⟩, hs⟩ => ⟨⟨D, h1, h2, (hg.block D (Array.getElem?_eq_some_iff.1 h3).1 (fun e => by
      have := (hr D e.symm).1
      have := hd d (by simp) D (by rw [h1])
      omega)).trans h3, h4⟩, marks_kept hg hr (fun d' hm => hd d' (by simp [hm])) hs⟩
theorem parts_kept {A B : World} {row : Option Nat} {Bd : Nat} (hg : A.grownBy B row) (hr : ∀ r, row = some r → Bd ≤ r ∧ ∃ o : Obj, A.heap[r]? = some o ∧ mark o = true) {g : Nat} (hgl : g < Bd) (hga : g < A.heap.size) {M : Nat → Bool} {us : List Nat} (h : PartsIn A g M us) : PartsIn B g M us :=
  h.keep (hg.block g hga (fun e => by have := (hr g e.symm).1; omega))

theorem own_put {β : Type} {B : Nat} {I : β → World → Prop} (h : OwnFrom B I) (s : β) : ∀ (A : World) (D : Nat), I s A → B ≤ D → A.heap[D]? = some (.deferred (some [])) → I s (A.putObj D (.deferred none)) :=
  fun _ _ hi hB hh => h.putObj _ hi hB hh rfl

set_option maxRecDepth 8000 in
set_option maxHeartbeats 2000000 in
theorem each_in (M : Nat → Bool) (f bl bf g cap l : Nat) (us : List Nat) (J : List Nat → (Nat → Prop) → World → Prop) (Jx : List Nat → World → Prop) (W : World) (hl : Holds W bl 89 #[.slice (some ⟨g, 0, none⟩) us.length cap]) (hF : Holds W bf 3 #[.int .i64 (f : Nat)]) (hP : PartsIn W g M us) (hus : ∀ u ∈ us, u < NU) (hfm : f ≤ 9223372036854775807) (hgl : g < W.heap.size) (hlen : us.length ≤ 8388608)
    (hJ : ∀ O, OwnFrom W.heap.size (fun pre W => J pre O W)) (hJx : OwnFrom W.heap.size Jx) (hOc : ∀ pre O W, J pre O W → ∀ k, O k → ∃ o : Obj, W.heap[k]? = some o ∧ mark o = false)
    (hY : ∀ pre x rest O W1, us.flatMap (ofU M f) = pre ++ x :: rest → J pre O W1 → YieldAt Fence.wide 0 Try.prog l #[.int .i64 (x : Nat)] W1 fun e W' =>
      (e = .returned (.bool true) ∧ ∃ O', J (pre ++ [x]) O' W' ∧ (∀ k, O' k → O k ∨ W1.heap.size ≤ k) ∧ KeepB (fun k => k = bf ∨ k = g) W1 W' ∧ KeepO W.heap.size O W1 W') ∨ (e = .returned (.bool false) ∧ Jx (pre ++ [x]) W' ∧ KeepO W.heap.size O W1 W'))
    (h0 : J [] (fun _ => False) W) :
    Calls Try.prog 61 #[.func (.yield l) #[] #[], .pointer (some ⟨bl, 0, none⟩), .pointer (some ⟨bf, 0, none⟩)] W fun e W' => (∃ v, e = .returned v) ∧ ((∃ O, J (us.flatMap (ofU M f)) O W') ∨ ∃ pre x rest, us.flatMap (ofU M f) = pre ++ x :: rest ∧ Jx (pre ++ [x]) W') := by
  obtain ⟨W0, hW0⟩ : ∃ W0, World.alloc W (.cells #[.func (.yield l) #[] #[]] 48) = W0 := ⟨_, rfl⟩
  have hy : Holds W0 W.heap.size 48 #[.func (.yield l) #[] #[]] := by rw [← hW0]; exact Holds.new _ _ _
  have hB0 : Below W.heap.size W W0 := by rw [← hW0]; exact below_new1 _ _
  have hyc : W0.cell? ⟨W.heap.size, 0, none⟩ = some (.func (.yield l) #[] #[]) := hy.cell 0
  have hlc : W0.cell? ⟨bl, 0, none⟩ = some (.slice (some ⟨g, 0, none⟩) us.length cap) := (below_holds hB0 hl).cell 0
  have hef := eql_func l
  have HY : Hid (∀ pre x rest O W1, us.flatMap (ofU M f) = pre ++ x :: rest → J pre O W1 → YieldAt Fence.wide 0 Try.prog l #[.int .i64 (x : Nat)] W1 fun e W' =>
      (e = .returned (.bool true) ∧ ∃ O', J (pre ++ [x]) O' W' ∧ (∀ k, O' k → O k ∨ W1.heap.size ≤ k) ∧ KeepB (fun k => k = bf ∨ k = g) W1 W' ∧ KeepO W.heap.size O W1 W') ∨ (e = .returned (.bool false) ∧ Jx (pre ++ [x]) W' ∧ KeepO W.heap.size O W1 W')) := hY
  have hbfl := hF.lt
  clear hY
  refine calls_of_wp_marks Try.func61 rfl ?_
  simp only [Try.ntmps61, List.size_toArray, List.length_cons, List.length_nil, Nat.reduceAdd, Nat.reduceSub, Array.replicate_succ, Array.replicate_zero, List.push_toArray, List.append_toArray, List.nil_append, List.cons_append]
  go_wp2_with fail
  refine wp_loop (fun a wr => ∃ (i : Nat) (u5 u6 u13 u14 u15 u16 u17 u18 u19 u20 u21 u22 u23 u24 u32 : Value) (ds : List Deferred),
      a = { tmps := #[.func (.yield l) #[] #[], .pointer (some ⟨bl, 0, none⟩), .pointer (some ⟨bf, 0, none⟩), .pointer (some ⟨W.heap.size, 0, none⟩), undef, u5, u6, undef, .func (.yield l) #[] #[], .bool false, .slice (some ⟨g, 0, none⟩) us.length cap, .int .i64 (us.length : Nat), .int .i64 (i : Nat), u13, u14, u15, u16, u17, u18, u19, u20, u21, u22, u23, u24, undef, undef, undef, undef, undef, undef, undef, u32], defers := ds } ∧
      i ≤ us.length ∧ Marks W.heap.size ds wr ∧ (∃ O, J (doneU M f us i) O wr ∧ ¬ O W.heap.size) ∧ Holds wr W.heap.size 48 #[.func (.yield l) #[] #[]] ∧ Holds wr bf 3 #[.int .i64 (f : Nat)] ∧ PartsIn wr g M us ∧ W.heap.size ≤ wr.heap.size ∧ g < wr.heap.size) (fun a _ => us.length - (intOf (a.tmps.getD 12 undef)).toNat) ?_ ?_
  · exact ⟨0, undef, undef, undef, undef, undef, undef, undef, undef, undef, undef, undef, undef, undef, undef, undef, [], rfl, Nat.zero_le _, trivial, ⟨_, OwnFrom.grow (hJ _) (s := []) h0 hB0, id⟩, hy, below_holds hB0 hF, hP.keep (hB0.block g hgl), hB0.size, by have := hB0.size; omega⟩
  · rintro a wr ⟨i, u5, u6, u13, u14, u15, u16, u17, u18, u19, u20, u21, u22, u23, u24, u32, ds, rfl, hi, hmk, ⟨O, hj, hOy⟩, hyr, hfr, hpr, hsz, hgr⟩
    clear hW0 hy hB0 hyc hlc hl hF hP h0
    by_cases hlt : i < us.length
    · have hii : (i : Int) < us.length := by omega
      have hil : (i : Int) < 8388608 := by omega
      have hi0 : (0 : Int) ≤ i := by omega
      obtain ⟨u, hu⟩ : ∃ u, us[i]? = some u := ⟨_, List.getElem?_eq_getElem hlt⟩
      have huN := hus u (List.mem_of_getElem? hu)
      rw [NU_eq] at huN
      have hrng := hpr.range hu
      obtain ⟨R, hsp⟩ := doneU_split (M := M) (f := f) hu
      have hnx := doneU_succ (M := M) (f := f) hu
      have hC := IsC.mk (atU M u)
      have hlw := lows_any (atU M u) ((f : Int) - (u : Int) * 256)
      have hto : ((f : Int) - (u : Int) * 256).toNat = f - 256 * u := by omega
      generalize hcs : contA (atU M u) = cs at hrng hC hlw
      have HU : Hid (us[i]? = some u) := hu
      have HS : Hid (us.flatMap (ofU M f) = doneU M f us i ++ (ofU M f u ++ R)) := hsp
      have HN : Hid (doneU M f us (i + 1) = doneU M f us i ++ ofU M f u) := hnx
      have HC : Hid (contA (atU M u) = cs) := hcs
      have HT : Hid (((f : Int) - (u : Int) * 256).toNat = f - 256 * u) := hto
      clear hu hsp hnx hcs hto
      have huI : (u : Int) * 256 ≤ 2147483648 := by omega
      have huI0 : (0 : Int) ≤ (u : Int) * 256 := by omega
      have hfI : (f : Int) ≤ 9223372036854775807 := by omega
      have hfI0 : (0 : Int) ≤ f := by omega
      obtain ⟨W1, hW1⟩ : ∃ W1, World.alloc wr (.cells zero33 80) = W1 := ⟨_, rfl⟩
      have h1 : Holds W1 wr.heap.size 80 zero33 := by rw [← hW1]; exact Holds.new _ _ _
      have hB1 : Below wr.heap.size wr W1 := by rw [← hW1]; exact below_new1 _ _
      rw [zero33_eq] at hW1
      go_wp2_with (first
        | (refine wpList_ldP rfl _ rfl rfl hrng hC ?_)
        | (refine wpList_stP rfl _ _ rfl rfl rfl hC h1 rfl ?_; intro W2 h2 hO2 hs2; clear hs2; have hB2 : Below wr.heap.size wr W2 := Only.fresh hB1 hO2 (Nat.le_refl _); have hc2 : W2.cell? ⟨wr.heap.size, 0, none⟩ = some (.int .i64 (u : Nat)) := (h2.cell 0).trans (partA_zero u cs); obtain ⟨W3, hW3⟩ : ∃ W3, World.alloc W2 (.cells #[.int .i64 ((u : Int) * 256)] 3) = W3 := ⟨_, rfl⟩; have hB3 : Below W2.heap.size W2 W3 := (by rw [← hW3]; exact below_new1 _ _); have h3 : Holds W3 W2.heap.size 3 #[.int .i64 ((u : Int) * 256)] := (by rw [← hW3]; exact Holds.new _ _ _); have h23 := below_holds hB3 h2; have hc3 : W3.cell? ⟨W2.heap.size, 0, none⟩ = some (.int .i64 ((u : Int) * 256)) := h3.cell 0; have hf3 : W3.cell? ⟨bf, 0, none⟩ = some (.int .i64 (f : Nat)) := (below_holds hB3 (below_holds hB2 hfr)).cell 0)
        | (refine wpList_ldPC rfl _ rfl rfl h23 hC ?_)
        | (go_at_call 49; refine (hlw _).mono ?_; rintro e w4 ⟨b, rfl, hb, hCb, hFb, hB4⟩))
      have hO0 := hOc _ _ _ hj
      have hBw : Below wr.heap.size wr w4 := below_new (below_new hB2 hB3) hB4
      have hb2 : wr.heap.size < W2.heap.size := h2.lt
      have hb3 : W2.heap.size < W3.heap.size := h3.lt
      have hbl4 := hCb.lt
      have hCb' : Holds w4 b 76 (contA (atU M u)) := by rw [HC.out]; exact hCb
      have hOlt : ∀ k, O k → k < wr.heap.size := fun k q => by
        obtain ⟨o, ho, _⟩ := hO0 k q
        exact (Array.getElem?_eq_some_iff.1 ho).1
      have hdl := marks_lt hmk
      have hseq := lows_seq (atU M u) ((f : Int) - (u : Int) * 256) b (b + 1) w4 hCb' hFb
      rw [HT.out] at hseq
      refine wp_rangeSeq rfl (enters_of Try.func65 (by kernel_rfl) rfl) hseq (Below.refl _ _) (fun k hk => by subst hk; exact hbl4)
        (fun pre W' => (∃ O, J (doneU M f us i ++ pre.map (256 * u + ·)) O W' ∧ ¬ O W.heap.size ∧ ¬ O W2.heap.size ∧ ¬ O b) ∧ Holds W' W.heap.size 48 #[.func (.yield l) #[] #[]] ∧ Holds W' W2.heap.size 3 #[.int .i64 ((u : Int) * 256)] ∧ Holds W' b 76 (contA (atU M u)) ∧ Holds W' bf 3 #[.int .i64 (f : Nat)] ∧ PartsIn W' g M us ∧ Marks W.heap.size ds W' ∧ w4.heap.size ≤ W'.heap.size)
        (fun c pre W' => c = .ret ∧ Jx (doneU M f us i ++ pre.map (256 * u + ·)) W' ∧ Marks W.heap.size ds W')
        (fun s A B row hs hg hr => by
          obtain ⟨⟨O, h1, h2, h3, h4⟩, h5, h6, h7, h8, h9, h10, h11⟩ := hs
          exact ⟨⟨O, OwnFrom.up (hJ O) (by have := hBw.size; omega) _ A B row h1 hg hr, h2, h3, h4⟩, holds_kept hg hr h5, holds_kept hg hr h6, holds_kept hg hr h7, holds_kept hg hr h8, parts_kept hg hr (by have := hBw.size; omega) (by have := hBw.size; omega) h9, marks_kept hg hr (fun d hd D hD => by have := hdl d hd D hD; have := hBw.size; omega) h10, Nat.le_trans h11 hg.size⟩)
        (fun c s A B row hs hg hr => by
          obtain ⟨h1, h2, h3⟩ := hs
          exact ⟨h1, OwnFrom.up hJx (by have := hBw.size; omega) _ A B row h2 hg hr, marks_kept hg hr (fun d hd D hD => by have := hdl d hd D hD; have := hBw.size; omega) h3⟩)
        ⟨⟨O, by rw [List.map_nil, List.append_nil]; exact OwnFrom.grow (hJ O) (s := doneU M f us i) hj hBw, hOy, fun q => by have := hOlt _ q; omega, fun q => by have := hOlt _ q; omega⟩, below_holds hBw hyr, below_holds hB4 h3, hCb', below_holds hBw hfr, hpr.keep (hBw.block g hgr), marks_below hBw hmk, Nat.le_refl _⟩
        (fun x => { tmps := #[.func (.yield l) #[] #[], .pointer (some ⟨bl, 0, none⟩), .pointer (some ⟨bf, 0, none⟩), .pointer (some ⟨W.heap.size, 0, none⟩), undef, .pointer (some ⟨wr.heap.size, 0, none⟩), .pointer (some ⟨W2.heap.size, 0, none⟩), .int .i64 (x : Nat), .func (.yield l) #[] #[], .bool false, .slice (some ⟨g, 0, none⟩) us.length cap, .int .i64 (us.length : Nat), .int .i64 (i : Nat), .bool true, .pointer (some ⟨g, i * 33, none⟩), .agg (partA u cs), .pointer (some ⟨wr.heap.size, 0, none⟩), .int .i64 (u : Nat), .int .i64 ((u : Int) * 256), .pointer (some ⟨wr.heap.size, 1, none⟩), .agg cs, .int .i64 (f : Nat), .int .i64 ((u : Int) * 256), .int .i64 ((f : Int) - (u : Int) * 256), .func (.func 65) #[] #[.pointer (some ⟨b + 1, 0, none⟩), .pointer (some ⟨b, 0, none⟩)], .int .i64 (x : Nat), undef, undef, undef, undef, undef, undef, u32], defers := [] }) ?assign ?body ?done ?stop
      case assign =>
        intro l' x W' K hK
        gi_wp2
        exact hK
      case body =>
        rintro l' pre x rest W' hL hsz4 ⟨⟨O', hj', o1, o2, o3⟩, k1, k2, k3, k4, k5, k6, k7⟩
        have hx := (lowsL_lt (by rw [hL]; simp : x ∈ lowsL (atU M u) (f - 256 * u))).2.1
        have hsplit : us.flatMap (ofU M f) = (doneU M f us i ++ pre.map (256 * u + ·)) ++ (256 * u + x) :: (rest.map (256 * u + ·) ++ R) := by
          rw [HS.out]
          have : ofU M f u = pre.map (256 * u + ·) ++ (256 * u + x) :: rest.map (256 * u + ·) := by unfold ofU; rw [hL]; simp
          rw [this]
          simp
        have hyy := HY.out _ _ _ O' W' hsplit hj'
        rw [show ((256 * u + x : Nat) : Int) = (u : Int) * 256 + x by omega] at hyy
        obtain ⟨fn, tmps, assign, body, hyd, hR⟩ := hyy
        have hO' := hOc _ _ _ hj'
        have c1 : W'.cell? ⟨W.heap.size, 0, none⟩ = some (.func (.yield l) #[] #[]) := k1.cell 0
        have c2 : W'.cell? ⟨W2.heap.size, 0, none⟩ = some (.int .i64 ((u : Int) * 256)) := k2.cell 0
        have hxI : (x : Int) < 256 := by omega
        have hxI0 : (0 : Int) ≤ x := by omega
        have K1 : Hid (Holds W' W.heap.size 48 #[.func (.yield l) #[] #[]]) := k1
        have K2 : Hid (Holds W' W2.heap.size 3 #[.int .i64 ((u : Int) * 256)]) := k2
        clear hL hsplit k1 k2
        gi_wp2
        refine ⟨rfl, RoundIn.mono (F := Fence.wide.inRound l') hR ?_⟩
        clear hyd hR
        have hw4 : W.heap.size ≤ w4.heap.size := Nat.le_trans hsz hBw.size
        have hbs : W.heap.size ≤ b := by omega
        have hbs2 : b < W'.heap.size := by omega
        have hs2 : W2.heap.size < W'.heap.size := by omega
        rintro e W5 (⟨rfl, O2, hj2, hOO, hkb, hko⟩ | ⟨rfl, hjx, hko⟩)
        · gi_wp2
          refine ⟨hko.from hO' hw4, ⟨hko.1, fun k hk => by rw [show k = b from hk]; exact hko.2 b hbs hbs2 o3⟩, ⟨O2, ?_, ?_, ?_, ?_⟩, hko.holds K1.out (Nat.le_refl _) o1, hko.holds K2.out (by omega) o2, hko.holds k3 hbs o3, hkb.holds (.inl rfl) k4, k5.keep (hkb.same g (.inr rfl)), hko.marks hO' k6, Nat.le_trans k7 hko.1⟩
          · rw [List.map_append, ← List.append_assoc]; exact hj2
          · intro q; rcases hOO _ q with q | q
            · exact o1 q
            · omega
          · intro q; rcases hOO _ q with q | q
            · exact o2 q
            · omega
          · intro q; rcases hOO _ q with q | q
            · exact o3 q
            · omega
        · gi_wp2
          exact ⟨hko.from hO' hw4, rfl, by rw [List.map_append, ← List.append_assoc]; exact hjx, hko.marks hO' k6⟩
      case done =>
        rintro D W' hD ⟨⟨O', hj', o1, o2, o3⟩, k1, k2, k3, k4, k5, k6, k7⟩ hK
        clear hseq hCb hCb' hFb hB4 hb h23 hc3 hf3 h3 hW3 hc2 h2 hO2 h1 hW1
        have hwr := hBw.size
        go_wp2_with fail
        refine ⟨⟨i + 1, _, _, _, _, _, _, _, _, _, _, _, _, _, _, _, _, rfl, by omega, Marks.cons k6 (by omega) hK (fun d hd D' hD' => by have := hdl d hd D' hD'; omega), ⟨O', ?_, o1⟩, k1, k4, k5, by omega, by omega⟩, ?_⟩
        · rw [HN.out]; exact hj'
        · simp [intOf]; omega
      case stop =>
        rintro D c pre x rest W' hD hL ⟨rfl, hjx, hmk'⟩ hK
        clear hseq hCb hCb' hFb hB4 hb h23 hc3 hf3 h3 hW3 hc2 h2 hO2 h1 hW1
        have hwr := hBw.size
        have hsplit : us.flatMap (ofU M f) = (doneU M f us i ++ pre.map (256 * u + ·)) ++ (256 * u + x) :: (rest.map (256 * u + ·) ++ R) := by
          rw [HS.out]
          have : ofU M f u = pre.map (256 * u + ·) ++ (256 * u + x) :: rest.map (256 * u + ·) := by unfold ofU; rw [hL]; simp
          rw [this]
          simp
        have HSP : Hid _ := hsplit
        clear hsplit hL
        go_wp2_with fail
        refine leaves_marksJ (own_put hJx _) (Marks.cons hmk' (by omega) hK (fun d hd D' hD' => by have := hdl d hd D' hD'; omega)) hjx fun w' hw' hjx' => ⟨_, results_none rfl _ _ _, ⟨_, rfl⟩, .inr ⟨_, _, ⟨_, HSP.out⟩, ?_⟩⟩
        rw [List.map_append, ← List.append_assoc] at hjx'
        exact hjx'
    · have hii : ¬ (i : Int) < us.length := by omega
      obtain rfl : i = us.length := by omega
      rw [doneU_all] at hj
      go_wp2_with fail
      exact leaves_marksJ (own_put (hJ O) _) hmk hj fun w' hw' hj' => ⟨_, results_none rfl _ _ _, ⟨_, rfl⟩, .inl ⟨O, hj'⟩⟩

/-- What Each hands back. -/
theorem each_seq {w : World} {M : Nat → Bool} {f bl bf : Nat} {v : Value} {us : List Nat} (hl : Holds w bl 89 #[v]) (hF : Holds w bf 3 #[.int .i64 (f : Nat)]) (hP : PartsAt w v M us) (hus : ∀ u ∈ us, u < NU) (hlen : us.length ≤ 8388608) (hfm : f ≤ 9223372036854775807) :
    SeqO Try.prog 61 #[.pointer (some ⟨bl, 0, none⟩), .pointer (some ⟨bf, 0, none⟩)] (fun x : Nat => .int .i64 (x : Nat)) (fun k => k = bf ∨ v.ownBlock = some k) (us.flatMap (ofU M f)) w := by
  intro l J Jx W hW hJ hJx hOc hY h0
  rcases hP with ⟨rfl, rfl⟩ | ⟨g, cap, rfl, hgl, hin⟩
  · have hl' := below_holds hW hl
    obtain ⟨W0, hW0⟩ : ∃ W0, World.alloc W (.cells #[.func (.yield l) #[] #[]] 48) = W0 := ⟨_, rfl⟩
    have hy : Holds W0 W.heap.size 48 #[.func (.yield l) #[] #[]] := by rw [← hW0]; exact Holds.new _ _ _
    have hB0 : Below W.heap.size W W0 := by rw [← hW0]; exact below_new1 _ _
    have hyc : W0.cell? ⟨W.heap.size, 0, none⟩ = some (.func (.yield l) #[] #[]) := hy.cell 0
    have hlc : W0.cell? ⟨bl, 0, none⟩ = some (.slice none 0 0) := (below_holds hB0 hl').cell 0
    have hef := eql_func l
    have hj0 := OwnFrom.grow (hJ _) (s := []) h0 hB0
    clear hY h0
    show Calls _ _ #[.func (.yield l) #[] #[], .pointer (some ⟨bl, 0, none⟩), .pointer (some ⟨bf, 0, none⟩)] _ _
    go_enter Try.func61, Try.ntmps61
    go_wp2_with fail
    go_loopw [12] (fun y wr => y = .int .i64 0 ∧ wr = W0) (fun _ _ => 0)
    case atStart => exact ⟨rfl, rfl⟩
    case round =>
      obtain ⟨rfl, rfl⟩ := hrel
      go_wp2_with fail
      go_end0
      exact ⟨⟨_, rfl⟩, .inl ⟨_, hj0⟩⟩
  · exact each_in M f bl bf g cap l us J Jx W (below_holds hW hl) (below_holds hW hF) (hin.keep (hW.block g hgl)) hus hfm (Nat.lt_of_lt_of_le hgl hW.size) hlen hJ hJx hOc
      (fun pre x rest O W1 hL hj => by
        obtain ⟨fn, tmps, assign, body, hy, hR⟩ := hY pre x rest O W1 hL hj
        refine ⟨fn, tmps, assign, body, hy, hR.mono fun e W' h => ?_⟩
        rcases h with ⟨he, O', h1, h2, h3, h4⟩ | h
        · refine .inl ⟨he, O', h1, h2, ⟨h3.size, fun k hk => h3.same k ?_⟩, h4⟩
          rcases hk with hk | hk
          · exact .inl hk
          · exact .inr (by rw [hk]; rfl)
        · exact .inr h) h0

theorem each_seqM {w : World} {M : Nat → Bool} {f bl bf : Nat} {v : Value} (hl : Holds w bl 89 #[v]) (hF : Holds w bf 3 #[.int .i64 (f : Nat)]) (hP : PartsAt w v M (uppers M (f / 256))) (hfm : f ≤ 9223372036854775807) :
    SeqO Try.prog 61 #[.pointer (some ⟨bl, 0, none⟩), .pointer (some ⟨bf, 0, none⟩)] (fun x : Nat => .int .i64 (x : Nat)) (fun k => k = bf ∨ v.ownBlock = some k) (memFrom M f) w :=
  each_seq hl hF hP (fun _ hu => (mem_uppers.1 hu).1) (uppers_len M _) hfm
end Mk
end Go.Proofs.Ytiokbhbggpibpaa
