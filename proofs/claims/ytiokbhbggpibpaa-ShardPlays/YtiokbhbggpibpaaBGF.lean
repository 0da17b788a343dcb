/-
  Texts of this claim, put together.
-/
import Derived.Test.YtiokbhbggpibpaaBGE
import Derived.Test.YtiokbhbggpibpaaBGA
import Derived.Maps.AppendAt
import Derived.Laws.OwnMore
/-
  What Each does: its function value.
-/
namespace Go.Proofs.Ytiokbhbggpibpaa
open Go Go.RowKit Go.Maps
attribute [local go_sem] Oper.semAt_some

theorem partA_one {u : Nat} {cs : Array Value} (hc : IsC cs) : (partA u cs).all (·.oneCell') = true := by
  obtain ⟨p, rfl⟩ := hc
  refine Array.all_eq_true_iff_forall_mem.2 fun v hv => ?_
  unfold partA at hv
  simp at hv
  rcases hv with rfl | h
  · rfl
  · exact Array.all_eq_true_iff_forall_mem.1 (contA_one p) v h
theorem partA_size {u : Nat} {cs : Array Value} (hc : IsC cs) : (partA u cs).size = 33 := by
  obtain ⟨p, rfl⟩ := hc
  simp [partA, contA_size]
theorem info76 {u : Nat} {cs : Array Value} (hc : IsC cs) : (Try.prog.info? 80).map (·.size) = some (partA u cs).size := by
  rw [partA_size hc]; kernel_rfl
theorem encP_part (M : Nat → Bool) (u : Nat) : (encP M u).toArray = partA u (contA (atU M u)) := rfl

/-- A part is loaded from the midst of a row. -/
theorem wpList_ldP {ops : Array Oper} {rest : List Oper} {op : Oper} {a : Act} {w : World} {Q : Exit → Act → World → Prop} (hgd : op.guard = none) (x : Operand) (ho : op.op = .load 80 x)
    {b o u : Nat} {cs : Array Value} (hx : a.eval x = .pointer (some ⟨b, o, none⟩)) (hh : w.rangeAt b o (.int .i64 (u : Nat) :: cs.toList)) (hc : IsC cs)
    (h : wpList Try.prog ops Q rest (a.put op.dst (.agg (partA u cs))) w) : wpList Try.prog ops Q (op :: rest) a w :=
  wpList_load_mid hgd 80 x ho b o hx _ _ hh Try.underlying80 rfl (by rw [info76 (u := u) hc]; rfl) h
/-- A part is stored. -/
theorem wpList_stP {ops : Array Oper} {rest : List Oper} {op : Oper} {a : Act} {w : World} {Q : Exit → Act → World → Prop} (hgd : op.guard = none) (x y : Operand) (ho : op.op = .store 80 x y)
    {b u : Nat} {cs : Array Value} (hx : a.eval x = .pointer (some ⟨b, 0, none⟩)) (hy : a.eval y = .agg (partA u cs)) (hc : IsC cs) {t : TypeId} {old : Array Value} (hh : Holds w b t old) (ho' : old.size = 33)
    (h : ∀ w', Holds w' b t (partA u cs) → Only b w w' → w'.heap.size = w.heap.size → wpList Try.prog ops Q rest (a.put op.dst undef) w') : wpList Try.prog ops Q (op :: rest) a w :=
  wpList_storeH hgd 80 x y ho b _ hx hy t old hh (info76 hc) (by rw [ho', partA_size hc]) (partA_one hc) h
/-- A part's container is loaded. -/
theorem wpList_ldPC {ops : Array Oper} {rest : List Oper} {op : Oper} {a : Act} {w : World} {Q : Exit → Act → World → Prop} (hgd : op.guard = none) (x : Operand) (ho : op.op = .load 76 x)
    {b u : Nat} {cs : Array Value} (hx : a.eval x = .pointer (some ⟨b, 1, none⟩)) {t : TypeId} (hh : Holds w b t (partA u cs)) (hc : IsC cs)
    (h : wpList Try.prog ops Q rest (a.put op.dst (.agg cs)) w) : wpList Try.prog ops Q (op :: rest) a w := by
  refine wpList_load_mid hgd 76 x ho b 1 hx cs.toList _ (fun j v hv => ?_) Try.underlying76 rfl ?_ (by simpa using h)
  · rw [hh.cell (1 + j)]
    unfold partA
    rw [List.getElem?_toArray, Nat.add_comm, List.getElem?_cons_succ]
    exact hv
  · obtain ⟨p, rfl⟩ := hc
    rw [infoC p]; simp
theorem partA_zero (u : Nat) (cs : Array Value) : (partA u cs)[0]? = some (.int .i64 (u : Nat)) := by
  unfold partA; rw [List.getElem?_toArray]; rfl
def zero33 : Array Value := #[.int .i64 0, .int .u8 0, .int .u8 0, .int .u8 0, .int .u8 0, .int .u8 0, .int .u8 0, .int .u8 0, .int .u8 0, .int .u8 0, .int .u8 0, .int .u8 0, .int .u8 0, .int .u8 0, .int .u8 0, .int .u8 0, .int .u8 0, .int .u8 0, .int .u8 0, .int .u8 0, .int .u8 0, .int .u8 0, .int .u8 0, .int .u8 0, .int .u8 0, .int .u8 0, .int .u8 0, .int .u8 0, .int .u8 0, .int .u8 0, .int .u8 0, .int .u8 0, .int .u8 0]
theorem zero33_eq : zero33 = #[.int .i64 0, .int .u8 0, .int .u8 0, .int .u8 0, .int .u8 0, .int .u8 0, .int .u8 0, .int .u8 0, .int .u8 0, .int .u8 0, .int .u8 0, .int .u8 0, .int .u8 0, .int .u8 0, .int .u8 0, .int .u8 0, .int .u8 0, .int .u8 0, .int .u8 0, .int .u8 0, .int .u8 0, .int .u8 0, .int .u8 0, .int .u8 0, .int .u8 0, .int .u8 0, .int .u8 0, .int .u8 0, .int .u8 0, .int .u8 0, .int .u8 0, .int .u8 0, .int .u8 0] := rfl

theorem PartsIn.range {w : World} {g : Nat} {M : Nat → Bool} {us : List Nat} (h : PartsIn w g M us) {i u : Nat} (hi : us[i]? = some u) : w.rangeAt g (i * 33) (.int .i64 (u : Nat) :: (contA (atU M u)).toList) := by
  intro j v hv
  refine h i (List.getElem?_eq_some_iff.1 hi).1 j v ?_
  rw [hi]
  exact hv

theorem PartsAt.below {w w' : World} {v : Value} {M : Nat → Bool} {us : List Nat} (h : PartsAt w v M us) (hb : Below w.heap.size w w') : PartsAt w' v M us := by
  rcases h with h | ⟨g, cap, h1, h0, h2⟩
  · exact .inl h
  · refine .inr ⟨g, cap, h1, Nat.lt_of_lt_of_le h0 hb.size, fun i hi j v hv => ?_⟩
    have := h2 i hi j v hv
    exact (hb.cell (p := ⟨g, i * 33 + j, none⟩) (World.block_lt_of_cell? w _ this)).trans this

theorem PartsAt.shape {w : World} {v : Value} {M : Nat → Bool} {us : List Nat} (h : PartsAt w v M us) : ∃ p n c, v = .slice p n c := by
  rcases h with ⟨rfl, _⟩ | ⟨g, cap, rfl, _, _⟩
  · exact ⟨_, _, _, rfl⟩
  · exact ⟨_, _, _, rfl⟩

set_option maxRecDepth 8000 in
theorem each_any {w : World} {s : Value} {mo : Option Nat} {M : Nat → Bool} (h : View w s mo M) (f : Int) (hf : f ≤ 9223372036854775807) :
    Calls Try.prog 38 #[s, .int .i64 f] w fun e w' => ∃ bl bf, e = .returned (.func (.func 61) #[] #[.pointer (some ⟨bl, 0, none⟩), .pointer (some ⟨bf, 0, none⟩)]) ∧ ∃ v, Holds w' bl 89 #[v] ∧ Holds w' bf 3 #[.int .i64 (f.toNat : Nat)] ∧ PartsAt w' v M (uppers M (f.toNat / 256)) ∧ Below w.heap.size w w' ∧ w.heap.size ≤ bl ∧ w.heap.size ≤ bf ∧ ∀ k, v.ownBlock = some k → w.heap.size ≤ k := by
  obtain ⟨m, hm⟩ : ∃ m, f.toNat = m := ⟨_, rfl⟩
  rw [hm]
  obtain ⟨W0, hW⟩ : ∃ W0, World.alloc w (.cells #[.int .i64 (m : Nat)] 3) = W0 := ⟨_, rfl⟩
  have hF : Holds W0 w.heap.size 3 #[.int .i64 (m : Nat)] := by rw [← hW]; exact Holds.new _ _ _
  have hB0 : Below w.heap.size w W0 := by rw [← hW]; exact below_new1 _ _
  have hp := parts_any (h.below hB0) (m / 256)
  rw [show ((m / 256 : Nat) : Int) = (m : Int) / 256 by simp] at hp
  have hFc : W0.cell? ⟨w.heap.size, 0, none⟩ = some (.int .i64 (m : Nat)) := hF.cell 0
  have hmax : max f 0 = (m : Int) := by omega
  have hm1 : (m : Int) ≤ 9223372036854775807 := by omega
  have hm0 : (0 : Int) ≤ m := by omega
  clear hm
  generalize uppers M (m / 256) = us at hp ⊢
  go_enter Try.func38, Try.ntmps38
  go_wp2_with (first
    | (go_at_call 53; refine hp.mono ?_; rintro e w1 ⟨v, rfl, hP, hB1, hob⟩; obtain ⟨p, n, c, rfl⟩ := hP.shape))
  refine bodyPost_ret (results_tmp rfl _ _ _) rfl ?_
  have hBn := below_new hB0 (below_new hB1 (below_new1 w1 (.cells #[.slice p n c] 89)))
  have hs : w.heap.size ≤ w1.heap.size := Nat.le_trans hB0.size hB1.size
  exact ⟨w1.heap.size, w.heap.size, rfl, .slice p n c, Holds.new w1 _ _, Holds.alloc (below_holds hB1 hF) _, hP.below (below_new1 _ _), hBn, hs, Nat.le_refl _, fun k e => Nat.le_trans hB0.size (hob k e)⟩
end Go.Proofs.Ytiokbhbggpibpaa
/-
  A range over a function that keeps blocks of its own between two rounds: the contract of such a function value, and the law for who ranges over it. Plain; nothing of the program.
-/
namespace Go.Proofs.Ytiokbhbggpibpaa
open Go Go.RowKit

/-- The blocks from B on that are none of O are as they were. -/
def KeepO (B : Nat) (O : Nat → Prop) (W W' : World) : Prop := W.heap.size ≤ W'.heap.size ∧ ∀ k, B ≤ k → k < W.heap.size → ¬ O k → W'.heap[k]? = W.heap[k]?

/-- The contract of a function value that hands out the members of L and has blocks of its own meanwhile: who is handed them may turn blocks of his own, O, alone. -/
def SeqO {α : Type} (P : Program) (g : Nat) (lb : Array Value) (enc : α → Value) (S : Nat → Prop) (L : List α) (w : World) : Prop :=
  ∀ (l : Nat) (J : List α → (Nat → Prop) → World → Prop) (Jx : List α → World → Prop) (W : World), Below w.heap.size w W → (∀ O, OwnFrom W.heap.size (fun pre W => J pre O W)) → OwnFrom W.heap.size Jx → (∀ pre O W, J pre O W → ∀ k, O k → ∃ o : Obj, W.heap[k]? = some o ∧ o.isCells = true) →
    (∀ pre x rest O W1, L = pre ++ x :: rest → J pre O W1 → YieldAt Fence.wide 0 P l #[enc x] W1 fun e W' =>
      (e = .returned (.bool true) ∧ ∃ O', J (pre ++ [x]) O' W' ∧ (∀ k, O' k → O k ∨ W1.heap.size ≤ k) ∧ KeepB S W1 W' ∧ KeepO W.heap.size O W1 W') ∨ (e = .returned (.bool false) ∧ Jx (pre ++ [x]) W' ∧ KeepO W.heap.size O W1 W')) →
    J [] (fun _ => False) W →
    Calls P g (#[.func (.yield l) #[] #[]] ++ lb) W fun e W' => (∃ v, e = .returned v) ∧ ((∃ O, J L O W') ∨ ∃ pre x rest, L = pre ++ x :: rest ∧ Jx (pre ++ [x]) W')

/-- How the body of a round may be left. -/
def ownPostO {α : Type} (B : Nat) (S O : Nat → Prop) (I : List α → (Nat → Prop) → World → Prop) (Ix : Code → List α → World → Prop) (xs : List α) (W : World) : Exit → Act → World → Prop
  | .normal, _, W' => KeepsFrom B W W' ∧ KeepB S W W' ∧ KeepO (B + 2) O W W' ∧ ∃ O', (∀ k, O' k → O k ∨ W.heap.size ≤ k) ∧ I xs O' W'
  | .ret, _, W' => KeepsFrom B W W' ∧ KeepO (B + 2) O W W' ∧ Ix .ret xs W'
  | .exit id, _, W' => KeepsFrom B W W' ∧ KeepO (B + 2) O W W' ∧ Ix (.exit id) xs W'
  | .goto t, _, W' => KeepsFrom B W W' ∧ KeepO (B + 2) O W W' ∧ Ix (.goto t) xs W'
  | .panic _, _, _ => False
  | .outgrown, _, _ => False

section
variable {P : Program}

/-- Who ranges over such a value. -/
theorem wp_rangeSeqO {α : Type} {g : Operand} {t : Tmp} {assign body : Code} {Q : Exit → Act → World → Prop} {a : Act} {w : World}
    {gf : Nat} {lb : Array Value} (hg : a.eval g = .func (.func gf) #[] lb) (eg : ∀ args w, (callFunc gf args).run P w = .ok (.enter gf args) w)
    {enc : α → Value} {S : Nat → Prop} {L : List α} {w0 : World} (hseq : SeqO P gf lb enc S L w0) (hb0 : Below w0.heap.size w0 w) (hS : ∀ k, S k → k < w.heap.size)
    (I : List α → (Nat → Prop) → World → Prop) (Ix : Code → List α → World → Prop) (hI : ∀ O, OwnFrom w.heap.size (fun pre W => I pre O W)) (hIx : ∀ c, OwnFrom w.heap.size (Ix c)) (h0 : I [] (fun _ => False) w) (hOc : ∀ pre O W, I pre O W → ∀ k, O k → ∃ o : Obj, W.heap[k]? = some o ∧ o.isCells = true) (a₁ : α → Act)
    (hassign : ∀ (l : Nat) (x : α) (W : World) (K : Act → World → Prop), K (a₁ x) W →
      assign.wpIn (Fence.wide.inRound l) 0 P (Exit.then K (fun _ _ _ => False)) { tmps := ((#[t] : Array Tmp).zip #[enc x]).foldl (fun tm (p, v) => tm.setIfInBounds p v) a.tmps, defers := [] } W)
    (hbody : ∀ (l : Nat) (pre : List α) (x : α) (rest : List α) (O : Nat → Prop) (W : World), L = pre ++ x :: rest → w.heap.size ≤ W.heap.size → I pre O W → body.wpIn (Fence.wide.inRound l) 0 P (ownPostO (w.heap.size) S O I Ix (pre ++ [x]) W) (a₁ x) W)
    (hdone : ∀ (D : Nat) (O : Nat → Prop) (W : World), w.heap.size ≤ D → I L O W → W.heap[D]? = some (.deferred (some [])) → Q .normal { a with defers := { target := .collected D, args := #[] } :: a.defers } W)
    (hstop : ∀ (D : Nat) (c : Code) (pre : List α) (x : α) (rest : List α) (W : World), w.heap.size ≤ D → L = pre ++ x :: rest → Ix c (pre ++ [x]) W → W.heap[D]? = some (.deferred (some [])) → c.wp P Q { a with defers := { target := .collected D, args := #[] } :: a.defers } W) :
    (Code.rangeFunc g #[t] assign body).wp P Q a w := by
  refine (wpIn_wide (n := 2)).1 ?_
  refine wpIn_rangeFunc ?_
  intro fn hfn
  rw [show Fence.wide.round = none from rfl]
  obtain ⟨rec, hrec⟩ : ∃ rec : LoopState → Option Code → Loop, rec = fun st pe => { state := st, pending := pe, fn, tmps := a.tmps, params := #[t], assign, body, defers := w.heap.size } := ⟨_, rfl⟩
  obtain ⟨W1, hW1⟩ : ∃ W1, (w.alloc (.deferred (some []))).alloc (.loop (rec .ready none)) = W1 := ⟨_, rfl⟩
  have hL1 : W1.heap[w.heap.size + 1]? = some (.loop (rec .ready none)) := by
    rw [← hW1]; have := World.alloc_heap_new (w.alloc (.deferred (some []))) (.loop (rec .ready none)); rwa [World.size_alloc] at this
  have hK1 : W1.heap[w.heap.size]? = some (.deferred (some [])) := by
    rw [← hW1]; exact (Below.heap_alloc _ _ _ (by simp)).trans (World.alloc_heap_new w _)
  have hI1 : I [] (fun _ => False) W1 := by rw [← hW1]; exact (hI _).alloc (s := []) _ ((hI _).alloc (s := []) _ h0)
  have hs1 : W1.heap.size = w.heap.size + 2 := by rw [← hW1]; simp
  have hb1 : Below w0.heap.size w0 W1 := by
    rw [← hW1]; exact hb0.trans ((((Below.refl _ w).alloc (Nat.le_refl _) _).alloc (by simp) _).mono hb0.size)
  refine ⟨w.heap.size + 1, [{ target := .collected w.heap.size, args := #[] }], W1, { target := .fn (.func gf) lb, args := #[.func (.yield (w.heap.size + 1)) #[] #[]] }, W1, gf,
    #[.func (.yield (w.heap.size + 1)) #[] #[]] ++ lb, W1, ?_, ?_, ?_, ?_, fun _ => by omega, ?_⟩
  · rw [← hW1, hrec]; exact run_enterLoop_outer _ _ _ _ _
  · simp only [resolve, hg]
    simp [go_sem]
  · intro f' _; trivial
  · simp [invoke, go_sem, eg]
  · have hkeep : ∀ {A B : World} {row : Option Nat} {k : Nat} {o : Obj}, k < W1.heap.size → A.grownBy B row → (∀ r, row = some r → W1.heap.size ≤ r ∧ ∃ o : Obj, A.heap[r]? = some o ∧ o.isCells = false) → A.heap[k]? = some o → B.heap[k]? = some o :=
      fun hk hg hr ho => (hg.block _ (Array.getElem?_eq_some_iff.1 ho).1 (fun e => by have := (hr _ e.symm).1; omega)).trans ho
    have hup : ∀ {A : World} {row : Option Nat}, (∀ r, row = some r → W1.heap.size ≤ r ∧ ∃ o : Obj, A.heap[r]? = some o ∧ o.isCells = false) → (∀ r, row = some r → w.heap.size ≤ r ∧ ∃ o : Obj, A.heap[r]? = some o ∧ o.isCells = false) :=
      fun hr r e => ⟨by have := (hr r e).1; omega, (hr r e).2⟩
    refine CallsIn.mono (callsIn_wide.2 (hseq (w.heap.size + 1)
      (fun pre O W => I pre O W ∧ W.heap[w.heap.size + 1]? = some (.loop (rec .ready none)) ∧ W.heap[w.heap.size]? = some (.deferred (some [])))
      (fun pre W => ∃ c, Ix c pre W ∧ W.heap[w.heap.size + 1]? = some (.loop (rec .done (some c))) ∧ W.heap[w.heap.size]? = some (.deferred (some [])))
      W1 hb1
      (fun O s A B row hs hg' hr => ⟨hI O s A B row hs.1 hg' (hup hr), hkeep (by omega) hg' hr hs.2.1, hkeep (by omega) hg' hr hs.2.2⟩)
      (fun s A B row hs hg' hr => by
        obtain ⟨c, hc, hl, hk⟩ := hs
        exact ⟨c, hIx c s A B row hc hg' (hup hr), hkeep (by omega) hg' hr hl, hkeep (by omega) hg' hr hk⟩)
      (fun pre O W h => hOc pre O W h.1)
      ?_ ⟨hI1, hL1, hK1⟩)) ?_
    · rintro pre x rest O W hpre ⟨hi, hl, hk⟩
      have hlt : w.heap.size + 1 < W.heap.size := (Array.getElem?_eq_some_iff.1 hl).1
      have hy := run_yield (P := P) (args := #[enc x]) hl (by rw [hrec]; rfl)
      rw [hrec] at hy
      refine ⟨fn, _, assign, body, hy, roundIn_of_wpIn hfn (hassign _ x W _ ⟨_, run_beginRound hl (by rw [hrec]), ?_⟩)⟩
      have hl2 : (W.putObj (w.heap.size + 1) (.loop { rec .ready none with state := .busy })).heap[w.heap.size + 1]? = some (.loop { rec .ready none with state := .busy }) := World.putObj_heap_same hlt
      have hk2 : (W.putObj (w.heap.size + 1) (.loop { rec .ready none with state := .busy })).heap[w.heap.size]? = some (.deferred (some [])) := (World.putObj_heap_other (by omega)).trans hk
      have hSne : ∀ k, S k → k ≠ w.heap.size + 1 := fun k hk' => by have := hS k hk'; omega
      have hw2 : KeepB S W (W.putObj (w.heap.size + 1) (.loop { rec .ready none with state := .busy })) := KeepB.putObj _ _ _ hSne
      refine wpIn_mono (hbody _ pre x rest O _ hpre (by simp; omega) ((hI O).putObj (s := pre) _ hi (by omega) hl rfl)) ?_
      have hko : ∀ (W3 : World) (o : Obj), KeepO (w.heap.size + 2) O (W.putObj (w.heap.size + 1) (.loop { rec .ready none with state := .busy })) W3 → KeepO W1.heap.size O W (W3.putObj (w.heap.size + 1) o) := fun W3 o h => by
        refine ⟨by have := h.1; simp at this ⊢; omega, fun k h1 h2 h3 => ?_⟩
        rw [World.putObj_heap_other (by omega), h.2 k (by omega) (by simp; omega) h3, World.putObj_heap_other (by omega)]
      have fin : ∀ (jump : Option Code) (W3 : World), KeepsFrom w.heap.size (W.putObj (w.heap.size + 1) (.loop { rec .ready none with state := .busy })) W3 →
          (Instr.endRound (w.heap.size + 1) jump).run P W3 = .ok (.bool jump.isNone) (W3.putObj (w.heap.size + 1) (.loop (rec (if jump.isNone then .ready else .done) jump))) ∧
          W3.heap[w.heap.size + 1]? = some (.loop { rec .ready none with state := .busy }) ∧
          (W3.putObj (w.heap.size + 1) (.loop (rec (if jump.isNone then .ready else .done) jump))).heap[w.heap.size + 1]? = some (.loop (rec (if jump.isNone then .ready else .done) jump)) ∧
          (W3.putObj (w.heap.size + 1) (.loop (rec (if jump.isNone then .ready else .done) jump))).heap[w.heap.size]? = some (.deferred (some [])) := fun jump W3 hk3 => by
        have hl3 := hk3.same _ _ (by omega) hl2 rfl
        have := run_endRound (P := P) jump hl3
        rw [hrec] at this ⊢
        exact ⟨this, by rw [hrec] at hl3; exact hl3, World.putObj_heap_same (Array.getElem?_eq_some_iff.1 hl3).1, (World.putObj_heap_other (by omega)).trans (hk3.same _ _ (Nat.le_refl _) hk2 rfl)⟩
      rintro e a3 W3 hp
      cases e with
      | normal =>
        obtain ⟨hk3, hkp3, hko3, O', hO', hi3⟩ := hp
        obtain ⟨hr, hl3, hl4, hk4⟩ := fin none W3 hk3
        exact ⟨_, _, hr, .inl ⟨rfl, O', ⟨(hI O').putObj (s := pre ++ [x]) _ hi3 (by omega) hl3 rfl, hl4, hk4⟩, fun k h => by have := hO' k h; simpa using this, (hw2.trans hkp3).trans (KeepB.putObj _ _ _ hSne), hko W3 _ hko3⟩⟩
      | ret =>
        obtain ⟨hk3, hko3, hi3⟩ := hp
        obtain ⟨hr, hl3, hl4, hk4⟩ := fin (some .ret) W3 hk3
        exact ⟨_, _, hr, .inr ⟨rfl, ⟨.ret, (hIx _).putObj _ hi3 (by omega) hl3 rfl, hl4, hk4⟩, hko W3 _ hko3⟩⟩
      | exit id =>
        obtain ⟨hk3, hko3, hi3⟩ := hp
        obtain ⟨hr, hl3, hl4, hk4⟩ := fin (some (.exit id)) W3 hk3
        exact ⟨_, _, hr, .inr ⟨rfl, ⟨.exit id, (hIx _).putObj _ hi3 (by omega) hl3 rfl, hl4, hk4⟩, hko W3 _ hko3⟩⟩
      | goto t =>
        obtain ⟨hk3, hko3, hi3⟩ := hp
        obtain ⟨hr, hl3, hl4, hk4⟩ := fin (some (.goto t)) W3 hk3
        exact ⟨_, _, hr, .inr ⟨rfl, ⟨.goto t, (hIx _).putObj _ hi3 (by omega) hl3 rfl, hl4, hk4⟩, hko W3 _ hko3⟩⟩
      | panic ch => exact hp.elim
      | outgrown => exact hp.elim
    · rintro e W2 ⟨⟨v, rfl⟩, (⟨O, hi, hl, hk⟩ | ⟨pre, x, rest, hpre, c, hi, hl, hk⟩)⟩
      · exact ⟨none, _, by have := run_endLoop (P := P) hl (by rw [hrec]; simp); rw [hrec] at this; exact this, hdone _ O _ (Nat.le_refl _) ((hI O).putObj (s := L) _ hi (by omega) hl rfl) ((World.putObj_heap_other (by omega)).trans hk)⟩
      · exact ⟨some c, _, by have := run_endLoop (P := P) hl (by rw [hrec]; simp); rw [hrec] at this; exact this, wpIn_wide.2 (hstop _ c pre x rest _ (Nat.le_refl _) hpre ((hIx c).putObj _ hi (by omega) hl rfl) ((World.putObj_heap_other (by omega)).trans hk))⟩

end
end Go.Proofs.Ytiokbhbggpibpaa
/-
  What Each hands back: a set's members from a number on, rising.
-/
namespace Go.Proofs.Ytiokbhbggpibpaa
open Go Go.RowKit Go.Maps
attribute [local go_sem] Oper.semAt_some

/-- The members of one container from a number on. -/
def ofU (M : Nat → Bool) (f u : Nat) : List Nat := (lowsL (atU M u) (f - 256 * u)).map (256 * u + ·)
/-- The members from a number on. -/
noncomputable def memFrom (M : Nat → Bool) (f : Nat) : List Nat := (uppers M (f / 256)).flatMap (ofU M f)

theorem equalIn_func (d l : Nat) (w : World) : (Op.equalIn (d + 1) 48 (.func (.yield l) #[] #[]) .nilFunc).run Try.prog w = .ok false w := by
  simp [Op.equalIn, run_underlying Try.underlying48]
theorem eql_func (l : Nat) (w : World) : (binOp .eql 48 (.func (.yield l) #[] #[]) .nilFunc).run Try.prog w = .ok (.bool false) w := by
  have h : (Op.equal 48 (.func (.yield l) #[] #[]) .nilFunc).run Try.prog w = .ok false w := equalIn_func 9999 l w
  simp only [binOp]
  simp [h]

/-- The members of the first containers. -/
def doneU (M : Nat → Bool) (f : Nat) (us : List Nat) (i : Nat) : List Nat := (us.take i).flatMap (ofU M f)
theorem doneU_all (M : Nat → Bool) (f : Nat) (us : List Nat) : doneU M f us us.length = us.flatMap (ofU M f) := by unfold doneU; rw [List.take_length]
theorem doneU_succ {M : Nat → Bool} {f : Nat} {us : List Nat} {i u : Nat} (h : us[i]? = some u) : doneU M f us (i + 1) = doneU M f us i ++ ofU M f u := by
  unfold doneU
  have hi := (List.getElem?_eq_some_iff.1 h).1
  rw [List.take_succ_eq_append_getElem hi, List.flatMap_append, List.flatMap_cons, List.flatMap_nil, List.append_nil]
  rw [List.getElem?_eq_getElem hi] at h
  injection h with h
  rw [h]
theorem doneU_split {M : Nat → Bool} {f : Nat} {us : List Nat} {i u : Nat} (h : us[i]? = some u) : ∃ R, us.flatMap (ofU M f) = doneU M f us i ++ (ofU M f u ++ R) := by
  have hi := (List.getElem?_eq_some_iff.1 h).1
  refine ⟨(us.drop (i + 1)).flatMap (ofU M f), ?_⟩
  rw [← List.append_assoc, ← doneU_succ h]
  unfold doneU
  rw [← List.flatMap_append, List.take_append_drop]
theorem marks_below {B : Nat} {w w' : World} (hb : Below w.heap.size w w') : ∀ {ds : List Deferred}, Marks B ds w → Marks B ds w'
  | [], _ => trivial
  | _ :: _, ⟨⟨D, h1, h2, h3, h4⟩, hr⟩ => ⟨⟨D, h1, h2, (hb.block D (Array.getElem?_eq_some_iff.1 h3).1).trans h3, h4⟩, marks_below hb hr⟩

theorem KeepO.up {B B' : Nat} {O : Nat → Prop} {W W' : World} (h : KeepO B O W W') (hB : B ≤ B') : KeepO B' O W W' := ⟨h.1, fun k h1 h2 h3 => h.2 k (by omega) h2 h3⟩
theorem KeepO.holds {B : Nat} {O : Nat → Prop} {W W' : World} (h : KeepO B O W W') {b : Nat} {t : TypeId} {cs : Array Value} (hh : Holds W b t cs) (hb : B ≤ b) (ho : ¬ O b) : Holds W' b t cs := by
  have := hh.lt
  unfold Holds at *
  rw [h.2 b hb this ho]; exact hh
theorem KeepO.marks {B : Nat} {O : Nat → Prop} {W W' : World} (h : KeepO B O W W') (hO : ∀ k, O k → ∃ o : Obj, W.heap[k]? = some o ∧ o.isCells = true) : ∀ {ds : List Deferred}, Marks B ds W → Marks B ds W'
  | [], _ => trivial
  | _ :: _, ⟨⟨D, h1, h2, h3, h4⟩, hr⟩ => ⟨⟨D, h1, h2, (h.2 D h2 (Array.getElem?_eq_some_iff.1 h3).1 (fun q => by
      obtain ⟨o, ho, hc⟩ := hO D q
      rw [h3] at ho; cases ho; cases hc)).trans h3, h4⟩, h.marks hO hr⟩
theorem KeepO.from {B B' : Nat} {O : Nat → Prop} {W W' : World} (h : KeepO B O W W') (hO : ∀ k, O k → ∃ o : Obj, W.heap[k]? = some o ∧ o.isCells = true) (hB : B ≤ B') : KeepsFrom B' W W' :=
  ⟨h.1, fun k o hk ho hc => (h.2 k (by omega) (Array.getElem?_eq_some_iff.1 ho).1 (fun q => by
    obtain ⟨o', ho', hc'⟩ := hO k q
    rw [ho] at ho'; cases ho'; rw [hc] at hc'; cases hc')).trans ho⟩
theorem marks_kept {A B : World} {row : Option Nat} {Bd n : Nat} (hg : A.grownBy B row) (hr : ∀ r, row = some r → Bd ≤ r ∧ ∃ o : Obj, A.heap[r]? = some o ∧ o.isCells = false) : ∀ {ds : List Deferred}, (∀ d ∈ ds, ∀ D, d.target = .collected D → D < Bd) → Marks n ds A → Marks n ds B
  | [], _, _ => trivial
  | d :: _, hd, ⟨⟨D, h1, h2, h3, h4⟩, hs⟩ => ⟨⟨D, h1, h2, (hg.block D (Array.getElem?_eq_some_iff.1 h3).1 (fun e => by
      have := (hr D e.symm).1
      have := hd d (by simp) D (by rw [h1])
      omega)).trans h3, h4⟩, marks_kept hg hr (fun d' hm => hd d' (by simp [hm])) hs⟩
theorem marks_lt {n : Nat} {w : World} : ∀ {ds : List Deferred}, Marks n ds w → ∀ d ∈ ds, ∀ D, d.target = .collected D → D < w.heap.size
  | [], _, d, hd, _, _ => by cases hd
  | d0 :: ds, ⟨⟨D0, h1, h2, h3, h4⟩, hs⟩, d, hd, D, hD => by
    rcases List.mem_cons.1 hd with rfl | h
    · rw [h1] at hD
      injection hD with hD
      subst hD
      exact (Array.getElem?_eq_some_iff.1 h3).1
    · exact marks_lt hs d h D hD
theorem Marks.cons {n D : Nat} {w : World} {ds : List Deferred} (h : Marks n ds w) (hD : n ≤ D) (hh : w.heap[D]? = some (.deferred (some []))) (hne : ∀ d ∈ ds, ∀ D', d.target = .collected D' → D' < D) : Marks n ({ target := .collected D, args := #[] } :: ds) w :=
  ⟨⟨D, rfl, hD, hh, fun d hd e => by have := hne d hd D e; omega⟩, h⟩
theorem parts_kept {A B : World} {row : Option Nat} {Bd : Nat} (hg : A.grownBy B row) (hr : ∀ r, row = some r → Bd ≤ r ∧ ∃ o : Obj, A.heap[r]? = some o ∧ o.isCells = false) {g : Nat} (hgl : g < Bd) (hga : g < A.heap.size) {M : Nat → Bool} {us : List Nat} (h : PartsIn A g M us) : PartsIn B g M us :=
  h.keep (hg.block g hga (fun e => by have := (hr g e.symm).1; omega))

theorem leaves_marksJ {P : Program} {fn : Func} {tmps : Array Value} {R : Ending → World → Prop} {B : Nat} {I : World → Prop} (hI : ∀ (A : World) (D : Nat), I A → B ≤ D → A.heap[D]? = some (.deferred (some [])) → I (A.putObj D (.deferred none))) : ∀ {ds : List Deferred} {w : World}, Marks B ds w → I w →
    (∀ w', Shut B w w' → I w' → ∃ v, (results fn tmps).run P w' = .ok v w' ∧ R (.returned v) w') → LeavesInM Fence.wide 0 P fn tmps R ds .returning w
  | [], w, _, hi, h => h w (Shut.refl _ _) hi
  | d :: ds, w, ⟨⟨D, hd, hB, hh, hne⟩, hr⟩, hi, h => by
    refine ⟨by simp, .inl ⟨D, _, by rw [hd], run_takeDeferred hh, leaves_marksJ hI (hr.put hne) (hI w D hi hB hh) fun w' hw' hi' => h w' (hw'.put hB hh) hi'⟩⟩
theorem own_put {β : Type} {B : Nat} {I : β → World → Prop} (h : OwnFrom B I) (s : β) : ∀ (A : World) (D : Nat), I s A → B ≤ D → A.heap[D]? = some (.deferred (some [])) → I s (A.putObj D (.deferred none)) :=
  fun _ _ hi hB hh => h.putObj _ hi hB hh rfl

set_option maxRecDepth 8000 in
set_option maxHeartbeats 2000000 in
theorem each_in (M : Nat → Bool) (f bl bf g cap l : Nat) (us : List Nat) (J : List Nat → (Nat → Prop) → World → Prop) (Jx : List Nat → World → Prop) (W : World) (hl : Holds W bl 89 #[.slice (some ⟨g, 0, none⟩) us.length cap]) (hF : Holds W bf 3 #[.int .i64 (f : Nat)]) (hP : PartsIn W g M us) (hus : ∀ u ∈ us, u < NU) (hfm : f ≤ 9223372036854775807) (hgl : g < W.heap.size) (hlen : us.length ≤ 8388608)
    (hJ : ∀ O, OwnFrom W.heap.size (fun pre W => J pre O W)) (hJx : OwnFrom W.heap.size Jx) (hOc : ∀ pre O W, J pre O W → ∀ k, O k → ∃ o : Obj, W.heap[k]? = some o ∧ o.isCells = true)
    (hY : ∀ pre x rest O W1, us.flatMap (ofU M f) = pre ++ x :: rest → J pre O W1 → YieldAt Fence.wide 0 Try.prog l #[.int .i64 (x : Nat)] W1 fun e W' =>
      (e = .returned (.bool true) ∧ ∃ O', J (pre ++ [x]) O' W' ∧ (∀ k, O' k → O k ∨ W1.heap.size ≤ k) ∧ KeepB (fun k => k = bf ∨ k = g) W1 W' ∧ KeepO W.heap.size O W1 W') ∨ (e = .returned (.bool false) ∧ Jx (pre ++ [x]) W' ∧ KeepO W.heap.size O W1 W'))
    (h0 : J [] (fun _ => False) W) :
    Calls Try.prog 61 #[.func (.yield l) #[] #[], .pointer (some ⟨bl, 0, none⟩), .pointer (some ⟨bf, 0, none⟩)] W fun e W' => (∃ v, e = .returned v) ∧ ((∃ O, J (us.flatMap (ofU M f)) O W') ∨ ∃ pre x rest, us.flatMap (ofU M f) = pre ++ x :: rest ∧ Jx (pre ++ [x]) W') := by
  obtain ⟨W0, hW0⟩ : ∃ W0, World.alloc W (.cells #[.func (.yield l) #[] #[]] 48) = W0 := ⟨_, rfl⟩
  have hy : Holds W0 W.heap.size 48 #[.func (.yield l) #[] #[]] := by rw [← hW0]; exact Holds.new _ _ _
  have hB0 : Below W.heap.size W W0 := by rw [← hW0]; exact below_new1 _ _
  have hyc : W0.cell? ⟨W.heap.size, 0, none⟩ = some (.func (.yield l) #[] #[]) := hy.cell 0
  have hlc : W0.cell? ⟨bl, 0, none⟩ = some (.slice (some ⟨g, 0, none⟩) us.length cap) := (below_holds hB0 hl).cell 0
  have hef := eql_func l
  have HY : Hid (∀ pre x rest O W1, us.flatMap (ofU M f) = pre ++ x :: rest → J pre O W1 → YieldAt Fence.wide 0 Try.prog l #[.int .i64 (x : Nat)] W1 fun e W' =>
      (e = .returned (.bool true) ∧ ∃ O', J (pre ++ [x]) O' W' ∧ (∀ k, O' k → O k ∨ W1.heap.size ≤ k) ∧ KeepB (fun k => k = bf ∨ k = g) W1 W' ∧ KeepO W.heap.size O W1 W') ∨ (e = .returned (.bool false) ∧ Jx (pre ++ [x]) W' ∧ KeepO W.heap.size O W1 W')) := hY
  have hbfl := hF.lt
  clear hY
  refine calls_of_wp_marks Try.func61 rfl ?_
  simp only [Try.ntmps61, List.size_toArray, List.length_cons, List.length_nil, Nat.reduceAdd, Nat.reduceSub, Array.replicate_succ, Array.replicate_zero, List.push_toArray, List.append_toArray, List.nil_append, List.cons_append]
  go_wp2_with fail
  refine wp_loop (fun a wr => ∃ (i : Nat) (u5 u6 u13 u14 u15 u16 u17 u18 u19 u20 u21 u22 u23 u24 u32 : Value) (ds : List Deferred),
      a = { tmps := #[.func (.yield l) #[] #[], .pointer (some ⟨bl, 0, none⟩), .pointer (some ⟨bf, 0, none⟩), .pointer (some ⟨W.heap.size, 0, none⟩), undef, u5, u6, undef, .func (.yield l) #[] #[], .bool false, .slice (some ⟨g, 0, none⟩) us.length cap, .int .i64 (us.length : Nat), .int .i64 (i : Nat), u13, u14, u15, u16, u17, u18, u19, u20, u21, u22, u23, u24, undef, undef, undef, undef, undef, undef, undef, u32], defers := ds } ∧
      i ≤ us.length ∧ Marks W.heap.size ds wr ∧ (∃ O, J (doneU M f us i) O wr ∧ ¬ O W.heap.size) ∧ Holds wr W.heap.size 48 #[.func (.yield l) #[] #[]] ∧ Holds wr bf 3 #[.int .i64 (f : Nat)] ∧ PartsIn wr g M us ∧ W.heap.size ≤ wr.heap.size ∧ g < wr.heap.size) (fun a _ => us.length - (intOf (a.tmps.getD 12 undef)).toNat) ?_ ?_
  · exact ⟨0, undef, undef, undef, undef, undef, undef, undef, undef, undef, undef, undef, undef, undef, undef, undef, [], rfl, Nat.zero_le _, trivial, ⟨_, OwnFrom.grow (hJ _) (s := []) h0 hB0, id⟩, hy, below_holds hB0 hF, hP.keep (hB0.block g hgl), hB0.size, by have := hB0.size; omega⟩
  · rintro a wr ⟨i, u5, u6, u13, u14, u15, u16, u17, u18, u19, u20, u21, u22, u23, u24, u32, ds, rfl, hi, hmk, ⟨O, hj, hOy⟩, hyr, hfr, hpr, hsz, hgr⟩
    clear hW0 hy hB0 hyc hlc hl hF hP h0
    by_cases hlt : i < us.length
    · have hii : (i : Int) < us.length := by omega
      have hil : (i : Int) < 8388608 := by omega
      have hi0 : (0 : Int) ≤ i := by omega
      obtain ⟨u, hu⟩ : ∃ u, us[i]? = some u := ⟨_, List.getElem?_eq_getElem hlt⟩
      have huN := hus u (List.mem_of_getElem? hu)
      rw [NU_eq] at huN
      have hrng := hpr.range hu
      obtain ⟨R, hsp⟩ := doneU_split (M := M) (f := f) hu
      have hnx := doneU_succ (M := M) (f := f) hu
      have hC := IsC.mk (atU M u)
      have hlw := lows_any (atU M u) ((f : Int) - (u : Int) * 256)
      have hto : ((f : Int) - (u : Int) * 256).toNat = f - 256 * u := by omega
      generalize hcs : contA (atU M u) = cs at hrng hC hlw
      have HU : Hid (us[i]? = some u) := hu
      have HS : Hid (us.flatMap (ofU M f) = doneU M f us i ++ (ofU M f u ++ R)) := hsp
      have HN : Hid (doneU M f us (i + 1) = doneU M f us i ++ ofU M f u) := hnx
      have HC : Hid (contA (atU M u) = cs) := hcs
      have HT : Hid (((f : Int) - (u : Int) * 256).toNat = f - 256 * u) := hto
      clear hu hsp hnx hcs hto
      have huI : (u : Int) * 256 ≤ 2147483648 := by omega
      have huI0 : (0 : Int) ≤ (u : Int) * 256 := by omega
      have hfI : (f : Int) ≤ 9223372036854775807 := by omega
      have hfI0 : (0 : Int) ≤ f := by omega
      obtain ⟨W1, hW1⟩ : ∃ W1, World.alloc wr (.cells zero33 80) = W1 := ⟨_, rfl⟩
      have h1 : Holds W1 wr.heap.size 80 zero33 := by rw [← hW1]; exact Holds.new _ _ _
      have hB1 : Below wr.heap.size wr W1 := by rw [← hW1]; exact below_new1 _ _
      rw [zero33_eq] at hW1
      go_wp2_with (first
        | (refine wpList_ldP rfl _ rfl rfl hrng hC ?_)
        | (refine wpList_stP rfl _ _ rfl rfl rfl hC h1 rfl ?_; intro W2 h2 hO2 hs2; clear hs2; have hB2 : Below wr.heap.size wr W2 := Only.fresh hB1 hO2 (Nat.le_refl _); have hc2 : W2.cell? ⟨wr.heap.size, 0, none⟩ = some (.int .i64 (u : Nat)) := (h2.cell 0).trans (partA_zero u cs); obtain ⟨W3, hW3⟩ : ∃ W3, World.alloc W2 (.cells #[.int .i64 ((u : Int) * 256)] 3) = W3 := ⟨_, rfl⟩; have hB3 : Below W2.heap.size W2 W3 := (by rw [← hW3]; exact below_new1 _ _); have h3 : Holds W3 W2.heap.size 3 #[.int .i64 ((u : Int) * 256)] := (by rw [← hW3]; exact Holds.new _ _ _); have h23 := below_holds hB3 h2; have hc3 : W3.cell? ⟨W2.heap.size, 0, none⟩ = some (.int .i64 ((u : Int) * 256)) := h3.cell 0; have hf3 : W3.cell? ⟨bf, 0, none⟩ = some (.int .i64 (f : Nat)) := (below_holds hB3 (below_holds hB2 hfr)).cell 0)
        | (refine wpList_ldPC rfl _ rfl rfl h23 hC ?_)
        | (go_at_call 49; refine (hlw _).mono ?_; rintro e w4 ⟨b, rfl, hb, hCb, hFb, hB4⟩))
      have hO0 := hOc _ _ _ hj
      have hBw : Below wr.heap.size wr w4 := below_new (below_new hB2 hB3) hB4
      have hb2 : wr.heap.size < W2.heap.size := h2.lt
      have hb3 : W2.heap.size < W3.heap.size := h3.lt
      have hbl4 := hCb.lt
      have hCb' : Holds w4 b 76 (contA (atU M u)) := by rw [HC.out]; exact hCb
      have hOlt : ∀ k, O k → k < wr.heap.size := fun k q => by
        obtain ⟨o, ho, _⟩ := hO0 k q
        exact (Array.getElem?_eq_some_iff.1 ho).1
      have hdl := marks_lt hmk
      have hseq := lows_seq (atU M u) ((f : Int) - (u : Int) * 256) b (b + 1) w4 hCb' hFb
      rw [HT.out] at hseq
      refine wp_rangeSeq rfl (enters_of Try.func65 (by kernel_rfl) rfl) hseq (Below.refl _ _) (fun k hk => by subst hk; exact hbl4)
        (fun pre W' => (∃ O, J (doneU M f us i ++ pre.map (256 * u + ·)) O W' ∧ ¬ O W.heap.size ∧ ¬ O W2.heap.size ∧ ¬ O b) ∧ Holds W' W.heap.size 48 #[.func (.yield l) #[] #[]] ∧ Holds W' W2.heap.size 3 #[.int .i64 ((u : Int) * 256)] ∧ Holds W' b 76 (contA (atU M u)) ∧ Holds W' bf 3 #[.int .i64 (f : Nat)] ∧ PartsIn W' g M us ∧ Marks W.heap.size ds W' ∧ w4.heap.size ≤ W'.heap.size)
        (fun c pre W' => c = .ret ∧ Jx (doneU M f us i ++ pre.map (256 * u + ·)) W' ∧ Marks W.heap.size ds W')
        (fun s A B row hs hg hr => by
          obtain ⟨⟨O, h1, h2, h3, h4⟩, h5, h6, h7, h8, h9, h10, h11⟩ := hs
          exact ⟨⟨O, OwnFrom.up (hJ O) (by have := hBw.size; omega) _ A B row h1 hg hr, h2, h3, h4⟩, holds_kept hg hr h5, holds_kept hg hr h6, holds_kept hg hr h7, holds_kept hg hr h8, parts_kept hg hr (by have := hBw.size; omega) (by have := hBw.size; omega) h9, marks_kept hg hr (fun d hd D hD => by have := hdl d hd D hD; have := hBw.size; omega) h10, Nat.le_trans h11 hg.size⟩)
        (fun c s A B row hs hg hr => by
          obtain ⟨h1, h2, h3⟩ := hs
          exact ⟨h1, OwnFrom.up hJx (by have := hBw.size; omega) _ A B row h2 hg hr, marks_kept hg hr (fun d hd D hD => by have := hdl d hd D hD; have := hBw.size; omega) h3⟩)
        ⟨⟨O, by rw [List.map_nil, List.append_nil]; exact OwnFrom.grow (hJ O) (s := doneU M f us i) hj hBw, hOy, fun q => by have := hOlt _ q; omega, fun q => by have := hOlt _ q; omega⟩, below_holds hBw hyr, below_holds hB4 h3, hCb', below_holds hBw hfr, hpr.keep (hBw.block g hgr), marks_below hBw hmk, Nat.le_refl _⟩
        (fun x => { tmps := #[.func (.yield l) #[] #[], .pointer (some ⟨bl, 0, none⟩), .pointer (some ⟨bf, 0, none⟩), .pointer (some ⟨W.heap.size, 0, none⟩), undef, .pointer (some ⟨wr.heap.size, 0, none⟩), .pointer (some ⟨W2.heap.size, 0, none⟩), .int .i64 (x : Nat), .func (.yield l) #[] #[], .bool false, .slice (some ⟨g, 0, none⟩) us.length cap, .int .i64 (us.length : Nat), .int .i64 (i : Nat), .bool true, .pointer (some ⟨g, i * 33, none⟩), .agg (partA u cs), .pointer (some ⟨wr.heap.size, 0, none⟩), .int .i64 (u : Nat), .int .i64 ((u : Int) * 256), .pointer (some ⟨wr.heap.size, 1, none⟩), .agg cs, .int .i64 (f : Nat), .int .i64 ((u : Int) * 256), .int .i64 ((f : Int) - (u : Int) * 256), .func (.func 65) #[] #[.pointer (some ⟨b + 1, 0, none⟩), .pointer (some ⟨b, 0, none⟩)], .int .i64 (x : Nat), undef, undef, undef, undef, undef, undef, u32], defers := [] }) ?assign ?body ?done ?stop
      case assign =>
        intro l' x W' K hK
        gi_wp2
        exact hK
      case body =>
        rintro l' pre x rest W' hL hsz4 ⟨⟨O', hj', o1, o2, o3⟩, k1, k2, k3, k4, k5, k6, k7⟩
        have hx := (lowsL_lt (by rw [hL]; simp : x ∈ lowsL (atU M u) (f - 256 * u))).2.1
        have hsplit : us.flatMap (ofU M f) = (doneU M f us i ++ pre.map (256 * u + ·)) ++ (256 * u + x) :: (rest.map (256 * u + ·) ++ R) := by
          rw [HS.out]
          have : ofU M f u = pre.map (256 * u + ·) ++ (256 * u + x) :: rest.map (256 * u + ·) := by unfold ofU; rw [hL]; simp
          rw [this]
          simp
        have hyy := HY.out _ _ _ O' W' hsplit hj'
        rw [show ((256 * u + x : Nat) : Int) = (u : Int) * 256 + x by omega] at hyy
        obtain ⟨fn, tmps, assign, body, hyd, hR⟩ := hyy
        have hO' := hOc _ _ _ hj'
        have c1 : W'.cell? ⟨W.heap.size, 0, none⟩ = some (.func (.yield l) #[] #[]) := k1.cell 0
        have c2 : W'.cell? ⟨W2.heap.size, 0, none⟩ = some (.int .i64 ((u : Int) * 256)) := k2.cell 0
        have hxI : (x : Int) < 256 := by omega
        have hxI0 : (0 : Int) ≤ x := by omega
        have K1 : Hid (Holds W' W.heap.size 48 #[.func (.yield l) #[] #[]]) := k1
        have K2 : Hid (Holds W' W2.heap.size 3 #[.int .i64 ((u : Int) * 256)]) := k2
        clear hL hsplit k1 k2
        gi_wp2
        refine ⟨rfl, RoundIn.mono (F := Fence.wide.inRound l') hR ?_⟩
        clear hyd hR
        have hw4 : W.heap.size ≤ w4.heap.size := Nat.le_trans hsz hBw.size
        have hbs : W.heap.size ≤ b := by omega
        have hbs2 : b < W'.heap.size := by omega
        have hs2 : W2.heap.size < W'.heap.size := by omega
        rintro e W5 (⟨rfl, O2, hj2, hOO, hkb, hko⟩ | ⟨rfl, hjx, hko⟩)
        · gi_wp2
          refine ⟨hko.from hO' hw4, ⟨hko.1, fun k hk => by rw [show k = b from hk]; exact hko.2 b hbs hbs2 o3⟩, ⟨O2, ?_, ?_, ?_, ?_⟩, hko.holds K1.out (Nat.le_refl _) o1, hko.holds K2.out (by omega) o2, hko.holds k3 hbs o3, hkb.holds (.inl rfl) k4, k5.keep (hkb.same g (.inr rfl)), hko.marks hO' k6, Nat.le_trans k7 hko.1⟩
          · rw [List.map_append, ← List.append_assoc]; exact hj2
          · intro q; rcases hOO _ q with q | q
            · exact o1 q
            · omega
          · intro q; rcases hOO _ q with q | q
            · exact o2 q
            · omega
          · intro q; rcases hOO _ q with q | q
            · exact o3 q
            · omega
        · gi_wp2
          exact ⟨hko.from hO' hw4, rfl, by rw [List.map_append, ← List.append_assoc]; exact hjx, hko.marks hO' k6⟩
      case done =>
        rintro D W' hD ⟨⟨O', hj', o1, o2, o3⟩, k1, k2, k3, k4, k5, k6, k7⟩ hK
        clear hseq hCb hCb' hFb hB4 hb h23 hc3 hf3 h3 hW3 hc2 h2 hO2 h1 hW1
        have hwr := hBw.size
        go_wp2_with fail
        refine ⟨⟨i + 1, _, _, _, _, _, _, _, _, _, _, _, _, _, _, _, _, rfl, by omega, Marks.cons k6 (by omega) hK (fun d hd D' hD' => by have := hdl d hd D' hD'; omega), ⟨O', ?_, o1⟩, k1, k4, k5, by omega, by omega⟩, ?_⟩
        · rw [HN.out]; exact hj'
        · simp [intOf]; omega
      case stop =>
        rintro D c pre x rest W' hD hL ⟨rfl, hjx, hmk'⟩ hK
        clear hseq hCb hCb' hFb hB4 hb h23 hc3 hf3 h3 hW3 hc2 h2 hO2 h1 hW1
        have hwr := hBw.size
        have hsplit : us.flatMap (ofU M f) = (doneU M f us i ++ pre.map (256 * u + ·)) ++ (256 * u + x) :: (rest.map (256 * u + ·) ++ R) := by
          rw [HS.out]
          have : ofU M f u = pre.map (256 * u + ·) ++ (256 * u + x) :: rest.map (256 * u + ·) := by unfold ofU; rw [hL]; simp
          rw [this]
          simp
        have HSP : Hid _ := hsplit
        clear hsplit hL
        go_wp2_with fail
        refine leaves_marksJ (own_put hJx _) (Marks.cons hmk' (by omega) hK (fun d hd D' hD' => by have := hdl d hd D' hD'; omega)) hjx fun w' hw' hjx' => ⟨_, results_none rfl _ _ _, ⟨_, rfl⟩, .inr ⟨_, _, ⟨_, HSP.out⟩, ?_⟩⟩
        rw [List.map_append, ← List.append_assoc] at hjx'
        exact hjx'
    · have hii : ¬ (i : Int) < us.length := by omega
      obtain rfl : i = us.length := by omega
      rw [doneU_all] at hj
      go_wp2_with fail
      exact leaves_marksJ (own_put (hJ O) _) hmk hj fun w' hw' hj' => ⟨_, results_none rfl _ _ _, ⟨_, rfl⟩, .inl ⟨O, hj'⟩⟩
end Go.Proofs.Ytiokbhbggpibpaa
/-
  What Members does; who ranges over a set's members and collects them.
-/
namespace Go.Proofs.Ytiokbhbggpibpaa
open Go Go.RowKit Go.Maps
attribute [local go_sem] Oper.semAt_some

/-- An append that also tells where the row lies then. -/
theorem append_where {P : Program} {w w' : World} {base : Nat} {t ty e : TypeId} {i : TypeInfo} {z v v' : Value} (ht : P.underlying t = some (.slice e)) (hi : P.info? e = some i) (hz : i.zero = some z)
    {n : Nat} {xs : List Value} (hown : w.ownsRow base e i.size v n xs) {a : Addr} {m c : Nat} {news : List Value} (hl : news.length = m * i.size)
    (hnews : ∀ j u, news[j]? = some u → w.cell? (a.add j) = some u) (h1 : ∀ u ∈ news, u.oneCell' = true) (hm : 0 < m) (h63 : n + m ≤ maxLen) (hbytes : (n + m) * i.bytes ≤ 140737488355328)
    (hr : (Builtin.append_ #[t, t] ty #[v, .slice (some a) m c]).run P w = .ok v' w') : v'.ownBlock = v.ownBlock ∨ v'.ownBlock = some w.heap.size := by
  have hsmall : n + m ≤ 9223372036854775807 := by simp only [maxLen] at h63; omega
  rcases hown.2 with ⟨rfl, rfl⟩ | ⟨g, cap, cur, rfl, hbg, hg, hnc, hcm, hcs, htake⟩
  · have h2 := run_append_nil (P := P) w t ty e i z ht hi hz a m c news hl hnews (by omega) (by omega) (by have hb := hbytes; simp only [Nat.zero_add] at hb; omega)
    rw [hr] at h2
    injection h2 with h3 h4
    right; rw [h3]; rfl
  · by_cases hroom : n + m ≤ cap
    · have hfit : n * i.size + news.length ≤ cur.size := by rw [hl, hcs, ← Nat.add_mul]; exact Nat.mul_le_mul_right _ hroom
      have h2 := run_append_room (P := P) w t ty e i ht hi g n cap cur hg a m c news hl hnews h1 hroom hfit
      rw [hr] at h2
      injection h2 with h3 h4
      left; rw [h3]; rfl
    · have h2 := run_append_grow (P := P) w t ty e i z ht hi hz ⟨g, 0, none⟩ n cap xs hown.1 (hown.cells (g := g) rfl) a m c news hl hnews (by omega) (by omega) (growslice_fits (by omega) hbytes)
      rw [hr] at h2
      injection h2 with h3 h4
      right; rw [h3]; rfl

theorem wpListIn_append_own2 {F : Fence} {nF : Nat} {P : Program} (w : World) {ops : Array Oper} {rest : List Oper} {o : Oper} {a : Act} {Q : Exit → Act → World → Prop} (hgd : o.guard = none) (s x : Operand) (t : TypeId)
    (ho : o.op = .call { callee := .builtin .append, args := #[s, x], argTypes := #[t, t] })
    (base : Nat) (e : TypeId) (i : TypeInfo) (z : Value) (size bytes : Nat) (ht : P.underlying t = some (.slice e)) (hi : P.info? e = some i) (hz : i.zero = some z)
    (hsize : i.size = size) (hby : i.bytes = bytes) (hzs : z.cells.size = size) (hsz : 0 < size)
    (v : Value) (n : Nat) (xs : List Value) (hs : a.eval s = v) (hown : w.ownsRow base e size v n xs)
    (ad : Addr) (m c : Nat) (news : List Value) (hx : a.eval x = .slice (some ad) m c) (hl : news.length = m * size) (hnews : ∀ j u, news[j]? = some u → w.cell? (ad.add j) = some u) (h1 : ∀ u ∈ news, u.oneCell' = true)
    (hm : 0 < m) (h63 : n + m ≤ maxLen) (hbytes : (n + m) * bytes ≤ 140737488355328) (hbase : base ≤ w.heap.size)
    (h : ∀ v' w', w'.ownsRow base e size v' (n + m) (xs ++ news) → w.grownBy w' v.ownBlock → (v'.ownBlock = v.ownBlock ∨ v'.ownBlock = some w.heap.size) → wpListIn F nF P ops Q rest (a.put o.dst v') w') : wpListIn F nF P ops Q (o :: rest) a w := by
  refine wpListIn_plain hgd fun K hK' => ?_
  obtain ⟨v', w', hrun, r1, r2, r3⟩ := run_append_own (P := P) w base t o.type e i z size bytes ht hi hz hsize hby hzs hsz v n xs hown ad m c news hl hnews h1 h63 hbytes hbase
  subst hsize
  subst hby
  have hwh := append_where ht hi hz hown hl hnews h1 hm h63 hbytes hrun
  unfold Oper.wpIn
  refine ⟨?_, ?_⟩
  · simp [Oper.about, ho, resolve, Target.leads, Sem.run_pure]
  · rw [Oper.semAt_plain F _ _ (by rw [ho]; intro c hc'; cases hc')]
    simp [execOp, ho, resolve, invoke, builtin, hs, hx, hrun, Result.andThen]
    exact hK' _ _ (h v' w' r1 r2 hwh)

/-- The block of a row that was made in the rounds. -/
def rowO (v : Value) (B : Nat) (k : Nat) : Prop := v.ownBlock = some k ∧ B ≤ k
theorem rowO_cells {w : World} {base n : Nat} {e : TypeId} {size : Nat} {v : Value} {xs : List Value} (h : w.ownsRow base e size v n xs) {B k : Nat} (hk : rowO v B k) : ∃ o : Obj, w.heap[k]? = some o ∧ o.isCells = true := by
  rcases h.2 with ⟨rfl, _⟩ | ⟨g, cap, cur, rfl, _, hcur, _⟩
  · obtain ⟨h1, _⟩ := hk; cases h1
  · obtain ⟨h1, _⟩ := hk
    simp only [Value.ownBlock] at h1
    injection h1 with h1
    subst h1
    exact ⟨_, hcur, rfl⟩
theorem keepO_append {B0 B : Nat} {W w1 : World} {tmp : Obj} {v : Value} (hg : (W.alloc tmp).grownBy w1 v.ownBlock) (u : Value) (hB : B < B0) : KeepO (B0 + 2) (rowO v B0) W (w1.setCell ⟨B, 0, none⟩ u) := by
  refine ⟨by have := hg.size; simp at this ⊢; omega, fun k h1 h2 h3 => ?_⟩
  rw [Below.heap_setCell _ _ _ _ (by show k ≠ B; omega), hg.block k (by simp; omega) (fun e => h3 ⟨e.symm, by omega⟩), Below.heap_alloc _ _ _ h2]
theorem rowO_next {W : World} {tmp : Obj} {v v' : Value} {B0 : Nat} (hw : v'.ownBlock = v.ownBlock ∨ v'.ownBlock = some (W.alloc tmp).heap.size) : ∀ k, rowO v' B0 k → rowO v B0 k ∨ W.heap.size ≤ k := fun k ⟨h1, h2⟩ => by
  rcases hw with h | h
  · exact .inl ⟨by rw [← h]; exact h1, h2⟩
  · rw [h] at h1
    injection h1 with h1
    simp at h1
    exact .inr (by omega)

/-- What Each hands back. -/
theorem each_seq {w : World} {M : Nat → Bool} {f bl bf : Nat} {v : Value} {us : List Nat} (hl : Holds w bl 89 #[v]) (hF : Holds w bf 3 #[.int .i64 (f : Nat)]) (hP : PartsAt w v M us) (hus : ∀ u ∈ us, u < NU) (hlen : us.length ≤ 8388608) (hfm : f ≤ 9223372036854775807) :
    SeqO Try.prog 61 #[.pointer (some ⟨bl, 0, none⟩), .pointer (some ⟨bf, 0, none⟩)] (fun x : Nat => .int .i64 (x : Nat)) (fun k => k = bf ∨ v.ownBlock = some k) (us.flatMap (ofU M f)) w := by
  intro l J Jx W hW hJ hJx hOc hY h0
  rcases hP with ⟨rfl, rfl⟩ | ⟨g, cap, rfl, hgl, hin⟩
  · have hl' := below_holds hW hl
    obtain ⟨W0, hW0⟩ : ∃ W0, World.alloc W (.cells #[.func (.yield l) #[] #[]] 48) = W0 := ⟨_, rfl⟩
    have hy : Holds W0 W.heap.size 48 #[.func (.yield l) #[] #[]] := by rw [← hW0]; exact Holds.new _ _ _
    have hB0 : Below W.heap.size W W0 := by rw [← hW0]; exact below_new1 _ _
    have hyc : W0.cell? ⟨W.heap.size, 0, none⟩ = some (.func (.yield l) #[] #[]) := hy.cell 0
    have hlc : W0.cell? ⟨bl, 0, none⟩ = some (.slice none 0 0) := (below_holds hB0 hl').cell 0
    have hef := eql_func l
    have hj0 := OwnFrom.grow (hJ _) (s := []) h0 hB0
    clear hY h0
    show Calls _ _ #[.func (.yield l) #[] #[], .pointer (some ⟨bl, 0, none⟩), .pointer (some ⟨bf, 0, none⟩)] _ _
    go_enter Try.func61, Try.ntmps61
    go_wp2_with fail
    go_loopw [12] (fun y wr => y = .int .i64 0 ∧ wr = W0) (fun _ _ => 0)
    case atStart => exact ⟨rfl, rfl⟩
    case round =>
      obtain ⟨rfl, rfl⟩ := hrel
      go_wp2_with fail
      go_end0
      exact ⟨⟨_, rfl⟩, .inl ⟨_, hj0⟩⟩
  · exact each_in M f bl bf g cap l us J Jx W (below_holds hW hl) (below_holds hW hF) (hin.keep (hW.block g hgl)) hus hfm (Nat.lt_of_lt_of_le hgl hW.size) hlen hJ hJx hOc
      (fun pre x rest O W1 hL hj => by
        obtain ⟨fn, tmps, assign, body, hy, hR⟩ := hY pre x rest O W1 hL hj
        refine ⟨fn, tmps, assign, body, hy, hR.mono fun e W' h => ?_⟩
        rcases h with ⟨he, O', h1, h2, h3, h4⟩ | h
        · refine .inl ⟨he, O', h1, h2, ⟨h3.size, fun k hk => h3.same k ?_⟩, h4⟩
          rcases hk with hk | hk
          · exact .inl hk
          · exact .inr (by rw [hk]; rfl)
        · exact .inr h) h0

theorem ofU_lt {M : Nat → Bool} {f u n : Nat} (h : n ∈ ofU M f u) : f ≤ n ∧ n / 256 = u ∧ M n = true := by
  unfold ofU at h
  obtain ⟨l, hl, rfl⟩ := List.mem_map.1 h
  obtain ⟨h1, h2, h3⟩ := lowsL_lt hl
  exact ⟨by omega, by omega, h3⟩
theorem mem_ofU {M : Nat → Bool} {f u n : Nat} : n ∈ ofU M f u ↔ f ≤ n ∧ n / 256 = u ∧ M n = true := by
  refine ⟨ofU_lt, fun ⟨h1, h2, h3⟩ => ?_⟩
  unfold ofU
  refine List.mem_map.2 ⟨n % 256, mem_lowsL.2 ⟨by omega, by omega, ?_⟩, by omega⟩
  unfold atU
  rw [show 256 * u + n % 256 = n by omega]
  exact h3
theorem mem_memFrom {M : Nat → Bool} (hM : ∀ n, M n = true → n < 2147483648) {f n : Nat} : n ∈ memFrom M f ↔ f ≤ n ∧ M n = true := by
  unfold memFrom
  rw [List.mem_flatMap]
  constructor
  · rintro ⟨u, _, h⟩
    obtain ⟨h1, _, h3⟩ := ofU_lt h
    exact ⟨h1, h3⟩
  · rintro ⟨h1, h2⟩
    refine ⟨n / 256, mem_uppers.2 ⟨?_, by omega, n % 256, by omega, ?_⟩, mem_ofU.2 ⟨h1, rfl, h2⟩⟩
    · have := hM n h2; rw [NU_eq]; omega
    · rw [show 256 * (n / 256) + n % 256 = n by omega]; exact h2
theorem flat_rises {M : Nat → Bool} {f : Nat} : ∀ {us : List Nat}, us.Pairwise (· < ·) → (us.flatMap (ofU M f)).Pairwise (· < ·)
  | [], _ => List.Pairwise.nil
  | u :: us, h => by
    obtain ⟨h1, h2⟩ := List.pairwise_cons.1 h
    rw [List.flatMap_cons, List.pairwise_append]
    refine ⟨?_, flat_rises h2, fun a ha b hb => ?_⟩
    · unfold ofU
      rw [List.pairwise_map]
      exact (lowsL_rises _ _).imp fun h => by omega
    · obtain ⟨v, hv, hb⟩ := List.mem_flatMap.1 hb
      have := (ofU_lt ha).2.1
      have := (ofU_lt hb).2.1
      have := h1 v hv
      omega
theorem memFrom_rises (M : Nat → Bool) (f : Nat) : (memFrom M f).Pairwise (· < ·) := flat_rises (uppers_rises M _)
theorem rising_nodup {l : List Nat} (h : l.Pairwise (· < ·)) : l.Nodup := by
  rw [List.nodup_iff_pairwise_ne]
  exact h.imp fun h => by omega
theorem memFrom_len {M : Nat → Bool} (hM : ∀ n, M n = true → n < 2147483648) (f : Nat) : (memFrom M f).length ≤ 2147483648 :=
  nodup_len _ _ (rising_nodup (memFrom_rises M f)) fun x hx => hM x ((mem_memFrom hM).1 hx).2
theorem each_seqM {w : World} {M : Nat → Bool} {f bl bf : Nat} {v : Value} (hl : Holds w bl 89 #[v]) (hF : Holds w bf 3 #[.int .i64 (f : Nat)]) (hP : PartsAt w v M (uppers M (f / 256))) (hfm : f ≤ 9223372036854775807) :
    SeqO Try.prog 61 #[.pointer (some ⟨bl, 0, none⟩), .pointer (some ⟨bf, 0, none⟩)] (fun x : Nat => .int .i64 (x : Nat)) (fun k => k = bf ∨ v.ownBlock = some k) (memFrom M f) w :=
  each_seq hl hF hP (fun _ hu => (mem_uppers.1 hu).1) (uppers_len M _) hfm

theorem underInts : Try.prog.underlying 22 = some (.slice 3) := by kernel_rfl

theorem ownsRow_shut {B : Nat} {w w' : World} (hs : Shut B w w') {base : Nat} {e : TypeId} {size n : Nat} {v : Value} {xs : List Value} (h : w.ownsRow base e size v n xs) : w'.ownsRow base e size v n xs := by
  obtain ⟨h1, h2⟩ := h
  refine ⟨h1, ?_⟩
  rcases h2 with h | ⟨g, cap, cur, h3, h4, h5, h6⟩
  · exact .inl h
  · exact .inr ⟨g, cap, cur, h3, h4, hs.cells g _ h5 (fun _ e => by cases e), h6⟩

/-- A slice of integers that is a call's own. -/
def OwnInts (w : World) (base : Nat) (v : Value) (l : List Nat) : Prop := w.ownsRow base 3 1 v l.length (l.map fun x => .int .i64 ((x : Nat) : Int))

set_option maxRecDepth 8000 in
set_option maxHeartbeats 1000000 in
theorem members_any {w : World} {s : Value} {mo : Option Nat} {M : Nat → Bool} (h : View w s mo M) :
    Calls Try.prog 32 #[s] w fun e w' => ∃ v, e = .returned v ∧ OwnInts w' w.heap.size v (memFrom M 0) ∧ Below w.heap.size w w' := by
  obtain ⟨i0, hi, hz0, hz1, hz2⟩ := info_parts info3
  have hln := len_any h
  have hcl := card_le M
  have hML := memFrom_len h.map.bound 0
  generalize card M = cd at hln hcl
  refine calls_of_wp_marks Try.func32 rfl ?_
  simp only [Try.ntmps32, List.size_toArray, List.length_cons, List.length_nil, Nat.reduceAdd, Nat.reduceSub, Array.replicate_succ, Array.replicate_zero, List.push_toArray, List.append_toArray, List.nil_append, List.cons_append]
  go_wp2_with (first
    | (go_at_call 24; refine hln.mono ?_; rintro e w1 ⟨rfl, hB1⟩; have hz : w.heap.size ≤ w1.heap.size := hB1.size)
    | (at_make; refine wpList_make_own _ rfl _ _ 22 rfl w.heap.size 3 i0 (.int .i64 0) 1 underInts hi hz0 hz1 .i64 .i64 _ cd rfl rfl rfl (by rw [hz2]; omega) (by unfold maxLen; omega) hz ?_; intro w2 hrow hg2; have hB2 : Below w.heap.size w w2 := hB1.grown hg2 hz (fun k e => by cases e); have hea : ∀ o, _ := fun o => each_any ((h.below hB2).below (below_new1 w2 o)) 0 (by decide))
    | (go_at_call 38; refine (hea _).mono ?_; rintro e w3 ⟨bl, bf, rfl, vp, hl, hF, hP, hB3, hbl, hbf, hob⟩))
  rw [World.size_alloc] at hbl hbf hob
  have hB02 : Below w.heap.size w (w2.alloc (.cells #[.slice (some ⟨w1.heap.size, 0, none⟩) 0 cd] 22)) := hB2.alloc hB2.size _
  have hBw := below_new hB02 hB3
  have hbx : Boxed w3 w2.heap.size 22 (.slice (some ⟨w1.heap.size, 0, none⟩) 0 cd) := below_holds hB3 (Boxed.new w2 _ _)
  have hrw : w3.ownsRow w.heap.size 3 1 (.slice (some ⟨w1.heap.size, 0, none⟩) 0 cd) 0 [] := ownsRow_below hB3 (hrow.alloc _)
  have hw2 : w.heap.size ≤ w2.heap.size := hB2.size
  have hw12 : w1.heap.size < w2.heap.size := (hrow.lt _ rfl).2
  have hw3 : w2.heap.size < w3.heap.size := hbx.lt
  have hbfl := hF.lt
  have hpl : ∀ k, vp.ownBlock = some k → k < w3.heap.size := fun k e => by
    rcases hP with ⟨rfl, _⟩ | ⟨g, cap, rfl, hg, _⟩
    · cases e
    · simp [Value.ownBlock] at e; omega
  have hSl : ∀ k, (k = bf ∨ vp.ownBlock = some k) → k < w3.heap.size := fun k hk => by
    rcases hk with rfl | hk
    · exact hbfl
    · exact hpl k hk
  have hSg : ∀ k, (k = bf ∨ vp.ownBlock = some k) → w2.heap.size < k := fun k hk => by
    rcases hk with rfl | hk
    · omega
    · have := hob k hk; omega
  clear hea hrow hg2 hB3 hB02
  refine wp_rangeSeqO rfl (enters_of Try.func61 (by kernel_rfl) rfl) (each_seqM (f := 0) hl hF hP (by decide)) (Below.refl _ _) hSl
    (fun pre O W => (∃ v, Boxed W w2.heap.size 22 v ∧ OwnInts W w.heap.size v pre ∧ O = rowO v w3.heap.size ∧ (∀ k, (k = bf ∨ vp.ownBlock = some k) → v.ownBlock ≠ some k)) ∧ Below w.heap.size w W ∧ w3.heap.size ≤ W.heap.size)
    (fun _ _ _ => False)
    (fun O s A B row hs hg hr => by
      obtain ⟨⟨v, h1, h2, h3, h4⟩, h5, h6⟩ := hs
      exact ⟨⟨v, holds_kept hg hr h1, ownsRow_kept hg hr h2, h3, h4⟩, below_kept hg hr (by omega) (Nat.le_refl _) h5, Nat.le_trans h6 hg.size⟩)
    (fun c s A B row hs hg hr => hs)
    ⟨⟨_, hbx, hrw, by funext k; simp [rowO, Value.ownBlock]; omega, fun k hk e => by have := hSg k hk; simp [Value.ownBlock] at e; omega⟩, hBw, Nat.le_refl _⟩
    (fun pre O W hs k hk => by
      obtain ⟨⟨v, h1, h2, rfl, h4⟩, _⟩ := hs
      exact rowO_cells h2 hk)
    (fun x => { tmps := #[s, undef, .slice none 0 0, .pointer (some ⟨w2.heap.size, 0, none⟩), .int .i64 (x : Nat), s, .int .i64 (cd : Nat), .slice (some ⟨w1.heap.size, 0, none⟩) 0 cd, s, .func (.func 61) #[] #[.pointer (some ⟨bl, 0, none⟩), .pointer (some ⟨bf, 0, none⟩)], .int .i64 (x : Nat), undef, undef, undef, undef, undef], defers := [] }) ?assign ?body ?done ?stop
  case assign =>
    intro l x W K hK
    gi_wp2
    exact hK
  case body =>
    rintro l pre x rest O W hL hsz ⟨⟨v, hv, hr, rfl, hne⟩, gB, gs⟩
    have hlen : pre.length < 2147483648 := by
      have e : (memFrom M 0).length = pre.length + (rest.length + 1) := by rw [hL]; simp
      omega
    have hc := hv.cell
    have hxw : IntKind.i64.wrap (x : Int) = x := by
      have := h.map.bound x ((mem_memFrom h.map.bound (f := 0)).1 (by rw [hL]; simp)).2
      rw [IntKind.wrap_i64]; omega
    clear hL hl hF hP hbx hrw
    gi_wp2_with (gi_at_builtin; refine wpListIn_append_own2 _ rfl _ _ 22 rfl w.heap.size 3 i0 (.int .i64 0) 1 8 underInts hi hz0 hz1 hz2 rfl (by decide) _ _ _ rfl (hr.alloc _) ⟨W.heap.size, 0, none⟩ 1 1 [.int .i64 ((x : Nat) : Int)] rfl rfl (cell_one_new _ _ _) (by simp [Value.oneCell']) (by decide) (by unfold maxLen; omega) (by omega) (by have := gB.size; simp; omega) ?_; intro v' w5 hown' hgrow hwh; obtain ⟨g', cap', rfl⟩ := ownsRow_succ hown'; obtain ⟨hv1, hv2, hr2, hk2, hb2⟩ := hv.appended (by decide) hr gB.size hw2 hown' hgrow; have hc1 := hv1.cell; have hf1 := hv1.frozen)
    refine ⟨hk2.from _, keepB_append hgrow _ (fun k hk => ⟨by have := hSl k hk; omega, fun e => hne k hk e.symm, by have := hSg k hk; omega⟩), keepO_append hgrow _ hw3, rowO (.slice (some ⟨g', 0, none⟩) (pre.length + 1) cap') w3.heap.size, rowO_next hwh, ⟨_, hv2, ?_, rfl, fun k hk e => ?_⟩, gB.trans hb2, ?_⟩
    · unfold OwnInts
      rw [List.length_append, List.map_append]
      exact hr2
    · rcases hwh with q | q
      · rw [q] at e; exact hne k hk e
      · rw [q] at e
        injection e with e
        have := hSl k hk
        simp at e
        omega
    · have := hgrow.size
      simp at this ⊢
      omega
  case done =>
    rintro D O W hD ⟨⟨v, hv, hr, rfl, hne⟩, gB, gs⟩ hK
    have hc := hv.cell
    clear hl hF hP hbx hrw
    go_wp2_with fail
    refine leaves_marks (Marks.one (B := w.heap.size) (by omega) hK) fun w' hw' => ⟨_, results_tmp rfl _ _ _, _, rfl, ?_, gB.trans hw'.below⟩
    exact ownsRow_shut hw' hr
  case stop =>
    rintro D c pre x rest W _ _ h _
    exact h.elim
end Go.Proofs.Ytiokbhbggpibpaa
