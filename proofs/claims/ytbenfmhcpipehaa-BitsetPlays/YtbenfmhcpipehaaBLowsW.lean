/-
  What lows hands out: a container's lower parts from a number on, rising.
-/
import Derived.Test.YtbenfmhcpipehaaBSeq
import Derived.Shelf.RegionOpen
namespace Go.Proofs.Ytbenfmhcpipehaa
open Go Go.RowKit
attribute [local go_sem] Oper.semAt_some

theorem grown_below {w w' : World} (h : Below w.heap.size w w') : w.grownBy w' none := ⟨h.os, h.tape, h.output, h.size, fun i hi _ => h.block i hi⟩
theorem OwnFrom.grow {β : Type} {B : Nat} {I : β → World → Prop} (h : OwnFrom B I) {s : β} {w w' : World} (hs : I s w) (hb : Below w.heap.size w w') : I s w' :=
  h s w w' none hs (grown_below hb) (fun r e => by cases e)
theorem OwnFrom.up {β : Type} {B B' : Nat} {I : β → World → Prop} (h : OwnFrom B I) (hB : B ≤ B') : OwnFrom B' I :=
  fun s w w' row hs hg hr => h s w w' row hs hg (fun r e => ⟨Nat.le_trans hB (hr r e).1, (hr r e).2⟩)

section
variable {F : Fence} {n : Nat} {P : Program}
theorem wpListIn_loadH {ops : Array Oper} {rest : List Oper} {op : Oper} {a : Act} {w : World} {Q : Exit → Act → World → Prop} (hgd : op.guard = none) (ty : TypeId) (x : Operand) (ho : op.op = .load ty x)
    (b : Nat) (hx : a.eval x = .pointer (some ⟨b, 0, none⟩)) (t : TypeId) (cs : Array Value) (d : TypeDesc) (hh : Holds w b t cs)
    (hu : P.underlying ty = some d) (hd : d.isRow = true) (hi : (P.info? ty).map (·.size) = some cs.size)
    (h : wpListIn F n P ops Q rest (a.put op.dst (.agg cs)) w) : wpListIn F n P ops Q (op :: rest) a w :=
  wpListIn_plain hgd fun _ hK => by
    unfold Oper.wpIn
    refine ⟨by simp [Oper.about, ho], ?_⟩
    rw [Oper.semAt_plain F _ _ (by rw [ho]; intro c hc'; cases hc')]
    unfold execOp
    simp only [ho, hx, Instr.loadAt, Instr.sureAddr, Sem.run_bind, Sem.run_pure, Result.andThen_ok, run_loadVar_row w b t ty cs (0, 0) d hh hu (by cases d <;> simp_all) hi]
    exact hK _ _ h
theorem wpListIn_storeH {ops : Array Oper} {rest : List Oper} {op : Oper} {a : Act} {w : World} {Q : Exit → Act → World → Prop} (hgd : op.guard = none) (ty : TypeId) (x y : Operand) (ho : op.op = .store ty x y)
    (b : Nat) (cells : Array Value) (hx : a.eval x = .pointer (some ⟨b, 0, none⟩)) (hy : a.eval y = .agg cells)
    (t : TypeId) (old : Array Value) (hh : Holds w b t old) (hi : (P.info? ty).map (·.size) = some cells.size) (hz : old.size = cells.size) (h1 : cells.all (·.oneCell') = true)
    (h : ∀ w', Holds w' b t cells → Only b w w' → w'.heap.size = w.heap.size → wpListIn F n P ops Q rest (a.put op.dst undef) w') : wpListIn F n P ops Q (op :: rest) a w :=
  wpListIn_plain hgd fun _ hK => by
    unfold Oper.wpIn
    refine ⟨by simp [Oper.about, ho], ?_⟩
    rw [Oper.semAt_plain F _ _ (by rw [ho]; intro c hc'; cases hc')]
    unfold execOp
    simp only [ho, hx, hy, Instr.storeAt, Instr.sureAddr, Sem.run_bind, Sem.run_pure, Result.andThen_ok, run_storeVar_row w b t ty old cells hh hi hz h1]
    exact hK _ _ (h _ (setRow_heap w b old cells t (0, 0) hh)
      ⟨rfl, rfl, rfl, by simp [World.setRow], fun k _ hb => World.setRow_other w b k cells hb⟩ (by simp [World.setRow]))
end
theorem wpListIn_ldC {F : Fence} {n : Nat} {ops : Array Oper} {rest : List Oper} {op : Oper} {a : Act} {w : World} {Q : Exit → Act → World → Prop} (hgd : op.guard = none) (x : Operand) (ho : op.op = .load 74 x)
    {b : Nat} (hx : a.eval x = .pointer (some ⟨b, 0, none⟩)) {t : TypeId} {p : Nat → Bool} (hh : Holds w b t (contA p))
    (h : wpListIn F n Try.prog ops Q rest (a.put op.dst (.agg (contA p))) w) : wpListIn F n Try.prog ops Q (op :: rest) a w :=
  wpListIn_loadH hgd 74 x ho b hx t _ _ hh Try.underlying74 rfl (infoC p) h
theorem wpListIn_stC {F : Fence} {n : Nat} {ops : Array Oper} {rest : List Oper} {op : Oper} {a : Act} {w : World} {Q : Exit → Act → World → Prop} (hgd : op.guard = none) (x y : Operand) (ho : op.op = .store 74 x y)
    {b : Nat} {q : Nat → Bool} (hx : a.eval x = .pointer (some ⟨b, 0, none⟩)) (hy : a.eval y = .agg (contA q))
    {t : TypeId} {p : Nat → Bool} (hh : Holds w b t (contA p))
    (h : ∀ w', Holds w' b t (contA q) → Only b w w' → w'.heap.size = w.heap.size → wpListIn F n Try.prog ops Q rest (a.put op.dst undef) w') : wpListIn F n Try.prog ops Q (op :: rest) a w :=
  wpListIn_storeH hgd 74 x y ho b _ hx hy t _ hh (infoC q) (by rw [contA_size, contA_size]) (contA_one q) h

theorem lowsL_end (p : Nat → Bool) (k : Nat) (h : 256 ≤ k) : lowsL p k = [] := by
  unfold lowsL
  rw [List.filter_eq_nil_iff]
  intro l hl
  have := List.mem_range.1 hl
  simp
  omega
theorem range_split (k : Nat) (h : k < 256) : List.range 256 = List.range k ++ k :: List.range' (k + 1) (255 - k) := by
  rw [List.range_eq_range', List.range_eq_range']
  have e : (256 : Nat) = k + (1 + (255 - k)) := by omega
  conv => lhs; rw [e]
  rw [← List.range'_append_1, ← List.range'_append_1, Nat.zero_add]
  rfl
theorem lowsL_step (p : Nat → Bool) (k : Nat) (h : k < 256) : lowsL p k = (if p k then [k] else []) ++ lowsL p (k + 1) := by
  unfold lowsL
  rw [range_split k h]
  simp only [List.filter_append, List.filter_cons]
  have h1 : (List.range k).filter (fun l => decide (k ≤ l) && p l) = [] := by
    rw [List.filter_eq_nil_iff]; intro l hl; have := List.mem_range.1 hl; simp; omega
  have h2 : (List.range k).filter (fun l => decide (k + 1 ≤ l) && p l) = [] := by
    rw [List.filter_eq_nil_iff]; intro l hl; have := List.mem_range.1 hl; simp; omega
  have h3 : (List.range' (k + 1) (255 - k)).filter (fun l => decide (k ≤ l) && p l) = (List.range' (k + 1) (255 - k)).filter (fun l => decide (k + 1 ≤ l) && p l) := by
    refine List.filter_congr fun l hl => ?_
    have := List.mem_range'_1.1 hl
    rw [decide_eq_true (by omega), decide_eq_true (by omega)]
  rw [h1, h2, h3]
  have h4 : (decide (k + 1 ≤ k) && p k) = false := by rw [decide_eq_false (by omega)]; rfl
  have h5 : (decide (k ≤ k) && p k) = p k := by simp
  rw [h4, h5]
  cases p k <;> simp
theorem lowsL_skip (p : Nat → Bool) : ∀ (n k : Nat), k + n ≤ 256 → (∀ l, k ≤ l → l < k + n → p l = false) → lowsL p k = lowsL p (k + n)
  | 0, _, _, _ => rfl
  | n + 1, k, h, hp => by
    rw [lowsL_step p k (by omega), hp k (by omega) (by omega), lowsL_skip p n (k + 1) (by omega) (fun l h1 h2 => hp l (by omega) (by omega)), show k + 1 + n = k + (n + 1) by omega]
    rfl
theorem lowsL_lt {p : Nat → Bool} {k l : Nat} (h : l ∈ lowsL p k) : k ≤ l ∧ l < 256 ∧ p l = true := by
  unfold lowsL at h
  rw [List.mem_filter, List.mem_range] at h
  obtain ⟨h1, h2⟩ := h
  simp at h2
  exact ⟨h2.1, h1, h2.2⟩
theorem bt_zero {p : Nat → Bool} {k : Nat} (h : bt p (k / 8) = 0) : ∀ l, k ≤ l → l < 8 * (k / 8) + 8 → p l = false := fun l h1 h2 => by
  have := bt_testBit p (k / 8) (l % 8) (by omega)
  rw [h, show 8 * (k / 8) + l % 8 = l by omega] at this
  rw [← this]; simp
set_option maxRecDepth 100000 in
theorem or7 (k : Nat) (h : k < 256) : bits BinOp.or IntKind.i64 (k : Int) 7 = ((8 * (k / 8) + 7 : Nat) : Int) := by
  have := (bits_nat .i64 8 (by decide) (fun n h0 h1 => by rw [IntKind.wrap_i64]; omega) k 7 (by omega) (by decide)).2
  rw [show ((7 : Nat) : Int) = 7 from rfl] at this
  rw [this]
  have e : ∀ k : Fin 256, (k.val ||| 7) = 8 * (k.val / 8) + 7 := by decide
  rw [e ⟨k, h⟩]

set_option maxRecDepth 8000 in
theorem lows_in (p : Nat → Bool) (f : Int) (bC bF l : Nat) (J Jx : List Nat → World → Prop) (W : World) (hC : Holds W bC 74 (contA p)) (hF : Holds W bF 3 #[.int .i64 f]) (hJ : OwnFrom W.heap.size J)
    (hY : ∀ pre x rest W1, lowsL p f.toNat = pre ++ x :: rest → J pre W1 → YieldAt Fence.wide 0 Try.prog l #[.int .i64 (x : Nat)] W1 fun e W' =>
      (e = .returned (.bool true) ∧ J (pre ++ [x]) W' ∧ KeepB (fun k => k = bC) W1 W') ∨ (e = .returned (.bool false) ∧ Jx (pre ++ [x]) W'))
    (h0 : J [] W) :
    CallsIn Fence.wide 1 Try.prog 79 #[.func (.yield l) #[] #[], .pointer (some ⟨bF, 0, none⟩), .pointer (some ⟨bC, 0, none⟩)] W fun e W' => (∃ v, e = .returned v) ∧ (J (lowsL p f.toNat) W' ∨ ∃ pre x rest, lowsL p f.toNat = pre ++ x :: rest ∧ Jx (pre ++ [x]) W') := by
  have hFc : W.cell? ⟨bF, 0, none⟩ = some (.int .i64 f) := hF.cell 0
  clear hF
  obtain ⟨m, hm⟩ : ∃ m, f.toNat = m := ⟨_, rfl⟩
  rw [hm] at hY ⊢
  have HY : Hid (∀ pre x rest W1, lowsL p m = pre ++ x :: rest → J pre W1 → YieldAt Fence.wide 0 Try.prog l #[.int .i64 (x : Nat)] W1 fun e W' =>
      (e = .returned (.bool true) ∧ J (pre ++ [x]) W' ∧ KeepB (fun k => k = bC) W1 W') ∨ (e = .returned (.bool false) ∧ Jx (pre ++ [x]) W')) := hY
  clear hY
  by_cases hf : f < 0
  · obtain rfl : m = 0 := by omega
    clear hm
    have hf0 : ¬ 0 ≤ f := by omega
    refine callsIn_of_wp Try.func79 rfl trivial ?_ rfl
    simp only [Try.ntmps79, List.size_toArray, List.length_cons, List.length_nil, Nat.reduceAdd, Nat.reduceSub, Array.replicate_succ, Array.replicate_zero, List.push_toArray, List.append_toArray, List.nil_append, List.cons_append]
    gi_wp2
    gi_loopw [4] (fun y wr => ∃ (k : Nat) (pre : List Nat), y = .int .i64 (k : Nat) ∧ lowsL p 0 = pre ++ lowsL p k ∧ J pre wr ∧ Holds wr bC 74 (contA p) ∧ W.heap.size ≤ wr.heap.size) (fun y _ => 256 - (intOf y).toNat)
    case atStart => exact ⟨0, [], by rfl, rfl, h0, hC, Nat.le_refl _⟩
    case round =>
      obtain ⟨k, pre, rfl, hL, hj, hc, hsz⟩ := hrel
      by_cases hk : k < 256
      · have hki : (k : Int) < 256 := by omega
        have hk0 : (0 : Int) ≤ k := by omega
        have hcell := hc.cell (k / 8)
        rw [contA_get p (k / 8) (by omega)] at hcell
        by_cases hz : bt p (k / 8) = 0
        · rw [hz] at hcell
          have ho := or7 k hk
          have HL : Hid (lowsL p 0 = pre ++ lowsL p (8 * (k / 8) + 7 + 1)) := by
            have e := lowsL_skip p (8 * (k / 8) + 8 - k) k (by omega) (fun l h1 h2 => bt_zero hz l h1 (by omega))
            rw [show k + (8 * (k / 8) + 8 - k) = 8 * (k / 8) + 7 + 1 by omega] at e
            rw [← e]; exact hL
          clear hz hL
          have hq : ((8 * (k / 8) + 7 : Nat) : Int) < 9223372036854775807 := by omega
          have hq0 : (0 : Int) ≤ ((8 * (k / 8) + 7 : Nat) : Int) := by omega
          have hkk : k ≤ 8 * (k / 8) + 7 := by omega
          generalize 8 * (k / 8) + 7 = kk at ho HL hq hq0 hkk
          gi_wp2
          go_roundw
          case rel => exact ⟨kk + 1, pre, by simp, HL.out, hj, hc, hsz⟩
          case measure => simp [intOf]; omega
        · have hzi : ¬ ((bt p (k / 8) : Nat) : Int) = 0 := by omega
          cases hp : p k with
          | true =>
            have HL : Hid (lowsL p 0 = pre ++ k :: lowsL p (k + 1)) := by
              rw [lowsL_step p k hk, hp] at hL; exact hL
            have hh := has_any p k
            rw [hp] at hh
            have HH : Hid _ := hh
            clear hz hL hh hp
            gi_wp2_with (first
              | (refine wpListIn_ldC rfl _ rfl rfl hc ?_)
              | (refine ⟨trivial, ?_⟩; gi_at_call 66; refine (callsIn_wide.2 (HH.out wr hk)).mono ?_; rintro e w1 ⟨rfl, hB1⟩; obtain ⟨fn, tmps, assign, body, hy, hR⟩ := HY.out pre k _ w1 HL.out (OwnFrom.grow hJ hj hB1)))
            refine hR.mono ?_
            rintro e W3 (⟨rfl, hJ3, hk3⟩ | ⟨rfl, hJx3⟩)
            · have hc3 := hk3.holds rfl (below_holds hB1 hc)
              have hs3 := hk3.size
              have hs1 := hB1.size
              clear hy hR
              gi_wp2
              go_roundw
              case rel => exact ⟨k + 1, pre ++ [k], by simp, by rw [HL.out]; simp, hJ3, hc3, by omega⟩
              case measure => simp [intOf]; omega
            · clear hy hR
              gi_wp2
              refine bodyPost_ret (results_none rfl _ _ _) rfl ?_
              exact ⟨⟨_, rfl⟩, .inr ⟨pre, k, _, HL.out, hJx3⟩⟩
          | false =>
            have HL : Hid (lowsL p 0 = pre ++ lowsL p (k + 1)) := by
              rw [lowsL_step p k hk, hp] at hL; exact hL
            have hh := has_any p k
            rw [hp] at hh
            have HH : Hid _ := hh
            clear hz hL hh hp
            gi_wp2_with (first
              | (refine wpListIn_ldC rfl _ rfl rfl hc ?_)
              | (refine ⟨trivial, ?_⟩; gi_at_call 66; refine (callsIn_wide.2 (HH.out wr hk)).mono ?_; rintro e w1 ⟨rfl, hB1⟩))
            have hs1 := hB1.size
            refine ⟨fun _ h => (by cases h), ?_⟩
            gi_wp2
            go_roundw
            case rel => exact ⟨k + 1, pre, by simp, HL.out, OwnFrom.grow hJ hj hB1, below_holds hB1 hc, by omega⟩
            case measure => simp [intOf]; omega
      · have hki : ¬ (k : Int) < 256 := by omega
        rw [lowsL_end p k (by omega), List.append_nil] at hL
        have HL : Hid _ := hL
        clear hL
        gi_wp2
        go_end0
        exact ⟨⟨_, rfl⟩, .inl (by rw [HL.out]; exact hj)⟩
  · obtain rfl : f = (m : Int) := by omega
    clear hm hf
    have hm0 : ¬ (m : Int) < 0 := by omega
    have hm1 : (0 : Int) ≤ m := by omega
    refine callsIn_of_wp Try.func79 rfl trivial ?_ rfl
    simp only [Try.ntmps79, List.size_toArray, List.length_cons, List.length_nil, Nat.reduceAdd, Nat.reduceSub, Array.replicate_succ, Array.replicate_zero, List.push_toArray, List.append_toArray, List.nil_append, List.cons_append]
    gi_wp2
    gi_loopw [4] (fun y wr => ∃ (k : Nat) (pre : List Nat), y = .int .i64 (k : Nat) ∧ lowsL p m = pre ++ lowsL p k ∧ J pre wr ∧ Holds wr bC 74 (contA p) ∧ W.heap.size ≤ wr.heap.size) (fun y _ => 256 - (intOf y).toNat)
    case atStart => exact ⟨m, [], by rfl, rfl, h0, hC, Nat.le_refl _⟩
    case round =>
      obtain ⟨k, pre, rfl, hL, hj, hc, hsz⟩ := hrel
      by_cases hk : k < 256
      · have hki : (k : Int) < 256 := by omega
        have hk0 : (0 : Int) ≤ k := by omega
        have hcell := hc.cell (k / 8)
        rw [contA_get p (k / 8) (by omega)] at hcell
        by_cases hz : bt p (k / 8) = 0
        · rw [hz] at hcell
          have ho := or7 k hk
          have HL : Hid (lowsL p m = pre ++ lowsL p (8 * (k / 8) + 7 + 1)) := by
            have e := lowsL_skip p (8 * (k / 8) + 8 - k) k (by omega) (fun l h1 h2 => bt_zero hz l h1 (by omega))
            rw [show k + (8 * (k / 8) + 8 - k) = 8 * (k / 8) + 7 + 1 by omega] at e
            rw [← e]; exact hL
          clear hz hL
          have hq : ((8 * (k / 8) + 7 : Nat) : Int) < 9223372036854775807 := by omega
          have hq0 : (0 : Int) ≤ ((8 * (k / 8) + 7 : Nat) : Int) := by omega
          have hkk : k ≤ 8 * (k / 8) + 7 := by omega
          generalize 8 * (k / 8) + 7 = kk at ho HL hq hq0 hkk
          gi_wp2
          go_roundw
          case rel => exact ⟨kk + 1, pre, by simp, HL.out, hj, hc, hsz⟩
          case measure => simp [intOf]; omega
        · have hzi : ¬ ((bt p (k / 8) : Nat) : Int) = 0 := by omega
          cases hp : p k with
          | true =>
            have HL : Hid (lowsL p m = pre ++ k :: lowsL p (k + 1)) := by
              rw [lowsL_step p k hk, hp] at hL; exact hL
            have hh := has_any p k
            rw [hp] at hh
            have HH : Hid _ := hh
            clear hz hL hh hp
            gi_wp2_with (first
              | (refine wpListIn_ldC rfl _ rfl rfl hc ?_)
              | (refine ⟨trivial, ?_⟩; gi_at_call 66; refine (callsIn_wide.2 (HH.out wr hk)).mono ?_; rintro e w1 ⟨rfl, hB1⟩; obtain ⟨fn, tmps, assign, body, hy, hR⟩ := HY.out pre k _ w1 HL.out (OwnFrom.grow hJ hj hB1)))
            refine hR.mono ?_
            rintro e W3 (⟨rfl, hJ3, hk3⟩ | ⟨rfl, hJx3⟩)
            · have hc3 := hk3.holds rfl (below_holds hB1 hc)
              have hs3 := hk3.size
              have hs1 := hB1.size
              clear hy hR
              gi_wp2
              go_roundw
              case rel => exact ⟨k + 1, pre ++ [k], by simp, by rw [HL.out]; simp, hJ3, hc3, by omega⟩
              case measure => simp [intOf]; omega
            · clear hy hR
              gi_wp2
              refine bodyPost_ret (results_none rfl _ _ _) rfl ?_
              exact ⟨⟨_, rfl⟩, .inr ⟨pre, k, _, HL.out, hJx3⟩⟩
          | false =>
            have HL : Hid (lowsL p m = pre ++ lowsL p (k + 1)) := by
              rw [lowsL_step p k hk, hp] at hL; exact hL
            have hh := has_any p k
            rw [hp] at hh
            have HH : Hid _ := hh
            clear hz hL hh hp
            gi_wp2_with (first
              | (refine wpListIn_ldC rfl _ rfl rfl hc ?_)
              | (refine ⟨trivial, ?_⟩; gi_at_call 66; refine (callsIn_wide.2 (HH.out wr hk)).mono ?_; rintro e w1 ⟨rfl, hB1⟩))
            have hs1 := hB1.size
            refine ⟨fun _ h => (by cases h), ?_⟩
            gi_wp2
            go_roundw
            case rel => exact ⟨k + 1, pre, by simp, HL.out, OwnFrom.grow hJ hj hB1, below_holds hB1 hc, by omega⟩
            case measure => simp [intOf]; omega
      · have hki : ¬ (k : Int) < 256 := by omega
        rw [lowsL_end p k (by omega), List.append_nil] at hL
        have HL : Hid _ := hL
        clear hL
        gi_wp2
        go_end0
        exact ⟨⟨_, rfl⟩, .inl (by rw [HL.out]; exact hj)⟩

/-- What lows hands back. -/
theorem lows_seq (p : Nat → Bool) (f : Int) (bC bF : Nat) (w : World) (hC : Holds w bC 74 (contA p)) (hF : Holds w bF 3 #[.int .i64 f]) :
    SeqW Try.prog 79 #[.pointer (some ⟨bF, 0, none⟩), .pointer (some ⟨bC, 0, none⟩)] (fun x : Nat => .int .i64 (x : Nat)) (fun k => k = bC) (lowsL p f.toNat) w :=
  fun l J Jx W hW hJ _ hY h0 => callsIn_wide.1 (lows_in p f bC bF l J Jx W (below_holds hW hC) (below_holds hW hF) hJ hY h0)
end Go.Proofs.Ytbenfmhcpipehaa
