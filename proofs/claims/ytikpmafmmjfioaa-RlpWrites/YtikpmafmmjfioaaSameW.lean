/-
  Same, at two values that stand for one thing.
-/
import Derived.Test.YtikpmafmmjfioaaRQuiet
namespace Go.Proofs.Ytikpmafmmjfioaa
open Go Go.RowKit

def Row.sz : Row → Nat
  | .nil => 0
  | .item _ _ i r => 1 + i.sz + r.sz
def Row.at : Row → Nat → Bool × List UInt8 × Row
  | .nil, _ => (false, [], .nil)
  | .item b s i _, 0 => (b, s, i)
  | .item _ _ _ r, k + 1 => r.at k
theorem Row.at_sz : ∀ (r : Row) (k : Nat), k < r.len → (r.at k).2.2.sz < r.sz
  | .nil, k, h => by simp [Row.len] at h
  | .item b s i r, 0, _ => by simp only [Row.at, Row.sz]; omega
  | .item b s i r, k + 1, h => by
    have := Row.at_sz r k (by simp only [Row.len] at h; omega)
    simp only [Row.at, Row.sz]; omega
theorem Lies.get {w : World} {S : Nat → Prop} : ∀ {r : Row} {a : Option Addr} (_ : Lies w S r a) (k : Nat), k < r.len → ∃ bk o a' c', a = some ⟨bk, o, none⟩ ∧ S bk ∧
      w.cell? ⟨bk, o + 3 * k, none⟩ = some (.bool (r.at k).1) ∧ w.cell? ⟨bk, o + 3 * k + 1, none⟩ = some (.string ⟨(r.at k).2.1.toArray⟩) ∧ w.cell? ⟨bk, o + 3 * k + 2, none⟩ = some (.slice a' (r.at k).2.2.len c') ∧
      (r.at k).2.2.len < 4611686018427387904 ∧ Lies w S (r.at k).2.2 a'
  | .nil, _, _, k, h => by simp [Row.len] at h
  | .item b s i r, a, hl, 0, _ => by
    obtain ⟨bk, o, a', c', h1, h2, h3, h4, h5, _, h7, h8, _⟩ := hl
    exact ⟨bk, o, a', c', h1, h2, h3, h4, h5, h7, h8⟩
  | .item b s i r, a, hl, k + 1, hk => by
    obtain ⟨bk, o, a', c', h1, h2, _, _, _, _, _, _, h9⟩ := hl
    obtain ⟨bk2, o2, a2, c2, g1, g2, g3, g4, g5, g6, g7⟩ := Lies.get h9 k (by simp only [Row.len] at hk; omega)
    cases g1
    refine ⟨bk, o, a2, c2, h1, h2, ?_, ?_, ?_, g6, g7⟩
    · rw [show o + 3 * (k + 1) = o + 3 + 3 * k by omega]; exact g3
    · rw [show o + 3 * (k + 1) = o + 3 + 3 * k by omega]; exact g4
    · rw [show o + 3 * (k + 1) = o + 3 + 3 * k by omega]; exact g5

section
variable {P : Program} {ops : Array Oper} {rest : List Oper} {op : Oper} {a : Act} {C : World → Prop} {Q : Act → Prop}
theorem wpQ_valC (hw : Region.wanted op (yielded ops a.tmps) = true) (v : Value) (hv : ∀ w, C w → (execOp a.eval op).run P w = .ok (.value v) w)
    (h : wpQuiet P ops C Q rest (a.put op.dst v)) : wpQuiet P ops C Q (op :: rest) a :=
  wpQuiet_step fun _ hK => by
    rw [if_pos hw]
    refine ⟨v, fun w hw => ?_, hK _ h⟩
    unfold Oper.quietAt
    rw [hv w hw]
    exact ⟨rfl, rfl⟩
theorem wpQ_loadMid (hw : Region.wanted op (yielded ops a.tmps) = true) (ty : TypeId) (x : Operand) (ho : op.op = .load ty x)
    (b o : Nat) (hx : a.eval x = .pointer (some ⟨b, o, none⟩)) (cs : List Value) (d : TypeDesc) (hh : ∀ w, C w → w.rangeAt b o cs)
    (hu : P.underlying ty = some d) (hd : d.isRow = true) (hi : (P.info? ty).map (·.size) = some cs.length)
    (h : wpQuiet P ops C Q rest (a.put op.dst (.agg cs.toArray))) : wpQuiet P ops C Q (op :: rest) a :=
  wpQuiet_step fun _ hK => by
    rw [if_pos hw]
    refine ⟨.agg cs.toArray, fun w hw => ?_, hK _ h⟩
    unfold Oper.quietAt execOp
    simp only [ho, hx, Instr.loadAt, Instr.sureAddr, Sem.run_bind, Sem.run_pure, Result.andThen_ok, run_loadVar_mid w b o ty cs d (hh w hw) hu hd hi]
    exact ⟨rfl, rfl⟩
end
theorem below_drew1 (w : World) : Below w.heap.size w w.drew := ⟨rfl, rfl, rfl, Nat.le_refl _, fun _ _ => rfl⟩
theorem mixedR : Try.prog.follows .mixedOrders = true := by kernel_rfl

set_option maxRecDepth 8000 in
set_option maxHeartbeats 4000000 in
theorem same_any (N : Nat) : ∀ (i : Row) (b : Bool) (s : List UInt8) (a1 a2 : Option Addr) (c1 c2 : Nat) (w : World), i.sz < N → i.len < 4611686018427387904 →
    Lies w (fun k => k < w.heap.size) i a1 → Lies w (fun k => k < w.heap.size) i a2 →
    Calls Try.prog 19 #[.agg #[.bool b, .string ⟨s.toArray⟩, .slice a1 i.len c1], .agg #[.bool b, .string ⟨s.toArray⟩, .slice a2 i.len c2]] w fun e w' => e = .returned (.bool true) ∧ Below w.heap.size w w' := by
  induction N with
  | zero => intro i b s a1 a2 c1 c2 w h; omega
  | succ N ih =>
    intro i b s a1 a2 c1 c2 w hN hlen hl1 hl2
    have IH : Hid _ := ih
    clear ih
    obtain ⟨L, hL⟩ : ∃ L, L = i.len := ⟨_, rfl⟩
    have HL : Hid (L = i.len) := hL
    rw [← hL] at hlen ⊢
    clear hL
    have hLi : (L : Int) < 4611686018427387904 := by omega
    obtain ⟨n, hn⟩ : ∃ n, n = w.heap.size := ⟨_, rfl⟩
    have HN : Hid (n = w.heap.size) := hn
    have H1 : Hid (Lies w (fun k => k < w.heap.size) i a1 ∧ Lies w (fun k => k < w.heap.size) i a2) := ⟨hl1, hl2⟩
    clear hn hl1 hl2
    go_enter Try.func19, Try.ntmps19
    go_wp2_with fail
    all_goals rw [← HN.out]
    go_loopw [5] (fun y wr => ∃ k : Nat, k ≤ L ∧ y = .int .i64 k ∧ Below n w wr ∧ n + 2 ≤ wr.heap.size ∧ Holds wr n 24 #[.bool b, .string ⟨s.toArray⟩, .slice a1 L c1] ∧ Holds wr (n + 1) 24 #[.bool b, .string ⟨s.toArray⟩, .slice a2 L c2]) (fun y _ => L - (intOf y).toNat)
    case atStart =>
      refine ⟨0, by omega, rfl, ?_, ?_, ?_, ?_⟩
      · rw [HN.out]; exact ((Below.refl _ _).alloc (Nat.le_refl _) _).alloc (by simp) _
      · rw [World.size_alloc, World.size_alloc, HN.out]; omega
      · rw [HN.out]; exact (Holds.new w _ _).alloc _
      · have h := Holds.new (w.alloc (.cells #[.bool b, .string ⟨s.toArray⟩, .slice a1 L c1] 24)) 24 #[.bool b, .string ⟨s.toArray⟩, .slice a2 L c2]
        rw [World.size_alloc, ← HN.out] at h
        exact h
    case round =>
      obtain ⟨k, hk, rfl, hB, hsz, hh1, hh2⟩ := hrel
      by_cases hlt : k < L
      · have hki : (k : Int) < L := by omega
        have f2 := hh1.cell 2
        have g2 := hh2.cell 2
        simp at f2 g2
        obtain ⟨k1, o1, x1, y1, rfl, S1, p0, p1, p2, pl, pL⟩ := H1.out.1.get k (by have := HL.out; omega)
        obtain ⟨k2, o2, x2, y2, rfl, S2, q0, q1, q2, ql, qL⟩ := H1.out.2.get k (by have := HL.out; omega)
        have hsz2 := Row.at_sz i k (by have := HL.out; omega)
        rcases hat : i.at k with ⟨bb, ss, ii⟩
        rw [hat] at p0 p1 p2 pl pL q0 q1 q2 ql qL hsz2
        dsimp only at p0 p1 p2 pl pL q0 q1 q2 ql qL hsz2
        have HP : Hid (w.rangeAt k1 (o1 + 3 * k) [.bool bb, .string ⟨ss.toArray⟩, .slice x1 ii.len y1] ∧ w.rangeAt k2 (o2 + 3 * k) [.bool bb, .string ⟨ss.toArray⟩, .slice x2 ii.len y2]) := ⟨range3 p0 p1 p2, range3 q0 q1 q2⟩
        have HQ : Hid (Lies w (fun k => k < w.heap.size) ii x1 ∧ Lies w (fun k => k < w.heap.size) ii x2 ∧ k1 < n ∧ k2 < n ∧ ii.sz < N) := ⟨pL, qL, by have := HN.out; omega, by have := HN.out; omega, by omega⟩
        clear hat p0 p1 p2 q0 q1 q2 pL qL S1 S2 ql hsz2
        go_wp2_with fail
        have hcl : ∀ w2, Below wr.heap.size wr w2 → w2.cell? ⟨n, 2, none⟩ = some (.slice (some ⟨k1, o1, none⟩) L c1) ∧ w2.cell? ⟨n + 1, 2, none⟩ = some (.slice (some ⟨k2, o2, none⟩) L c2) := fun w2 h2 =>
          ⟨by rw [h2.cell (p := ⟨n, 2, none⟩) (by show n < _; omega)]; exact f2, by rw [h2.cell (p := ⟨n + 1, 2, none⟩) (by show n + 1 < _; omega)]; exact g2⟩
        have hrg : ∀ w2, Below wr.heap.size wr w2 → w2.rangeAt k1 (o1 + 3 * k) [.bool bb, .string ⟨ss.toArray⟩, .slice x1 ii.len y1] ∧ w2.rangeAt k2 (o2 + 3 * k) [.bool bb, .string ⟨ss.toArray⟩, .slice x2 ii.len y2] := fun w2 h2 => by
          have hh := HQ.out
          refine ⟨fun j v hv => ?_, fun j v hv => ?_⟩
          · rw [h2.cell (p := ⟨k1, o1 + 3 * k + j, none⟩) (by show k1 < _; omega), hB.cell (p := ⟨k1, o1 + 3 * k + j, none⟩) hh.2.2.1]; exact HP.out.1 j v hv
          · rw [h2.cell (p := ⟨k2, o2 + 3 * k + j, none⟩) (by show k2 < _; omega), hB.cell (p := ⟨k2, o2 + 3 * k + j, none⟩) hh.2.2.2.1]; exact HP.out.2 j v hv
        have hlw : ∀ w2, Below wr.heap.size wr w2 → Lies w2 (fun k => k < w2.heap.size) ii x1 ∧ Lies w2 (fun k => k < w2.heap.size) ii x2 := fun w2 h2 => by
          have hh := HQ.out
          have hn := HN.out
          have hz := h2.size
          exact ⟨(hh.1.kept fun j hj => (h2.block j (by omega)).trans (hB.block j (by omega))).mono fun j hj => by omega,
            (hh.2.1.kept fun j hj => (h2.block j (by omega)).trans (hB.block j (by omega))).mono fun j hj => by omega⟩
        refine wp_region_class (fun w' => Below wr.heap.size wr w') mixedR (by kernel_rfl) (below_drew1 _) ?_
        refine wpQ_val rfl (.pointer (some ⟨n, 2, none⟩)) (fun _ => by go_simp) ?_
        refine wpQ_valC rfl (.slice (some ⟨k1, o1, none⟩) L c1) (fun w2 h2 => by have hc := (hcl w2 h2).1; go_simp) ?_
        refine wpQ_val rfl (.int .i64 k) (fun _ => by go_simp) ?_
        refine wpQ_val rfl (.pointer (some ⟨k1, o1 + 3 * k, none⟩)) (fun w2 => by go_simp) ?_
        refine wpQ_loadMid rfl 24 _ rfl k1 (o1 + 3 * k) (by go_simp) _ _ (fun w2 h2 => (hrg w2 h2).1) Try.underlying24 rfl infoItem3 ?_
        refine wpQ_val rfl (.pointer (some ⟨n + 1, 2, none⟩)) (fun _ => by go_simp) ?_
        refine wpQ_valC rfl (.slice (some ⟨k2, o2, none⟩) L c2) (fun w2 h2 => by have hc := (hcl w2 h2).2; go_simp) ?_
        refine wpQ_val rfl (.int .i64 k) (fun _ => by go_simp) ?_
        refine wpQ_val rfl (.pointer (some ⟨k2, o2 + 3 * k, none⟩)) (fun w2 => by go_simp) ?_
        refine wpQ_loadMid rfl 24 _ rfl k2 (o2 + 3 * k) (by go_simp) _ _ (fun w2 h2 => (hrg w2 h2).2) Try.underlying24 rfl infoItem3 ?_
        refine wpQ_call rfl 19 #[.agg #[.bool bb, .string ⟨ss.toArray⟩, .slice x1 ii.len y1], .agg #[.bool bb, .string ⟨ss.toArray⟩, .slice x2 ii.len y2]] (fun _ => by go_simp) (.bool true) (fun w2 h2 => (IH.out ii bb ss x1 x2 y1 y2 w2 HQ.out.2.2.2.2 pl (hlw w2 h2).1 (hlw w2 h2).2).mono fun e w3 ⟨he, h3⟩ => ⟨he, h2.trans (h3.mono h2.size)⟩) ?_
        refine wpQ_val rfl (.bool true) (fun _ => by go_simp) ?_
        refine wpQuiet_nil ?_
        intro w4 h4
        have hh41 := below_holds h4 hh1
        have hh42 := below_holds h4 hh2
        have hB4 : Below n w w4 := hB.trans (h4.mono (by omega))
        have hs4 : n + 2 ≤ w4.heap.size := Nat.le_trans hsz h4.size
        have HF : Hid _ := And.intro hB4 (And.intro hs4 (And.intro hh41 hh42))
        clear hcl hrg hlw hh41 hh42 hB4 hs4 h4
        go_wp2_with fail
        go_roundw
        case rel =>
          obtain ⟨e1, e2, e3, e4⟩ := HF.out
          exact ⟨k + 1, by omega, rfl, e1, e2, e3, e4⟩
        case measure => simp [intOf]; omega
      · have hki : ¬ (k : Int) < L := by omega
        have f2 := hh1.cell 2
        simp at f2
        go_wp2_with fail
        go_ret
        exact ⟨rfl, by rw [← HN.out]; exact hB⟩
end Go.Proofs.Ytikpmafmmjfioaa
