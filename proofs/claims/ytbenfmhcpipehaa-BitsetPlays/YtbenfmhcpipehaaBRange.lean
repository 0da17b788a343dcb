/-
  A range over a set's map, and the sum of what its containers have.
-/
import Derived.Test.YtbenfmhcpipehaaBNewW
import Derived.Test.YtbenfmhcpipehaaShelf
namespace Go.Proofs.Ytbenfmhcpipehaa
open Go Go.RowKit Go.Maps

/-- A range over a map, or over none, on its way: r is its own block; lf says which upper parts are still to come. -/
def RangV (w : World) (r : Nat) (M : Nat → Bool) (lf : Nat → Bool) (cnt : Nat) : Option Nat → Prop
  | none => w.heap[r]? = some (.mapIter none 0 #[] 0) ∧ (∀ n, M n = false) ∧ (∀ u, lf u = false) ∧ cnt = 0
  | some m => ∃ D left, w.ranges Try.prog 3 cR m r NU D left cnt ∧ Reads D M ∧ ∀ u, lf u = left (keyU u)
def leftV (w : World) (r : Nat) : Option Nat → Nat
  | none => 0
  | some m => w.rangeLeft m r
theorem RangV.left {w : World} {r : Nat} {M lf : Nat → Bool} {cnt : Nat} {mo : Option Nat} (h : RangV w r M lf cnt mo) : leftV w r mo = cnt := by
  cases mo with
  | none => exact h.2.2.2.symm
  | some m => obtain ⟨D, left, hr, _⟩ := h; exact hr.left_eq
theorem RangV.map {w : World} {r : Nat} {M lf : Nat → Bool} {cnt : Nat} {mo : Option Nat} (h : RangV w r M lf cnt mo) : MapV w mo M := by
  cases mo with
  | none => exact h.2.1
  | some m => obtain ⟨D, left, hr, hR, _⟩ := h; exact ⟨D, hr.owns, hR⟩
theorem RangV.lt {w : World} {r : Nat} {M lf : Nat → Bool} {cnt : Nat} {mo : Option Nat} (h : RangV w r M lf cnt mo) : r < w.heap.size := by
  cases mo with
  | none => exact (Array.getElem?_eq_some_iff.1 h.1).1
  | some m => obtain ⟨D, left, hr, _⟩ := h; exact hr.lt
/-- It stays while its two blocks do. -/
theorem RangV.block {w w' : World} {r : Nat} {M lf : Nat → Bool} {cnt : Nat} {mo : Option Nat} (h : RangV w r M lf cnt mo) (h1 : w'.heap[r]? = w.heap[r]?) (h2 : ∀ m, mo = some m → w'.heap[m]? = w.heap[m]?) : RangV w' r M lf cnt mo := by
  cases mo with
  | none => exact ⟨h1.trans h.1, h.2⟩
  | some m =>
    obtain ⟨D, left, ⟨es, clock, since, seen, c0, hb, F, hs, hD, hr, rest⟩, hR, hl⟩ := h
    exact ⟨D, left, ⟨es, clock, since, seen, c0, (h2 m rfl).trans hb, F, hs, hD, h1.trans hr, rest⟩, hR, hl⟩
theorem RangV.below {w w' : World} {r : Nat} {M lf : Nat → Bool} {cnt : Nat} {mo : Option Nat} (h : RangV w r M lf cnt mo) (hb : Below w.heap.size w w') : RangV w' r M lf cnt mo :=
  h.block (hb.block r h.lt) (fun m hm => hb.block m (h.map.lt m hm))

open Classical in
/-- Which upper parts have members. -/
noncomputable def liveB (M : Nat → Bool) (u : Nat) : Bool := decide (liveU M u)
theorem liveB_iff {M : Nat → Bool} {u : Nat} : liveB M u = true ↔ liveU M u := by simp [liveB]

theorem run_rangeV {w : World} {mo : Option Nat} {M : Nat → Bool} (h : MapV w mo M) :
    ∃ w' cnt, (Instr.range 68 (.map mo)).run Try.prog w = .ok (.pointer (some ⟨w.heap.size, 0, none⟩)) w' ∧ RangV w' w.heap.size M (liveB M) cnt mo ∧ Below w.heap.size w w' ∧ w'.heap.size = w.heap.size + 1 := by
  cases mo with
  | none =>
    refine ⟨_, 0, run_range_nilMap w 68 3 74 Try.underlying68, ⟨heap_alloc_new w _, h, fun u => ?_, rfl⟩, below_new1 _ _, by simp⟩
    cases e : liveB M u
    · rfl
    · obtain ⟨l, _, hl⟩ := liveB_iff.1 e
      rw [h] at hl; cases hl
  | some m =>
    obtain ⟨D, ho, hr⟩ := h
    obtain ⟨w', hrun, h1, h2, h3⟩ := ho.range keyed3 Try.underlying68
    refine ⟨w', _, hrun, ⟨D, _, h1, hr, fun u => ?_⟩, ⟨h2.os, h2.tape, h2.output, h2.size, fun k hk => h2.block k hk (by simp)⟩, h3⟩
    rw [Bool.eq_iff_iff, liveB_iff, hr.has]
    exact ⟨fun h => ⟨u, rfl, h⟩, fun ⟨v, hv, h⟩ => by rw [keyU_inj hv]; exact h⟩

theorem wpList_rangeV {ops : Array Oper} {rest : List Oper} {o : Oper} {a : Act} {w : World} {Q : Exit → Act → World → Prop} (hg : o.guard = none) (x : Operand) (hop : o.op = .range 68 x)
    {mo : Option Nat} {M : Nat → Bool} (hx : a.eval x = .map mo) (h : MapV w mo M)
    (hK : ∀ w' cnt, RangV w' w.heap.size M (liveB M) cnt mo → Below w.heap.size w w' → w'.heap.size = w.heap.size + 1 → wpList Try.prog ops Q rest (a.put o.dst (.pointer (some ⟨w.heap.size, 0, none⟩))) w') :
    wpList Try.prog ops Q (o :: rest) a w := by
  refine wpList_plain hg fun K' hK' => ?_
  obtain ⟨w', cnt, hrun, r1, r2, r3⟩ := run_rangeV h
  unfold Oper.wp
  simp [execOp, hop, hx, hrun, Result.andThen]
  exact hK' _ _ (hK w' cnt r1 r2 r3)

theorem keyU_int {u : Nat} {x : Int} (h : keyU u = .int .i64 x) : x = (u : Int) := by
  unfold keyU at h
  injection h with _ h
  exact h.symm

theorem same_keyU (v u : Nat) : (keyU v).sameKey (keyU u) = decide (v = u) := by
  by_cases e : v = u
  · subst e
    rw [WideAt.sameKey_self (keyU_lit v)]; simp
  · rw [Maps.sameKey_ne (fun q => e (keyU_inj q))]; simp [e]

theorem run_nextV {w : World} {r : Nat} {M lf : Nat → Bool} {cnt : Nat} {mo : Option Nat} (h : RangV w r M lf cnt mo) (ty : TypeId) :
    ((∀ u, lf u = false) ∧ (Instr.next (.pointer (some ⟨r, 0, none⟩)) false ty).run Try.prog w = .ok (.tuple #[.bool false]) w) ∨
    ∃ u w' cnt', u < NU ∧ liveU M u ∧ lf u = true ∧ (Instr.next (.pointer (some ⟨r, 0, none⟩)) false ty).run Try.prog w = .ok (.tuple #[.bool true, .int .i64 (u : Nat), .agg (contA (atU M u))]) w' ∧
      RangV w' r M (fun v => lf v && !decide (v = u)) cnt' mo ∧ cnt' < cnt ∧ Only r w w' ∧ w'.heap.size = w.heap.size ∧ (Instr.entry (.pointer (some ⟨r, 0, none⟩))).run Try.prog w' = .ok (.tuple #[.int .i64 (u : Nat), .agg (contA (atU M u))]) w' := by
  cases mo with
  | none =>
    refine .inl ⟨h.2.2.1, ?_⟩
    simp only [Instr.next, getObj, Sem.run_bind, Sem.run, h.1, Result.andThen]
    rfl
  | some m =>
    obtain ⟨D, left, hr, hR, hl⟩ := h
    rcases hr.next keyed3 ty with ⟨_, h1, hrun⟩ | ⟨key, v, kl, y, w', cnt', hkey, hlk, hv, hat, hrun, hrg, hlt, hgr, hsz, hen⟩
    · exact .inl ⟨fun u => by rw [hl, h1], hrun⟩
    · have hh : Maps.has D kl = true := Maps.has_true_of_atKey hat
      obtain ⟨u, rfl, hu⟩ := (hR.has kl).1 hh
      obtain ⟨x, rfl, hx, _⟩ := Maps.keyOf_int_inv Try.underlying3 hkey
      have hxu : x = (u : Int) := keyU_int hx
      subst hxu
      obtain ⟨p, rfl, hp⟩ := cR_inv hv
      have hpe : contA p = contA (atU M u) := by
        apply dC_inj
        rw [← hR.val u hh .nil, hat, hp]
      rw [hpe] at hrun hen
      refine .inr ⟨u, w', cnt', liveU_lt hR.bound hu, hu, by rw [hl]; exact hlk, hrun, ⟨D, _, hrg, hR, fun v => ?_⟩, hlt, ⟨hgr.os, hgr.tape, hgr.output, hgr.size, fun k hk hne => hgr.block k hk (fun e => hne (by injection e))⟩, hsz, hen⟩
      dsimp only
      rw [hl, same_keyU]

theorem wpList_nextV {ops : Array Oper} {rest : List Oper} {o : Oper} {a : Act} {w : World} {Q : Exit → Act → World → Prop} (hg : o.guard = none) (x : Operand) (hop : o.op = .next x false)
    {r : Nat} {M lf : Nat → Bool} {cnt : Nat} {mo : Option Nat} (hx : a.eval x = .pointer (some ⟨r, 0, none⟩)) (h : RangV w r M lf cnt mo)
    (hDone : (∀ u, lf u = false) → wpList Try.prog ops Q rest (a.put o.dst (.tuple #[.bool false])) w)
    (hMore : ∀ u w' cnt', u < NU → liveU M u → lf u = true → RangV w' r M (fun v => lf v && !decide (v = u)) cnt' mo → cnt' < cnt → Only r w w' → w'.heap.size = w.heap.size →
      (Instr.entry (.pointer (some ⟨r, 0, none⟩))).run Try.prog w' = .ok (.tuple #[.int .i64 (u : Nat), .agg (contA (atU M u))]) w' → wpList Try.prog ops Q rest (a.put o.dst (.tuple #[.bool true, .int .i64 (u : Nat), .agg (contA (atU M u))])) w') :
    wpList Try.prog ops Q (o :: rest) a w := by
  refine wpList_plain hg fun K' hK' => ?_
  unfold Oper.wp
  rcases run_nextV h o.type with ⟨h1, hrun⟩ | ⟨u, w', cnt', h1, h2, h3, hrun, h4, h5, h6, h7, h8⟩
  · simp [execOp, hop, hx, hrun, Result.andThen]
    exact hK' _ _ (hDone h1)
  · simp [execOp, hop, hx, hrun, Result.andThen]
    exact hK' _ _ (hMore u w' cnt' h1 h2 h3 h4 h5 h6 h7 h8)

/-- Sums over upper parts. -/
def sumU (g : Nat → Nat) : Nat → Nat
  | 0 => 0
  | N + 1 => sumU g N + g N
theorem sumU_congr {g h : Nat → Nat} : ∀ {N : Nat}, (∀ u, u < N → g u = h u) → sumU g N = sumU h N
  | 0, _ => rfl
  | N + 1, e => by rw [sumU, sumU, sumU_congr (fun u hu => e u (by omega)), e N (by omega)]
theorem sumU_zero : ∀ (N : Nat), sumU (fun _ => 0) N = 0
  | 0 => rfl
  | N + 1 => by rw [sumU, sumU_zero N]
theorem sumU_strike {g h : Nat → Nat} {u : Nat} (hg : ∀ v, v ≠ u → g v = h v) (hu : g u = 0) : ∀ {N : Nat}, u < N → sumU h N = sumU g N + h u
  | 0, e => by omega
  | N + 1, e => by
    rw [sumU, sumU]
    by_cases hN : u = N
    · subst hN
      rw [hu, sumU_congr (fun v hv => (hg v (by omega)).symm)]
      omega
    · rw [sumU_strike hg hu (by omega), hg N (fun q => hN q.symm)]
      omega

/-- How many members a set has. -/
def card (M : Nat → Bool) : Nat := sumU (fun u => cnt (atU M u)) NU
theorem sumU_le {g : Nat → Nat} {c : Nat} (h : ∀ u, g u ≤ c) : ∀ N, sumU g N ≤ N * c
  | 0 => by simp [sumU]
  | N + 1 => by rw [sumU]; have := sumU_le h N; have := h N; rw [Nat.add_mul]; omega
theorem card_le (M : Nat → Bool) : card M ≤ 2147483648 := by
  have := sumU_le (fun u => cnt_le (atU M u)) NU
  unfold card
  rw [NU_eq] at *
  omega

set_option maxRecDepth 100000 in
theorem ones_any (v : Nat) (w : World) (hv : v < 256) : Calls Try.prog 67 #[.int .u8 (v : Nat)] w fun e w' => e = .returned (.int .i64 (pop v : Nat)) ∧ w' = w := by
  have h := Try.bits_OnesCount8 (v : Int) w (by omega) (by omega)
  have e : Lib.onesCount v = pop v := by
    have : ∀ v : Fin 256, Lib.onesCount v.val = pop v.val := by decide
    exact this ⟨v, hv⟩
  rw [Int.toNat_natCast, e] at h
  exact h
theorem count5 (p : Nat → Bool) (w : World) : Calls Try.prog 45 #[.agg (contA p)] w fun e w' => e = .returned (.int .i64 (cnt p : Nat)) ∧ Below w.heap.size w w' := count_any ones_any p w
end Go.Proofs.Ytbenfmhcpipehaa
