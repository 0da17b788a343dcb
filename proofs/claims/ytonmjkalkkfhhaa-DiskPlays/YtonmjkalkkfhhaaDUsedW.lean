/-
  What the program's call of Used does: a range over a map.
-/
import Derived.Test.YtonmjkalkkfhhaaDROk
namespace Go.Proofs.Ytonmjkalkkfhhaa
open Go Go.RowKit Go.Maps

/-- A range over a device's pages on its way: r is its own block; lf says which are still to come. -/
def RangD (w : World) (r : Nat) (M : Int → Option Pg) (lf : Int → Bool) (cnt : Nat) : Option Nat → Prop
  | none => w.heap[r]? = some (.mapIter none 0 #[] 0) ∧ (∀ u, M u = none) ∧ (∀ u, lf u = false) ∧ cnt = 0
  | some m => ∃ n D left, w.ranges Try.prog 3 RP m r n D left cnt ∧ Says encP D M ∧ ∀ u, lf u = left (keyI u)
def leftD (w : World) (r : Nat) : Option Nat → Nat
  | none => 0
  | some m => w.rangeLeft m r
theorem RangD.left {w : World} {r : Nat} {M : Int → Option Pg} {lf : Int → Bool} {cnt : Nat} {mo : Option Nat} (h : RangD w r M lf cnt mo) : leftD w r mo = cnt := by
  cases mo with
  | none => exact h.2.2.2.symm
  | some m => obtain ⟨n, D, left, hr, _⟩ := h; exact hr.left_eq
theorem run_rangeD {w : World} {n : Nat} {mo : Option Nat} {M : Int → Option Pg} (h : MapV RP encP w n mo M) :
    ∃ w' cnt, (Instr.range 54 (.map mo)).run Try.prog w = .ok (.pointer (some ⟨w.heap.size, 0, none⟩)) w' ∧ RangD w' w.heap.size M (fun u => (M u).isSome) cnt mo ∧ Below w.heap.size w w' := by
  cases mo with
  | none =>
    refine ⟨_, 0, run_range_nilMap w 54 3 66 Try.underlying54, ⟨heap_alloc_new w _, h, fun u => ?_, rfl⟩, below_new1 _ _⟩
    show (M u).isSome = false
    rw [h u]
    rfl
  | some m =>
    obtain ⟨D, ho, hr⟩ := h
    obtain ⟨w', hrun, h1, h2, h3⟩ := ho.range keyed3 Try.underlying54
    refine ⟨w', _, hrun, ⟨n, D, _, h1, hr, fun u => ?_⟩, ⟨h2.os, h2.tape, h2.output, h2.size, fun k hk => h2.block k hk (by simp)⟩⟩
    exact (hr.hasI u).symm
theorem wpList_rangeD {ops : Array Oper} {rest : List Oper} {o : Oper} {a : Act} {w : World} {Q : Exit → Act → World → Prop} (hg : o.guard = none) (x : Operand) (hop : o.op = .range 54 x)
    {n : Nat} {mo : Option Nat} {M : Int → Option Pg} (hx : a.eval x = .map mo) (h : MapV RP encP w n mo M)
    (hK : ∀ w' cnt, RangD w' w.heap.size M (fun u => (M u).isSome) cnt mo → Below w.heap.size w w' → wpList Try.prog ops Q rest (a.put o.dst (.pointer (some ⟨w.heap.size, 0, none⟩))) w') :
    wpList Try.prog ops Q (o :: rest) a w := by
  refine wpList_plain hg fun K' hK' => ?_
  obtain ⟨w', cnt, hrun, r1, r2⟩ := run_rangeD h
  unfold Oper.wp
  simp [execOp, hop, hx, hrun, Result.andThen]
  exact hK' _ _ (hK w' cnt r1 r2)
theorem same_keyI (v u : Int) : (keyI v).sameKey (keyI u) = decide (v = u) := by
  by_cases e : v = u
  · subst e
    rw [WideAt.sameKey_self (keyI_lit v)]; simp
  · rw [Maps.sameKey_ne (fun q => e (keyI_inj q))]; simp [e]
theorem run_nextD {w : World} {r : Nat} {M : Int → Option Pg} {lf : Int → Bool} {cnt : Nat} {mo : Option Nat} (h : RangD w r M lf cnt mo) (ty : TypeId) :
    ((∀ u, lf u = false) ∧ (Instr.next (.pointer (some ⟨r, 0, none⟩)) false ty).run Try.prog w = .ok (.tuple #[.bool false]) w) ∨
    ∃ u w' cnt' v, (M u).isSome = true ∧ lf u = true ∧ (Instr.next (.pointer (some ⟨r, 0, none⟩)) false ty).run Try.prog w = .ok (.tuple #[.bool true, .int .i64 u, v]) w' ∧
      RangD w' r M (fun x => lf x && !decide (x = u)) cnt' mo ∧ cnt' < cnt ∧ Only r w w' ∧ (Instr.entry (.pointer (some ⟨r, 0, none⟩))).run Try.prog w' = .ok (.tuple #[.int .i64 u, v]) w' := by
  cases mo with
  | none =>
    refine .inl ⟨h.2.2.1, ?_⟩
    simp only [Instr.next, getObj, Sem.run_bind, Sem.run, h.1, Result.andThen]
    rfl
  | some m =>
    obtain ⟨n, D, left, hr, hR, hl⟩ := h
    rcases hr.next keyed3 ty with ⟨_, h1, hrun⟩ | ⟨key, v, kl, y, w', cnt', hkey, hlk, hv, hat, hrun, hrg, hlt, hgr, hsz, hen⟩
    · exact .inl ⟨fun u => by rw [hl, h1], hrun⟩
    · have hh : Maps.has D kl = true := Maps.has_true_of_atKey hat
      obtain ⟨u, x, rfl, hu⟩ := (hR.has kl).1 hh
      obtain ⟨z, rfl, hx, _⟩ := Maps.keyOf_int_inv Try.underlying3 hkey
      have hxu : z = u := by
        have hx' : keyI u = keyI z := hx
        exact (keyI_inj hx').symm
      subst hxu
      refine .inr ⟨z, w', cnt', v, by rw [hu]; rfl, by rw [hl]; exact hlk, hrun, ⟨n, D, _, hrg, hR, fun x => ?_⟩, hlt, ⟨hgr.os, hgr.tape, hgr.output, hgr.size, fun k hk hne => hgr.block k hk (fun e => hne (by injection e))⟩, hen⟩
      dsimp only
      rw [hl, same_keyI]
theorem wpList_nextD {ops : Array Oper} {rest : List Oper} {o : Oper} {a : Act} {w : World} {Q : Exit → Act → World → Prop} (hg : o.guard = none) (x : Operand) (hop : o.op = .next x false)
    {r : Nat} {M : Int → Option Pg} {lf : Int → Bool} {cnt : Nat} {mo : Option Nat} (hx : a.eval x = .pointer (some ⟨r, 0, none⟩)) (h : RangD w r M lf cnt mo)
    (hDone : (∀ u, lf u = false) → wpList Try.prog ops Q rest (a.put o.dst (.tuple #[.bool false])) w)
    (hMore : ∀ u w' cnt' v, (M u).isSome = true → lf u = true → RangD w' r M (fun x => lf x && !decide (x = u)) cnt' mo → cnt' < cnt → Only r w w' →
      (Instr.entry (.pointer (some ⟨r, 0, none⟩))).run Try.prog w' = .ok (.tuple #[.int .i64 u, v]) w' → wpList Try.prog ops Q rest (a.put o.dst (.tuple #[.bool true, .int .i64 u, v])) w') :
    wpList Try.prog ops Q (o :: rest) a w := by
  refine wpList_plain hg fun K' hK' => ?_
  unfold Oper.wp
  rcases run_nextD h o.type with ⟨h1, hrun⟩ | ⟨u, w', cnt', v, h1, h2, hrun, h4, h5, h6, h8⟩
  · simp [execOp, hop, hx, hrun, Result.andThen]
    exact hK' _ _ (hDone h1)
  · simp [execOp, hop, hx, hrun, Result.andThen]
    exact hK' _ _ (hMore u w' cnt' v h1 h2 h4 h5 h6 h8)
end Go.Proofs.Ytonmjkalkkfhhaa
