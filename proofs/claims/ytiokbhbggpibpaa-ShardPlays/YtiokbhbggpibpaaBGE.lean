/-
  Texts of this claim, put together.
-/
import Derived.Test.YtiokbhbggpibpaaBNewW
import Derived.Test.YtiokbhbggpibpaaShelf
import Derived.Shelf.SlSortCmp.WholeK
import Derived.Laws.Tables
import Derived.Shelf.SlSortCmp.NoneTotal
/-
  A range over a set's map, and the sum of what its containers have.
-/
namespace Go.Proofs.Ytiokbhbggpibpaa
open Go Go.RowKit Go.Maps

/-- A range over a map, or over none, on its way: r is its own block; lf says which upper parts are still to come. -/
def RangV (w : World) (r : Nat) (M : Nat → Bool) (lf : Nat → Bool) (cnt : Nat) : Option Nat → Prop
  | none => w.heap[r]? = some (.mapIter none 0 #[] 0) ∧ (∀ n, M n = false) ∧ (∀ u, lf u = false) ∧ cnt = 0
  | some m => ∃ D left, w.ranges Try.prog 3 cR m r NU D left cnt ∧ Reads D M ∧ ∀ u, lf u = left (keyU u)
def leftV (w : World) (r : Nat) : Option Nat → Nat
  | none => 0
  | some m => w.rangeLeft m r
theorem RangV.left {w : World} {r : Nat} {M lf : Nat → Bool} {cnt : Nat} {mo : Option Nat} (h : RangV w r M lf cnt mo) : leftV w r mo = cnt := by
  cases mo with
  | none => exact h.2.2.2.symm
  | some m => obtain ⟨D, left, hr, _⟩ := h; exact hr.left_eq
theorem RangV.map {w : World} {r : Nat} {M lf : Nat → Bool} {cnt : Nat} {mo : Option Nat} (h : RangV w r M lf cnt mo) : MapV w mo M := by
  cases mo with
  | none => exact h.2.1
  | some m => obtain ⟨D, left, hr, hR, _⟩ := h; exact ⟨D, hr.owns, hR⟩
theorem RangV.lt {w : World} {r : Nat} {M lf : Nat → Bool} {cnt : Nat} {mo : Option Nat} (h : RangV w r M lf cnt mo) : r < w.heap.size := by
  cases mo with
  | none => exact (Array.getElem?_eq_some_iff.1 h.1).1
  | some m => obtain ⟨D, left, hr, _⟩ := h; exact hr.lt
/-- It stays while its two blocks do. -/
theorem RangV.block {w w' : World} {r : Nat} {M lf : Nat → Bool} {cnt : Nat} {mo : Option Nat} (h : RangV w r M lf cnt mo) (h1 : w'.heap[r]? = w.heap[r]?) (h2 : ∀ m, mo = some m → w'.heap[m]? = w.heap[m]?) : RangV w' r M lf cnt mo := by
  cases mo with
  | none => exact ⟨h1.trans h.1, h.2⟩
  | some m =>
    obtain ⟨D, left, ⟨es, clock, since, seen, c0, hb, F, hs, hD, hr, rest⟩, hR, hl⟩ := h
    exact ⟨D, left, ⟨es, clock, since, seen, c0, (h2 m rfl).trans hb, F, hs, hD, h1.trans hr, rest⟩, hR, hl⟩
theorem RangV.below {w w' : World} {r : Nat} {M lf : Nat → Bool} {cnt : Nat} {mo : Option Nat} (h : RangV w r M lf cnt mo) (hb : Below w.heap.size w w') : RangV w' r M lf cnt mo :=
  h.block (hb.block r h.lt) (fun m hm => hb.block m (h.map.lt m hm))

open Classical in
/-- Which upper parts have members. -/
noncomputable def liveB (M : Nat → Bool) (u : Nat) : Bool := decide (liveU M u)
theorem liveB_iff {M : Nat → Bool} {u : Nat} : liveB M u = true ↔ liveU M u := by simp [liveB]

theorem run_rangeV {w : World} {mo : Option Nat} {M : Nat → Bool} (h : MapV w mo M) :
    ∃ w' cnt, (Instr.range 60 (.map mo)).run Try.prog w = .ok (.pointer (some ⟨w.heap.size, 0, none⟩)) w' ∧ RangV w' w.heap.size M (liveB M) cnt mo ∧ Below w.heap.size w w' ∧ w'.heap.size = w.heap.size + 1 := by
  cases mo with
  | none =>
    refine ⟨_, 0, run_range_nilMap w 60 3 76 Try.underlying60, ⟨heap_alloc_new w _, h, fun u => ?_, rfl⟩, below_new1 _ _, by simp⟩
    cases e : liveB M u
    · rfl
    · obtain ⟨l, _, hl⟩ := liveB_iff.1 e
      rw [h] at hl; cases hl
  | some m =>
    obtain ⟨D, ho, hr⟩ := h
    obtain ⟨w', hrun, h1, h2, h3⟩ := ho.range keyed3 Try.underlying60
    refine ⟨w', _, hrun, ⟨D, _, h1, hr, fun u => ?_⟩, ⟨h2.os, h2.tape, h2.output, h2.size, fun k hk => h2.block k hk (by simp)⟩, h3⟩
    rw [Bool.eq_iff_iff, liveB_iff, hr.has]
    exact ⟨fun h => ⟨u, rfl, h⟩, fun ⟨v, hv, h⟩ => by rw [keyU_inj hv]; exact h⟩

theorem wpList_rangeV {ops : Array Oper} {rest : List Oper} {o : Oper} {a : Act} {w : World} {Q : Exit → Act → World → Prop} (hg : o.guard = none) (x : Operand) (hop : o.op = .range 60 x)
    {mo : Option Nat} {M : Nat → Bool} (hx : a.eval x = .map mo) (h : MapV w mo M)
    (hK : ∀ w' cnt, RangV w' w.heap.size M (liveB M) cnt mo → Below w.heap.size w w' → w'.heap.size = w.heap.size + 1 → wpList Try.prog ops Q rest (a.put o.dst (.pointer (some ⟨w.heap.size, 0, none⟩))) w') :
    wpList Try.prog ops Q (o :: rest) a w := by
  refine wpList_plain hg fun K' hK' => ?_
  obtain ⟨w', cnt, hrun, r1, r2, r3⟩ := run_rangeV h
  unfold Oper.wp
  simp [execOp, hop, hx, hrun, Result.andThen]
  exact hK' _ _ (hK w' cnt r1 r2 r3)

theorem keyU_int {u : Nat} {x : Int} (h : keyU u = .int .i64 x) : x = (u : Int) := by
  unfold keyU at h
  injection h with _ h
  exact h.symm

theorem same_keyU (v u : Nat) : (keyU v).sameKey (keyU u) = decide (v = u) := by
  by_cases e : v = u
  · subst e
    rw [WideAt.sameKey_self (keyU_lit v)]; simp
  · rw [Maps.sameKey_ne (fun q => e (keyU_inj q))]; simp [e]

theorem run_nextV {w : World} {r : Nat} {M lf : Nat → Bool} {cnt : Nat} {mo : Option Nat} (h : RangV w r M lf cnt mo) (ty : TypeId) :
    ((∀ u, lf u = false) ∧ (Instr.next (.pointer (some ⟨r, 0, none⟩)) false ty).run Try.prog w = .ok (.tuple #[.bool false]) w) ∨
    ∃ u w' cnt', u < NU ∧ liveU M u ∧ lf u = true ∧ (Instr.next (.pointer (some ⟨r, 0, none⟩)) false ty).run Try.prog w = .ok (.tuple #[.bool true, .int .i64 (u : Nat), .agg (contA (atU M u))]) w' ∧
      RangV w' r M (fun v => lf v && !decide (v = u)) cnt' mo ∧ cnt' < cnt ∧ Only r w w' ∧ w'.heap.size = w.heap.size ∧ (Instr.entry (.pointer (some ⟨r, 0, none⟩))).run Try.prog w' = .ok (.tuple #[.int .i64 (u : Nat), .agg (contA (atU M u))]) w' := by
  cases mo with
  | none =>
    refine .inl ⟨h.2.2.1, ?_⟩
    simp only [Instr.next, getObj, Sem.run_bind, Sem.run, h.1, Result.andThen]
    rfl
  | some m =>
    obtain ⟨D, left, hr, hR, hl⟩ := h
    rcases hr.next keyed3 ty with ⟨_, h1, hrun⟩ | ⟨key, v, kl, y, w', cnt', hkey, hlk, hv, hat, hrun, hrg, hlt, hgr, hsz, hen⟩
    · exact .inl ⟨fun u => by rw [hl, h1], hrun⟩
    · have hh : Maps.has D kl = true := Maps.has_true_of_atKey hat
      obtain ⟨u, rfl, hu⟩ := (hR.has kl).1 hh
      obtain ⟨x, rfl, hx, _⟩ := Maps.keyOf_int_inv Try.underlying3 hkey
      have hxu : x = (u : Int) := keyU_int hx
      subst hxu
      obtain ⟨p, rfl, hp⟩ := cR_inv hv
      have hpe : contA p = contA (atU M u) := by
        apply dC_inj
        rw [← hR.val u hh .nil, hat, hp]
      rw [hpe] at hrun hen
      refine .inr ⟨u, w', cnt', liveU_lt hR.bound hu, hu, by rw [hl]; exact hlk, hrun, ⟨D, _, hrg, hR, fun v => ?_⟩, hlt, ⟨hgr.os, hgr.tape, hgr.output, hgr.size, fun k hk hne => hgr.block k hk (fun e => hne (by injection e))⟩, hsz, hen⟩
      dsimp only
      rw [hl, same_keyU]

theorem wpList_nextV {ops : Array Oper} {rest : List Oper} {o : Oper} {a : Act} {w : World} {Q : Exit → Act → World → Prop} (hg : o.guard = none) (x : Operand) (hop : o.op = .next x false)
    {r : Nat} {M lf : Nat → Bool} {cnt : Nat} {mo : Option Nat} (hx : a.eval x = .pointer (some ⟨r, 0, none⟩)) (h : RangV w r M lf cnt mo)
    (hDone : (∀ u, lf u = false) → wpList Try.prog ops Q rest (a.put o.dst (.tuple #[.bool false])) w)
    (hMore : ∀ u w' cnt', u < NU → liveU M u → lf u = true → RangV w' r M (fun v => lf v && !decide (v = u)) cnt' mo → cnt' < cnt → Only r w w' → w'.heap.size = w.heap.size →
      (Instr.entry (.pointer (some ⟨r, 0, none⟩))).run Try.prog w' = .ok (.tuple #[.int .i64 (u : Nat), .agg (contA (atU M u))]) w' → wpList Try.prog ops Q rest (a.put o.dst (.tuple #[.bool true, .int .i64 (u : Nat), .agg (contA (atU M u))])) w') :
    wpList Try.prog ops Q (o :: rest) a w := by
  refine wpList_plain hg fun K' hK' => ?_
  unfold Oper.wp
  rcases run_nextV h o.type with ⟨h1, hrun⟩ | ⟨u, w', cnt', h1, h2, h3, hrun, h4, h5, h6, h7, h8⟩
  · simp [execOp, hop, hx, hrun, Result.andThen]
    exact hK' _ _ (hDone h1)
  · simp [execOp, hop, hx, hrun, Result.andThen]
    exact hK' _ _ (hMore u w' cnt' h1 h2 h3 h4 h5 h6 h7 h8)

/-- Sums over upper parts. -/
def sumU (g : Nat → Nat) : Nat → Nat
  | 0 => 0
  | N + 1 => sumU g N + g N
theorem sumU_congr {g h : Nat → Nat} : ∀ {N : Nat}, (∀ u, u < N → g u = h u) → sumU g N = sumU h N
  | 0, _ => rfl
  | N + 1, e => by rw [sumU, sumU, sumU_congr (fun u hu => e u (by omega)), e N (by omega)]
theorem sumU_zero : ∀ (N : Nat), sumU (fun _ => 0) N = 0
  | 0 => rfl
  | N + 1 => by rw [sumU, sumU_zero N]
theorem sumU_strike {g h : Nat → Nat} {u : Nat} (hg : ∀ v, v ≠ u → g v = h v) (hu : g u = 0) : ∀ {N : Nat}, u < N → sumU h N = sumU g N + h u
  | 0, e => by omega
  | N + 1, e => by
    rw [sumU, sumU]
    by_cases hN : u = N
    · subst hN
      rw [hu, sumU_congr (fun v hv => (hg v (by omega)).symm)]
      omega
    · rw [sumU_strike hg hu (by omega), hg N (fun q => hN q.symm)]
      omega

/-- How many members a set has. -/
def card (M : Nat → Bool) : Nat := sumU (fun u => cnt (atU M u)) NU
theorem sumU_le {g : Nat → Nat} {c : Nat} (h : ∀ u, g u ≤ c) : ∀ N, sumU g N ≤ N * c
  | 0 => by simp [sumU]
  | N + 1 => by rw [sumU]; have := sumU_le h N; have := h N; rw [Nat.add_mul]; omega
theorem card_le (M : Nat → Bool) : card M ≤ 2147483648 := by
  have := sumU_le (fun u => cnt_le (atU M u)) NU
  unfold card
  rw [NU_eq] at *
  omega

set_option maxRecDepth 100000 in
theorem ones_any (v : Nat) (w : World) (hv : v < 256) : Calls Try.prog 64 #[.int .u8 (v : Nat)] w fun e w' => e = .returned (.int .i64 (pop v : Nat)) ∧ w' = w := by
  have h := Try.bits_OnesCount8 (v : Int) w (by omega) (by omega)
  have e : Lib.onesCount v = pop v := by
    have : ∀ v : Fin 256, Lib.onesCount v.val = pop v.val := by decide
    exact this ⟨v, hv⟩
  rw [Int.toNat_natCast, e] at h
  exact h
theorem count5 (p : Nat → Bool) (w : World) : Calls Try.prog 45 #[.agg (contA p)] w fun e w' => e = .returned (.int .i64 (cnt p : Nat)) ∧ Below w.heap.size w w' := count_any ones_any p w
end Go.Proofs.Ytiokbhbggpibpaa
/-
  What Len does.
-/
namespace Go.Proofs.Ytiokbhbggpibpaa
open Go Go.RowKit Go.Maps

/-- What is still to come. -/
def restU (M lf : Nat → Bool) : Nat := sumU (fun u => if lf u then cnt (atU M u) else 0) NU
theorem restU_start (M : Nat → Bool) : restU M (liveB M) = card M := by
  unfold restU card
  refine sumU_congr fun u _ => ?_
  split
  · rfl
  · rename_i h
    have hd := dead_at (fun q => h (liveB_iff.2 q))
    unfold cnt
    refine (List.countP_eq_zero.2 fun l hl => ?_).symm
    rw [hd l (List.mem_range.1 hl)]; simp
theorem restU_end {M lf : Nat → Bool} (h : ∀ u, lf u = false) : restU M lf = 0 := by
  unfold restU
  rw [sumU_congr (h := fun _ => 0) (fun u _ => by rw [h]; rfl), sumU_zero]
theorem restU_step {M lf : Nat → Bool} {u : Nat} (hu : u < NU) (h : lf u = true) : restU M lf = restU M (fun v => lf v && !decide (v = u)) + cnt (atU M u) := by
  unfold restU
  rw [sumU_strike (g := fun v => if (lf v && !decide (v = u)) = true then cnt (atU M v) else 0) (u := u) (fun v hv => by simp [hv]) (by simp) hu]
  simp [h]

/-- Cells of a container. -/
def IsC (cs : Array Value) : Prop := ∃ p, cs = contA p
theorem IsC.mk (p : Nat → Bool) : IsC (contA p) := ⟨p, rfl⟩
theorem wpList_ldK {ops : Array Oper} {rest : List Oper} {op : Oper} {a : Act} {w : World} {Q : Exit → Act → World → Prop} (hgd : op.guard = none) (x : Operand) (ho : op.op = .load 76 x)
    {b : Nat} (hx : a.eval x = .pointer (some ⟨b, 0, none⟩)) {t : TypeId} {cs : Array Value} (hh : Holds w b t cs) (hc : IsC cs)
    (h : wpList Try.prog ops Q rest (a.put op.dst (.agg cs)) w) : wpList Try.prog ops Q (op :: rest) a w := by
  obtain ⟨p, rfl⟩ := hc
  exact wpList_ldC hgd x ho hx hh h
theorem wpList_stK {ops : Array Oper} {rest : List Oper} {op : Oper} {a : Act} {w : World} {Q : Exit → Act → World → Prop} (hgd : op.guard = none) (x y : Operand) (ho : op.op = .store 76 x y)
    {b : Nat} {cs : Array Value} (hx : a.eval x = .pointer (some ⟨b, 0, none⟩)) (hy : a.eval y = .agg cs)
    {t : TypeId} {old : Array Value} (hh : Holds w b t old) (hc : IsC cs) (ho' : IsC old)
    (h : ∀ w', Holds w' b t cs → Only b w w' → w'.heap.size = w.heap.size → wpList Try.prog ops Q rest (a.put op.dst undef) w') : wpList Try.prog ops Q (op :: rest) a w := by
  obtain ⟨p, rfl⟩ := hc
  obtain ⟨q, rfl⟩ := ho'
  exact wpList_stC hgd x y ho hx hy hh h

set_option maxRecDepth 8000 in
theorem len_any {w : World} {s : Value} {mo : Option Nat} {M : Nat → Bool} (h : View w s mo M) :
    Calls Try.prog 24 #[s] w fun e w' => e = .returned (.int .i64 (card M : Nat)) ∧ Below w.heap.size w w' := by
  have hh := held_any h
  have hcl := card_le M
  go_enter Try.func24, Try.ntmps24
  go_wp2_with (first
    | (go_at_call 44; refine hh.mono ?_; rintro e w1 ⟨rfl, rfl⟩)
    | (at_range; refine wpList_rangeV rfl _ rfl rfl h.map ?_; intro w0 cnt0 hrg0 hB0 hs0)
    | go_in)
  go_frame
  go_loopw [3, 5] (fun n _ wr => ∃ (k : Nat) (lf : Nat → Bool) (ct : Nat), n = .int .i64 (k : Nat) ∧ RangV wr w1.heap.size M lf ct mo ∧ k + restU M lf = card M ∧ Below w1.heap.size w1 wr) (fun _ _ wr => leftV wr w1.heap.size mo)
  case atStart => exact ⟨0, _, _, rfl, hrg0, by rw [restU_start]; omega, hB0⟩
  case round =>
    obtain ⟨k, lf, ct, rfl, hrg, hsum, hB⟩ := hrel
    go_wp2_with (first
      | (at_next; refine wpList_nextV rfl _ rfl rfl hrg ?_ ?_)
      | go_in)
    · intro hl0
      rw [restU_end hl0] at hsum
      go_wp2_with fail
      go_ret
      exact ⟨by rw [← hsum]; rfl, hB⟩
    · intro u w2 ct2 hu hlv hlf hrg2 hlt hO hsz hen
      clear hsz
      have hct := count5 (atU M u)
      have hC := IsC.mk (atU M u)
      generalize contA (atU M u) = cs at hen hct hC ⊢
      have hZ := IsC.mk fun _ => false
      obtain ⟨W3, hW⟩ : ∃ W3, World.alloc w2 (.cells (contA fun _ => false) 76) = W3 := ⟨_, rfl⟩
      have h1 : Holds W3 w2.heap.size 76 (contA fun _ => false) := by rw [← hW]; exact Holds.new _ _ _
      have hB3 : Below w2.heap.size w2 W3 := by rw [← hW]; exact below_new1 _ _
      have hst := restU_step (M := M) hu hlf
      have HS : Hid (k + restU M (fun v => lf v && !decide (v = u)) + cnt (atU M u) = card M) := by
        have : k + restU M (fun v => lf v && !decide (v = u)) + cnt (atU M u) = card M := by omega
        exact this
      have hkc : k + cnt (atU M u) ≤ 2147483648 := by have := HS.out; omega
      have hrlt := hrg2.lt
      clear hst hsum
      rw [zeroC] at hW
      go_wp2_with (first
        | (refine wpList_stK rfl _ _ rfl rfl rfl h1 hC hZ ?_; intro W4 h2 hO4 hs4)
        | (refine wpList_ldK rfl _ rfl rfl h2 hC ?_)
        | (go_at_call 45; refine (hct _).mono ?_; rintro e w5 ⟨rfl, hB5⟩))
      have hB4 : Below w2.heap.size w2 W4 := Only.fresh hB3 hO4 (Nat.le_refl _)
      have hB25 : Below w2.heap.size w2 w5 := below_new hB4 hB5
      have hrg5 := hrg2.below hB25
      have hBn : Below w1.heap.size w1 w5 := (Only.fresh hB hO (Nat.le_refl _)).trans (hB25.mono (by have := hB.size; have := hO.size; omega))
      go_roundw
      case rel => exact ⟨k + cnt (atU M u), _, _, by simp, hrg5, by have := HS.out; omega, hBn⟩
      case measure => rw [hrg5.left, hrg.left]; exact hlt
end Go.Proofs.Ytiokbhbggpibpaa
/-
  What parts does: a set's containers with their upper parts, rising.
-/
namespace Go.Proofs.Ytiokbhbggpibpaa
open Go Go.RowKit Go.Maps Go.Shelf

/-- A part's cells. -/
def encP (M : Nat → Bool) (u : Nat) : List Value := .int .i64 (u : Nat) :: (contA (atU M u)).toList
theorem encP_len (M : Nat → Bool) (u : Nat) : (encP M u).length = 33 := by simp [encP, contA_size]
theorem encP_one (M : Nat → Bool) (u : Nat) : ∀ v ∈ encP M u, v.oneCell' = true := by
  intro v hv
  rcases List.mem_cons.1 hv with rfl | h
  · rfl
  · exact Array.all_eq_true_iff_forall_mem.1 (contA_one _) v (by simpa using h)

theorem flat_get (f : Nat → List Value) (hf : ∀ u, (f u).length = 33) : ∀ (us : List Nat) (t : Nat), t < us.length * 33 → (us.flatMap f)[t]? = (f (us[t / 33]?.getD 0))[t % 33]?
  | [], t, h => by simp at h
  | u :: us, t, h => by
    rw [List.flatMap_cons]
    by_cases ht : t < 33
    · rw [List.getElem?_append_left (by rw [hf]; exact ht), Nat.div_eq_of_lt ht, Nat.mod_eq_of_lt ht]
      rfl
    · rw [List.getElem?_append_right (by rw [hf]; omega), hf, flat_get f hf us (t - 33) (by simp at h; omega)]
      have e1 : t / 33 = (t - 33) / 33 + 1 := by omega
      have e2 : t % 33 = (t - 33) % 33 := by omega
      rw [e1, e2, List.getElem?_cons_succ]
theorem flat_len (f : Nat → List Value) (hf : ∀ u, (f u).length = 33) : ∀ (us : List Nat), (us.flatMap f).length = us.length * 33
  | [] => rfl
  | u :: us => by rw [List.flatMap_cons, List.length_append, hf, flat_len f hf us, List.length_cons]; omega

theorem add_plain (b k j : Nat) : (⟨b, k, none⟩ : Addr).add j = ⟨b, k + j, none⟩ := by simp [Addr.add]
open Go.Sort in
theorem holdsK_of {w : World} {base g n cap : Nat} {M : Nat → Bool} {us : List Nat} (h : w.ownsRow base 80 33 (.slice (some ⟨g, 0, none⟩) n cap) n (us.flatMap (encP M))) (hn : us.length = n) : HoldsK (encP M) 33 w g 0 us.toArray := by
  intro t ht
  have ht' : t < us.length * 33 := by simpa using ht
  have hx := flat_get (encP M) (encP_len M) us t ht'
  have hlt : t / 33 < us.length := by omega
  have hget : us[t / 33]?.getD 0 = us.toArray[t / 33]! := by simp [hlt]
  have hm : t % 33 < (encP M us.toArray[t / 33]!).length := by rw [encP_len]; omega
  rw [hget, List.getElem?_eq_getElem hm] at hx
  have hf : (flatK (encP M) 33 us.toArray)[t]! = (encP M us.toArray[t / 33]!)[t % 33] := by
    rw [get_flatK _ _ _ _ (by simpa using ht'), getElem!_pos (encP M us.toArray[t / 33]!) (t % 33) hm]
  refine ⟨?_, ?_⟩
  · have := h.cells (g := g) rfl t _ hx
    rw [hf, Nat.zero_add]
    rw [add_plain, Nat.zero_add] at this
    exact this
  · rcases h.2 with ⟨hq, _⟩ | ⟨g2, cap2, cur, hq, _, hc, _⟩
    · cases hq
    · injection hq with hq _ _
      injection hq with hq
      injection hq with hq _ _
      subst hq
      simp [World.frozen?, hc]

/-- Parts in memory. -/
def PartsIn (w : World) (g : Nat) (M : Nat → Bool) (us : List Nat) : Prop := ∀ i, i < us.length → ∀ j v, (encP M (us[i]?.getD 0))[j]? = some v → w.cell? ⟨g, i * 33 + j, none⟩ = some v
open Go.Sort in
theorem partsIn_of {w : World} {g : Nat} {M : Nat → Bool} {us : List Nat} (h : HoldsK (encP M) 33 w g 0 us.toArray) : PartsIn w g M us := by
  intro i hi j v hv
  have hj : j < 33 := by
    have := (List.getElem?_eq_some_iff.1 hv).1
    rw [encP_len] at this
    exact this
  have ht : i * 33 + j < us.length * 33 := by
    have : (i + 1) * 33 ≤ us.length * 33 := Nat.mul_le_mul_right _ (by omega)
    omega
  have h1 := (h (i * 33 + j) (by simpa using ht)).1
  have e1 : (i * 33 + j) / 33 = i := by omega
  have e2 : (i * 33 + j) % 33 = j := by omega
  rw [get_flatK _ _ _ _ (by simpa using ht), e1, e2, Nat.zero_add] at h1
  rw [h1]
  have hget : us[i]?.getD 0 = us.toArray[i]! := by simp [hi]
  rw [hget] at hv
  have hm : j < (encP M us.toArray[i]!).length := (List.getElem?_eq_some_iff.1 hv).1
  rw [List.getElem?_eq_getElem hm] at hv
  injection hv with hv
  rw [id, getElem!_pos (encP M us.toArray[i]!) j hm, hv]
theorem PartsIn.keep {w w' : World} {g : Nat} {M : Nat → Bool} {us : List Nat} (h : PartsIn w g M us) (hb : w'.heap[g]? = w.heap[g]?) : PartsIn w' g M us := fun i hi j v hv =>
  (World.cell?_of_block (a := ⟨g, i * 33 + j, none⟩) hb).trans (h i hi j v hv)

/-- The upper parts from one on that have members, rising. -/
noncomputable def uppers (M : Nat → Bool) (f : Nat) : List Nat := (List.range NU).filter fun u => decide (f ≤ u) && liveB M u

/-- The world behind a sort. -/
theorem sorted_below {w W : World} {M : Nat → Bool} {g n : Nat} {d : Array Nat} {os : Array Obj} (hB : Below w.heap.size w W) (hg : w.heap.size ≤ g) : Below w.heap.size w (sortWorldK (encP M) 33 W g 0 n d os) := by
  refine ⟨hB.os, hB.tape, hB.output, ?_, fun k hk => ?_⟩
  · have := hB.size
    simp [sortWorldK, Go.Sort.putRowK]
    omega
  · unfold sortWorldK Go.Sort.grow Go.Sort.putRowK Go.Sort.putRow Go.Sort.mapBlock
    have := hB.size
    simp only [Go.Sort.heap_ahead]
    rw [Array.getElem?_append_left (by simp; omega), Array.getElem?_modify, if_neg (by omega)]
    exact hB.block k hk

open Go.Sort in
theorem parts1_any (u v : Nat) (c1 c2 : List Value) (W : World) : Calls Try.prog 67 #[.agg (.int .i64 (u : Nat) :: c1).toArray, .agg (.int .i64 (v : Nat) :: c2).toArray] W fun e w' => e = .returned (.int .i64 (Lib.compareInt (u : Int) (v : Int))) ∧ ∃ q os', w' = grow (W.drewN q) os' := by
  have hcon := Try.cmp_Compare_int (u : Int) (v : Int)
  generalize Lib.compareInt (u : Int) (v : Int) = r at hcon ⊢
  go_enter Try.func67, Try.ntmps67
  go_wp2_with (go_at_call 68; refine (hcon _).mono ?_; rintro e w' ⟨rfl, rfl⟩)
  go_ret
  exact ⟨rfl, 0, _, by rw [alloc_eq_grow, alloc_eq_grow, grow_grow]; rfl⟩

def cmpU (x y : Nat) : Int := Lib.compareInt (x : Int) (y : Int)
theorem ltU (x y : Nat) : ltOf cmpU x y = decide (x < y) := by
  unfold ltOf cmpU Lib.compareInt
  by_cases h1 : (x : Int) < y
  · simp [h1]
    omega
  · by_cases h2 : (y : Int) < x <;> simp [h1, h2] <;> omega
open Go.Sort in
theorem swoU : SWO (ltOf cmpU) where
  irrefl x := by rw [ltU]; simp
  trans x y z h1 h2 := by rw [ltU] at *; simp at *; omega
  ntrans x y z h1 h2 := by rw [ltU] at *; simp at *; omega
theorem cmpLaysU (M : Nat → Bool) (blk off size : Nat) (w : World) : CmpLays Try.prog 67 #[] (encP M) 33 cmpU blk off size w :=
  fun _ _ _ _ x y => parts1_any x y _ _ _
theorem sort_any {M : Nat → Bool} {blk cap : Nat} {us : List Nat} {w : World} (hH : Go.Sort.HoldsK (encP M) 33 w blk 0 us.toArray) (hblk : blk < w.heap.size) (hsz : us.length < 4611686018427387904) :
    Calls Try.prog 66 #[.slice (some ⟨blk, 0, none⟩) us.length cap, .func (.func 67) #[] #[]] w fun e w' => e = .returned (.tuple #[]) ∧ ∃ d' n os, Go.Sort.PermIn 0 us.length us.toArray d' ∧ Go.Sort.SortedIn (ltOf cmpU) 0 us.length d' ∧ w' = sortWorldK (encP M) 33 w blk 0 n d' os := by
  have eg : ∀ args w, (callFunc 67 args).run Try.prog w = .ok (.enter 67 args) w := enters_of Try.func67 (by kernel_rfl) rfl
  have hcon := AnyQ.slices_SortFunc Try.sortPart 33 Try.isAgg80 Try.sizeOf80 (encP M) (encP_len M) (encP_one M) cmpU swoU 67 #[] blk 0 cap us.toArray w eg (cmpLaysU M blk 0 _ w) hH hblk (by simpa using hsz)
  change Calls Try.prog 66 _ _ _ at hcon
  simpa using hcon
end Go.Proofs.Ytiokbhbggpibpaa
/-
  Parts that are built.
-/
namespace Go.Proofs.Ytiokbhbggpibpaa
open Go Go.RowKit Go.Maps
theorem contA_lit (p : Nat → Bool) : contA p = #[.int .u8 ((bt p 0 : Nat) : Int), .int .u8 ((bt p 1 : Nat) : Int), .int .u8 ((bt p 2 : Nat) : Int), .int .u8 ((bt p 3 : Nat) : Int), .int .u8 ((bt p 4 : Nat) : Int), .int .u8 ((bt p 5 : Nat) : Int), .int .u8 ((bt p 6 : Nat) : Int), .int .u8 ((bt p 7 : Nat) : Int), .int .u8 ((bt p 8 : Nat) : Int), .int .u8 ((bt p 9 : Nat) : Int), .int .u8 ((bt p 10 : Nat) : Int), .int .u8 ((bt p 11 : Nat) : Int), .int .u8 ((bt p 12 : Nat) : Int), .int .u8 ((bt p 13 : Nat) : Int), .int .u8 ((bt p 14 : Nat) : Int), .int .u8 ((bt p 15 : Nat) : Int), .int .u8 ((bt p 16 : Nat) : Int), .int .u8 ((bt p 17 : Nat) : Int), .int .u8 ((bt p 18 : Nat) : Int), .int .u8 ((bt p 19 : Nat) : Int), .int .u8 ((bt p 20 : Nat) : Int), .int .u8 ((bt p 21 : Nat) : Int), .int .u8 ((bt p 22 : Nat) : Int), .int .u8 ((bt p 23 : Nat) : Int), .int .u8 ((bt p 24 : Nat) : Int), .int .u8 ((bt p 25 : Nat) : Int), .int .u8 ((bt p 26 : Nat) : Int), .int .u8 ((bt p 27 : Nat) : Int), .int .u8 ((bt p 28 : Nat) : Int), .int .u8 ((bt p 29 : Nat) : Int), .int .u8 ((bt p 30 : Nat) : Int), .int .u8 ((bt p 31 : Nat) : Int)] := by
  unfold contA
  kernel_rfl
theorem built76 (u : Int) (c0 c1 c2 c3 c4 c5 c6 c7 c8 c9 c10 c11 c12 c13 c14 c15 c16 c17 c18 c19 c20 c21 c22 c23 c24 c25 c26 c27 c28 c29 c30 c31 : Value) : Try.prog.built 80 [(0, .int .i64 u), (1, .agg #[c0, c1, c2, c3, c4, c5, c6, c7, c8, c9, c10, c11, c12, c13, c14, c15, c16, c17, c18, c19, c20, c21, c22, c23, c24, c25, c26, c27, c28, c29, c30, c31])] = some #[.int .i64 u, c0, c1, c2, c3, c4, c5, c6, c7, c8, c9, c10, c11, c12, c13, c14, c15, c16, c17, c18, c19, c20, c21, c22, c23, c24, c25, c26, c27, c28, c29, c30, c31] := by kernel_rfl
theorem builtC (u : Int) (p : Nat → Bool) : Try.prog.built 80 [(0, .int .i64 u), (1, .agg (contA p))] = some (.int .i64 u :: (contA p).toList).toArray := by
  rw [contA_lit]
  exact built76 u _ _ _ _ _ _ _ _ _ _ _ _ _ _ _ _ _ _ _ _ _ _ _ _ _ _ _ _ _ _ _ _
theorem fill73 (c0 c1 c2 c3 c4 c5 c6 c7 c8 c9 c10 c11 c12 c13 c14 c15 c16 c17 c18 c19 c20 c21 c22 c23 c24 c25 c26 c27 c28 c29 c30 c31 c32 : Value) : Instr.fill (fun i => some (i * 33, 33)) ((Array.range (1 * 33)).map ((#[.int .i64 0, .int .u8 0, .int .u8 0, .int .u8 0, .int .u8 0, .int .u8 0, .int .u8 0, .int .u8 0, .int .u8 0, .int .u8 0, .int .u8 0, .int .u8 0, .int .u8 0, .int .u8 0, .int .u8 0, .int .u8 0, .int .u8 0, .int .u8 0, .int .u8 0, .int .u8 0, .int .u8 0, .int .u8 0, .int .u8 0, .int .u8 0, .int .u8 0, .int .u8 0, .int .u8 0, .int .u8 0, .int .u8 0, .int .u8 0, .int .u8 0, .int .u8 0, .int .u8 0] : Array Value)[· % 33]!)) [(0, .agg #[c0, c1, c2, c3, c4, c5, c6, c7, c8, c9, c10, c11, c12, c13, c14, c15, c16, c17, c18, c19, c20, c21, c22, c23, c24, c25, c26, c27, c28, c29, c30, c31, c32])] = some #[c0, c1, c2, c3, c4, c5, c6, c7, c8, c9, c10, c11, c12, c13, c14, c15, c16, c17, c18, c19, c20, c21, c22, c23, c24, c25, c26, c27, c28, c29, c30, c31, c32] := by kernel_rfl
theorem row73 (c0 c1 c2 c3 c4 c5 c6 c7 c8 c9 c10 c11 c12 c13 c14 c15 c16 c17 c18 c19 c20 c21 c22 c23 c24 c25 c26 c27 c28 c29 c30 c31 c32 : Value) (w : World) : (Instr.buildSlice 89 1 #[(0, .agg #[c0, c1, c2, c3, c4, c5, c6, c7, c8, c9, c10, c11, c12, c13, c14, c15, c16, c17, c18, c19, c20, c21, c22, c23, c24, c25, c26, c27, c28, c29, c30, c31, c32])]).run Try.prog w = .ok (.slice (some ⟨w.heap.size, 0, none⟩) 1 1) (w.alloc (.cells #[c0, c1, c2, c3, c4, c5, c6, c7, c8, c9, c10, c11, c12, c13, c14, c15, c16, c17, c18, c19, c20, c21, c22, c23, c24, c25, c26, c27, c28, c29, c30, c31, c32] 80)) := by
  have h := fill73 c0 c1 c2 c3 c4 c5 c6 c7 c8 c9 c10 c11 c12 c13 c14 c15 c16 c17 c18 c19 c20 c21 c22 c23 c24 c25 c26 c27 c28 c29 c30 c31 c32
  have hz := Try.zeroValue80 w
  have hs := Try.sizeOf80 w
  unfold Instr.buildSlice
  simp only [Sem.run_bind, run_underlying Try.underlying89, Result.andThen_ok, hs]
  rw [if_neg (by decide), if_neg (by decide)]
  simp only [Sem.run_bind, hz, Result.andThen_ok, Sem.run_pure, Value.cells]
  have e : (#[Value.int IntKind.i64 0, Value.int IntKind.u8 0, Value.int IntKind.u8 0, Value.int IntKind.u8 0, Value.int IntKind.u8 0, Value.int IntKind.u8 0, Value.int IntKind.u8 0, Value.int IntKind.u8 0, Value.int IntKind.u8 0, Value.int IntKind.u8 0, Value.int IntKind.u8 0, Value.int IntKind.u8 0, Value.int IntKind.u8 0, Value.int IntKind.u8 0, Value.int IntKind.u8 0, Value.int IntKind.u8 0, Value.int IntKind.u8 0, Value.int IntKind.u8 0, Value.int IntKind.u8 0, Value.int IntKind.u8 0, Value.int IntKind.u8 0, Value.int IntKind.u8 0, Value.int IntKind.u8 0, Value.int IntKind.u8 0, Value.int IntKind.u8 0, Value.int IntKind.u8 0, Value.int IntKind.u8 0, Value.int IntKind.u8 0, Value.int IntKind.u8 0, Value.int IntKind.u8 0, Value.int IntKind.u8 0, Value.int IntKind.u8 0, Value.int IntKind.u8 0] : Array Value).size = 33 := rfl
  simp only [e, h]
  simp [go_sem]

/-- A part's cells. -/
def partA (u : Nat) (cs : Array Value) : Array Value := (.int .i64 (u : Nat) :: cs.toList).toArray
theorem run_part (u : Nat) {cs : Array Value} (hc : IsC cs) (w : World) : (Instr.build 80 #[(0, .int .i64 (u : Nat)), (1, .agg cs)]).run Try.prog w = .ok (.agg (partA u cs)) w := by
  obtain ⟨p, rfl⟩ := hc
  exact run_build w 80 _ _ (builtC (u : Int) p)
theorem run_partRow (u : Nat) {cs : Array Value} (hc : IsC cs) (w : World) : (Instr.buildSlice 89 1 #[(0, .agg (partA u cs))]).run Try.prog w = .ok (.slice (some ⟨w.heap.size, 0, none⟩) 1 1) (w.alloc (.cells (partA u cs) 80)) := by
  obtain ⟨p, rfl⟩ := hc
  unfold partA
  rw [contA_lit]
  exact row73 _ _ _ _ _ _ _ _ _ _ _ _ _ _ _ _ _ _ _ _ _ _ _ _ _ _ _ _ _ _ _ _ _ w
theorem wpList_buildP {ops : Array Oper} {rest : List Oper} {op : Oper} {a : Act} {w : World} {Q : Exit → Act → World → Prop} (hgd : op.guard = none) (x y : Operand) (ho : op.op = .build 80 #[(0, x), (1, y)])
    {u : Nat} {cs : Array Value} (hx : a.eval x = .int .i64 (u : Nat)) (hy : a.eval y = .agg cs) (hc : IsC cs)
    (h : wpList Try.prog ops Q rest (a.put op.dst (.agg (partA u cs))) w) : wpList Try.prog ops Q (op :: rest) a w :=
  wpList_plain hgd fun _ hK => by
    unfold Oper.wp execOp
    simp only [ho]
    have e : (#[(0, x), (1, y)] : Array (Nat × Operand)).map (fun (i, z) => (i, a.eval z)) = #[(0, .int .i64 (u : Nat)), (1, .agg cs)] := by simp [hx, hy]
    rw [e]
    simp only [Sem.run_bind, run_part u hc w, Result.andThen_ok, Sem.run_pure]
    exact hK _ _ h
theorem wpList_rowP {ops : Array Oper} {rest : List Oper} {op : Oper} {a : Act} {w : World} {Q : Exit → Act → World → Prop} (hgd : op.guard = none) (x : Operand) (ho : op.op = .buildSlice 89 1 #[(0, x)])
    {u : Nat} {cs : Array Value} (hx : a.eval x = .agg (partA u cs)) (hc : IsC cs)
    (h : wpList Try.prog ops Q rest (a.put op.dst (.slice (some ⟨w.heap.size, 0, none⟩) 1 1)) (w.alloc (.cells (partA u cs) 80))) : wpList Try.prog ops Q (op :: rest) a w :=
  wpList_plain hgd fun _ hK => by
    unfold Oper.wp execOp
    simp only [ho]
    have e : (#[(0, x)] : Array (Nat × Operand)).map (fun (i, z) => (i, a.eval z)) = #[(0, .agg (partA u cs))] := by simp [hx]
    rw [e]
    simp only [Sem.run_bind, run_partRow u hc w, Result.andThen_ok, Sem.run_pure]
    exact hK _ _ h
end Go.Proofs.Ytiokbhbggpibpaa
/-
  What parts does: its walk.
-/
namespace Go.Proofs.Ytiokbhbggpibpaa
open Go Go.RowKit Go.Maps Go.Shelf

theorem eq_of_rising : ∀ {l m : List Nat}, l.Pairwise (· < ·) → m.Pairwise (· < ·) → (∀ x, x ∈ l ↔ x ∈ m) → l = m
  | [], [], _, _, _ => rfl
  | [], b :: s, _, _, h => by have := (h b).2 (by simp); simp at this
  | a :: r, [], _, _, h => by have := (h a).1 (by simp); simp at this
  | a :: r, b :: s, h1, h2, h => by
    obtain ⟨a1, a2⟩ := List.pairwise_cons.1 h1
    obtain ⟨b1, b2⟩ := List.pairwise_cons.1 h2
    have hab : a = b := by
      rcases List.mem_cons.1 ((h a).1 (by simp)) with e | ha
      · exact e
      · rcases List.mem_cons.1 ((h b).2 (by simp)) with e | hb
        · exact e.symm
        · have := a1 b hb; have := b1 a ha; omega
    subst hab
    rw [eq_of_rising a2 b2 (fun p => ⟨fun hp => by
      rcases List.mem_cons.1 ((h p).1 (by simp [hp])) with e | hp'
      · have := a1 p hp; omega
      · exact hp', fun hp => by
      rcases List.mem_cons.1 ((h p).2 (by simp [hp])) with e | hp'
      · have := b1 p hp; omega
      · exact hp'⟩)]

theorem uppers_rises (M : Nat → Bool) (f : Nat) : (uppers M f).Pairwise (· < ·) := List.Pairwise.filter _ List.pairwise_lt_range
theorem mem_uppers {M : Nat → Bool} {f u : Nat} : u ∈ uppers M f ↔ u < NU ∧ f ≤ u ∧ liveU M u := by
  unfold uppers
  rw [List.mem_filter, List.mem_range, Bool.and_eq_true, liveB_iff]
  simp
theorem uppers_len (M : Nat → Bool) (f : Nat) : (uppers M f).length ≤ 8388608 := by
  unfold uppers
  refine Nat.le_trans (List.length_filter_le _ _) ?_
  rw [List.length_range, NU_eq]
  exact Nat.le_refl _

/-- A row that has been sorted. -/
theorem sorted_eq {us : List Nat} {d' : Array Nat} {M : Nat → Bool} {f : Nat} (hp : Go.Sort.PermIn 0 us.length us.toArray d') (hs : Go.Sort.SortedIn (ltOf cmpU) 0 us.length d') (hn : us.Nodup) (hm : ∀ u, u ∈ us ↔ u ∈ uppers M f) : d'.toList = uppers M f := by
  obtain ⟨h1, _, h2⟩ := hp
  have hz : d'.size = us.length := by simpa using h1
  have hperm : d'.toList.Perm us := by
    have e1 : d'.extract 0 us.length = d' := by rw [← hz]; simp
    have e2 : us.toArray.extract 0 us.length = us.toArray := by simp
    rw [e1, e2] at h2
    simpa using h2
  refine eq_of_rising ?_ (uppers_rises M f) (fun x => by rw [hperm.mem_iff, hm])
  rw [List.pairwise_iff_getElem]
  intro i j hi hj hij
  have hi' : i < d'.size := by simpa using hi
  have hj' : j < d'.size := by simpa using hj
  have h3 := hs i j (Nat.zero_le _) hij (by omega)
  rw [ltU, getElem!_pos d' j hj', getElem!_pos d' i hi'] at h3
  have h4 : d'.toList[i] ≠ d'.toList[j] := by
    intro e
    have := (hperm.nodup_iff.2 hn)
    rw [List.nodup_iff_pairwise_ne, List.pairwise_iff_getElem] at this
    exact this i j hi hj hij e
  simp at h3 h4 ⊢
  omega

/-- A slice of parts. -/
def PartsAt (w : World) (v : Value) (M : Nat → Bool) (us : List Nat) : Prop := (v = .slice none 0 0 ∧ us = []) ∨ ∃ g cap, v = .slice (some ⟨g, 0, none⟩) us.length cap ∧ g < w.heap.size ∧ PartsIn w g M us

theorem infoP : (Try.prog.info? 80).map (fun i => (i.zero, i.size, i.bytes)) = some (some (.agg #[.int .i64 0, .int .u8 0, .int .u8 0, .int .u8 0, .int .u8 0, .int .u8 0, .int .u8 0, .int .u8 0, .int .u8 0, .int .u8 0, .int .u8 0, .int .u8 0, .int .u8 0, .int .u8 0, .int .u8 0, .int .u8 0, .int .u8 0, .int .u8 0, .int .u8 0, .int .u8 0, .int .u8 0, .int .u8 0, .int .u8 0, .int .u8 0, .int .u8 0, .int .u8 0, .int .u8 0, .int .u8 0, .int .u8 0, .int .u8 0, .int .u8 0, .int .u8 0, .int .u8 0]), 33, 40) := by kernel_rfl
theorem underParts : Try.prog.underlying 89 = some (.slice 80) := by kernel_rfl

theorem row_not {W : World} {base n : Nat} {e : TypeId} {size : Nat} {v : Value} {xs : List Value} (h : W.ownsRow base e size v n xs) {k : Nat} {o : Obj} (ho : W.heap[k]? = some o) (hc : o.isCells = false) : some k ≠ v.ownBlock := by
  rcases h.2 with ⟨rfl, _⟩ | ⟨g, cap, cur, rfl, _, hcur, _⟩
  · intro e; cases e
  · intro e
    simp only [Value.ownBlock] at e
    injection e with e
    subst e
    rw [ho] at hcur
    injection hcur with hcur
    subst hcur
    cases hc
theorem RangV.objs {w : World} {r : Nat} {M lf : Nat → Bool} {cnt : Nat} {mo : Option Nat} (h : RangV w r M lf cnt mo) : (∃ o : Obj, w.heap[r]? = some o ∧ o.isCells = false) ∧ ∀ m, mo = some m → ∃ o : Obj, w.heap[m]? = some o ∧ o.isCells = false := by
  cases mo with
  | none => exact ⟨⟨_, h.1, rfl⟩, fun m e => by cases e⟩
  | some m =>
    obtain ⟨D, left, ⟨es, clock, since, seen, c0, hb, F, hs, hD, hr, rest⟩, hR, hl⟩ := h
    exact ⟨⟨_, hr, rfl⟩, fun m' e => by injection e with e; subst e; exact ⟨_, hb, rfl⟩⟩
/-- A range stays while a row of its own is written. -/
theorem RangV.grown {w w' : World} {r : Nat} {M lf : Nat → Bool} {cnt : Nat} {mo : Option Nat} (h : RangV w r M lf cnt mo) {base n : Nat} {e : TypeId} {size : Nat} {v : Value} {xs : List Value} (hrow : w.ownsRow base e size v n xs) (hg : w.grownBy w' v.ownBlock) : RangV w' r M lf cnt mo := by
  obtain ⟨⟨o, h1, h2⟩, h3⟩ := h.objs
  refine h.block (hg.block r h.lt (row_not hrow h1 h2)) (fun m hm => ?_)
  obtain ⟨o, h4, h5⟩ := h3 m hm
  exact hg.block m (h.map.lt m hm) (row_not hrow h4 h5)
theorem ownsRow_only {w w' : World} {base b size n : Nat} {e : TypeId} {v : Value} {xs : List Value} (h : w.ownsRow base e size v n xs) (k : Only b w w') (hb : some b ≠ v.ownBlock) : w'.ownsRow base e size v n xs :=
  h.kept (row := some b) ⟨k.os, k.tape, k.output, k.size, fun i hi hne => k.block i hi fun q => hne (by rw [q])⟩ (.inr fun e => hb e.symm)

theorem part_cells (W : World) (u : Nat) (cs : Array Value) : ∀ j v, (Value.int .i64 (u : Nat) :: cs.toList)[j]? = some v → (W.alloc (.cells (partA u cs) 80)).cell? ((⟨W.heap.size, 0, none⟩ : Addr).add j) = some v := by
  intro j v hv
  rw [add_plain, Nat.zero_add, (Holds.new W 80 (partA u cs)).cell j]
  unfold partA
  rw [List.getElem?_toArray]
  exact hv

theorem sorted_holds {W : World} {M : Nat → Bool} {g n : Nat} {us : List Nat} {d : Array Nat} {os : Array Obj} (h : Go.Sort.HoldsK (encP M) 33 W g 0 us.toArray) (hg : g < W.heap.size) (hd : d.size = us.length) : PartsIn (sortWorldK (encP M) 33 W g 0 n d os) g M d.toList := by
  refine partsIn_of (us := d.toList) ?_
  intro t ht
  have h1 := Go.Sort.holds_putRow id (Go.Sort.ahead W n) g 0 (Go.Sort.flatK (encP M) 33 us.toArray) (Go.Sort.flatK (encP M) 33 d) h (by simp [hd]) t (by simpa using ht)
  have hb : (sortWorldK (encP M) 33 W g 0 n d os).heap[g]? = (Go.Sort.putRow id (Go.Sort.ahead W n) g 0 (Go.Sort.flatK (encP M) 33 d)).heap[g]? := by
    unfold sortWorldK Go.Sort.grow Go.Sort.putRowK
    exact Array.getElem?_append_left (by simpa using hg)
  refine ⟨(World.cell?_of_block (a := ⟨g, 0 + t, none⟩) hb).trans ?_, (World.frozen?_of_block (a := ⟨g, 0 + t, none⟩) hb).trans h1.2⟩
  simpa using h1.1

set_option maxRecDepth 8000 in
theorem parts_any {w : World} {s : Value} {mo : Option Nat} {M : Nat → Bool} (h : View w s mo M) (f : Nat)
    :
    Calls Try.prog 53 #[s, .int .i64 (f : Nat)] w fun e w' => ∃ v, e = .returned v ∧ PartsAt w' v M (uppers M f) ∧ Below w.heap.size w w' ∧ ∀ k, v.ownBlock = some k → w.heap.size ≤ k := by
  have hh := held_any h
  have hnone : ∀ (W : World), Calls Try.prog 66 #[.slice none 0 0, .func (.func 67) #[] #[]] W fun e w' => e = .returned (.tuple #[]) ∧ w' = W := fun W => AnyF.slices_SortFunc_none Try.sortPart none 0 _ W
  obtain ⟨z0, i0, hi, hz0, hz1, hz2, hz3⟩ : ∃ (z0 : Value) (i0 : TypeInfo), Try.prog.info? 80 = some i0 ∧ i0.zero = some z0 ∧ i0.size = 33 ∧ i0.bytes = 40 ∧ z0.cells.size = 33 := by
    obtain ⟨i, a, b, c, d⟩ := info_parts infoP
    exact ⟨_, i, a, b, c, d, rfl⟩
  go_enter Try.func53, Try.ntmps53
  go_wp2_with (first
    | (go_at_call 44; refine hh.mono ?_; rintro e w1 ⟨rfl, rfl⟩)
    | (at_range; refine wpList_rangeV rfl _ rfl rfl h.map ?_; intro w0 cnt0 hrg0 hB0 hs0)
    | go_in)
  go_frame
  go_loopw [5, 6, 7] (fun v _ _ wr => ∃ (us : List Nat) (lf : Nat → Bool) (ct : Nat), (v = .slice none 0 0 ∧ us = [] ∨ ∃ g cap, v = .slice (some ⟨g, 0, none⟩) us.length cap) ∧ wr.ownsRow w1.heap.size 80 33 v us.length (us.flatMap (encP M)) ∧ RangV wr w1.heap.size M lf ct mo ∧ us.Nodup ∧ (∀ u, u ∈ us ↔ (f ≤ u ∧ liveU M u ∧ lf u = false)) ∧ Below w1.heap.size w1 wr) (fun _ _ _ wr => leftV wr w1.heap.size mo)
  case atStart =>
    refine ⟨[], _, _, .inl ⟨rfl, rfl⟩, World.ownsRow_nil _ _ _ _, hrg0, by simp, fun u => ?_, hB0⟩
    simp
    intro _ hl
    exact liveB_iff.2 hl
  case round =>
    obtain ⟨us, lf, ct, hv, hrow, hrg, hnd, hmem, hB⟩ := hrel
    go_wp2_with (first
      | (at_next; refine wpList_nextV rfl _ rfl rfl hrg ?_ ?_)
      | go_in)
    · intro hl0
      have hmu : ∀ u, u ∈ us ↔ u ∈ uppers M f := fun u => by
        rw [hmem, mem_uppers]
        refine ⟨fun ⟨a, b, _⟩ => ⟨liveU_lt h.map.bound b, a, b⟩, fun ⟨_, a, b⟩ => ⟨a, b, hl0 u⟩⟩
      have HM : Hid (∀ u, u ∈ us ↔ u ∈ uppers M f) := hmu
      have hul : us.length ≤ NU := nodup_len NU us hnd fun x hx => (mem_uppers.1 ((hmu x).1 hx)).1
      clear hmem hmu
      rcases hv with ⟨rfl, rfl⟩ | ⟨g, cap, rfl⟩
      · go_wp2_with (first
          | (go_at_call 66; refine (hnone _).mono ?_; rintro e w3 ⟨rfl, rfl⟩))
        refine bodyPost_ret (results_tmp rfl _ _ _) rfl ?_
        refine ⟨_, rfl, .inl ⟨rfl, ?_⟩, hB, fun k e => by cases e⟩
        exact List.eq_nil_iff_forall_not_mem.2 fun x hx => by have := (HM.out x).2 hx; simp at this
      · have hHK := holdsK_of hrow rfl
        have hgl := hrow.lt g rfl
        have hso := sort_any (cap := cap) hHK hgl.2 (by rw [NU_eq] at hul; omega)
        go_wp2_with (first
          | (go_at_call 66; refine hso.mono ?_; rintro e w3 ⟨rfl, d', n, os, hp, hs, rfl⟩))
        refine bodyPost_ret (results_tmp rfl _ _ _) rfl ?_
        have hd := sorted_eq hp hs hnd HM.out
        have hz : d'.size = us.length := by simpa using hp.1
        refine ⟨_, rfl, .inr ⟨g, cap, ?_, by have := hgl.2; simp [sortWorldK, Go.Sort.putRowK]; omega, ?_⟩, sorted_below hB hgl.1, fun k e => by simp [Value.ownBlock] at e; have := hgl.1; omega⟩
        · rw [← hd]; simp [hz]
        · rw [← hd]; exact sorted_holds hHK hgl.2 hz
    · intro u w2 ct2 hu hlv hlf hrg2 hlt hO hsz hen
      clear hsz
      have hC := IsC.mk (atU M u)
      have hE : encP M u = .int .i64 (u : Nat) :: (contA (atU M u)).toList := rfl
      generalize contA (atU M u) = cs at hen hC hE ⊢
      have HE : Hid (encP M u = .int .i64 (u : Nat) :: cs.toList) := hE
      have HM : Hid (∀ u, u ∈ us ↔ (f ≤ u ∧ liveU M u ∧ lf u = false)) := hmem
      clear hE hmem
      have hZ := IsC.mk fun _ => false
      obtain ⟨W3, hW⟩ : ∃ W3, World.alloc w2 (.cells (contA fun _ => false) 76) = W3 := ⟨_, rfl⟩
      have h1 : Holds W3 w2.heap.size 76 (contA fun _ => false) := by rw [← hW]; exact Holds.new _ _ _
      have hB3 : Below w2.heap.size w2 W3 := by rw [← hW]; exact below_new1 _ _
      rw [zeroC] at hW
      have hrow2 := ownsRow_only hrow hO (row_not hrow hrg.objs.1.choose_spec.1 hrg.objs.1.choose_spec.2)
      have hul : us.length ≤ 8388608 := by
        have := nodup_len NU us hnd fun x hx => liveU_lt h.map.bound ((HM.out x).1 hx).2.1
        rw [NU_eq] at this
        exact this
      have hsz2 : w1.heap.size ≤ w2.heap.size := Nat.le_trans hB.size hO.size
      have hB2 : Below w1.heap.size w1 w2 := Only.fresh hB hO (Nat.le_refl _)
      have hun : u ∉ us := fun q => by have := ((HM.out u).1 q).2.2; rw [hlf] at this; cases this
      by_cases hfu : f ≤ u
      · have hfi : (f : Int) ≤ u := by omega
        go_wp2_with (first
          | (refine wpList_stK rfl _ _ rfl rfl rfl h1 hC hZ ?_; intro W4 h2 hO4 hs4; clear hs4; have hB4 : Below w2.heap.size w2 W4 := Only.fresh hB3 hO4 (Nat.le_refl _); have hrow4 := ownsRow_below hB4 hrow2)
          | (refine wpList_ldK rfl _ rfl rfl h2 hC ?_)
          | (refine wpList_buildP rfl _ _ rfl rfl rfl hC ?_)
          | (refine wpList_rowP rfl _ rfl rfl hC ?_)
          | (at_builtin; refine wpList_append_own _ rfl _ _ 89 rfl w1.heap.size 80 i0 z0 33 40 underParts hi hz0 hz1 hz2 hz3 (by decide) _ us.length _ rfl (hrow4.alloc _) ⟨W4.heap.size, 0, none⟩ 1 1 (encP M u) rfl (encP_len M u) (by rw [HE.out]; exact part_cells W4 u cs) (encP_one M u) (by unfold maxLen; omega) (by omega) (by have := hB4.size; simp; omega) ?_; intro v' w5 hown' hgrow hnil))
        have hB5 : Below w1.heap.size w1 w5 := ((hB2.trans (hB4.mono hsz2)).alloc (by have := hB4.size; omega) _).grown hgrow (by have := hB4.size; simp; omega) (fun k e => (hrow4.lt k e).1)
        have hrg5 := ((hrg2.below hB4).below (below_new1 W4 (.cells (partA u cs) 80))).grown (hrow4.alloc _) hgrow
        go_roundw
        case rel =>
          refine ⟨us ++ [u], _, ct2, .inr ?_, ?_, hrg5, ?_, fun x => ?_, hB5⟩
          · obtain ⟨g', cap', rfl⟩ := ownsRow_succ hown'
            exact ⟨g', cap', by simp⟩
          · rw [List.flatMap_append, List.length_append]
            simpa using hown'
          · rw [List.nodup_append]
            exact ⟨hnd, by simp, fun a ha b hb => by simp at hb; subst hb; exact fun e => hun (e ▸ ha)⟩
          · rw [List.mem_append, HM.out]
            simp
            constructor
            · rintro (⟨a, b, c⟩ | rfl)
              · exact ⟨a, b, fun d => by rw [c] at d; cases d⟩
              · exact ⟨hfu, hlv, fun _ => rfl⟩
            · rintro ⟨a, b, c⟩
              by_cases e : x = u
              · exact .inr e
              · refine .inl ⟨a, b, ?_⟩
                cases hq : lf x
                · rfl
                · exact absurd (c hq) e
        case measure => rw [hrg5.left, hrg.left]; exact hlt
      · have hfi : ¬ (f : Int) ≤ u := by omega
        go_wp2_with (first
          | (refine wpList_stK rfl _ _ rfl rfl rfl h1 hC hZ ?_; intro W4 h2 hO4 hs4; clear hs4; have hB4 : Below w2.heap.size w2 W4 := Only.fresh hB3 hO4 (Nat.le_refl _); have hrow4 := ownsRow_below hB4 hrow2))
        have hrg5 := hrg2.below hB4
        go_roundw
        case rel =>
          refine ⟨us, _, ct2, hv, hrow4, hrg5, hnd, fun x => ?_, hB2.trans (hB4.mono hsz2)⟩
          rw [HM.out]
          simp
          intro ha hb
          constructor
          · intro c d; rw [c] at d; cases d
          · intro c
            cases hq : lf x
            · rfl
            · have := c hq; omega
        case measure => rw [hrg5.left, hrg.left]; exact hlt
end Go.Proofs.Ytiokbhbggpibpaa
