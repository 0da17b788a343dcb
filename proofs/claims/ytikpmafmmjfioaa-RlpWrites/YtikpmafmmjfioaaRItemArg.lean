/-
  A thing that comes in as an argument, by value.
-/
import Derived.Test.YtikpmafmmjfioaaRItem
import Derived.ProofKit
import Derived.LaidMore
import Derived.OpenShut
import Derived.ChangeOld
namespace Go.Proofs.Ytikpmafmmjfioaa
open Go.ChangeShapes Go.WideShapes Go.ChangeAt Go.RowKit

theorem cellsItem : Try.prog.cellsOf 24 = 3 := by kernel_rfl
theorem cellsBoolI : Try.prog.cellsOf 4 = 1 := by kernel_rfl
theorem cellsStrI : Try.prog.cellsOf 9 = 1 := by kernel_rfl
theorem cellsItemsI : Try.prog.cellsOf 22 = 1 := by kernel_rfl
theorem underBoolI : Try.prog.underlying 4 = some .bool := by kernel_rfl
theorem underStrI : Try.prog.underlying 9 = some .string := by kernel_rfl
theorem underItemsI : Try.prog.underlying 22 = some (.slice 24) := by kernel_rfl

/-- What a thing's three cells say. -/
def ItemCells (w : World) (cs : List Value) : Prop :=
  ∃ (b : Bool) (s : List UInt8) (i : Row) (a : Option Addr) (c : Nat), cs = [.bool b, .string ⟨s.toArray⟩, .slice a (Row.len i) c] ∧ s.length ≤ 9223372036854775807 ∧ i.len ≤ 9223372036854775807 ∧ LiesU w (fun k => k < w.heap.size) i a

theorem row_of (w : World) (bk o : Nat) : ∀ (n p : Nat), (∀ j, j < n → ∃ cs, ItemCells w cs ∧ ∀ k, k < 3 → w.cell? ⟨bk, o + (p + j) * 3 + k, none⟩ = cs[k]?) → ∃ r : Row, r.len = n ∧ LiesU w (fun k => k < w.heap.size) r (some ⟨bk, o + p * 3, none⟩)
  | 0, _, _ => ⟨.nil, rfl, trivial⟩
  | n + 1, p, h => by
    obtain ⟨r, hr, hl⟩ := row_of w bk o n (p + 1) (fun j hj => by
      have := h (j + 1) (by omega)
      rw [show p + (j + 1) = p + 1 + j by omega] at this
      exact this)
    obtain ⟨cs, ⟨b, s, i, a, c, rfl, hs, hi, hli⟩, hc⟩ := h 0 (by omega)
    have c0 := hc 0 (by omega)
    have c1 := hc 1 (by omega)
    have c2 := hc 2 (by omega)
    rw [show o + (p + 0) * 3 + 0 = o + p * 3 by omega] at c0
    rw [show o + (p + 0) * 3 + 1 = o + p * 3 + 1 by omega] at c1
    rw [show o + (p + 0) * 3 + 2 = o + p * 3 + 2 by omega] at c2
    rw [show o + (p + 1) * 3 = o + p * 3 + 3 by omega] at hl
    exact ⟨.item b s i r, by rw [Row.len, hr], bk, o + p * 3, a, c, rfl, World.block_lt_of_cell? w _ c0, c0, c1, c2, hs, hi, hli, hl⟩

theorem open_itemF {H : Type} {enc : TypeId × Value → H} {w : World} : ∀ (fuel : Nat) (cs : List Value) (x : DataW H × List MemPlace), DataW.trod enc Try.prog w 0 (fun _ => true) true fuel 24 cs = some x → ItemCells w cs := by
  intro fuel
  induction fuel using Nat.strongRecOn with
  | _ fuel ih =>
    intro cs x h
    obtain ⟨xs, n, hn, rfl, hl, hlen, hf⟩ := DataW.trod_struct Try.underlying24 h
    rw [cellsItem] at hl
    have f0 : DataW.trod enc Try.prog w 0 (fun _ => true) true n 4 ((cs.drop 0).take (Try.prog.cellsOf 4)) = xs[0]? := hf 0 _ rfl
    have f1 : DataW.trod enc Try.prog w 0 (fun _ => true) true n 9 ((cs.drop 1).take (Try.prog.cellsOf 9)) = xs[1]? := hf 1 _ rfl
    have f2 : DataW.trod enc Try.prog w 0 (fun _ => true) true n 22 ((cs.drop 2).take (Try.prog.cellsOf 22)) = xs[2]? := hf 2 _ rfl
    have hx3 : xs.length = 3 := hlen
    rw [cellsBoolI, List.getElem?_eq_getElem (by omega)] at f0
    rw [cellsStrI, List.getElem?_eq_getElem (by omega)] at f1
    rw [cellsItemsI, List.getElem?_eq_getElem (by omega)] at f2
    match cs, hl with
    | [x0, x1, x2], _ =>
      simp only [List.drop_zero, List.take_succ_cons, List.take_zero, List.drop_succ_cons] at f0 f1 f2
      obtain ⟨b, hb, _⟩ := DataW.trod_bool underBoolI f0
      obtain ⟨s, hs, _, hsl⟩ := DataW.trod_string underStrI f1
      injection hb with hb _
      injection hs with hs _
      subst hb
      subst hs
      have hss : s = ⟨s.data.toList.toArray⟩ := by simp
      have hsl2 : s.data.toList.length ≤ 9223372036854775807 := by have h1 : s.size ≤ maxLen := hsl; unfold maxLen at h1; exact h1
      rcases DataW.trod_slice underItemsI f2 with ⟨hc, _⟩ | ⟨a, len, cap, elems, rest, m, hm, hc, _, _, hlc, hcm, hel, hall, _, _⟩
      · injection hc with hc _
        subst hc
        exact ⟨b, s.data.toList, .nil, none, 0, by rw [← hss]; rfl, hsl2, by simp [Row.len], trivial⟩
      · injection hc with hc _
        subst hc
        rw [cellsItem] at hall
        have key : ∀ j, j < len → ∃ cs, ItemCells w cs ∧ ∀ k, k < 3 → w.cell? ((a.add (j * 3)).add k) = cs[k]? := fun j hj => by
          have h1 := hall j hj
          rw [List.getElem?_eq_getElem (by omega)] at h1
          obtain ⟨cs2, h2, h3⟩ := Option.bind_eq_some_iff.1 h1
          exact ⟨cs2, ih m (by omega) cs2 _ h3, (World.cells?_some h2).2.2⟩
        have hrow : ∃ r : Row, r.len = len ∧ LiesU w (fun k => k < w.heap.size) r (some a) := by
          by_cases h0 : len = 0
          · exact ⟨.nil, by rw [h0]; rfl, trivial⟩
          · obtain ⟨bk, o, spot⟩ := a
            obtain ⟨cs2, ⟨b2, s2, i2, a2, c2, rfl, _⟩, hcell⟩ := key 0 (by omega)
            have hc0 := hcell 0 (by omega)
            have hspot : spot = none := by simpa [Addr.add] using World.cell?_spot hc0
            subst hspot
            obtain ⟨r, hr1, hr2⟩ := row_of w bk o len 0 (fun j hj => by
              obtain ⟨cs3, h3, h4⟩ := key j hj
              refine ⟨cs3, h3, fun k hk => ?_⟩
              have := h4 k hk
              rw [add_plain, add_plain] at this
              rw [Nat.zero_add]; exact this)
            rw [Nat.zero_mul, Nat.add_zero] at hr2
            exact ⟨r, hr1, hr2⟩
        obtain ⟨r, hr1, hr2⟩ := hrow
        exact ⟨b, s.data.toList, r, some a, cap, by rw [← hss, hr1], hsl2, by unfold maxLen at hcm; omega, hr2⟩

theorem open_item {H : Type} {enc : TypeId × Value → H} {w : World} {b0 : Nat} {r : Reach} {v : Value} {d : DataW H} {p : List MemPlace}
    (hv : Value.okWide Try.prog w r b0 24 v) (h : DataW.Trod enc Try.prog w 0 (fun _ => true) true 24 v d p) :
    ∃ (b : Bool) (s : List UInt8) (i : Row) (a : Option Addr) (c : Nat), v = .agg #[.bool b, .string ⟨s.toArray⟩, .slice a i.len c] ∧ s.length ≤ 9223372036854775807 ∧ i.len ≤ 9223372036854775807 ∧ LiesU w (fun k => k < w.heap.size) i a := by
  simp only [Value.okWide, Try.underlying24] at hv
  obtain ⟨cs, rfl, _⟩ := hv
  obtain ⟨fuel, hf⟩ := h
  obtain ⟨b, s, i, a, c, hc, h1, h2, h3⟩ := open_itemF fuel _ _ hf
  refine ⟨b, s, i, a, c, congrArg _ ?_, h1, h2, h3⟩
  have : cs.toList = [.bool b, .string ⟨s.toArray⟩, .slice a i.len c] := hc
  exact Array.toList_inj.1 this
end Go.Proofs.Ytikpmafmmjfioaa
