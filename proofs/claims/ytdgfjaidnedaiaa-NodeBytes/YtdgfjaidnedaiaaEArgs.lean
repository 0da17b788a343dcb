/-
  Rows of cells among the arguments.
-/
import Derived.Test.YtdgfjaidnedaiaaEAwake
import Derived.ProofKit
import Derived.LaidMore
import Derived.OpenShut
import Derived.ChangeOld
namespace Go.Proofs.Ytdgfjaidnedaiaa
open Go Go.ChangeShapes Go.WideShapes Go.ChangeAt Go.RowKit

theorem list_ofE {α : Type} {P : Nat → α → Prop} : ∀ n, (∀ j, j < n → ∃ t, P j t) → ∃ L : List α, L.length = n ∧ ∀ j t, L[j]? = some t → P j t
  | 0, _ => ⟨[], rfl, fun j t h => by simp at h⟩
  | n + 1, h => by
    obtain ⟨L, h1, h2⟩ := list_ofE n (fun j hj => h j (by omega))
    obtain ⟨t, ht⟩ := h n (by omega)
    refine ⟨L ++ [t], by simp [h1], fun j u hu => ?_⟩
    by_cases hj : j < n
    · rw [List.getElem?_append_left (by omega)] at hu
      exact h2 j u hu
    · have hjn : j = n := by
        have := (List.getElem?_eq_some_iff.1 hu).1
        simp [h1] at this
        omega
      subst hjn
      rw [List.getElem?_append_right (by omega), h1, Nat.sub_self] at hu
      simp at hu
      rw [← hu]; exact ht
def askV (key : ByteArray) (c : Cl) (at0 : Int) : Value := .agg #[.string key, .string c.k, .string c.v, .int .i64 c.p, .int .i64 c.s, .int .i64 at0]
theorem cellsCell : Try.prog.cellsOf 27 = 4 := by kernel_rfl
theorem cellsStrE : Try.prog.cellsOf 9 = 1 := by kernel_rfl
theorem cellsIntE : Try.prog.cellsOf 3 = 1 := by kernel_rfl
set_option maxRecDepth 100000 in
theorem open_cellE {H : Type} {enc : TypeId × Value → H} {w : World} (fuel : Nat) (cs : List Value) (x : DataW H × List MemPlace) (h : DataW.trod enc Try.prog w 0 (fun _ => true) true fuel 27 cs = some x) :
    ∃ c : Cl, cs = clv c := by
  obtain ⟨xs, n, hn, rfl, hl, hlen, hf⟩ := DataW.trod_struct Try.underlying27 h
  rw [cellsCell] at hl
  have f0 : DataW.trod enc Try.prog w 0 (fun _ => true) true n 9 ((cs.drop 0).take (Try.prog.cellsOf 9)) = xs[0]? := hf 0 _ rfl
  have f1 : DataW.trod enc Try.prog w 0 (fun _ => true) true n 9 ((cs.drop 1).take (Try.prog.cellsOf 9)) = xs[1]? := hf 1 _ rfl
  have f2 : DataW.trod enc Try.prog w 0 (fun _ => true) true n 3 ((cs.drop 2).take (Try.prog.cellsOf 3)) = xs[2]? := hf 2 _ rfl
  have f3 : DataW.trod enc Try.prog w 0 (fun _ => true) true n 3 ((cs.drop 3).take (Try.prog.cellsOf 3)) = xs[3]? := hf 3 _ rfl
  have hx4 : xs.length = 4 := hlen
  rw [cellsStrE, List.getElem?_eq_getElem (by omega)] at f0 f1
  rw [cellsIntE, List.getElem?_eq_getElem (by omega)] at f2 f3
  match cs, hl with
  | [x0, x1, x2, x3], _ =>
    simp only [List.take_succ_cons, List.take_zero, List.drop_succ_cons, List.drop_zero] at f0 f1 f2 f3
    obtain ⟨y0, e0, _⟩ := DataW.trod_string underStr f0
    obtain ⟨y1, e1, _⟩ := DataW.trod_string underStr f1
    obtain ⟨y2, e2, _, w2⟩ := DataW.trod_int underIntE f2
    obtain ⟨y3, e3, _, w3⟩ := DataW.trod_int underIntE f3
    injection e0 with e0 _
    injection e1 with e1 _
    injection e2 with e2 _
    injection e3 with e3 _
    refine ⟨⟨y0, y1, y2, y3⟩, ?_⟩
    rw [e0, e1, e2, e3]
    rfl
set_option maxRecDepth 100000 in
theorem open_cellsF {H : Type} {enc : TypeId × Value → H} {w : World} {v : Value} (fuel : Nat) (cs : List Value) (x : DataW H × List MemPlace) (hf : DataW.trod enc Try.prog w 0 (fun _ => true) true fuel 22 cs = some x) (hcs : cs = [v]) :
    ∃ L : List Cl, CellsAt w v L := by
  subst hcs
  rcases DataW.trod_slice underCells hf with ⟨hc, _⟩ | ⟨a, len', cap', elems, rest, m, hm, hc, _, _, hlc, hcm, hel, hall, _, _⟩
  · have hc : v = .slice none 0 0 := by simpa using hc
    subst hc
    exact ⟨[], .inl ⟨rfl, none, 0, rfl⟩⟩
  · have hc : v = .slice (some a) len' cap' := by simpa using hc
    subst hc
    rw [cellsCell] at hall
    have key : ∀ j, j < len' → ∃ c : Cl, ∀ i, i < 4 → w.cell? ((a.add (j * 4)).add i) = (clv c)[i]? := fun j hj => by
      have h1 := hall j hj
      rw [List.getElem?_eq_getElem (by omega)] at h1
      obtain ⟨cs2, h2, h3⟩ := Option.bind_eq_some_iff.1 h1
      obtain ⟨c, rfl⟩ := open_cellE m cs2 _ h3
      have hq := (World.cells?_some h2).2.2
      refine ⟨c, fun i hi => ?_⟩
      exact hq i (by omega)
    obtain ⟨L, hL1, hL2⟩ := list_ofE len' key
    refine ⟨L, ?_⟩
    by_cases h0 : len' = 0
    · subst h0
      exact .inl ⟨List.eq_nil_of_length_eq_zero hL1, _, _, rfl⟩
    · obtain ⟨bk, o, spot⟩ := a
      obtain ⟨c, hc⟩ := key 0 (by omega)
      have hspot : spot = none := by
        have h3 := hc 0 (by omega)
        have h4 : (clv c)[0]? = some (.string c.k) := rfl
        rw [h4] at h3
        simpa [Addr.add] using World.cell?_spot h3
      subst hspot
      refine .inr ⟨bk, o, cap', by rw [hL1], by omega, fun j t hj => ?_⟩
      have q := hL2 j t hj
      have q0 := q 0 (by omega)
      have q1 := q 1 (by omega)
      have q2 := q 2 (by omega)
      have q3 := q 3 (by omega)
      rw [Addr.add_mid, Addr.add_mid] at q0 q1 q2 q3
      exact ⟨q0, q1, q2, q3⟩
set_option maxRecDepth 100000 in
theorem open_cells {H : Type} {enc : TypeId × Value → H} {w : World} {b0 : Nat} {r : Reach} {v : Value} {d : DataW H} {p : List MemPlace}
    (hv : Value.okWide Try.prog w r b0 22 v) (h : DataW.Trod enc Try.prog w 0 (fun _ => true) true 22 v d p) :
    ∃ L : List Cl, CellsAt w v L := by
  obtain ⟨a0, len, cap, rfl⟩ := okWide_slice underCells hv
  obtain ⟨fuel, hf⟩ := h
  exact open_cellsF fuel _ _ hf (by simp [Value.cells])
end Go.Proofs.Ytdgfjaidnedaiaa
