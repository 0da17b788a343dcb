/-
  A cell, a node and what is asked, among the arguments.
-/
import Derived.Test.YtdgfjaidnedaiaaEArgs
namespace Go.Proofs.Ytdgfjaidnedaiaa
open Go Go.ChangeShapes Go.WideShapes Go.ChangeAt Go.RowKit

theorem cellsAsk : Try.prog.cellsOf 39 = 6 := by kernel_rfl
theorem cellsNode : Try.prog.cellsOf 24 = 2 := by kernel_rfl
theorem cellsBoolE : Try.prog.cellsOf 4 = 1 := by kernel_rfl
theorem cellsCellsE : Try.prog.cellsOf 22 = 1 := by kernel_rfl
theorem underBoolE : Try.prog.underlying 4 = some .bool := by kernel_rfl
theorem len6 {α : Type} : ∀ l : List α, l.length = 6 → ∃ a b c d e f, l = [a, b, c, d, e, f]
  | [a, b, c, d, e, f], _ => ⟨a, b, c, d, e, f, rfl⟩
  | [], h => by simp at h
  | [_], h => by simp at h
  | [_, _], h => by simp at h
  | [_, _, _], h => by simp at h
  | [_, _, _, _], h => by simp at h
  | [_, _, _, _, _], h => by simp at h
  | _ :: _ :: _ :: _ :: _ :: _ :: _ :: _, h => by simp at h
set_option maxRecDepth 100000 in
theorem open_ask {H : Type} {enc : TypeId × Value → H} {w : World} {b0 : Nat} {r : Reach} {v : Value} {d : DataW H} {p : List MemPlace}
    (hv : Value.okWide Try.prog w r b0 39 v) (h : DataW.Trod enc Try.prog w 0 (fun _ => true) true 39 v d p) : ∃ (key : ByteArray) (c : Cl) (at0 : Int), v = askV key c at0 := by
  simp only [Value.okWide, Try.underlying39] at hv
  obtain ⟨cs, rfl, hsz, _⟩ := hv
  obtain ⟨fuel, hf⟩ := h
  obtain ⟨xs, m, hm, _, hl, hlen, hel⟩ := DataW.trod_struct Try.underlying39 hf
  rw [cellsAsk] at hl
  have hx3 : xs.length = 3 := hlen
  have f0 : DataW.trod enc Try.prog w 0 (fun _ => true) true m 9 (((Value.agg cs).cells.toList.drop 0).take (Try.prog.cellsOf 9)) = xs[0]? := hel 0 _ rfl
  have f1 : DataW.trod enc Try.prog w 0 (fun _ => true) true m 27 (((Value.agg cs).cells.toList.drop 1).take (Try.prog.cellsOf 27)) = xs[1]? := hel 1 _ rfl
  have f2 : DataW.trod enc Try.prog w 0 (fun _ => true) true m 3 (((Value.agg cs).cells.toList.drop 5).take (Try.prog.cellsOf 3)) = xs[2]? := hel 2 _ rfl
  rw [cellsStrE, List.getElem?_eq_getElem (by omega)] at f0
  rw [cellsCell, List.getElem?_eq_getElem (by omega)] at f1
  rw [cellsIntE, List.getElem?_eq_getElem (by omega)] at f2
  have hcs : (Value.agg cs).cells.toList = cs.toList := rfl
  rw [hcs] at f0 f1 f2 hl
  obtain ⟨l⟩ := cs
  have hll : l.length = 6 := by simpa using hl
  obtain ⟨x0, x1, x2, x3, x4, x5, rfl⟩ := len6 l hll
  clear hel hf hsz
  simp only [List.drop_zero, List.take_succ_cons, List.take_zero, List.drop_succ_cons] at f0 f1 f2
  obtain ⟨y0, e0, _⟩ := DataW.trod_string underStr f0
  obtain ⟨c, e1⟩ := open_cellE m _ _ f1
  obtain ⟨y2, e2, _, w2⟩ := DataW.trod_int underIntE f2
  injection e0 with e0 _
  injection e2 with e2 _
  unfold clv at e1
  injection e1 with q1 e1
  injection e1 with q2 e1
  injection e1 with q3 e1
  injection e1 with q4 e1
  refine ⟨y0, c, y2, ?_⟩
  rw [e0, e2, q1, q2, q3, q4]
  rfl
set_option maxRecDepth 100000 in
theorem open_cellV {H : Type} {enc : TypeId × Value → H} {w : World} {b0 : Nat} {r : Reach} {v : Value} {d : DataW H} {p : List MemPlace}
    (hv : Value.okWide Try.prog w r b0 27 v) (h : DataW.Trod enc Try.prog w 0 (fun _ => true) true 27 v d p) : ∃ c : Cl, v = cla c := by
  simp only [Value.okWide, Try.underlying27] at hv
  obtain ⟨cs, rfl, hsz, _⟩ := hv
  obtain ⟨fuel, hf⟩ := h
  obtain ⟨c, e⟩ := open_cellE fuel _ _ hf
  refine ⟨c, ?_⟩
  have hcs : (Value.agg cs).cells.toList = cs.toList := rfl
  rw [hcs] at e
  unfold cla
  obtain ⟨l⟩ := cs
  have : l = clv c := by simpa using e
  rw [this]
  rfl
set_option maxRecDepth 100000 in
theorem open_node {H : Type} {enc : TypeId × Value → H} {w : World} {b0 : Nat} {r : Reach} {v : Value} {d : DataW H} {p : List MemPlace}
    (hv : Value.okWide Try.prog w r b0 24 v) (h : DataW.Trod enc Try.prog w 0 (fun _ => true) true 24 v d p) : ∃ (leaf : Bool) (u : Value) (L : List Cl), v = nodeV leaf u ∧ CellsAt w u L := by
  simp only [Value.okWide, Try.underlying24] at hv
  obtain ⟨cs, rfl, hsz, _⟩ := hv
  obtain ⟨fuel, hf⟩ := h
  obtain ⟨xs, m, hm, _, hl, hlen, hel⟩ := DataW.trod_struct Try.underlying24 hf
  rw [cellsNode] at hl
  have hx2 : xs.length = 2 := hlen
  have f0 : DataW.trod enc Try.prog w 0 (fun _ => true) true m 4 (((Value.agg cs).cells.toList.drop 0).take (Try.prog.cellsOf 4)) = xs[0]? := hel 0 _ rfl
  have f1 : DataW.trod enc Try.prog w 0 (fun _ => true) true m 22 (((Value.agg cs).cells.toList.drop 1).take (Try.prog.cellsOf 22)) = xs[1]? := hel 1 _ rfl
  rw [cellsBoolE, List.getElem?_eq_getElem (by omega)] at f0
  rw [cellsCellsE, List.getElem?_eq_getElem (by omega)] at f1
  have hcs : (Value.agg cs).cells.toList = cs.toList := rfl
  rw [hcs] at f0 f1 hl
  obtain ⟨l⟩ := cs
  have hll : l.length = 2 := by simpa using hl
  match l, hll with
  | [x0, x1], _ =>
    clear hel hf hsz
    simp only [List.drop_zero, List.take_succ_cons, List.take_zero, List.drop_succ_cons] at f0 f1
    obtain ⟨y0, e0, _⟩ := DataW.trod_bool underBoolE f0
    injection e0 with e0 _
    obtain ⟨L, hL⟩ := open_cellsF m _ _ f1 rfl
    exact ⟨y0, x1, L, by rw [e0]; rfl, hL⟩
end Go.Proofs.Ytdgfjaidnedaiaa
