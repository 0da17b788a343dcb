/-
  Rows of chunks, and two numbers, among the arguments.
-/
import Derived.Test.YtiokbhbggpibpaaHGA
import Derived.ProofKit
import Derived.LaidMore
import Derived.OpenShut
import Derived.ChangeOld
import Derived.WideKeyArr2
namespace Go.Proofs.Ytiokbhbggpibpaa
open Go Go.ChangeShapes Go.WideShapes Go.ChangeAt Go.RowKit

theorem list_ofP {α : Type} {P : Nat → α → Prop} : ∀ n, (∀ j, j < n → ∃ t, P j t) → ∃ L : List α, L.length = n ∧ ∀ j t, L[j]? = some t → P j t
  | 0, _ => ⟨[], rfl, fun j t h => by simp at h⟩
  | n + 1, h => by
    obtain ⟨L, h1, h2⟩ := list_ofP n (fun j hj => h j (by omega))
    obtain ⟨t, ht⟩ := h n (by omega)
    refine ⟨L ++ [t], by simp [h1], fun j u hu => ?_⟩
    by_cases hj : j < n
    · rw [List.getElem?_append_left (by omega)] at hu
      exact h2 j u hu
    · have hjn : j = n := by
        have := (List.getElem?_eq_some_iff.1 hu).1
        simp [h1] at this
        omega
      subst hjn
      rw [List.getElem?_append_right (by omega), h1, Nat.sub_self] at hu
      simp at hu
      rw [← hu]; exact ht
theorem cellsCkP : Try.prog.cellsOf 44 = 2 := by kernel_rfl
theorem cellsStrP : Try.prog.cellsOf 9 = 1 := by kernel_rfl
theorem cellsIntP : Try.prog.cellsOf 3 = 1 := by kernel_rfl
theorem underStrP : Try.prog.underlying 9 = some .string := by kernel_rfl
theorem underIntP : Try.prog.underlying 3 = some (.int .i64) := by kernel_rfl
theorem cellsTwoP : Try.prog.cellsOf 24 = 2 := by kernel_rfl
theorem underTwoP : Try.prog.underlying 24 = some (.array 2 3) := by kernel_rfl
set_option maxRecDepth 100000 in
theorem open_ckP {H : Type} {enc : TypeId × Value → H} {w : World} (fuel : Nat) (cs : List Value) (x : DataW H × List MemPlace) (h : DataW.trod enc Try.prog w 0 (fun _ => true) true fuel 44 cs = some x) :
    ∃ (u : Int) (s : ByteArray), cs = [.int .i64 u, .string s] := by
  obtain ⟨xs, n, hn, rfl, hl, hlen, hf⟩ := DataW.trod_struct Try.underlying44 h
  rw [cellsCkP] at hl
  have f0 : DataW.trod enc Try.prog w 0 (fun _ => true) true n 3 ((cs.drop 0).take (Try.prog.cellsOf 3)) = xs[0]? := hf 0 _ rfl
  have f1 : DataW.trod enc Try.prog w 0 (fun _ => true) true n 9 ((cs.drop 1).take (Try.prog.cellsOf 9)) = xs[1]? := hf 1 _ rfl
  have hx2 : xs.length = 2 := hlen
  rw [cellsIntP, List.getElem?_eq_getElem (by omega)] at f0
  rw [cellsStrP, List.getElem?_eq_getElem (by omega)] at f1
  match cs, hl with
  | [x0, x1], _ =>
    simp only [List.take_succ_cons, List.take_zero, List.drop_succ_cons, List.drop_zero] at f0 f1
    obtain ⟨y0, e0, _, w0⟩ := DataW.trod_int underIntP f0
    obtain ⟨y1, e1, _⟩ := DataW.trod_string underStrP f1
    injection e0 with e0 _
    injection e1 with e1 _
    exact ⟨y0, y1, by rw [e0, e1]⟩
set_option maxRecDepth 100000 in
theorem open_chunks {H : Type} {enc : TypeId × Value → H} {w : World} {b0 : Nat} {r : Reach} {v : Value} {d : DataW H} {p : List MemPlace}
    (hv : Value.okWide Try.prog w r b0 23 v) (h : DataW.Trod enc Try.prog w 0 (fun _ => true) true 23 v d p) :
    ∃ L : List (Int × ByteArray), ChunksAt w v L := by
  obtain ⟨a0, len, cap, rfl⟩ := okWide_slice underChunks hv
  obtain ⟨fuel, hf⟩ := h
  have hcs : (Value.slice a0 len cap).cells.toList = [.slice a0 len cap] := by simp [Value.cells]
  generalize Value.slice a0 len cap = v at *
  generalize hce : v.cells.toList = cs at hf hcs
  clear hce
  subst hcs
  rcases DataW.trod_slice underChunks hf with ⟨hc, _⟩ | ⟨a, len', cap', elems, rest, m, hm, hc, _, _, hlc, hcm, hel, hall, _, _⟩
  · have hc : v = .slice none 0 0 := by simpa using hc
    subst hc
    exact ⟨[], .inl ⟨rfl, none, 0, rfl⟩⟩
  · have hc : v = .slice (some a) len' cap' := by simpa using hc
    subst hc
    rw [cellsCkP] at hall
    have key : ∀ j, j < len' → ∃ c : Int × ByteArray, ∀ i, i < 2 → w.cell? ((a.add (j * 2)).add i) = ([.int .i64 c.1, .string c.2] : List Value)[i]? := fun j hj => by
      have h1 := hall j hj
      rw [List.getElem?_eq_getElem (by omega)] at h1
      obtain ⟨cs2, h2, h3⟩ := Option.bind_eq_some_iff.1 h1
      obtain ⟨u, s, rfl⟩ := open_ckP m cs2 _ h3
      have hq := (World.cells?_some h2).2.2
      refine ⟨(u, s), fun i hi => ?_⟩
      exact hq i (by omega)
    obtain ⟨L, hL1, hL2⟩ := list_ofP len' key
    refine ⟨L, ?_⟩
    by_cases h0 : len' = 0
    · subst h0
      exact .inl ⟨List.eq_nil_of_length_eq_zero hL1, _, _, rfl⟩
    · obtain ⟨bk, o, spot⟩ := a
      obtain ⟨c, hc⟩ := key 0 (by omega)
      have hspot : spot = none := by
        have h3 := hc 0 (by omega)
        have h4 : ([.int .i64 c.1, .string c.2] : List Value)[0]? = some (.int .i64 c.1) := rfl
        rw [h4] at h3
        simpa [Addr.add] using World.cell?_spot h3
      subst hspot
      refine .inr ⟨bk, o, cap', by rw [hL1], by omega, fun j t hj => ?_⟩
      have q := hL2 j t hj
      have q0 := q 0 (by omega)
      have q1 := q 1 (by omega)
      rw [Addr.add_mid, Addr.add_mid] at q0 q1
      exact ⟨q0, q1⟩
set_option maxRecDepth 100000 in
theorem open_twoI {H : Type} {enc : TypeId × Value → H} {w : World} {base b0 : Nat} {spare : Nat → Bool} {held : Bool} {r : Reach} {v : Value} {d : DataW H} {p : List MemPlace}
    (hv : Value.okWide Try.prog w r b0 24 v) (h : DataW.Trod enc Try.prog w base spare held 24 v d p) : ∃ x y : Int, v = .agg #[.int .i64 x, .int .i64 y] ∧ (Lit.int .i64 x).wf = true ∧ (Lit.int .i64 y).wf = true := by
  simp only [Value.okWide, underTwoP] at hv
  obtain ⟨cs, rfl, hsz, _⟩ := hv
  rw [cellsTwoP] at hsz
  obtain ⟨fuel, hf⟩ := h
  obtain ⟨xs, m, rfl, _, _, hn, hel⟩ := DataW.trod_array underTwoP hf
  have key : ∀ i, i < 2 → ∃ x : Int, cs[i]? = some (.int .i64 x) ∧ (Lit.int .i64 x).wf = true := fun i hi => by
    have h0 := hel i hi
    rw [List.getElem?_eq_getElem (by omega), cellsIntP, Nat.mul_one] at h0
    obtain ⟨x, e1, _, wx⟩ := DataW.trod_int underIntP h0
    refine ⟨x, ?_, wx⟩
    have e2 : ((cs.toList.drop i).take 1)[0]? = some (.int .i64 x) := by
      show ((((Value.agg cs).cells.toList).drop i).take 1)[0]? = _
      rw [e1]; rfl
    rw [List.getElem?_take, if_pos (by omega), List.getElem?_drop, Nat.add_zero, Array.getElem?_toList] at e2
    exact e2
  obtain ⟨x, hx, wx⟩ := key 0 (by omega)
  obtain ⟨y, hy, wy⟩ := key 1 (by omega)
  refine ⟨x, y, congrArg _ ?_, wx, wy⟩
  apply Array.ext_getElem?
  intro i
  match i with
  | 0 => exact hx
  | 1 => exact hy
  | i + 2 => rw [Array.getElem?_eq_none (by omega), Array.getElem?_eq_none (by simp)]
end Go.Proofs.Ytiokbhbggpibpaa
