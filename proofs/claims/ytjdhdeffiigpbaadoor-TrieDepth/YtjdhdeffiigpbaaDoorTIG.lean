/-
  Texts of this claim, put together.
-/
import Derived.Test.YtjdhdeffiigpbaaDoorTBranchW
import Derived.RowKit3
import Derived.ChangeOld
import Derived.ProofKit
import Derived.OpenShut
import Derived.WideKeyArr2
import Derived.Test.YtjdhdeffiigpbaaDoorTMem
import Derived.LaidMore
/-
  An array of texts that comes in as an argument, by value.
-/
namespace Go.Proofs.YtjdhdeffiigpbaaDoor
open Go.ChangeShapes Go.WideShapes Go.ChangeAt Go.RowKit

theorem underStrT : Tryd.prog.underlying 9 = some .string := by kernel_rfl
theorem cellsStrT : Tryd.prog.cellsOf 9 = 1 := by kernel_rfl
set_option maxRecDepth 4000 in
theorem open_strs {H : Type} {enc : TypeId × Value → H} {w : World} {base b0 : Nat} {spare : Nat → Bool} {held : Bool} {r : Reach} {v : Value} {d : DataW H} {p : List MemPlace} {t : TypeId} {n : Nat}
    (hu : Tryd.prog.underlying t = some (.array n 9)) (hcl : Tryd.prog.cellsOf t = n)
    (hv : Value.okWide Tryd.prog w r b0 t v) (h : DataW.Trod enc Tryd.prog w base spare held t v d p) : ∃ R : Nat → ByteArray, v = .agg (strA n R) := by
  simp only [Value.okWide, hu] at hv
  obtain ⟨cs, rfl, hsz, _⟩ := hv
  rw [hcl] at hsz
  obtain ⟨fuel, hf⟩ := h
  obtain ⟨xs, m, rfl, _, _, hn, hel⟩ := DataW.trod_array hu hf
  have key : ∀ i, i < n → ∃ x : ByteArray, cs[i]? = some (.string x) := fun i hi => by
    have h0 := hel i hi
    rw [List.getElem?_eq_getElem (by omega), cellsStrT, Nat.mul_one] at h0
    obtain ⟨x, e1, _⟩ := DataW.trod_string underStrT h0
    refine ⟨x, ?_⟩
    have e2 : ((cs.toList.drop i).take 1)[0]? = some (.string x) := by
      show ((((Value.agg cs).cells.toList).drop i).take 1)[0]? = _
      rw [e1]; rfl
    rw [List.getElem?_take, if_pos (by omega), List.getElem?_drop, Nat.add_zero, Array.getElem?_toList] at e2
    exact e2
  refine ⟨fun i => if h : i < n then (key i h).choose else ⟨#[]⟩, congrArg _ ?_⟩
  apply Array.ext_getElem?
  intro i
  by_cases hi : i < n
  · rw [strA_get n _ i hi]
    refine (key i hi).choose_spec.trans ?_
    simp [hi]
  · rw [Array.getElem?_eq_none (by omega), Array.getElem?_eq_none (by rw [strA_size]; omega)]
theorem under16 : Tryd.prog.underlying 22 = some (.array 16 9) := by kernel_rfl
theorem cells16 : Tryd.prog.cellsOf 22 = 16 := by kernel_rfl
theorem under2S : Tryd.prog.underlying 43 = some (.array 2 9) := by kernel_rfl
theorem cells2S : Tryd.prog.cellsOf 43 = 2 := by kernel_rfl
end Go.Proofs.YtjdhdeffiigpbaaDoor
/-
  A number that comes in as an argument: its range.
-/
namespace Go.Proofs.YtjdhdeffiigpbaaDoor
open Go.ChangeShapes Go.WideShapes Go.ChangeAt Go.RowKit

theorem int_wide {a : Int} (h : (Lit.int .i64 a).wf = true) : -9223372036854775808 ≤ a ∧ a ≤ 9223372036854775807 := by
  simpa [Lit.wf, IntKind.min, IntKind.max, IntKind.signed, IntKind.bits] using h
end Go.Proofs.YtjdhdeffiigpbaaDoor
/-
  Rows of pairs among the arguments.
-/
namespace Go.Proofs.YtjdhdeffiigpbaaDoor
open Go Go.ChangeShapes Go.WideShapes Go.ChangeAt Go.RowKit

theorem list_ofT {α : Type} {P : Nat → α → Prop} : ∀ n, (∀ j, j < n → ∃ t, P j t) → ∃ L : List α, L.length = n ∧ ∀ j t, L[j]? = some t → P j t
  | 0, _ => ⟨[], rfl, fun j t h => by simp at h⟩
  | n + 1, h => by
    obtain ⟨L, h1, h2⟩ := list_ofT n (fun j hj => h j (by omega))
    obtain ⟨t, ht⟩ := h n (by omega)
    refine ⟨L ++ [t], by simp [h1], fun j u hu => ?_⟩
    by_cases hj : j < n
    · rw [List.getElem?_append_left (by omega)] at hu
      exact h2 j u hu
    · have hjn : j = n := by
        have := (List.getElem?_eq_some_iff.1 hu).1
        simp [h1] at this
        omega
      subst hjn
      rw [List.getElem?_append_right (by omega), h1, Nat.sub_self] at hu
      simp at hu
      rw [← hu]; exact ht
theorem cellsPair : Tryd.prog.cellsOf 33 = 2 := by kernel_rfl
set_option maxRecDepth 100000 in
theorem open_pairE {H : Type} {enc : TypeId × Value → H} {w : World} (fuel : Nat) (cs : List Value) (x : DataW H × List MemPlace) (h : DataW.trod enc Tryd.prog w 0 (fun _ => true) true fuel 33 cs = some x) :
    ∃ c : Pr, cs = encP c := by
  obtain ⟨xs, n, hn, rfl, hl, hlen, hf⟩ := DataW.trod_struct Tryd.underlying33 h
  rw [cellsPair] at hl
  have f0 : DataW.trod enc Tryd.prog w 0 (fun _ => true) true n 9 ((cs.drop 0).take (Tryd.prog.cellsOf 9)) = xs[0]? := hf 0 _ rfl
  have f1 : DataW.trod enc Tryd.prog w 0 (fun _ => true) true n 9 ((cs.drop 1).take (Tryd.prog.cellsOf 9)) = xs[1]? := hf 1 _ rfl
  have hx2 : xs.length = 2 := hlen
  rw [cellsStrT, List.getElem?_eq_getElem (by omega)] at f0 f1
  match cs, hl with
  | [x0, x1], _ =>
    simp only [List.take_succ_cons, List.take_zero, List.drop_succ_cons, List.drop_zero] at f0 f1
    obtain ⟨y0, e0, _⟩ := DataW.trod_string underStrT f0
    obtain ⟨y1, e1, _⟩ := DataW.trod_string underStrT f1
    injection e0 with e0 _
    injection e1 with e1 _
    refine ⟨(y0, y1), ?_⟩
    rw [e0, e1]
    rfl
set_option maxRecDepth 100000 in
theorem open_pairsF {H : Type} {enc : TypeId × Value → H} {w : World} {v : Value} (fuel : Nat) (cs : List Value) (x : DataW H × List MemPlace) (hf : DataW.trod enc Tryd.prog w 0 (fun _ => true) true fuel 30 cs = some x) (hcs : cs = [v]) :
    ∃ L : List Pr, PairsAt w v L ∧ L.length ≤ 9223372036854775807 := by
  subst hcs
  rcases DataW.trod_slice underPairs hf with ⟨hc, _⟩ | ⟨a, len', cap', elems, rest, m, hm, hc, _, _, hlc, hcm, hel, hall, _, _⟩
  · have hc : v = .slice none 0 0 := by simpa using hc
    subst hc
    exact ⟨[], .inl ⟨rfl, none, 0, rfl⟩, by simp⟩
  · have hc : v = .slice (some a) len' cap' := by simpa using hc
    subst hc
    rw [cellsPair] at hall
    have key : ∀ j, j < len' → ∃ c : Pr, ∀ i, i < 2 → w.cell? ((a.add (j * 2)).add i) = (encP c)[i]? := fun j hj => by
      have h1 := hall j hj
      rw [List.getElem?_eq_getElem (by omega)] at h1
      obtain ⟨cs2, h2, h3⟩ := Option.bind_eq_some_iff.1 h1
      obtain ⟨c, rfl⟩ := open_pairE m cs2 _ h3
      have hq := (World.cells?_some h2).2.2
      refine ⟨c, fun i hi => ?_⟩
      exact hq i (by omega)
    obtain ⟨L, hL1, hL2⟩ := list_ofT len' key
    refine ⟨L, ?_, by unfold maxLen at hcm; omega⟩
    by_cases h0 : len' = 0
    · subst h0
      exact .inl ⟨List.eq_nil_of_length_eq_zero hL1, _, _, rfl⟩
    · obtain ⟨bk, o, spot⟩ := a
      obtain ⟨c, hc⟩ := key 0 (by omega)
      have hspot : spot = none := by
        have h3 := hc 0 (by omega)
        have h4 : (encP c)[0]? = some (.string c.1) := rfl
        rw [h4] at h3
        simpa [Addr.add] using World.cell?_spot h3
      subst hspot
      refine .inr ⟨bk, o, cap', by rw [hL1], by omega, fun j t hj => ?_⟩
      have q := hL2 j t hj
      have q0 := q 0 (by omega)
      have q1 := q 1 (by omega)
      rw [Addr.add_mid, Addr.add_mid] at q0 q1
      exact ⟨q0, q1⟩
set_option maxRecDepth 100000 in
theorem open_pairs {H : Type} {enc : TypeId × Value → H} {w : World} {b0 : Nat} {r : Reach} {v : Value} {d : DataW H} {p : List MemPlace}
    (hv : Value.okWide Tryd.prog w r b0 30 v) (h : DataW.Trod enc Tryd.prog w 0 (fun _ => true) true 30 v d p) :
    ∃ L : List Pr, PairsAt w v L ∧ L.length ≤ 9223372036854775807 := by
  obtain ⟨a0, len, cap, rfl⟩ := okWide_slice underPairs hv
  obtain ⟨fuel, hf⟩ := h
  exact open_pairsF fuel _ _ hf (by simp [Value.cells])
end Go.Proofs.YtjdhdeffiigpbaaDoor
