/-
  A script of calls among the arguments.
-/
import Derived.Test.YtbenfmhcpipehaaBPlaysS
import Derived.Test.YtbenfmhcpipehaaBArgs
import Derived.LaidMore
import Derived.OpenShut
namespace Go.Proofs.Ytbenfmhcpipehaa
open Go Go.ChangeShapes Go.WideShapes Go.ChangeAt Go.RowKit

/-- A list of what each place has. -/
theorem list_of {α : Type} {P : Nat → α → Prop} : ∀ n, (∀ j, j < n → ∃ t, P j t) → ∃ L : List α, L.length = n ∧ ∀ j t, L[j]? = some t → P j t
  | 0, _ => ⟨[], rfl, fun j t h => by simp at h⟩
  | n + 1, h => by
    obtain ⟨L, h1, h2⟩ := list_of n (fun j hj => h j (by omega))
    obtain ⟨t, ht⟩ := h n (by omega)
    refine ⟨L ++ [t], by simp [h1], fun j u hu => ?_⟩
    by_cases hj : j < n
    · rw [List.getElem?_append_left (by omega)] at hu
      exact h2 j u hu
    · have hjn : j = n := by
        have := (List.getElem?_eq_some_iff.1 hu).1
        simp [h1] at this
        omega
      subst hjn
      rw [List.getElem?_append_right (by omega), h1, Nat.sub_self] at hu
      simp at hu
      rw [← hu]; exact ht
/-- A script in memory. -/
def OpsAt (w : World) (p : Option Addr) (n : Nat) (L : List (Int × Int × Int)) : Prop :=
  n = L.length ∧ (n = 0 ∨ ∃ b o, p = some ⟨b, o, none⟩ ∧ ∀ j t, L[j]? = some t → w.cell? ⟨b, o + j * 3, none⟩ = some (.int .i64 t.1) ∧ w.cell? ⟨b, o + j * 3 + 1, none⟩ = some (.int .i64 t.2.1) ∧ w.cell? ⟨b, o + j * 3 + 2, none⟩ = some (.int .i64 t.2.2)) ∧
  ∀ t ∈ L, (-9223372036854775808 ≤ t.1 ∧ t.1 ≤ 9223372036854775807) ∧ (-9223372036854775808 ≤ t.2.1 ∧ t.2.1 ≤ 9223372036854775807) ∧ (-9223372036854775808 ≤ t.2.2 ∧ t.2.2 ≤ 9223372036854775807)
theorem OpsAt.below {w w' : World} {p : Option Addr} {n : Nat} {L : List (Int × Int × Int)} (h : OpsAt w p n L) (hB : Below w.heap.size w w') : OpsAt w' p n L := by
  obtain ⟨h1, h2, h3⟩ := h
  refine ⟨h1, h2.imp id ?_, h3⟩
  rintro ⟨b, o, rfl, h4⟩
  refine ⟨b, o, rfl, fun j t ht => ?_⟩
  obtain ⟨q0, q1, q2⟩ := h4 j t ht
  have hb := World.block_lt_of_cell? w _ q0
  have hc : ∀ i, w'.cell? ⟨b, i, none⟩ = w.cell? ⟨b, i, none⟩ := fun i => hB.cell (p := ⟨b, i, none⟩) hb
  exact ⟨(hc _).trans q0, (hc _).trans q1, (hc _).trans q2⟩

theorem cellsOp5 : Try.prog.cellsOf 28 = 3 := by kernel_rfl
theorem underOps5 : Try.prog.underlying 22 = some (.slice 28) := by kernel_rfl
set_option maxRecDepth 100000 in
theorem open_op {H : Type} {enc : TypeId × Value → H} {w : World} (fuel : Nat) (cs : List Value) (x : DataW H × List MemPlace) (h : DataW.trod enc Try.prog w 0 (fun _ => true) true fuel 28 cs = some x) :
    ∃ t : Int × Int × Int, cs = [.int .i64 t.1, .int .i64 t.2.1, .int .i64 t.2.2] ∧ (-9223372036854775808 ≤ t.1 ∧ t.1 ≤ 9223372036854775807) ∧ (-9223372036854775808 ≤ t.2.1 ∧ t.2.1 ≤ 9223372036854775807) ∧ (-9223372036854775808 ≤ t.2.2 ∧ t.2.2 ≤ 9223372036854775807) := by
  obtain ⟨xs, n, hn, rfl, hl, hlen, hf⟩ := DataW.trod_struct Try.underlying28 h
  rw [cellsOp5] at hl
  have f0 : DataW.trod enc Try.prog w 0 (fun _ => true) true n 3 ((cs.drop 0).take (Try.prog.cellsOf 3)) = xs[0]? := hf 0 _ rfl
  have f1 : DataW.trod enc Try.prog w 0 (fun _ => true) true n 3 ((cs.drop 1).take (Try.prog.cellsOf 3)) = xs[1]? := hf 1 _ rfl
  have f2 : DataW.trod enc Try.prog w 0 (fun _ => true) true n 3 ((cs.drop 2).take (Try.prog.cellsOf 3)) = xs[2]? := hf 2 _ rfl
  have hx3 : xs.length = 3 := hlen
  rw [cellsInt1, List.getElem?_eq_getElem (by omega)] at f0 f1 f2
  match cs, hl with
  | [x0, x1, x2], _ =>
    simp only [List.drop_zero, List.take_succ_cons, List.take_zero, List.drop_succ_cons] at f0 f1 f2
    obtain ⟨y0, e0, _, w0⟩ := DataW.trod_int underInt1 f0
    obtain ⟨y1, e1, _, w1⟩ := DataW.trod_int underInt1 f1
    obtain ⟨y2, e2, _, w2⟩ := DataW.trod_int underInt1 f2
    injection e0 with e0 _
    injection e1 with e1 _
    injection e2 with e2 _
    exact ⟨(y0, y1, y2), by rw [e0, e1, e2], int_i64 w0, int_i64 w1, int_i64 w2⟩
set_option maxRecDepth 100000 in
theorem open_ops {H : Type} {enc : TypeId × Value → H} {w : World} {b0 : Nat} {r : Reach} {v : Value} {d : DataW H} {p : List MemPlace}
    (hv : Value.okWide Try.prog w r b0 22 v) (h : DataW.Trod enc Try.prog w 0 (fun _ => true) true 22 v d p) :
    ∃ (a : Option Addr) (n c : Nat) (L : List (Int × Int × Int)), v = .slice a n c ∧ OpsAt w a n L ∧ n ≤ c ∧ c ≤ 9223372036854775807 := by
  obtain ⟨a0, len, cap, rfl⟩ := okWide_slice underOps5 hv
  obtain ⟨fuel, hf⟩ := h
  rcases DataW.trod_slice underOps5 hf with ⟨hc, _⟩ | ⟨a, len', cap', elems, rest, m, hm, hc, _, _, hlc, hcm, hel, hall, _, _⟩
  · simp [Value.cells] at hc
    obtain ⟨rfl, rfl, rfl⟩ := hc
    exact ⟨none, 0, 0, [], rfl, ⟨rfl, .inl rfl, by simp⟩, by omega, by omega⟩
  · simp [Value.cells] at hc
    obtain ⟨rfl, rfl, rfl⟩ := hc
    rw [cellsOp5] at hall
    have key : ∀ j, j < len → ∃ t : Int × Int × Int, (∀ k, k < 3 → w.cell? ((a.add (j * 3)).add k) = ([.int .i64 t.1, .int .i64 t.2.1, .int .i64 t.2.2] : List Value)[k]?) ∧ (-9223372036854775808 ≤ t.1 ∧ t.1 ≤ 9223372036854775807) ∧ (-9223372036854775808 ≤ t.2.1 ∧ t.2.1 ≤ 9223372036854775807) ∧ (-9223372036854775808 ≤ t.2.2 ∧ t.2.2 ≤ 9223372036854775807) := fun j hj => by
      have h1 := hall j hj
      rw [List.getElem?_eq_getElem (by omega)] at h1
      obtain ⟨cs2, h2, h3⟩ := Option.bind_eq_some_iff.1 h1
      obtain ⟨t, rfl, ht⟩ := open_op m cs2 _ h3
      exact ⟨t, (World.cells?_some h2).2.2, ht⟩
    obtain ⟨L, hL1, hL2⟩ := list_of len key
    refine ⟨some a, len, cap, L, rfl, ⟨hL1.symm, ?_, fun t ht => ?_⟩, hlc, by unfold maxLen at hcm; omega⟩
    · by_cases h0 : len = 0
      · exact .inl h0
      · right
        obtain ⟨bk, o, spot⟩ := a
        obtain ⟨t, ht, _⟩ := key 0 (by omega)
        have hc0 := ht 0 (by omega)
        have hspot : spot = none := by simpa [Addr.add] using World.cell?_spot hc0
        subst hspot
        refine ⟨bk, o, rfl, fun j t hj => ?_⟩
        have hq := (hL2 j t hj).1
        have q0 := hq 0 (by omega)
        have q1 := hq 1 (by omega)
        have q2 := hq 2 (by omega)
        rw [Addr.add_mid, Addr.add_mid] at q0 q1 q2
        exact ⟨q0, q1, q2⟩
    · obtain ⟨j, hj⟩ := List.getElem?_of_mem ht
      exact (hL2 j t hj).2
end Go.Proofs.Ytbenfmhcpipehaa
