/-
  Scripts of calls among the arguments: the page's number and the byte of each.
-/
import Derived.Test.YtonmjkalkkfhhaaDCopyD
import Derived.Test.YtonmjkalkkfhhaaDArgs
import Derived.Test.YtonmjkalkkfhhaaDFaultsW
import Derived.LaidMore
import Derived.OpenShut
namespace Go.Proofs.Ytonmjkalkkfhhaa
open Go Go.ChangeShapes Go.WideShapes Go.ChangeAt Go.RowKit

/-- A list of what each place has. -/
theorem list_of {α : Type} {P : Nat → α → Prop} : ∀ n, (∀ j, j < n → ∃ t, P j t) → ∃ L : List α, L.length = n ∧ ∀ j t, L[j]? = some t → P j t
  | 0, _ => ⟨[], rfl, fun j t h => by simp at h⟩
  | n + 1, h => by
    obtain ⟨L, h1, h2⟩ := list_of n (fun j hj => h j (by omega))
    obtain ⟨t, ht⟩ := h n (by omega)
    refine ⟨L ++ [t], by simp [h1], fun j u hu => ?_⟩
    by_cases hj : j < n
    · rw [List.getElem?_append_left (by omega)] at hu
      exact h2 j u hu
    · have hjn : j = n := by
        have := (List.getElem?_eq_some_iff.1 hu).1
        simp [h1] at this
        omega
      subst hjn
      rw [List.getElem?_append_right (by omega), h1, Nat.sub_self] at hu
      simp at hu
      rw [← hu]; exact ht
/-- What stands in memory of a script: of each call its number and its byte. -/
def OpsAt (w : World) (p : Option Addr) (n : Nat) (L : List (Int × UInt8)) : Prop :=
  n = L.length ∧ (n = 0 ∨ ∃ b o, p = some ⟨b, o, none⟩ ∧ ∀ j t, L[j]? = some t → w.cell? ⟨b, o + j * 4 + 1, none⟩ = some (.int .i64 t.1) ∧ w.cell? ⟨b, o + j * 4 + 2, none⟩ = some (.int .u8 (t.2.toNat : Nat)))
theorem OpsAt.below {w w' : World} {p : Option Addr} {n : Nat} {L : List (Int × UInt8)} (h : OpsAt w p n L) (hB : Below w.heap.size w w') : OpsAt w' p n L := by
  obtain ⟨h1, h2⟩ := h
  refine ⟨h1, h2.imp id ?_⟩
  rintro ⟨b, o, rfl, h4⟩
  refine ⟨b, o, rfl, fun j t ht => ?_⟩
  obtain ⟨q0, q1⟩ := h4 j t ht
  have hb := World.block_lt_of_cell? w _ q0
  have hc : ∀ i, w'.cell? ⟨b, i, none⟩ = w.cell? ⟨b, i, none⟩ := fun i => hB.cell (p := ⟨b, i, none⟩) hb
  exact ⟨(hc _).trans q0, (hc _).trans q1⟩

theorem cellsOp7 : Try.prog.cellsOf 30 = 4 := by kernel_rfl
theorem cellsU8a : Try.prog.cellsOf 5 = 1 := by kernel_rfl
theorem underU8a : Try.prog.underlying 5 = some (.int .u8) := by kernel_rfl
theorem underOps7 : Try.prog.underlying 22 = some (.slice 30) := by kernel_rfl
set_option maxRecDepth 100000 in
theorem open_op {H : Type} {enc : TypeId × Value → H} {w : World} (fuel : Nat) (cs : List Value) (x : DataW H × List MemPlace) (h : DataW.trod enc Try.prog w 0 (fun _ => true) true fuel 30 cs = some x) :
    ∃ (t : Int × UInt8) (v0 v3 : Value), cs = [v0, .int .i64 t.1, .int .u8 (t.2.toNat : Nat), v3] := by
  obtain ⟨xs, n, hn, rfl, hl, hlen, hf⟩ := DataW.trod_struct Try.underlying30 h
  rw [cellsOp7] at hl
  have f1 : DataW.trod enc Try.prog w 0 (fun _ => true) true n 3 ((cs.drop 1).take (Try.prog.cellsOf 3)) = xs[1]? := hf 1 _ rfl
  have f2 : DataW.trod enc Try.prog w 0 (fun _ => true) true n 5 ((cs.drop 2).take (Try.prog.cellsOf 5)) = xs[2]? := hf 2 _ rfl
  have hx4 : xs.length = 4 := hlen
  rw [cellsInt1, List.getElem?_eq_getElem (by omega)] at f1
  rw [cellsU8a, List.getElem?_eq_getElem (by omega)] at f2
  match cs, hl with
  | [x0, x1, x2, x3], _ =>
    simp only [List.take_succ_cons, List.take_zero, List.drop_succ_cons, List.drop_zero] at f1 f2
    obtain ⟨y1, e1, _, w1⟩ := DataW.trod_int underInt1 f1
    obtain ⟨y2, e2, _, w2⟩ := DataW.trod_int underU8a f2
    injection e1 with e1 _
    injection e2 with e2 _
    have g2 : 0 ≤ y2 ∧ y2 ≤ 255 := by simpa [Lit.wf, IntKind.min, IntKind.max, IntKind.signed, IntKind.bits] using w2
    refine ⟨(y1, UInt8.ofNat y2.toNat), x0, x3, ?_⟩
    rw [e1, e2, show (UInt8.ofNat y2.toNat).toNat = y2.toNat by rw [UInt8.toNat_ofNat']; omega, Int.toNat_of_nonneg g2.1]
set_option maxRecDepth 100000 in
theorem open_ops {H : Type} {enc : TypeId × Value → H} {w : World} {b0 : Nat} {r : Reach} {v : Value} {d : DataW H} {p : List MemPlace}
    (hv : Value.okWide Try.prog w r b0 22 v) (h : DataW.Trod enc Try.prog w 0 (fun _ => true) true 22 v d p) :
    ∃ (a : Option Addr) (n c : Nat) (L : List (Int × UInt8)), v = .slice a n c ∧ OpsAt w a n L ∧ n ≤ c ∧ c ≤ 9223372036854775807 := by
  obtain ⟨a0, len, cap, rfl⟩ := okWide_slice underOps7 hv
  obtain ⟨fuel, hf⟩ := h
  rcases DataW.trod_slice underOps7 hf with ⟨hc, _⟩ | ⟨a, len', cap', elems, rest, m, hm, hc, _, _, hlc, hcm, hel, hall, _, _⟩
  · simp [Value.cells] at hc
    obtain ⟨rfl, rfl, rfl⟩ := hc
    exact ⟨none, 0, 0, [], rfl, ⟨rfl, .inl rfl⟩, by omega, by omega⟩
  · simp [Value.cells] at hc
    obtain ⟨rfl, rfl, rfl⟩ := hc
    rw [cellsOp7] at hall
    have key : ∀ j, j < len → ∃ t : Int × UInt8, (∃ v0, w.cell? ((a.add (j * 4)).add 0) = some v0) ∧ w.cell? ((a.add (j * 4)).add 1) = some (.int .i64 t.1) ∧ w.cell? ((a.add (j * 4)).add 2) = some (.int .u8 (t.2.toNat : Nat)) := fun j hj => by
      have h1 := hall j hj
      rw [List.getElem?_eq_getElem (by omega)] at h1
      obtain ⟨cs2, h2, h3⟩ := Option.bind_eq_some_iff.1 h1
      obtain ⟨t, v0, v3, rfl⟩ := open_op m cs2 _ h3
      have hq := (World.cells?_some h2).2.2
      exact ⟨t, ⟨v0, hq 0 (by omega)⟩, hq 1 (by omega), hq 2 (by omega)⟩
    obtain ⟨L, hL1, hL2⟩ := list_of len key
    refine ⟨some a, len, cap, L, rfl, ⟨hL1.symm, ?_⟩, hlc, by unfold maxLen at hcm; omega⟩
    by_cases h0 : len = 0
    · exact .inl h0
    · right
      obtain ⟨bk, o, spot⟩ := a
      obtain ⟨t, ⟨v0, ht⟩, _⟩ := key 0 (by omega)
      have hspot : spot = none := by simpa [Addr.add] using World.cell?_spot ht
      subst hspot
      refine ⟨bk, o, rfl, fun j t hj => ?_⟩
      obtain ⟨_, q1, q2⟩ := hL2 j t hj
      rw [Addr.add_mid, Addr.add_mid] at q1 q2
      exact ⟨q1, q2⟩
end Go.Proofs.Ytonmjkalkkfhhaa
