/-
  From what the listed variables read as to the tables in memory; metas, kinds and numbers that come in as arguments.
-/
import Derived.Test.YtjbenoaefjlbaaaDoorPAwake
import Derived.Test.YtjbenoaefjlbaaaDoorRows
import Derived.ProofKit
import Derived.LaidMore
import Derived.OpenShut
import Derived.Stop.Joined
import Derived.ChangeOld
import Derived.WideKeyArr2
namespace Go.Proofs.YtjbenoaefjlbaaaDoor
open Go.ChangeShapes Go.WideShapes Go.ChangeAt Go.RowKit

theorem gRc : Tryd.prog.globalNamed "loess/keccak.constants" = some 0 := by kernel_rfl
theorem gOff : Tryd.prog.globalNamed "loess/keccak.offsets" = some 2 := by kernel_rfl
theorem gTgt : Tryd.prog.globalNamed "loess/keccak.targets" = some 3 := by kernel_rfl
theorem underU64 : Tryd.prog.underlying 51 = some (.int .u64) := by kernel_rfl
theorem tRc : (Tryd.prog.globals[0]?).map (·.type) = some 87 := by kernel_rfl
theorem tOff : (Tryd.prog.globals[2]?).map (·.type) = some 85 := by kernel_rfl
theorem tTgt : (Tryd.prog.globals[3]?).map (·.type) = some 85 := by kernel_rfl
theorem underRcs : Tryd.prog.underlying 87 = some (.array 24 51) := by kernel_rfl
theorem underInts : Tryd.prog.underlying 85 = some (.array 25 3) := by kernel_rfl
theorem underInt : Tryd.prog.underlying 3 = some (.int .i64) := by kernel_rfl
theorem cellsU64 : Tryd.prog.cellsOf 51 = 1 := by kernel_rfl
theorem cellsInt : Tryd.prog.cellsOf 3 = 1 := by kernel_rfl

/-- The listed variables. -/
def laid3 : List (String × DataW Unit) := [("loess/keccak.offsets", Rows.laid_loess_keccak_offsets), ("loess/keccak.targets", Rows.laid_loess_keccak_targets), ("loess/keccak.constants", Rows.laid_loess_keccak_constants)]

/-- A row of numbers that reads as a datum: its cells. -/
theorem tab_of {H : Type} {enc : TypeId × Value → H} {P : Program} {w : World} {base : Nat} {spare : Nat → Bool} {held : Bool} {fuel : Nat} {t e : TypeId} {n : Nat} {k : IntKind} {cs : List Value} {L : List Int} {p : List MemPlace}
    (ht : P.underlying t = some (.array n e)) (he : P.underlying e = some (.int k)) (c1 : P.cellsOf e = 1)
    (h : DataW.trod enc P w base spare held fuel t cs = some (.agg (L.map fun z => .lit (.int k z)), p)) (i : Nat) (hi : i < n) : cs[i]? = some (.int k (L.getD i 0)) := by
  obtain ⟨xs, m, rfl, hx, _, hn, hel⟩ := DataW.trod_array ht h
  have h0 := hel i hi
  rw [List.getElem?_eq_getElem (by omega), c1, Nat.mul_one] at h0
  obtain ⟨z, e1, e2, _⟩ := DataW.trod_int he h0
  simp only [Prod.mk.injEq, DataW.agg.injEq] at hx
  have hL : (L.map fun z => (DataW.lit (.int k z) : DataW H))[i]? = some (.lit (.int k z)) := by
    rw [hx.1, List.getElem?_map, List.getElem?_eq_getElem (by omega), e2]; rfl
  rw [List.getElem?_map] at hL
  cases hq : L[i]? with
  | none => rw [hq] at hL; cases hL
  | some y =>
    rw [hq] at hL
    simp only [Option.map_some, Option.some.injEq, DataW.lit.injEq, Lit.int.injEq, true_and] at hL
    rw [List.getD_eq_getElem?_getD, hq, Option.getD_some, hL]
    have : ((cs.drop i).take 1)[0]? = some (.int k z) := by rw [e1]; rfl
    simpa using this

def rcL : List Int := [1, 32898, 9223372036854808714, 9223372039002292224, 32907, 2147483649, 9223372039002292353, 9223372036854808585, 138, 136, 2147516425, 2147483658, 2147516555, 9223372036854775947, 9223372036854808713, 9223372036854808579, 9223372036854808578, 9223372036854775936, 32778, 9223372039002259466, 9223372039002292353, 9223372036854808704, 2147483649, 9223372039002292232]
def offL : List Int := [0, 1, 62, 28, 27, 36, 44, 6, 55, 20, 3, 10, 43, 25, 39, 41, 45, 15, 21, 8, 18, 2, 61, 56, 14]
def tgtL : List Int := [0, 10, 20, 5, 15, 16, 1, 11, 21, 6, 7, 17, 2, 12, 22, 23, 8, 18, 3, 13, 14, 24, 9, 19, 4]
theorem rcL_eq : ∀ i, i < 24 → rcL.getD i 0 = lane (rcs i) := by decide +kernel
theorem offL_eq : ∀ i, i < 25 → offL.getD i 0 = ((offs i : Nat) : Int) := by decide +kernel
theorem tgtL_eq : ∀ i, i < 25 → tgtL.getD i 0 = ((tgts i : Nat) : Int) := by decide +kernel

/-- WHAT THE CONDITION GIVES: the three tables. -/
theorem tabs_of_laid {W : World} (h : laidMetH Tryd.prog laid3 W) : Tabs W := by
  rw [MakeChecks.laidMetH_plain _ _ _ (by kernel_rfl)] at h
  obtain ⟨ps, ⟨g0, t0, cs0, f0, p0, q0, hg0, ht0, hv0, hd0, ⟨g1, t1, cs1, f1, p1, q1, hg1, ht1, hv1, hd1, ⟨g2, t2, cs2, f2, p2, q2, hg2, ht2, hv2, hd2, _, _⟩, _⟩, _⟩, _, _⟩ := h
  obtain rfl := Option.some.inj (gOff.symm.trans hg0)
  obtain rfl := Option.some.inj (gTgt.symm.trans hg1)
  obtain rfl := Option.some.inj (gRc.symm.trans hg2)
  obtain rfl := Option.some.inj (tOff.symm.trans ht0)
  obtain rfl := Option.some.inj (tTgt.symm.trans ht1)
  obtain rfl := Option.some.inj (tRc.symm.trans ht2)
  have h1 : ∀ i, i < 24 → W.cell? ⟨0, i, none⟩ = some (.int .u64 (lane (rcs i))) := fun i hi => by
    rw [World.var?_cell hg2 hv2 i, ← Array.getElem?_toList, tab_of (L := rcL) underRcs underU64 cellsU64 hd2 i hi, rcL_eq i hi]
  have h2 : ∀ i, i < 25 → W.cell? ⟨2, i, none⟩ = some (.int .i64 (offs i)) := fun i hi => by
    rw [World.var?_cell hg0 hv0 i, ← Array.getElem?_toList, tab_of (L := offL) underInts underInt cellsInt hd0 i hi, offL_eq i hi]
  have h3 : ∀ i, i < 25 → W.cell? ⟨3, i, none⟩ = some (.int .i64 (tgts i)) := fun i hi => by
    rw [World.var?_cell hg1 hv1 i, ← Array.getElem?_toList, tab_of (L := tgtL) underInts underInt cellsInt hd1 i hi, tgtL_eq i hi]
  have b1 := World.block_lt_of_cell? W _ (h1 0 (by omega))
  have b2 := World.block_lt_of_cell? W _ (h2 0 (by omega))
  have b3 := World.block_lt_of_cell? W _ (h3 0 (by omega))
  exact ⟨by simp only at b1 b2 b3; omega, h1, h2, h3⟩

theorem cellsMeta : Tryd.prog.cellsOf 30 = 4 := by kernel_rfl
theorem cellsIntP : Tryd.prog.cellsOf 3 = 1 := by kernel_rfl
theorem underIntP : Tryd.prog.underlying 3 = some (.int .i64) := by kernel_rfl
theorem cellsKinds : Tryd.prog.cellsOf 40 = 2 := by kernel_rfl
theorem cellsU8P : Tryd.prog.cellsOf 5 = 1 := by kernel_rfl
theorem underKinds : Tryd.prog.underlying 40 = some (.array 2 5) := by kernel_rfl
theorem underU8P : Tryd.prog.underlying 5 = some (.int .u8) := by kernel_rfl
theorem int_i64 {a : Int} (h : (Lit.int .i64 a).wf = true) : -9223372036854775808 ≤ a ∧ a ≤ 9223372036854775807 := by
  simpa [Lit.wf, IntKind.min, IntKind.max, IntKind.signed, IntKind.bits] using h
theorem wf_byte {z : Int} (h : (Lit.int .u8 z).wf = true) : ∃ c : UInt8, z = oct c := by
  have g : 0 ≤ z ∧ z ≤ 255 := by simpa [Lit.wf, IntKind.min, IntKind.max, IntKind.signed, IntKind.bits] using h
  refine ⟨UInt8.ofNat z.toNat, ?_⟩
  unfold oct
  rw [ofNat_toNat8 _ (by omega)]; omega
theorem len4 {α : Type} : ∀ l : List α, l.length = 4 → ∃ a b c d, l = [a, b, c, d]
  | [a, b, c, d], _ => ⟨a, b, c, d, rfl⟩
  | [], h => by simp at h
  | [_], h => by simp at h
  | [_, _], h => by simp at h
  | [_, _, _], h => by simp at h
  | _ :: _ :: _ :: _ :: _ :: _, h => by simp at h
theorem len2 {α : Type} : ∀ l : List α, l.length = 2 → ∃ a b, l = [a, b]
  | [a, b], _ => ⟨a, b, rfl⟩
  | [], h => by simp at h
  | [_], h => by simp at h
  | _ :: _ :: _ :: _, h => by simp at h
set_option maxRecDepth 100000 in
theorem open_meta {H : Type} {enc : TypeId × Value → H} {w : World} {b0 : Nat} {r : Reach} {v : Value} {d : DataW H} {p : List MemPlace}
    (hv : Value.okWide Tryd.prog w r b0 30 v) (h : DataW.Trod enc Tryd.prog w 0 (fun _ => true) true 30 v d p) :
    ∃ t r e q : Int, v = .agg #[.int .i64 t, .int .i64 r, .int .i64 e, .int .i64 q] ∧ (-9223372036854775808 ≤ t ∧ t ≤ 9223372036854775807) ∧ (-9223372036854775808 ≤ r ∧ r ≤ 9223372036854775807) ∧ (-9223372036854775808 ≤ e ∧ e ≤ 9223372036854775807) ∧ (-9223372036854775808 ≤ q ∧ q ≤ 9223372036854775807) := by
  simp only [Value.okWide, Tryd.underlying30] at hv
  obtain ⟨cs, rfl, hsz, _⟩ := hv
  obtain ⟨fuel, hf⟩ := h
  obtain ⟨xs, m, hm, _, hl, hlen, hel⟩ := DataW.trod_struct Tryd.underlying30 hf
  rw [cellsMeta] at hl
  have hx4 : xs.length = 4 := hlen
  have f0 : DataW.trod enc Tryd.prog w 0 (fun _ => true) true m 3 (((Value.agg cs).cells.toList.drop 0).take (Tryd.prog.cellsOf 3)) = xs[0]? := hel 0 _ rfl
  have f1 : DataW.trod enc Tryd.prog w 0 (fun _ => true) true m 3 (((Value.agg cs).cells.toList.drop 1).take (Tryd.prog.cellsOf 3)) = xs[1]? := hel 1 _ rfl
  have f2 : DataW.trod enc Tryd.prog w 0 (fun _ => true) true m 3 (((Value.agg cs).cells.toList.drop 2).take (Tryd.prog.cellsOf 3)) = xs[2]? := hel 2 _ rfl
  have f3 : DataW.trod enc Tryd.prog w 0 (fun _ => true) true m 3 (((Value.agg cs).cells.toList.drop 3).take (Tryd.prog.cellsOf 3)) = xs[3]? := hel 3 _ rfl
  rw [cellsIntP, List.getElem?_eq_getElem (by omega)] at f0 f1 f2 f3
  have hcs : (Value.agg cs).cells.toList = cs.toList := rfl
  rw [hcs] at f0 f1 f2 f3 hl
  obtain ⟨l⟩ := cs
  have hll : l.length = 4 := by simpa using hl
  obtain ⟨x0, x1, x2, x3, rfl⟩ := len4 l hll
  clear hel hf hsz
  simp only [List.drop_zero, List.take_succ_cons, List.take_zero, List.drop_succ_cons] at f0 f1 f2 f3
  obtain ⟨y0, e0, _, w0⟩ := DataW.trod_int underIntP f0
  obtain ⟨y1, e1, _, w1⟩ := DataW.trod_int underIntP f1
  obtain ⟨y2, e2, _, w2⟩ := DataW.trod_int underIntP f2
  obtain ⟨y3, e3, _, w3⟩ := DataW.trod_int underIntP f3
  injection e0 with e0 _
  injection e1 with e1 _
  injection e2 with e2 _
  injection e3 with e3 _
  refine ⟨y0, y1, y2, y3, ?_, int_i64 w0, int_i64 w1, int_i64 w2, int_i64 w3⟩
  rw [e0, e1, e2, e3]
set_option maxRecDepth 100000 in
theorem open_kinds {H : Type} {enc : TypeId × Value → H} {w : World} {base b0 : Nat} {spare : Nat → Bool} {held : Bool} {r : Reach} {v : Value} {d : DataW H} {p : List MemPlace}
    (hv : Value.okWide Tryd.prog w r b0 40 v) (h : DataW.Trod enc Tryd.prog w base spare held 40 v d p) : ∃ k l : UInt8, v = .agg #[.int .u8 (oct k), .int .u8 (oct l)] := by
  simp only [Value.okWide, underKinds] at hv
  obtain ⟨cs, rfl, hsz, _⟩ := hv
  rw [cellsKinds] at hsz
  obtain ⟨fuel, hf⟩ := h
  obtain ⟨xs, m, _, _, _, hn, hel⟩ := DataW.trod_array underKinds hf
  have h0 := hel 0 (by omega)
  have h1 := hel 1 (by omega)
  rw [List.getElem?_eq_getElem (by omega), cellsU8P] at h0 h1
  obtain ⟨l⟩ := cs
  have hll : l.length = 2 := hsz
  obtain ⟨x0, x1, rfl⟩ := len2 l hll
  have hcs : (Value.agg ⟨[x0, x1]⟩).cells.toList = [x0, x1] := rfl
  rw [hcs] at h0 h1
  simp only [Nat.zero_mul, Nat.one_mul, List.drop_zero, List.take_succ_cons, List.take_zero, List.drop_succ_cons] at h0 h1
  obtain ⟨y0, e0, _, w0⟩ := DataW.trod_int underU8P h0
  obtain ⟨y1, e1, _, w1⟩ := DataW.trod_int underU8P h1
  injection e0 with e0 _
  injection e1 with e1 _
  obtain ⟨k, hk⟩ := wf_byte w0
  obtain ⟨q, hq⟩ := wf_byte w1
  exact ⟨k, q, by rw [e0, e1, hk, hq]⟩
end Go.Proofs.YtjbenoaefjlbaaaDoor
