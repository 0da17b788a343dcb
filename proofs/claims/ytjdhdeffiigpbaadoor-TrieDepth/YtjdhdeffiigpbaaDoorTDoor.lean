/-
  From what the listed variables read as to the tables in memory.
-/
import Derived.Test.YtjdhdeffiigpbaaDoorKB
import Derived.Test.YtjdhdeffiigpbaaDoorRows
import Derived.ProofKit
import Derived.LaidMore
import Derived.OpenShut
import Derived.Stop.Joined
import Derived.ChangeOld
namespace Go.Proofs.YtjdhdeffiigpbaaDoor.K
open Go.ChangeShapes Go.WideShapes Go.ChangeAt Go.RowKit

theorem gRc : Tryd.prog.globalNamed "loess/keccak.constants" = some 1 := by kernel_rfl
theorem gOff : Tryd.prog.globalNamed "loess/keccak.offsets" = some 2 := by kernel_rfl
theorem gTgt : Tryd.prog.globalNamed "loess/keccak.targets" = some 3 := by kernel_rfl
theorem underU64d : Tryd.prog.underlying 70 = some (.int .u64) := by kernel_rfl
theorem tRc : (Tryd.prog.globals[1]?).map (·.type) = some 94 := by kernel_rfl
theorem tOff : (Tryd.prog.globals[2]?).map (·.type) = some 92 := by kernel_rfl
theorem tTgt : (Tryd.prog.globals[3]?).map (·.type) = some 92 := by kernel_rfl
theorem underRcs : Tryd.prog.underlying 94 = some (.array 24 70) := by kernel_rfl
theorem underInts : Tryd.prog.underlying 92 = some (.array 25 3) := by kernel_rfl
theorem underIntd : Tryd.prog.underlying 3 = some (.int .i64) := by kernel_rfl
theorem cellsU64 : Tryd.prog.cellsOf 70 = 1 := by kernel_rfl
theorem cellsInt : Tryd.prog.cellsOf 3 = 1 := by kernel_rfl

/-- The listed variables. -/
def laid3 : List (String × DataW Unit) := [("loess/keccak.offsets", Rows.laid_loess_keccak_offsets), ("loess/keccak.targets", Rows.laid_loess_keccak_targets), ("loess/keccak.constants", Rows.laid_loess_keccak_constants)]

/-- A row of numbers that reads as a datum: its cells. -/
theorem tab_of {H : Type} {enc : TypeId × Value → H} {P : Program} {w : World} {base : Nat} {spare : Nat → Bool} {held : Bool} {fuel : Nat} {t e : TypeId} {n : Nat} {k : IntKind} {cs : List Value} {L : List Int} {p : List MemPlace}
    (ht : P.underlying t = some (.array n e)) (he : P.underlying e = some (.int k)) (c1 : P.cellsOf e = 1)
    (h : DataW.trod enc P w base spare held fuel t cs = some (.agg (L.map fun z => .lit (.int k z)), p)) (i : Nat) (hi : i < n) : cs[i]? = some (.int k (L.getD i 0)) := by
  obtain ⟨xs, m, rfl, hx, _, hn, hel⟩ := DataW.trod_array ht h
  have h0 := hel i hi
  rw [List.getElem?_eq_getElem (by omega), c1, Nat.mul_one] at h0
  obtain ⟨z, e1, e2, _⟩ := DataW.trod_int he h0
  simp only [Prod.mk.injEq, DataW.agg.injEq] at hx
  have hL : (L.map fun z => (DataW.lit (.int k z) : DataW H))[i]? = some (.lit (.int k z)) := by
    rw [hx.1, List.getElem?_map, List.getElem?_eq_getElem (by omega), e2]; rfl
  rw [List.getElem?_map] at hL
  cases hq : L[i]? with
  | none => rw [hq] at hL; cases hL
  | some y =>
    rw [hq] at hL
    simp only [Option.map_some, Option.some.injEq, DataW.lit.injEq, Lit.int.injEq, true_and] at hL
    rw [List.getD_eq_getElem?_getD, hq, Option.getD_some, hL]
    have : ((cs.drop i).take 1)[0]? = some (.int k z) := by rw [e1]; rfl
    simpa using this

def rcL : List Int := [1, 32898, 9223372036854808714, 9223372039002292224, 32907, 2147483649, 9223372039002292353, 9223372036854808585, 138, 136, 2147516425, 2147483658, 2147516555, 9223372036854775947, 9223372036854808713, 9223372036854808579, 9223372036854808578, 9223372036854775936, 32778, 9223372039002259466, 9223372039002292353, 9223372036854808704, 2147483649, 9223372039002292232]
def offL : List Int := [0, 1, 62, 28, 27, 36, 44, 6, 55, 20, 3, 10, 43, 25, 39, 41, 45, 15, 21, 8, 18, 2, 61, 56, 14]
def tgtL : List Int := [0, 10, 20, 5, 15, 16, 1, 11, 21, 6, 7, 17, 2, 12, 22, 23, 8, 18, 3, 13, 14, 24, 9, 19, 4]
theorem rcL_eq : ∀ i, i < 24 → rcL.getD i 0 = lane (rcs i) := by decide +kernel
theorem offL_eq : ∀ i, i < 25 → offL.getD i 0 = ((offs i : Nat) : Int) := by decide +kernel
theorem tgtL_eq : ∀ i, i < 25 → tgtL.getD i 0 = ((tgts i : Nat) : Int) := by decide +kernel

/-- WHAT THE CONDITION GIVES: the three tables. -/
theorem tabs_of_laid {W : World} (h : laidMetH Tryd.prog laid3 W) : Tabs W := by
  rw [MakeChecks.laidMetH_plain _ _ _ (by kernel_rfl)] at h
  obtain ⟨ps, ⟨g0, t0, cs0, f0, p0, q0, hg0, ht0, hv0, hd0, ⟨g1, t1, cs1, f1, p1, q1, hg1, ht1, hv1, hd1, ⟨g2, t2, cs2, f2, p2, q2, hg2, ht2, hv2, hd2, _, _⟩, _⟩, _⟩, _, _⟩ := h
  obtain rfl := Option.some.inj (gOff.symm.trans hg0)
  obtain rfl := Option.some.inj (gTgt.symm.trans hg1)
  obtain rfl := Option.some.inj (gRc.symm.trans hg2)
  obtain rfl := Option.some.inj (tOff.symm.trans ht0)
  obtain rfl := Option.some.inj (tTgt.symm.trans ht1)
  obtain rfl := Option.some.inj (tRc.symm.trans ht2)
  have h1 : ∀ i, i < 24 → W.cell? ⟨1, i, none⟩ = some (.int .u64 (lane (rcs i))) := fun i hi => by
    rw [World.var?_cell hg2 hv2 i, ← Array.getElem?_toList, tab_of (L := rcL) underRcs underU64d cellsU64 hd2 i hi, rcL_eq i hi]
  have h2 : ∀ i, i < 25 → W.cell? ⟨2, i, none⟩ = some (.int .i64 (offs i)) := fun i hi => by
    rw [World.var?_cell hg0 hv0 i, ← Array.getElem?_toList, tab_of (L := offL) underInts underIntd cellsInt hd0 i hi, offL_eq i hi]
  have h3 : ∀ i, i < 25 → W.cell? ⟨3, i, none⟩ = some (.int .i64 (tgts i)) := fun i hi => by
    rw [World.var?_cell hg1 hv1 i, ← Array.getElem?_toList, tab_of (L := tgtL) underInts underIntd cellsInt hd1 i hi, tgtL_eq i hi]
  have b1 := World.block_lt_of_cell? W _ (h1 0 (by omega))
  have b2 := World.block_lt_of_cell? W _ (h2 0 (by omega))
  have b3 := World.block_lt_of_cell? W _ (h3 0 (by omega))
  exact ⟨by simp only at b1 b2 b3; omega, h1, h2, h3⟩
end Go.Proofs.YtjdhdeffiigpbaaDoor.K
