/-
  From what the listed variable reads as to the table in memory; arguments opened.
-/
import Derived.Test.YtbidoangdnmjfaaDoorMRecW
import Derived.Test.YtbidoangdnmjfaaDoorRows
import Derived.ProofKit
import Derived.LaidMore
import Derived.OpenShut
import Derived.Stop.Joined
import Derived.ChangeOld
import Derived.ChangeSlices
namespace Go.Proofs.YtbidoangdnmjfaaDoor
open Go Go.ChangeShapes Go.WideShapes Go.ChangeAt Go.RowKit

theorem gDb : Tryd.prog.globalNamed "math/bits.deBruijn32tab" = some 0 := by kernel_rfl
theorem tDb : (Tryd.prog.globals[0]?).map (·.type) = some 43 := by kernel_rfl
theorem cellsU8M : Tryd.prog.cellsOf 5 = 1 := by kernel_rfl

/-- The listed variable. -/
def laid1 : List (String × DataW Unit) := [("math/bits.deBruijn32tab", Rows.laid_math_bits_deBruijn32tab)]

/-- A row of numbers that reads as a datum: its cells. -/
theorem tab_of {H : Type} {enc : TypeId × Value → H} {P : Program} {w : World} {base : Nat} {spare : Nat → Bool} {held : Bool} {fuel : Nat} {t e : TypeId} {n : Nat} {k : IntKind} {cs : List Value} {L : List Int} {p : List MemPlace}
    (ht : P.underlying t = some (.array n e)) (he : P.underlying e = some (.int k)) (c1 : P.cellsOf e = 1)
    (h : DataW.trod enc P w base spare held fuel t cs = some (.agg (L.map fun z => .lit (.int k z)), p)) (i : Nat) (hi : i < n) : cs[i]? = some (.int k (L.getD i 0)) := by
  obtain ⟨xs, m, rfl, hx, _, hn, hel⟩ := DataW.trod_array ht h
  have h0 := hel i hi
  rw [List.getElem?_eq_getElem (by omega), c1, Nat.mul_one] at h0
  obtain ⟨z, e1, e2, _⟩ := DataW.trod_int he h0
  simp only [Prod.mk.injEq, DataW.agg.injEq] at hx
  have hL : (L.map fun z => (DataW.lit (.int k z) : DataW H))[i]? = some (.lit (.int k z)) := by
    rw [hx.1, List.getElem?_map, List.getElem?_eq_getElem (by omega), e2]; rfl
  rw [List.getElem?_map] at hL
  cases hq : L[i]? with
  | none => rw [hq] at hL; cases hL
  | some y =>
    rw [hq] at hL
    simp only [Option.map_some, Option.some.injEq, DataW.lit.injEq, Lit.int.injEq, true_and] at hL
    rw [List.getD_eq_getElem?_getD, hq, Option.getD_some, hL]
    have : ((cs.drop i).take 1)[0]? = some (.int k z) := by rw [e1]; rfl
    simpa using this

def dbL : List Int := [0, 1, 28, 2, 29, 14, 24, 3, 30, 22, 20, 15, 25, 17, 4, 8, 31, 27, 13, 23, 21, 19, 16, 7, 26, 12, 18, 6, 11, 5, 10, 9]
theorem dbL_eq : ∀ i, i < 32 → dbL.getD i 0 = ((Lib.deBruijn32tab.getD i 0 : Nat) : Int) := by decide +kernel
/-- WHAT THE CONDITION GIVES: the table. -/
theorem db_of_laid {W : World} (h : laidMetH Tryd.prog laid1 W) : DbAt W := by
  rw [MakeChecks.laidMetH_plain _ _ _ (by kernel_rfl)] at h
  obtain ⟨ps, ⟨g0, t0, cs0, f0, p0, q0, hg0, ht0, hv0, hd0, _, _⟩, _, _⟩ := h
  obtain rfl := Option.some.inj (gDb.symm.trans hg0)
  obtain rfl := Option.some.inj (tDb.symm.trans ht0)
  exact fun i hi => by
    rw [World.var?_cell hg0 hv0 i, ← Array.getElem?_toList, tab_of (L := dbL) underSumM underU8M cellsU8M hd0 i hi, dbL_eq i hi]

theorem underIntSlM : Tryd.prog.underlying 26 = some (.slice 3) := by kernel_rfl
theorem cellsIntM : Tryd.prog.cellsOf 3 = 1 := by kernel_rfl
theorem addr_plain {w : World} {a : Addr} {v : Value} (h : w.cell? (a.add 0) = some v) : ∃ c o, a = ⟨c, o, none⟩ := by
  obtain ⟨c, o, sp⟩ := a
  cases sp with
  | none => exact ⟨c, o, rfl⟩
  | some s =>
    unfold Addr.add at h
    unfold World.cell? at h
    split at h <;> simp_all
theorem int_i64 {a : Int} (h : (Lit.int .i64 a).wf = true) : -9223372036854775808 ≤ a ∧ a ≤ 9223372036854775807 := by
  simp only [Lit.wf, Bool.and_eq_true, decide_eq_true_eq] at h
  have h1 : IntKind.i64.min = -9223372036854775808 := rfl
  have h2 : IntKind.i64.max = 9223372036854775807 := rfl
  rw [h1, h2] at h
  exact h

theorem nat_u16 {a : Int} (h : (Lit.int .u16 a).wf = true) : ∃ m : Nat, a = m ∧ m < 65536 := by
  have g : 0 ≤ a ∧ a ≤ 65535 := by simpa [Lit.wf, IntKind.min, IntKind.max, IntKind.signed, IntKind.bits] using h
  exact ⟨a.toNat, by omega, by omega⟩
set_option maxRecDepth 100000 in
theorem open_numsM {H : Type} {enc : TypeId × Value → H} {w : World} {b0 : Nat} {r : Reach} {v : Value} {d : DataW H} {p : List MemPlace}
    (hv : Value.okWide Tryd.prog w r b0 26 v) (h : DataW.Trod enc Tryd.prog w 0 (fun _ => true) true 26 v d p) :
    ∃ (a : Option Addr) (n c : Nat) (l : List Int), v = .slice a n c ∧ IntsM w (.slice a n c) l ∧ n = l.length ∧ n ≤ c ∧ c ≤ 9223372036854775807 := by
  obtain ⟨a0, len, cap, rfl⟩ := okWide_slice underIntSlM hv
  obtain ⟨fuel, hf⟩ := h
  rcases open_ints underIntSlM underIntH cellsIntM hf with ⟨hcs, _⟩ | ⟨a, l, c, zs, hcs, _, hl, hm, hz, _, hcell, hwf⟩
  · simp [Value.cells] at hcs
    obtain ⟨rfl, rfl, rfl⟩ := hcs
    exact ⟨none, 0, 0, [], rfl, .inl ⟨rfl, none, 0, rfl⟩, rfl, by omega, by omega⟩
  · simp [Value.cells] at hcs
    obtain ⟨rfl, rfl, rfl⟩ := hcs
    simp only [if_true] at hz
    have hlen : (zs.take len).length = len := by rw [List.length_take]; omega
    refine ⟨some a, len, cap, zs.take len, rfl, ?_, hlen.symm, hl, by unfold maxLen at hm; omega⟩
    by_cases h0 : len = 0
    · subst h0
      exact .inl ⟨by simp, _, _, rfl⟩
    · obtain ⟨cc, o, rfl⟩ := addr_plain (hcell 0 (by omega))
      refine .inr ⟨cc, o, cap, by rw [hlen], fun i x hx => ?_⟩
      have hi := (List.getElem?_eq_some_iff.1 hx).1
      rw [hlen] at hi
      have h1 := hcell i (by omega)
      rw [Addr.add_mid] at h1
      rw [h1]
      rw [List.getElem?_take, if_pos hi] at hx
      rw [List.getD_eq_getElem?_getD, hx]
      rfl
end Go.Proofs.YtbidoangdnmjfaaDoor
