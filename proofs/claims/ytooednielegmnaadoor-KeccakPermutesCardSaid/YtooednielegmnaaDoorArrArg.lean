/-
  A state that comes in as an argument, by value.
-/
import Derived.Test.YtooednielegmnaaDoorDoor
import Derived.WideKeyArr2
namespace Go.Proofs.YtooednielegmnaaDoor
open Go.ChangeShapes Go.WideShapes Go.ChangeAt Go.RowKit

theorem cellsState : Tryd.prog.cellsOf 23 = 25 := by kernel_rfl

/-- A number of a cell, as a lane. -/
def cellLane : Option Value → BitVec 64
  | some (.int _ z) => BitVec.ofInt 64 z
  | _ => 0

theorem cells_lanes (cs : Array Value) (hsz : cs.size = 25) (h : ∀ i, i < 25 → ∃ x : BitVec 64, cs[i]? = some (.int .u64 (lane x))) : ∃ s, cs = lanesA s := by
  refine ⟨fun i => cellLane cs[i]?, ?_⟩
  apply Array.ext_getElem?
  intro i
  by_cases hi : i < 25
  · obtain ⟨x, hx⟩ := h i hi
    rw [lanesA_get _ _ hi, hx]
    unfold cellLane
    simp only [lane_ofInt]
  · rw [Array.getElem?_eq_none (by omega), Array.getElem?_eq_none (by rw [lanesA_size]; omega)]
theorem wf_lane {z : Int} (h : (Lit.int .u64 z).wf = true) : ∃ x : BitVec 64, z = lane x := by
  obtain ⟨z0, z1⟩ := bounds_u64 h
  exact lane_ex z z0 (by omega)

theorem open_state {H : Type} {enc : TypeId × Value → H} {w : World} {base b0 : Nat} {spare : Nat → Bool} {held : Bool} {r : Reach} {v : Value} {d : DataW H} {p : List MemPlace}
    (hv : Value.okWide Tryd.prog w r b0 23 v) (h : DataW.Trod enc Tryd.prog w base spare held 23 v d p) : ∃ s, v = .agg (lanesA s) := by
  simp only [Value.okWide, underState] at hv
  obtain ⟨cs, rfl, hsz, _⟩ := hv
  rw [cellsState] at hsz
  obtain ⟨fuel, hf⟩ := h
  obtain ⟨xs, m, rfl, _, _, hn, hel⟩ := DataW.trod_array underState hf
  obtain ⟨s, hs⟩ := cells_lanes cs hsz (fun i hi => by
    have h0 := hel i hi
    rw [List.getElem?_eq_getElem (by omega), cellsU64, Nat.mul_one] at h0
    obtain ⟨z, e1, _, hz⟩ := DataW.trod_int underU64 h0
    obtain ⟨x, hx⟩ := wf_lane hz
    refine ⟨x, ?_⟩
    rw [hx] at e1
    have e2 : ((cs.toList.drop i).take 1)[0]? = some (.int .u64 (lane x)) := by
      show ((((Value.agg cs).cells.toList).drop i).take 1)[0]? = _
      rw [e1]; rfl
    rw [List.getElem?_take, if_pos (by omega), List.getElem?_drop, Nat.add_zero, Array.getElem?_toList] at e2
    exact e2)
  exact ⟨s, by rw [hs]⟩

end Go.Proofs.YtooednielegmnaaDoor
