/-
  Roots that come in as arguments, by value.
-/
import Derived.Test.YtamijfdhaahalaaDoorSLeavesWalk
import Derived.ProofKit
import Derived.OpenShut
import Derived.WideKeyArr2
namespace Go.Proofs.YtamijfdhaahalaaDoor
open Go.ChangeShapes Go.WideShapes Go.ChangeAt Go.RowKit

theorem cellsSum4 : Tryd.prog.cellsOf 34 = 32 := by kernel_rfl
theorem cellsRoots4 : Tryd.prog.cellsOf 42 = 64 := by kernel_rfl
theorem cellsU84 : Tryd.prog.cellsOf 5 = 1 := by kernel_rfl
theorem underSum4 : Tryd.prog.underlying 34 = some (.array 32 5) := by kernel_rfl
theorem underRoots4 : Tryd.prog.underlying 42 = some (.array 2 34) := by kernel_rfl
theorem underU84 : Tryd.prog.underlying 5 = some (.int .u8) := by kernel_rfl

def cellByte : Option Value → UInt8
  | some (.int _ z) => UInt8.ofNat z.toNat
  | _ => 0
theorem wf_byte {z : Int} (h : (Lit.int .u8 z).wf = true) : ∃ c : UInt8, z = K.oct c := by
  have g : 0 ≤ z ∧ z ≤ 255 := by simpa [Lit.wf, IntKind.min, IntKind.max, IntKind.signed, IntKind.bits] using h
  refine ⟨UInt8.ofNat z.toNat, ?_⟩
  unfold K.oct
  rw [ofNat_toNat _ (by omega)]; omega
theorem cells_bytes (n : Nat) (cs : Array Value) (hsz : cs.size = n) (h : ∀ i, i < n → ∃ x : UInt8, cs[i]? = some (.int .u8 (K.oct x))) : ∃ R, cs = K.bytesA n R := by
  refine ⟨fun i => cellByte cs[i]?, ?_⟩
  apply Array.ext_getElem?
  intro i
  by_cases hi : i < n
  · obtain ⟨x, hx⟩ := h i hi
    rw [K.bytesA_get n _ _ hi, hx]
    unfold cellByte K.oct
    simp only [Int.toNat_natCast, UInt8.ofNat_toNat]
  · rw [Array.getElem?_eq_none (by omega), Array.getElem?_eq_none (by rw [K.bytesA_size]; omega)]
theorem byte_cells {H : Type} {enc : TypeId × Value → H} {w : World} {base : Nat} {spare : Nat → Bool} {held : Bool} {fuel : Nat} {cs : List Value} {x : DataW H × List MemPlace}
    (h : DataW.trod enc Tryd.prog w base spare held fuel 34 cs = some x) (i : Nat) (hi : i < 32) : ∃ c : UInt8, cs[i]? = some (.int .u8 (K.oct c)) := by
  obtain ⟨xs, m, rfl, _, _, hn, hel⟩ := DataW.trod_array underSum4 h
  have h0 := hel i hi
  rw [List.getElem?_eq_getElem (by omega), cellsU84, Nat.mul_one] at h0
  obtain ⟨z, e1, _, hz⟩ := DataW.trod_int underU84 h0
  obtain ⟨c, hc⟩ := wf_byte hz
  refine ⟨c, ?_⟩
  rw [hc] at e1
  have e2 : ((cs.drop i).take 1)[0]? = some (.int .u8 (K.oct c)) := by rw [e1]; rfl
  rw [List.getElem?_take, if_pos (by omega), List.getElem?_drop, Nat.add_zero] at e2
  exact e2
set_option maxRecDepth 100000 in
theorem open_root {H : Type} {enc : TypeId × Value → H} {w : World} {base b0 : Nat} {spare : Nat → Bool} {held : Bool} {r : Reach} {v : Value} {d : DataW H} {p : List MemPlace}
    (hv : Value.okWide Tryd.prog w r b0 34 v) (h : DataW.Trod enc Tryd.prog w base spare held 34 v d p) : ∃ R, v = .agg (K.bytesA 32 R) := by
  simp only [Value.okWide, underSum4] at hv
  obtain ⟨cs, rfl, hsz, _⟩ := hv
  rw [cellsSum4] at hsz
  obtain ⟨fuel, hf⟩ := h
  obtain ⟨R, hR⟩ := cells_bytes 32 cs hsz (fun i hi => by
    obtain ⟨c, hc⟩ := byte_cells hf i hi
    refine ⟨c, ?_⟩
    have : cs.toList[i]? = some (.int .u8 (K.oct c)) := hc
    rwa [Array.getElem?_toList] at this)
  exact ⟨R, by rw [hR]⟩
set_option maxRecDepth 100000 in
theorem open_roots {H : Type} {enc : TypeId × Value → H} {w : World} {base b0 : Nat} {spare : Nat → Bool} {held : Bool} {r : Reach} {v : Value} {d : DataW H} {p : List MemPlace}
    (hv : Value.okWide Tryd.prog w r b0 42 v) (h : DataW.Trod enc Tryd.prog w base spare held 42 v d p) : ∃ R Q, v = .agg (twoA R Q) := by
  simp only [Value.okWide, underRoots4] at hv
  obtain ⟨cs, rfl, hsz, _⟩ := hv
  rw [cellsRoots4] at hsz
  obtain ⟨fuel, hf⟩ := h
  obtain ⟨xs, m, _, _, _, hn, hel⟩ := DataW.trod_array underRoots4 hf
  obtain ⟨F, hF⟩ := cells_bytes 64 cs hsz (fun i hi => by
    have h0 := hel (i / 32) (by omega)
    rw [List.getElem?_eq_getElem (by omega), cellsSum4] at h0
    obtain ⟨c, hc⟩ := byte_cells h0 (i % 32) (Nat.mod_lt _ (by omega))
    refine ⟨c, ?_⟩
    have hc2 : ((cs.toList.drop (i / 32 * 32)).take 32)[i % 32]? = some (.int .u8 (K.oct c)) := hc
    rw [List.getElem?_take, if_pos (by omega), List.getElem?_drop, show i / 32 * 32 + i % 32 = i by omega, Array.getElem?_toList] at hc2
    exact hc2)
  refine ⟨F, fun i => F (i + 32), ?_⟩
  rw [hF]
  unfold twoA
  rw [K.bytesA_congr (C := twoF F fun i => F (i + 32)) (fun i hi => by
    unfold twoF
    by_cases q : i < 32
    · rw [if_pos q]
    · rw [if_neg q]
      show F i = F (i - 32 + 32)
      rw [show i - 32 + 32 = i by omega])]
end Go.Proofs.YtamijfdhaahalaaDoor
