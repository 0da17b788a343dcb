/-
  A container's bytes are split as that container.
-/
import Derived.Test.YtbenfmhcpipehaaBBytesW
import Derived.Test.YtbenfmhcpipehaaBSplitW
namespace Go.Proofs.Ytbenfmhcpipehaa
open Go Go.RowKit Go.Maps

/-- Bytes as numbers. -/
def toN (l : List UInt8) : List Nat := l.map UInt8.toNat
theorem toN_append (a b : List UInt8) : toN (a ++ b) = toN a ++ toN b := List.map_append
theorem toN_len (a : List UInt8) : (toN a).length = a.length := List.length_map _
theorem numsB_mk (l : List UInt8) : numsB ⟨l.toArray⟩ = toN l := rfl
theorem toN_lowB (p : Nat → Bool) : toN (lowB p) = lowsL p 0 := by
  unfold toN lowB
  rw [List.map_map]
  refine (List.map_congr_left fun l hl => ?_).trans (List.map_id _)
  have := (lowsL_lt hl).2.1
  simp
  omega
theorem toN_bitB (p : Nat → Bool) : toN (bitB p) = (List.range 32).map (bt p) := by
  unfold toN bitB
  rw [List.map_map]
  refine List.map_congr_left fun i _ => ?_
  have := bt_lt p i
  simp
  omega
theorem ofList_lows (p : Nat → Bool) : contA p = contA (ofList (lowsL p 0)) := contA_congr fun l hl => by
  unfold ofList
  rw [Bool.eq_iff_iff]
  simp [mem_lowsL, hl]
theorem bitsP_bits (p : Nat → Bool) : contA p = contA (bitsP ((List.range 32).map (bt p))) := by
  unfold contA
  congr 1
  funext i
  have hi := i.isLt
  have e : bt (bitsP ((List.range 32).map (bt p))) i.val = bt p i.val := by
    unfold bitsP
    have hg : ((List.range 32).map (bt p))[i.val]?.getD 0 = bt p i.val := by
      rw [List.getElem?_map, List.getElem?_range hi]; rfl
    rw [bt_ofBytes _ _ (by rw [hg]; exact bt_lt p _), hg]
  rw [e]

theorem bodyB_size (p : Nat → Bool) : (bodyB p).length = kindSz (cnt p) := by
  unfold bodyB kindSz
  split
  · rw [lowB_len, cnt_lows]
  · exact bitB_len p
theorem split_part {M : Nat → Bool} {u : Nat} (hu : u < NU) (hl : liveU M u) (r : List UInt8) : SplitOk (toN (partB M u ++ r)) u (atU M u) (toN r) := by
  rw [NU_eq] at hu
  have hc := cnt_pos.2 hl
  have hc' : 0 < cnt (atU M u) := hc
  have hc2 := cnt_le (atU M u)
  have hN : toN (partB M u ++ r) = [u / 65536, u / 256 % 256, u % 256, cnt (atU M u) - 1] ++ (toN (bodyB (atU M u)) ++ toN r) := by
    unfold partB
    rw [toN_append, toN_append, List.append_assoc]
    congr 1
    simp [toN]
    omega
  have hb := bodyB_size (atU M u)
  have h3 : (toN (partB M u ++ r))[3]?.getD 0 + 1 = cnt (atU M u) := by rw [hN]; simp; omega
  have hd4 : (toN (partB M u ++ r)).drop 4 = toN (bodyB (atU M u)) ++ toN r := by rw [hN]; rfl
  have hlen : (toN (partB M u ++ r)).length = 4 + (kindSz (cnt (atU M u)) + r.length) := by
    rw [hN]; simp [toN_len, hb]; omega
  refine ⟨by omega, by rw [hN]; simp; omega, by rw [NU_eq]; exact hu, by rw [h3]; omega, ?_, ?_, ?_⟩
  · rw [h3, ← List.drop_drop, hd4, ← hb, ← toN_len, List.drop_left]
  · rw [h3, hd4]
    intro h
    have e : kindSz (cnt (atU M u)) = cnt (atU M u) := by unfold kindSz; rw [if_pos h]
    have eb : toN (bodyB (atU M u)) = lowsL (atU M u) 0 := by unfold bodyB; rw [if_pos h, toN_lowB]
    have et : (toN (bodyB (atU M u)) ++ toN r).take (cnt (atU M u)) = lowsL (atU M u) 0 := by
      rw [List.take_left' (by rw [toN_len, hb, e]), eb]
    rw [et]
    exact ⟨lowsL_rises _ _, ofList_lows _⟩
  · rw [h3, hd4]
    intro h
    have eb : toN (bodyB (atU M u)) = (List.range 32).map (bt (atU M u)) := by unfold bodyB; rw [if_neg (by omega), toN_bitB]
    have et : (toN (bodyB (atU M u)) ++ toN r).take 32 = (List.range 32).map (bt (atU M u)) := by
      rw [List.take_left' (by rw [eb]; simp), eb]
    rw [et]
    exact ⟨bitsP_bits _, rfl⟩
end Go.Proofs.Ytbenfmhcpipehaa
