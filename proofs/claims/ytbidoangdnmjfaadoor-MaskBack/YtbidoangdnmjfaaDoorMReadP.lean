/-
  What is read of a branch's bytes: pure.
-/
import Derived.Test.YtbidoangdnmjfaaDoorMMofW
import Derived.Test.YtbidoangdnmjfaaDoorMRecW
namespace Go.Proofs.YtbidoangdnmjfaaDoor
open Go Go.RowKit

/-- n hashes, one behind the other. -/
def hsL (l : List UInt8) (n : Nat) : List H32 := (List.range n).map fun i => takeH (l.drop (i * 32))
theorem hsL_succ (l : List UInt8) (n : Nat) : hsL l (n + 1) = hsL l n ++ [takeH (l.drop (n * 32))] := by simp [hsL, List.range_succ]
theorem hsL_len (l : List UInt8) (n : Nat) : (hsL l n).length = n := by simp [hsL]
theorem maskL_two {m : Nat} (hm : m < 65536) (l : List UInt8) : maskL (twoB m ++ l) = m := by
  unfold maskL twoB
  simp only [List.cons_append, List.nil_append, List.getD_cons_zero, List.getD_cons_succ]
  rw [UInt8.toNat_ofNat', UInt8.toNat_ofNat']
  omega
theorem flat_drop : ∀ (L : List H32) (i : Nat), (L.flatMap (·.1)).drop (i * 32) = (L.drop i).flatMap (·.1)
  | L, 0 => by simp
  | [], i + 1 => by simp
  | a :: L, i + 1 => by
    rw [List.flatMap_cons, List.drop_succ_cons, ← flat_drop L i]
    have e : (i + 1) * 32 = a.1.length + i * 32 := by rw [a.2]; omega
    rw [e, ← List.drop_drop, List.drop_left]
theorem takeH_flat (a : H32) (l : List UInt8) : takeH (a.1 ++ l) = a := by
  apply Subtype.ext
  rw [takeH_val (by rw [List.length_append, a.2]; omega)]
  rw [List.take_append_of_le_length (by rw [a.2]; exact Nat.le_refl _), List.take_of_length_le (by rw [a.2]; exact Nat.le_refl _)]
theorem hsL_flat (L : List H32) : hsL (L.flatMap (·.1)) L.length = L := by
  refine List.ext_getElem? fun i => ?_
  unfold hsL
  rw [List.getElem?_map]
  by_cases hi : i < L.length
  · rw [List.getElem?_range hi, List.getElem?_eq_getElem hi, Option.map_some, flat_drop]
    have e : L.drop i = L[i] :: L.drop (i + 1) := List.drop_eq_getElem_cons hi
    rw [e, List.flatMap_cons, takeH_flat]
  · rw [List.getElem?_eq_none (by rw [List.length_range]; omega), List.getElem?_eq_none (by omega)]; rfl
/-- What is read of the bytes of a branch is that branch. -/
theorem rec_read {s t h : Nat} (hs : s < 65536) (ht : t < 65536) (hh : h < 65536) (L : List H32) :
    maskL (recB s t h L) = s ∧ maskL ((recB s t h L).drop 2) = t ∧ maskL ((recB s t h L).drop 4) = h ∧ hsL ((recB s t h L).drop 6) L.length = L := by
  have l2 : ∀ m, (twoB m).length = 2 := fun m => rfl
  unfold recB
  refine ⟨?_, ?_, ?_, ?_⟩
  · rw [List.append_assoc, List.append_assoc]; exact maskL_two hs _
  · rw [List.append_assoc, List.append_assoc, show (2 : Nat) = (twoB s).length from rfl, List.drop_left]; exact maskL_two ht _
  · rw [List.append_assoc, show (4 : Nat) = (twoB s ++ twoB t).length from rfl, List.drop_left]; exact maskL_two hh _
  · rw [show (6 : Nat) = (twoB s ++ twoB t ++ twoB h).length from rfl, List.drop_left]; exact hsL_flat L
end Go.Proofs.YtbidoangdnmjfaaDoor
