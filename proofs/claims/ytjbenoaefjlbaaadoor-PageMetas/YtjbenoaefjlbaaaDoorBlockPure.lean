/-
  A block of bytes, padded and put together into lanes. Plain; nothing of the program.
-/
import Derived.Test.YtjbenoaefjlbaaaDoorMsg
namespace Go.Proofs.YtjbenoaefjlbaaaDoor
open Go.RowKit

/-- The lanes, as far as k bytes are in. -/
def fillUp (B : Nat → UInt8) (k : Nat) : Nat → BitVec 64 := fun j => laneUp B j (min 8 (k - 8 * j))
theorem fill_none (B : Nat → UInt8) (j : Nat) : fillUp B 0 j = 0 := by
  unfold fillUp; rw [show min 8 (0 - 8 * j) = 0 by omega]; rfl
theorem fill_old (B : Nat → UInt8) (k : Nat) : fillUp B k (k / 8) = laneUp B (k / 8) (k % 8) := by
  unfold fillUp; rw [show min 8 (k - 8 * (k / 8)) = k % 8 by omega]
theorem fill_step (B : Nat → UInt8) (b : Nat) (t : TypeId) (w : World) (k : Nat) (hk : k < 136) (h : Holds w b t (lanesA (fillUp B k))) :
    Holds (w.setCell ⟨b, k / 8, none⟩ (.int .u64 (lane (laneUp B (k / 8) (k % 8) ||| wide (B k) <<< (8 * (k % 8)))))) b t (lanesA (fillUp B (k + 1))) := by
  refine (h.laneSet (k / 8) _ (by omega)).congr (lanesA_congr fun j _ => ?_)
  by_cases e : j = k / 8
  · rw [if_pos e]
    subst e
    unfold fillUp
    rw [show min 8 (k + 1 - 8 * (k / 8)) = k % 8 + 1 by omega, laneUp, show 8 * (k / 8) + k % 8 = k by omega]
  · rw [if_neg e]
    unfold fillUp
    rw [show min 8 (k + 1 - 8 * j) = min 8 (k - 8 * j) by omega]
theorem fill_all (B : Nat → UInt8) (j : Nat) : fillUp B 136 j = mixUp (fun _ => 0) B 17 j := by
  unfold fillUp mixUp
  by_cases c : j < 17
  · rw [if_pos c, show min 8 (136 - 8 * j) = 8 by omega]
    exact BitVec.zero_xor.symm
  · rw [if_neg c, show min 8 (136 - 8 * j) = 0 by omega]; rfl
/-- Of at most 135 bytes. -/
theorem hash_short (M : List UInt8) (h : M.length < 136) : hashOf M = byteAt (soak (fun _ => 0) (lastB M)) := by
  unfold hashOf
  rw [show M.length / 136 = 0 by omega]
  rfl
theorem short_bytes (X : ByteArray) : bytesA 136 (fun j => if j < X.size then X.data.toList.getD j 0 else 0) = bytesA 136 (over (fun _ => 0) 0 (firstB (fun j => X.data.toList.getD j 0) X.size)) :=
  bytesA_congr fun j _ => by
    unfold over
    rw [firstB_length]
    by_cases c : j < X.size
    · rw [if_pos c, if_pos (by omega), Nat.sub_zero, firstB_get _ _ _ c]
    · rw [if_neg c, if_neg (by omega)]
theorem byte_get (X : ByteArray) (k : Nat) (h : k < X.size) : ((X[k].toNat : Nat) : Int) = oct (X.data.toList.getD k 0) := by
  have e : X.data.toList.getD k 0 = X[k] := by
    rw [List.getD_eq_getElem?_getD, Array.getElem?_toList, Array.getElem?_eq_getElem (by exact h), Option.getD_some]; rfl
  rw [e]; rfl
theorem text_step (X : ByteArray) (b : Nat) (t : TypeId) (w : World) (k : Nat) (hk : k < X.size) (h : Holds w b t (bytesA 136 fun j => if j < k then X.data.toList.getD j 0 else 0)) :
    Holds (w.setCell ⟨b, k, none⟩ (.int .u8 (oct (X.data.toList.getD k 0)))) b t (bytesA 136 fun j => if j < k + 1 then X.data.toList.getD j 0 else 0) := by
  refine (h.byteSet k _).congr (bytesA_congr fun j _ => ?_)
  by_cases e : j = k
  · subst e; simp
  · by_cases c : j < k
    · simp [e, c, show j < k + 1 by omega]
    · simp [e, c, show ¬ j < k + 1 by omega]

end Go.Proofs.YtjbenoaefjlbaaaDoor
