/-
  What a round of Read's range wants: a row of the call's own stands where no cells turn; the text that is left.
-/
import Derived.Test.YtbidoangdnmjfaaDoorMReadW
import Derived.Test.YtbidoangdnmjfaaDoorMCountW
namespace Go.Proofs.YtbidoangdnmjfaaDoor
open Go Go.RowKit

theorem own_keptM {A B : World} {row : Option Nat} {Bd : Nat} (hg : A.grownBy B row) (hr : ∀ r, row = some r → Bd ≤ r ∧ ∃ o : Obj, A.heap[r]? = some o ∧ o.isCells = false) {base : Nat} {v : Value} {L : List H32} (h : OwnH A base v L) : OwnH B base v L := by
  refine h.block fun k hk => hg.block k (h.blk k hk) (fun e => ?_)
  obtain ⟨_, o, ho, hc⟩ := hr k e.symm
  rcases h.2 with ⟨rfl, _⟩ | ⟨g, cap, cur, rfl, h1, h2, _⟩
  · cases hk
  · injection hk with hk
    simp only at hk
    subst hk
    rw [h2] at ho
    cases ho
    cases hc
/-- What is left behind k hashes. -/
def restB (r : ByteArray) (k : Nat) : ByteArray := r.extract (6 + k * 32) r.size
theorem restB_size (r : ByteArray) (k : Nat) : (restB r k).size = r.size - (6 + k * 32) := by unfold restB; rw [ByteArray.size_extract]; omega
theorem restB_list (r : ByteArray) (k : Nat) : (restB r k).data.toList = (r.data.toList.drop 6).drop (k * 32) := by unfold restB; rw [ext_list, List.drop_drop]
theorem restB_hash (r : ByteArray) (k : Nat) : takeH (restB r k).data.toList = takeH ((r.data.toList.drop 6).drop (k * 32)) := by rw [restB_list]
theorem restB_succ (r : ByteArray) (k : Nat) : (restB r k).extract 32 (restB r k).size = restB r (k + 1) := by
  apply ByteArray.ext
  apply Array.toList_inj.1
  rw [ext_list, restB_list, restB_list, List.drop_drop]
  congr 1
  omega
end Go.Proofs.YtbidoangdnmjfaaDoor
