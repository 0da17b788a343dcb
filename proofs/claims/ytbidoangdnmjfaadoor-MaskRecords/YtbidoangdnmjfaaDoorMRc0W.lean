/-
  MaskRecords: the law's walk.
-/
import Derived.Test.YtbidoangdnmjfaaDoorKD
namespace Go.Proofs.YtbidoangdnmjfaaDoor
open Go Go.RowKit

theorem RdPost.all {r : ByteArray} {w w' : World} {e : Ending} (h : RdPost r w e w') : ∃ v, e = .returned (.tuple #[.agg #[.int .u16 (((if rdE r then rdS r else 0 : Nat) : Nat) : Int), .int .u16 (((if rdE r then rdT r else 0 : Nat) : Nat) : Int), .int .u16 (((if rdE r then rdH r else 0 : Nat) : Nat) : Int), v], .int .i64 (if rdE r then 0 else 10)]) ∧ HashesAt w' v (if rdE r then rdL r else []) ∧ Below w.heap.size w w' := by
  obtain ⟨s, t, h, v, L, rfl, hv, hB, q1, q2, q3, q4⟩ := h
  subst q1 q2 q3 q4
  exact ⟨v, rfl, hv, hB⟩
theorem rdL_small (r : ByteArray) : (if rdE r then rdL r else []).length ≤ 1000 := by
  split
  · unfold rdL
    rw [hsL_len]
    exact Nat.le_trans (cntM_le _) (by decide)
  · exact Nat.zero_le _
theorem IntsM.take40 {w : World} {p : Option Addr} {n c : Nat} {l : List Int} (h : IntsM w (.slice p n c) l) (hn : 40 < n) (hl : n = l.length) : IntsM w (.slice p 40 c) (l.take 40) ∧ (l.take 40).length = 40 := by
  have h40 : (l.take 40).length = 40 := by rw [List.length_take]; omega
  refine ⟨?_, h40⟩
  rcases h with ⟨rfl, _⟩ | ⟨b, o, c', e, h2⟩
  · simp at hl; omega
  · injection e with e1 e2 e3
    subst e1 e3
    exact .inr ⟨b, o, c, by rw [h40], fun i x hx => h2 i x (by
      rw [List.getElem?_take] at hx
      split at hx
      · exact hx
      · cases hx)⟩
theorem HashesAt.take40 {w : World} {p : Option Addr} {n c : Nat} {L : List H32} (h : HashesAt w (.slice p n c) L) (hn : 40 < n) (hl : L.length = n) : HashesAt w (.slice p 40 c) (L.take 40) ∧ (L.take 40).length = 40 := by
  refine ⟨?_, by rw [List.length_take]; omega⟩
  have h' := h
  rcases h with ⟨rfl, _⟩ | ⟨b, o, c', e, h2, h3⟩
  · simp at hl; omega
  · injection e with e1 e2 e3
    subst e1
    exact h'.take (by omega) (by omega)
end Go.Proofs.YtbidoangdnmjfaaDoor
