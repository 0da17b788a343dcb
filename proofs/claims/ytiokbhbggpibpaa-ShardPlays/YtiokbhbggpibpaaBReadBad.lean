/-
  Read, of bytes that begin with no container.
-/
import Derived.Test.YtiokbhbggpibpaaBSplitW
import Derived.Test.YtiokbhbggpibpaaBNewW
namespace Go.Proofs.Ytiokbhbggpibpaa
open Go Go.RowKit Go.Maps

theorem splitV.bad {l : List Nat} {v : Value} (h : splitV l v) (hno : ∀ u p r, ¬ SplitOk l u p r) : ∃ u p r, v = .tuple #[.agg (partA u (contA p)), .string r, .bool false] := by
  rcases h with ⟨u, p, r, h, _⟩ | ⟨_, u, p, r, _, h⟩
  · exact absurd h (hno _ _ _)
  · exact ⟨u, p, r, h⟩
set_option maxRecDepth 100000 in
set_option maxHeartbeats 2000000 in
theorem read_bad (x : ByteArray) (hbits : 32 < (numsB x)[3]?.getD 0 + 1 → ReadsBits) (w : World) (hx : x.size ≤ 2147483648) (h0 : 0 < x.size) (hno : ∀ u p r, ¬ SplitOk (numsB x) u p r) :
    Calls Try.prog 28 #[.string x] w fun e w' => e = .returned (.tuple #[.pointer none, .int .i64 10]) ∧ Below w.heap.size w w' := by
  have hsp := fun W => split_any x hbits W hx
  have hne : x.toList.isEmpty = false := by
    rw [ByteArray.toList_eq]
    cases hl : x.data.toList with
    | nil =>
      have h2 : x.data.toList.length = x.size := rfl
      rw [hl] at h2; simp at h2; omega
    | cons a l => rfl
  have hnw := fun W => new_any (w := W) (v := .slice none 0 0) (l := []) (.inl ⟨rfl, _, _, rfl⟩) (by simp) (by simp)
  go_enter Try.func28, Try.ntmps28
  go_wp2_with (first
    | (go_at_call 13; refine (hnw _).mono ?_; rintro e w1 ⟨b, rfl, mo, hs, hb, hmo, hB1⟩))
  go_loopw [0, 5] (fun y z wr => y = .string x ∧ z = .int .i64 (-1) ∧ wr = w1) (fun _ _ _ => 0)
  case atStart => exact ⟨rfl, rfl, rfl⟩
  case round =>
    obtain ⟨rfl, rfl, rfl⟩ := hrel
    have hZ := IsC.mk fun _ => false
    go_wp2_with (first
      | (go_at_call 48; refine (hsp _).mono ?_; rintro e w2 ⟨v, rfl, hv, hB2⟩; obtain ⟨u, p, r, rfl⟩ := hv.bad hno; have hC := IsC.mk p; generalize contA p = cs at hC ⊢; obtain ⟨W3, hW3⟩ : ∃ W3, World.alloc w2 (.cells zero33 80) = W3 := ⟨_, rfl⟩; have h3 : Holds W3 w2.heap.size 80 zero33 := (by rw [← hW3]; exact Holds.new _ _ _); have hB3 : Below w2.heap.size w2 W3 := (by rw [← hW3]; exact below_new1 _ _); rw [zero33_eq] at hW3)
      | (refine wpList_stP rfl _ _ rfl rfl rfl hC h3 rfl ?_; intro W4 h4 hO4 hs4; clear hs4))
    go_ret2
    exact ⟨rfl, Only.fresh (below_new hB1 (below_new hB2 hB3)) hO4 (by have := hB1.size; have := hB2.size; omega)⟩
end Go.Proofs.Ytiokbhbggpibpaa
