/-
  What the calls of Next do.
-/
import Derived.Test.YtjdhdeffiigpbaaDoorPackW
namespace Go.Proofs.YtjdhdeffiigpbaaDoor.Nb
open Go Go.RowKit

theorem convert_atd (w : World) (a : Int) (c : UInt8) (h : a = (c.toNat : Int)) :
    (convert 57 9 (.slice (some ⟨w.heap.size, 0, none⟩) 1 1)).run Tryd.prog (w.alloc (.cells #[.int .u8 a] 5)).drew = .ok (.string ⟨#[c]⟩) (w.alloc (.cells #[.int .u8 a] 5)).drew :=
  convert_row (l := [c]) (w := (w.alloc (.cells #[.int .u8 a] 5)).drew) (b := w.heap.size) (cap := 1) (by
    refine (World.rowIs_alloc w #[.int .u8 a] 5 (fun _ => .int .u8 a) (fun i hi => ?_)).drew.congr fun i hi => ?_
    · have : i < 1 := hi
      have : i = 0 := by omega
      subst this; rfl
    · have : i < 1 := hi
      have : i = 0 := by omega
      subst this
      rw [h]; rfl)
theorem nxt_wrong (l : List UInt8) (h : rightL l = false) : nxtS l = ⟨#[]⟩ ∧ nxtB l = false := by
  have : nxt l = none := by unfold nxt; rw [if_neg]; rintro ⟨q, _⟩; rw [h] at q; cases q
  unfold nxtS nxtB; rw [this]; exact ⟨rfl, rfl⟩
theorem nxt_none (l : List UInt8) (h : cutK l = 0) : nxtS l = ⟨#[]⟩ ∧ nxtB l = false := by
  have : nxt l = none := by unfold nxt; rw [if_neg]; rintro ⟨_, q⟩; exact q h
  unfold nxtS nxtB; rw [this]; exact ⟨rfl, rfl⟩
theorem nxt_some (l : List UInt8) (j : Nat) (hr : rightL l = true) (h : cutK l = j + 1) : nxtS l = ⟨(l.take j ++ [UInt8.ofNat ((l.getD j 0).toNat + 1)]).toArray⟩ ∧ nxtB l = true := by
  have : nxt l = some (l.take j ++ [UInt8.ofNat ((l.getD j 0).toNat + 1)]) := by unfold nxt; rw [if_pos ⟨hr, by omega⟩, h]; rfl
  unfold nxtS nxtB; rw [this]; exact ⟨rfl, rfl⟩

def all15 (x : ByteArray) (k : Nat) : Prop := ∀ j (_ : j < x.size), k ≤ j → (x[j]).toNat = 15
theorem all15_step (x : ByteArray) (j : Nat) (hj : j < x.size) (h : all15 x (j + 1)) (he : (x[j]).toNat = 15) : all15 x j := fun i hi hji => by
  by_cases e : i = j
  · subst e; exact he
  · exact h i hi (by omega)
theorem cut_zero (x : ByteArray) (h : all15 x 0) : cutK x.data.toList = 0 := cutK_eq _ 0 (by omega) (fun j hj hk => h j hj hk) (fun _ h => by omega)
theorem cut_at (x : ByteArray) (j : Nat) (hj : j < x.size) (h : all15 x (j + 1)) (he : ¬ (x[j]).toNat = 15) : cutK x.data.toList = j + 1 :=
  cutK_eq _ (j + 1) (by rw [sizeB]; omega) (fun i hi hk => h i hi hk) (fun _ _ => he)
end Go.Proofs.YtjdhdeffiigpbaaDoor.Nb
