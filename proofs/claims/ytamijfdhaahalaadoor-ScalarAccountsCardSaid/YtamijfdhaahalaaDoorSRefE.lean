/-
  What the document's calls of Check do.
-/
import Derived.Test.YtamijfdhaahalaaDoorSAcctW
import Derived.Test.YtamijfdhaahalaaDoorSRefA
namespace Go.Proofs.YtamijfdhaahalaaDoor
open Go Go.RowKit

set_option maxRecDepth 4000 in
set_option maxHeartbeats 2000000 in
theorem qcheck_any (n : Nat) (b c : ByteArray) (z : Int) (w : World) :
    Calls Tryd.prog 29 #[.agg (acct n b c z)] w fun e w' => e = .returned (.int .i64 (chkE b.data.toList c.data.toList z)) ∧ Below w.heap.size w w' := by
  have HB : Hid (∀ o, Below w.heap.size w (w.alloc o)) := fun o => (Below.refl _ _).alloc (Nat.le_refl _) _
  obtain ⟨E, hE⟩ : ∃ E, chkE b.data.toList c.data.toList z = E := ⟨_, rfl⟩
  rw [hE]
  unfold chkE okA at hE
  rw [sizeB] at hE
  unfold acct
  obtain ⟨r, hr⟩ : ∃ r, rightN b.data.toList = r := ⟨_, rfl⟩
  have k0 : decide (c.size = 0) = ((c.size : Int) == 0) := by rw [Bool.eq_iff_iff]; simp only [decide_eq_true_eq, beq_iff_eq]; omega
  have k1 : decide (c.size = 32) = ((c.size : Int) == 32) := by rw [Bool.eq_iff_iff]; simp only [decide_eq_true_eq, beq_iff_eq]; omega
  rw [hr, k0, k1] at hE
  clear k0 k1
  have HE : Hid ((if (r && (((c.size : Int) == 0) || ((c.size : Int) == 32)) && (decide (0 ≤ z) && decide (z ≤ 2147483647))) = true then (0 : Int) else 1) = E) := hE
  clear hE
  have hcode : (((c.size : Int) == 0) = true ∧ ((c.size : Int) == 32) = false ∧ ((c.size : Int) != 0) = false ∧ ((c.size : Int) != 32) = true) ∨ (((c.size : Int) == 0) = false ∧ ((c.size : Int) == 32) = true ∧ ((c.size : Int) != 0) = true ∧ ((c.size : Int) != 32) = false) ∨ (((c.size : Int) == 0) = false ∧ ((c.size : Int) == 32) = false ∧ ((c.size : Int) != 0) = true ∧ ((c.size : Int) != 32) = true) := by
    simp only [bne, Bool.not_eq_true', Bool.not_eq_false', beq_iff_eq, beq_eq_false_iff_ne]; omega
  rcases hcode with ⟨c1, c2, c3, c4⟩ | ⟨c1, c2, c3, c4⟩ | ⟨c1, c2, c3, c4⟩ <;>
  rcases (by omega : (z < 0) ∨ (¬ z < 0 ∧ ¬ 2147483647 < z) ∨ (¬ z < 0 ∧ 2147483647 < z)) with z1 | ⟨z1, z2⟩ | ⟨z1, z2⟩ <;>
  cases r <;>
  (have H1 : Hid (((c.size : Int) == 0) = _) := c1
   have H2 : Hid (((c.size : Int) == 32) = _) := c2
   go_enter Tryd.func29, Tryd.ntmps29
   go_wp2_with (first
     | (go_at_call 19; refine (qright_any b _).mono ?_; rintro e w1 ⟨rfl, hw1⟩; rw [hr, hw1]; clear hw1)
     | fail)
   go_ret
   refine ⟨?_, HB.out _⟩
   rw [← HE.out, H1.out, H2.out]
   first
     | (rw [decide_eq_false (show ¬ 0 ≤ z by omega)]; rfl)
     | (rw [decide_eq_true (show 0 ≤ z by omega), decide_eq_true (show z ≤ 2147483647 by omega)]; rfl)
     | (rw [decide_eq_true (show 0 ≤ z by omega), decide_eq_false (show ¬ z ≤ 2147483647 by omega)]; rfl))
end Go.Proofs.YtamijfdhaahalaaDoor
