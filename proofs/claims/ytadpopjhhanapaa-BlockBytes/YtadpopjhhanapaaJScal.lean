/-
  Right and Check of numbers and accounts (out of the texts of stage 4).
-/
import Derived.Test.YtadpopjhhanapaaListW
import Derived.Test.YtadpopjhhanapaaSRules
import Derived.Test.YtadpopjhhanapaaPTail
import Derived.Test.YtadpopjhhanapaaCTail
namespace Go.Proofs.Ytadpopjhhanapaa
open Go Go.RowKit

theorem drewB {B : Nat} {a w : World} (h : Below B a w) (n : Nat) : Below B a (w.drewN n) := ⟨h.os, h.tape, h.output, h.size, h.block⟩
theorem right_long {l : List UInt8} (h : 32 < l.length) : rightN l = false := by
  unfold rightN; rw [decide_eq_false (by omega)]; rfl
theorem right_nil : rightN [] = true := rfl
theorem right_zero {x : ByteArray} (hp : 0 < x.size) (h : (x[0]).toNat = 0) : rightN x.data.toList = false := by
  have e : x[0] = 0 := UInt8.toNat_inj.1 h
  rw [getB x 0 hp] at e
  cases hl : x.data.toList with
  | nil => rw [← sizeB, hl] at hp; simp at hp
  | cons c l =>
    simp only [hl, List.getElem_cons_zero] at e
    subst e
    unfold rightN
    have hne : ¬ trimL (0 :: l) = 0 :: l := by
      intro q
      have := trimL_head (0 :: l)
      rw [q] at this
      exact this rfl
    rw [decide_eq_false hne, Bool.and_false]
theorem right_pos {x : ByteArray} (h32 : ¬ 32 < x.size) (hp : 0 < x.size) (h : ¬ (x[0]).toNat = 0) : rightN x.data.toList = true := by
  rw [getB x 0 hp] at h
  refine (rightN_iff _).2 ⟨by rw [sizeB]; omega, trimL_of _ ?_⟩
  rw [List.head?_eq_getElem?, List.getElem?_eq_getElem (by exact hp)]
  intro e
  exact h (by rw [Option.some.inj e]; rfl)

theorem sright_any (x : ByteArray) (w : World) :
    Calls Try.prog 55 #[.string x] w fun e w' => e = .returned (.bool (rightN x.data.toList)) ∧ w' = w := by
  by_cases h32 : 32 < x.size
  · have h32i : ¬ (x.size : Int) ≤ 32 := by omega
    have hr : rightN x.data.toList = false := right_long (by rw [sizeB]; exact h32)
    go_enter Try.func55, Try.ntmps55
    go_wp2_with fail
    go_ret
    exact ⟨by first | rfl | (rw [hr]; rfl), rfl⟩
  · have h32i : (x.size : Int) ≤ 32 := by omega
    by_cases hp : 0 < x.size
    · have hpi : (0 : Int) < x.size := by omega
      have he : x.toList.isEmpty = false := notEmpty x (by omega)
      by_cases h : (x[0]).toNat = 0
      · have hr := right_zero hp h
        have hi : ((x[0]).toNat : Int) = 0 := by omega
        go_enter Try.func55, Try.ntmps55
        go_wp2_with fail
        go_ret
        exact ⟨by first | rfl | (rw [hr]; rfl), rfl⟩
      · have hr := right_pos h32 hp h
        have hi : ¬ ((x[0]).toNat : Int) = 0 := by omega
        go_enter Try.func55, Try.ntmps55
        go_wp2_with fail
        go_ret
        refine ⟨?_, rfl⟩
        rw [hr]
        show Ending.returned (Value.bool (((x[0]).toNat : Int) != 0)) = _
        simp
        omega
    · have he : x.toList.isEmpty = true := isEmpty0 x (by omega)
      have hr : rightN x.data.toList = true := by
        have : x.data.toList = [] := List.eq_nil_of_length_eq_zero (by rw [sizeB]; omega)
        rw [this]; rfl
      go_enter Try.func55, Try.ntmps55
      go_wp2_with fail
      go_ret
      exact ⟨by first | rfl | (rw [hr]; rfl), rfl⟩

/-- An account as a value. -/
def acct (n : Nat) (b c : ByteArray) (z : Int) : Array Value := #[.int .u64 n, .string b, .string c, .int .i64 z]
/-- May it be? -/
def okA (b c : List UInt8) (z : Int) : Bool := rightN b && (decide (c.length = 0) || decide (c.length = 32)) && (decide (0 ≤ z) && decide (z ≤ 2147483647))
def chkE (b c : List UInt8) (z : Int) : Int := if okA b c z = true then 0 else 1

set_option maxRecDepth 4000 in
set_option maxHeartbeats 2000000 in
theorem check_any (n : Nat) (b c : ByteArray) (z : Int) (w : World) :
    Calls Try.prog 52 #[.agg (acct n b c z)] w fun e w' => e = .returned (.int .i64 (chkE b.data.toList c.data.toList z)) ∧ Below w.heap.size w w' := by
  have HB : Hid (∀ o, Below w.heap.size w (w.alloc o)) := fun o => (Below.refl _ _).alloc (Nat.le_refl _) _
  obtain ⟨E, hE⟩ : ∃ E, chkE b.data.toList c.data.toList z = E := ⟨_, rfl⟩
  rw [hE]
  unfold chkE okA at hE
  rw [sizeB] at hE
  unfold acct
  obtain ⟨r, hr⟩ : ∃ r, rightN b.data.toList = r := ⟨_, rfl⟩
  have k0 : decide (c.size = 0) = ((c.size : Int) == 0) := by rw [Bool.eq_iff_iff]; simp only [decide_eq_true_eq, beq_iff_eq]; omega
  have k1 : decide (c.size = 32) = ((c.size : Int) == 32) := by rw [Bool.eq_iff_iff]; simp only [decide_eq_true_eq, beq_iff_eq]; omega
  rw [hr, k0, k1] at hE
  clear k0 k1
  have HE : Hid ((if (r && (((c.size : Int) == 0) || ((c.size : Int) == 32)) && (decide (0 ≤ z) && decide (z ≤ 2147483647))) = true then (0 : Int) else 1) = E) := hE
  clear hE
  have hcode : (((c.size : Int) == 0) = true ∧ ((c.size : Int) == 32) = false) ∨ (((c.size : Int) == 0) = false ∧ ((c.size : Int) == 32) = true) ∨ (((c.size : Int) == 0) = false ∧ ((c.size : Int) == 32) = false) := by
    simp only [beq_iff_eq, beq_eq_false_iff_ne]; omega
  rcases hcode with ⟨c1, c2⟩ | ⟨c1, c2⟩ | ⟨c1, c2⟩ <;>
  rcases (by omega : ¬ 0 ≤ z ∨ (0 ≤ z ∧ z ≤ 2147483647) ∨ (0 ≤ z ∧ ¬ z ≤ 2147483647)) with z1 | ⟨z1, z2⟩ | ⟨z1, z2⟩ <;>
  cases r <;>
  (have H1 : Hid (((c.size : Int) == 0) = _) := c1
   have H2 : Hid (((c.size : Int) == 32) = _) := c2
   go_enter Try.func52, Try.ntmps52
   go_wp2_with (first
     | (go_at_call 55; refine (sright_any b _).mono ?_; rintro e w1 ⟨rfl, hw1⟩; rw [hr, hw1]; clear hw1)
     | fail)
   go_ret
   refine ⟨?_, HB.out _⟩
   rw [← HE.out, H1.out, H2.out]
   simp only [*, decide_true, Bool.true_and, Bool.false_and, Bool.and_false, Bool.or_true, Bool.or_false, Bool.and_true, if_true, if_false, Bool.false_eq_true]
   first | done | rfl | (rw [decide_eq_false (show ¬ 0 ≤ z by omega)]; rfl) | (rw [decide_eq_false (show ¬ z ≤ 2147483647 by omega)]; rfl))
theorem underStrings : Try.prog.underlying 43 = some (.slice 9) := by kernel_rfl
end Go.Proofs.Ytadpopjhhanapaa
