/-
  What the call of mixColumns does.
-/
import Derived.Test.YtjbenoaefjlbaaaDoorRotRows
namespace Go.Proofs.YtjbenoaefjlbaaaDoor
open Go.RowKit

theorem dif0 (s : Nat → BitVec 64) : s 4 ^^^ s 9 ^^^ s 14 ^^^ s 19 ^^^ s 24 ^^^ rotl (s 1 ^^^ s 6 ^^^ s 11 ^^^ s 16 ^^^ s 21) 1 = dif s 0 := rfl
theorem dif1 (s : Nat → BitVec 64) : s 0 ^^^ s 5 ^^^ s 10 ^^^ s 15 ^^^ s 20 ^^^ rotl (s 2 ^^^ s 7 ^^^ s 12 ^^^ s 17 ^^^ s 22) 1 = dif s 1 := by
  unfold dif par; rfl
theorem dif2 (s : Nat → BitVec 64) : s 1 ^^^ s 6 ^^^ s 11 ^^^ s 16 ^^^ s 21 ^^^ rotl (s 3 ^^^ s 8 ^^^ s 13 ^^^ s 18 ^^^ s 23) 1 = dif s 2 := rfl
theorem dif3 (s : Nat → BitVec 64) : s 2 ^^^ s 7 ^^^ s 12 ^^^ s 17 ^^^ s 22 ^^^ rotl (s 4 ^^^ s 9 ^^^ s 14 ^^^ s 19 ^^^ s 24) 1 = dif s 3 := rfl
theorem dif4 (s : Nat → BitVec 64) : s 3 ^^^ s 8 ^^^ s 13 ^^^ s 18 ^^^ s 23 ^^^ rotl (s 0 ^^^ s 5 ^^^ s 10 ^^^ s 15 ^^^ s 20) 1 = dif s 4 := by
  unfold dif par; rfl
theorem Holds.drew {w : World} {b : Nat} {t : TypeId} {cs : Array Value} (h : Holds w b t cs) : Holds w.drew b t cs := h
/-- A lane of each column, row by row. -/
theorem theta_row (s : Nat → BitVec 64) (k j : Nat) (hj : j < 5) : theta s (5 * k + j) = s (5 * k + j) ^^^ dif s j := by
  unfold theta; rw [show (5 * k + j) % 5 = j by omega]

theorem rot_one (x : BitVec 64) (w : World) :
    Calls Tryd.prog 53 #[.int .u64 (lane x), .int .i64 1] w fun e w' => e = .returned (.int .u64 (lane (rotl x 1))) ∧ w' = w :=
  rot_any x 1 w (by omega)

set_option maxRecDepth 8000 in
set_option maxHeartbeats 1000000 in
theorem mixColumns_any (s : Nat → BitVec 64) (b : Nat) (t : TypeId) (w : World) (hb : Holds w b t (lanesA s)) :
    Calls Tryd.prog 50 #[.pointer (some ⟨b, 0, none⟩)] w fun e w' => e = .returned (.tuple #[]) ∧ Only b w w' ∧ Holds w' b t (lanesA (theta s)) := by
  have hc := hb.laneAt
  have hX := lane_xor
  go_enter Tryd.func50, Tryd.ntmps50
  go_wp2
  go_quiet (fail)
  go_wp2
  go_quiet (fail)
  go_wp2
  go_quiet (fail)
  go_wp2
  go_quiet (fail)
  go_wp2
  go_quiet (fail)
  go_wp2_with (go_at_call 53; refine (rot_one _ _).mono ?_; rintro e w' ⟨rfl, rfl⟩)
  go_loopw [12] (fun y wr => ∃ k : Nat, k ≤ 5 ∧ y = .int .i64 (5 * k : Nat) ∧ Only b w wr ∧ Holds wr b t (lanesA (fun i => if i < 5 * k then theta s i else s i))) (fun y _ => 25 - (intOf y).toNat)
  case atStart => exact ⟨0, by omega, rfl, (Only.refl _ _).drewN _, (hb.drewN _).congr (lanesA_congr fun i _ => by simp)⟩
  case round =>
    clear hc hX
    obtain ⟨k, hk, rfl, ho, hh⟩ := hrel
    by_cases hlt : k < 5
    · obtain ⟨m, hm⟩ : ∃ m, 5 * k = m := ⟨_, rfl⟩
      have hc0 := hh.laneAt (5 * k) (by omega)
      have hc1 := hh.laneAt (5 * k + 1) (by omega)
      have hc2 := hh.laneAt (5 * k + 2) (by omega)
      have hc3 := hh.laneAt (5 * k + 3) (by omega)
      have hc4 := hh.laneAt (5 * k + 4) (by omega)
      simp only [show ¬ 5 * k < 5 * k by omega, show ¬ 5 * k + 1 < 5 * k by omega, show ¬ 5 * k + 2 < 5 * k by omega, show ¬ 5 * k + 3 < 5 * k by omega, show ¬ 5 * k + 4 < 5 * k by omega, if_false] at hc0 hc1 hc2 hc3 hc4
      have hf := hh.frozen
      have HH : Hid (Holds wr b t (lanesA (fun i => if i < 5 * k then theta s i else s i))) := hh
      have HL : Hid (k < 5) := hlt
      have hy1 : m ≤ 20 := by omega
      have hy2 : (m : Int) ≤ 20 := by omega
      have HY : Hid (5 * k = m) := hm
      clear hlt hk hh
      rw [hm] at hc0 hc1 hc2 hc3 hc4 ⊢
      clear hm
      go_wp2
      go_region
      go_wp2
      go_region
      go_wp2
      go_region
      go_wp2
      go_region
      go_wp2
      go_region
      go_wp2
      go_roundw
      case rel =>
        refine ⟨k + 1, by have := HL.out; omega, ?_, ?_, ?_⟩
        · have := HY.out; rw [show 5 * (k + 1) = m + 5 by omega]; rfl
        · exact ((((((((((ho.set m _).set (m + 1) _).set (m + 2) _).set (m + 3) _).set (m + 4) _).drew).drew).drew).drew).drew)
        · simp only [lane_xor, dif0, dif1, dif2, dif3, dif4]
          have q := HY.out
          subst q
          refine Holds.drew (Holds.drew (Holds.drew (Holds.drew (Holds.drew ?_))))
          exact five_step (theta s) s b t k _ HL.out HH.out _ _ _ _ _ (theta_row s k 0 (by omega)).symm (theta_row s k 1 (by omega)).symm (theta_row s k 2 (by omega)).symm (theta_row s k 3 (by omega)).symm (theta_row s k 4 (by omega)).symm
      case measure => simp [intOf]; omega
    · have hk5 : ¬ ((5 * k : Nat) : Int) < 25 := by omega
      have hkk : k = 5 := by omega
      subst hkk
      go_wp2
      go_end0
      exact ⟨rfl, ho, hh.congr (lanesA_congr fun i hi => by simp [hi])⟩

end Go.Proofs.YtjbenoaefjlbaaaDoor
