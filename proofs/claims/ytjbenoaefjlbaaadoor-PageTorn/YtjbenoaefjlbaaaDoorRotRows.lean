/-
  What the calls of RotateLeft64 and mixRows do.
-/
import Derived.Test.YtjbenoaefjlbaaaDoorRows
import Derived.Test.YtjbenoaefjlbaaaDoorSpec
import Derived.Deep.QuietTactic
import Derived.BigQuiet
import Derived.RegionTactic
import Derived.ChangeAlike
import Derived.BigRegion
namespace Go.Proofs.YtjbenoaefjlbaaaDoor
open Go.RowKit

theorem lane_notK (x : BitVec 64) : bits .xor .u64 (if IntKind.u64.signed = true then -1 else IntKind.u64.max) (lane x) = lane (~~~x) := lane_not x

set_option maxHeartbeats 400000 in
theorem rot_any (x : BitVec 64) (k : Nat) (w : World) (hk : k < 64) :
    Calls Tryd.prog 53 #[.int .u64 (lane x), .int .i64 k] w fun e w' => e = .returned (.int .u64 (lane (rotl x k))) ∧ w' = w := by
  have h63 := and63 k hk
  have h0 : (0 : Int) ≤ k := by omega
  have h1 : (k : Int) < 64 := by omega
  have hx0 := lane_nn x
  have hx1 := lane_lt x
  go_enter Tryd.func53, Tryd.ntmps53
  go_wp2
  go_ret
  refine ⟨?_, rfl⟩
  show Ending.returned (Value.int IntKind.u64 (bits BinOp.or IntKind.u64 (IntKind.u64.wrap (lane x * 2 ^ k)) (lane x / 2 ^ (64 - k)))) = _
  rw [lane_shl, lane_shr, lane_or]
  rfl

set_option maxRecDepth 4000 in
set_option maxHeartbeats 1000000 in
theorem mixRows_any (s : Nat → BitVec 64) (b : Nat) (t : TypeId) (w : World) (hb : Holds w b t (lanesA s)) :
    Calls Tryd.prog 52 #[.pointer (some ⟨b, 0, none⟩)] w fun e w' => e = .returned (.tuple #[]) ∧ Only b w w' ∧ Holds w' b t (lanesA (chi s)) := by
  go_enter Tryd.func52, Tryd.ntmps52
  go_wp2
  go_loopw [2] (fun y wr => ∃ k : Nat, k ≤ 5 ∧ y = .int .i64 (5 * k : Nat) ∧ Only b w wr ∧ Holds wr b t (lanesA (fun i => if i < 5 * k then chi s i else s i))) (fun y _ => 25 - (intOf y).toNat)
  case atStart => exact ⟨0, by omega, rfl, Only.refl _ _, hb.congr (lanesA_congr fun i _ => by simp)⟩
  case round =>
    obtain ⟨k, hk, rfl, ho, hh⟩ := hrel
    by_cases hlt : k < 5
    · obtain ⟨m, hm⟩ : ∃ m, 5 * k = m := ⟨_, rfl⟩
      have hc0 := hh.laneAt (5 * k) (by omega)
      have hc1 := hh.laneAt (5 * k + 1) (by omega)
      have hc2 := hh.laneAt (5 * k + 2) (by omega)
      have hc3 := hh.laneAt (5 * k + 3) (by omega)
      have hc4 := hh.laneAt (5 * k + 4) (by omega)
      simp only [show ¬ 5 * k < 5 * k by omega, show ¬ 5 * k + 1 < 5 * k by omega, show ¬ 5 * k + 2 < 5 * k by omega, show ¬ 5 * k + 3 < 5 * k by omega, show ¬ 5 * k + 4 < 5 * k by omega, if_false] at hc0 hc1 hc2 hc3 hc4
      have hf := hh.frozen
      have HH : Hid (Holds wr b t (lanesA (fun i => if i < 5 * k then chi s i else s i))) := hh
      have HL : Hid (k < 5) := hlt
      have HR := chi_row s k
      have HC : Hid _ := HR
      have hy1 : m ≤ 20 := by omega
      have hy2 : (m : Int) ≤ 20 := by omega
      have HY : Hid (5 * k = m) := hm
      clear hlt hk hh HR
      rw [hm] at hc0 hc1 hc2 hc3 hc4 ⊢
      clear hm
      go_wp2
      go_quiet (fail)
      go_wp2
      go_roundw
      case rel =>
        refine ⟨k + 1, by have := HL.out; omega, ?_, ?_, ?_⟩
        · have := HY.out; rw [show 5 * (k + 1) = m + 5 by omega]; rfl
        · exact (((((ho.drewN nq).set m _).set (m + 1) _).set (m + 2) _).set (m + 3) _).set (m + 4) _
        · simp only [lane_notK, lane_and, lane_xor]
          have q := HY.out
          subst q
          obtain ⟨c0, c1, c2, c3, c4⟩ := HC.out
          exact five_step (chi s) s b t k _ HL.out (Holds.drewN HH.out nq) _ _ _ _ _ c0.symm c1.symm c2.symm c3.symm c4.symm
      case measure => simp [intOf]; omega
    · have hk5 : ¬ ((5 * k : Nat) : Int) < 25 := by omega
      have hkk : k = 5 := by omega
      subst hkk
      go_wp2
      go_end0
      exact ⟨rfl, ho, hh.congr (lanesA_congr fun i hi => by simp [hi])⟩

end Go.Proofs.YtjbenoaefjlbaaaDoor
