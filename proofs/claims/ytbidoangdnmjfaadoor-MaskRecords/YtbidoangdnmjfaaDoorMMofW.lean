/-
  maskOf: the two bytes with which a text begins.
-/
import Derived.Test.YtbidoangdnmjfaaDoorMHofW
namespace Go.Proofs.YtbidoangdnmjfaaDoor
open Go Go.RowKit

theorem idxO (x : ByteArray) (k : Nat) (c : UInt8) (hk : k < x.size) (hc : x.data.toList.getD k 0 = c) (w : World) : (Instr.index 9 (.string x) (.int .i64 (k : Int))).run Tryd.prog w = .ok (.int .u8 ((c.toNat : Nat) : Int)) w := by
  have h1 : (k : Int) < x.size := by omega
  have h2 : x[k] = c := by rw [← hc, List.getD_eq_getElem?_getD, List.getElem?_eq_getElem (by exact hk)]; rfl
  go_simp
/-- The mask with which l begins. -/
def maskL (l : List UInt8) : Nat := (l.getD 0 0).toNat * 256 + (l.getD 1 0).toNat
theorem maskL_lt (l : List UInt8) : maskL l < 65536 := by
  unfold maskL
  have h1 := (l.getD 0 0).toNat_lt
  have h2 := (l.getD 1 0).toNat_lt
  omega
set_option maxRecDepth 8000 in
set_option maxHeartbeats 1000000 in
theorem maskOf_any {w : World} (r : ByteArray) (hr : 2 ≤ r.size) : Calls Tryd.prog 27 #[.string r] w fun e w' => e = .returned (.int .u16 (maskL r.data.toList : Nat)) ∧ Below w.heap.size w w' := by
  obtain ⟨c0, h0⟩ : ∃ c, r.data.toList.getD 0 0 = c := ⟨_, rfl⟩
  obtain ⟨c1, h1⟩ : ∃ c, r.data.toList.getD 1 0 = c := ⟨_, rfl⟩
  have i0 := idxO r 0 c0 (by omega) h0
  have i1 := idxO r 1 c1 (by omega) h1
  unfold maskL
  rw [h0, h1]
  have g0 := c0.toNat_lt
  have g1 := c1.toNat_lt
  clear h0 h1 hr
  generalize c0.toNat = a at i0 g0 ⊢
  generalize c1.toNat = b at i1 g1 ⊢
  rw [show ((0 : Nat) : Int) = 0 from rfl] at i0
  rw [show ((1 : Nat) : Int) = 1 from rfl] at i1
  have hor := or_u16 (a * 256) b (by omega) (by omega)
  have hadd : a * 256 ||| b = a * 256 + b := by
    have := Nat.two_pow_add_eq_or_of_lt (show b < 2 ^ 8 by omega) a
    rw [show (2 : Nat) ^ 8 * a = a * 256 by omega] at this
    exact this.symm
  rw [hadd] at hor
  rw [show ((a * 256 : Nat) : Int) = (a : Int) * 256 by omega] at hor
  obtain ⟨z, hz⟩ : ∃ z, a * 256 + b = z := ⟨_, rfl⟩
  rw [hz] at hor ⊢
  clear hz hadd
  go_enter Tryd.func27, Tryd.ntmps27
  go_wp2_with fail
  refine wp_region_class (fun W => Below w.heap.size w W) mixedP (by kernel_rfl) (below_drewR (Below.refl _ _)) ?_
  go_big_quiet_step (exact fun _ => rfl)
  go_big_quiet_step (exact fun _ => rfl)
  go_big_quiet_step (exact fun _ => rfl)
  go_big_quiet_step (exact fun _ => rfl)
  go_big_quiet_step (exact fun _ => rfl)
  go_big_quiet_step (exact fun _ => rfl)
  go_big_quiet_step (exact fun _ => rfl)
  go_big_quiet_step (exact fun _ => rfl)
  go_big_quiet_step (exact fun _ => rfl)
  refine wpQuiet_nil ?_
  intro W6 hB6
  show Exit.then _ _ Exit.normal _ _
  simp only [Exit.then]
  go_at_K
  go_wp2_with fail
  go_ret
  exact ⟨rfl, hB6⟩
end Go.Proofs.YtbidoangdnmjfaaDoor
