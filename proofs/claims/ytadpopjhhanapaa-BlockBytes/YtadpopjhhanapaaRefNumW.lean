/-
  What the document's Number does.
-/
import Derived.Test.YtadpopjhhanapaaNumberW
namespace Go.Proofs.Ytadpopjhhanapaa
open Go Go.RowKit

theorem numF_fuel (k : Nat) : ∀ n, n < 256 ^ k → numF (k + 1) n = numF k n := by
  induction k with
  | zero => intro n h; have : n = 0 := by simpa using h
            subst this; rfl
  | succ k ih =>
    intro n h
    rw [numF]
    split
    · next h0 => rw [h0, numF_zero]
    · next h0 =>
      rw [ih (n / 256) (by rw [Nat.pow_succ] at h; exact Nat.div_lt_of_lt_mul (by omega))]
      conv => rhs; rw [numF, if_neg h0]
theorem num_step (n : Nat) (h : n < 18446744073709551616) (h0 : n ≠ 0) : num n = num (n / 256) ++ [UInt8.ofNat (n % 256)] := by
  show numF 8 n = numF 8 (n / 256) ++ _
  rw [numF_fuel 7 (n / 256) (by omega)]
  rw [numF, if_neg h0]

theorem and255 (m : Nat) (h : m < 18446744073709551616) : bits .and .u64 (m : Int) 255 = ((m % 256 : Nat) : Int) := by
  rw [show (255 : Int) = ((255 : Nat) : Int) from rfl, bits_and_u64_nat _ _ (by omega) (by omega)]
  congr 1
  exact Nat.and_two_pow_sub_one_eq_mod m 8
theorem convert_one (w : World) (c : UInt8) : (convert 86 9 (.slice (some ⟨w.heap.size, 0, none⟩) 1 1)).run Try.prog (w.alloc (.cells #[.int .u8 (c.toNat : Int)] 5)) = .ok (.string ⟨#[c]⟩) (w.alloc (.cells #[.int .u8 (c.toNat : Int)] 5)) :=
  convert_row (l := [c]) (World.rowIs_alloc w #[.int .u8 (c.toNat : Int)] 5 _ fun i hi => by
    have : i = 0 := by simpa using hi
    subst this; rfl)

set_option maxRecDepth 4000 in
theorem refNumber_any (n : Nat) (w : World) (hn : n < 18446744073709551616) :
    Calls Try.prog 41 #[.int .u64 n] w fun e w' => e = .returned (.string ⟨(num n).toArray⟩) ∧ Below w.heap.size w w' := by
  go_enter Try.func41, Try.ntmps41
  go_wp2_with fail
  go_loopw [0, 3] (fun y z wr => ∃ (m : Nat) (s : List UInt8), m ≤ n ∧ num n = num m ++ s ∧ y = .int .u64 m ∧ z = .string ⟨s.toArray⟩ ∧ Below w.heap.size w wr) (fun y _ _ => (intOf y).toNat)
  case atStart => exact ⟨n, [], by omega, by simp, rfl, rfl, Below.refl _ _⟩
  case round =>
    obtain ⟨m, s, hm, hs, rfl, rfl, hB⟩ := hrel
    by_cases hlt : 0 < m
    · have hii : (0 : Int) < m := by omega
      have hmi : (m : Int) < 18446744073709551616 := by omega
      obtain ⟨c, hc⟩ : ∃ c, c = UInt8.ofNat (m % 256) := ⟨_, rfl⟩
      have hcn : c.toNat = m % 256 := by rw [hc, ofNat_toNat _ (Nat.mod_lt _ (by omega))]
      have hand : bits .and .u64 (m : Int) 255 = (c.toNat : Int) := by rw [and255 m (by omega), hcn]
      have hmod : (c.toNat : Int) % 256 = (c.toNat : Int) := by omega
      have hcv := fun w => convert_one w c
      have hst := num_step m (by omega) (by omega)
      rw [← hc] at hst
      have hsl : s.length ≤ 8 := by have h1 := num_len n; rw [hs, List.length_append] at h1; omega
      have hsz : (⟨s.toArray⟩ : ByteArray).size = s.length := rfl
      have hc1 : (⟨#[c]⟩ : ByteArray).size = 1 := rfl
      have hap : (⟨#[c]⟩ : ByteArray) ++ ⟨s.toArray⟩ = ⟨(c :: s).toArray⟩ := ByteArray.mk_append_mk [c] s
      have HS : Hid (num m = num (m / 256) ++ [c]) := hst
      have HSS : Hid (num n = num m ++ s) := hs
      clear hst hs hc hcn
      go_wp2_with fail
      go_roundw
      case rel =>
        refine ⟨m / 256, c :: s, by omega, by rw [HSS.out, HS.out]; simp, by congr 1, ?_, hB.alloc hB.size _⟩
        first | rfl | (congr 1)
      case measure => simp [intOf]; omega
    · have hii : ¬ (0 : Int) < m := by omega
      have hm0 : m = 0 := by omega
      subst hm0
      rw [show num 0 = [] from rfl, List.nil_append] at hs
      have HS : Hid (num n = s) := hs
      clear hs
      go_wp2_with fail
      go_ret
      exact ⟨by rw [HS.out]; rfl, hB⟩
end Go.Proofs.Ytadpopjhhanapaa
