/-
  The permutation is one-to-one. Plain; nothing of the program.
-/
import Derived.Test.YtooednielegmnaaDoorSpec
namespace Go.Proofs.YtooednielegmnaaDoor
open Go Go.RowKit

/-- A turned lane's bits. -/
theorem rotl_bit (x : BitVec 64) (k i : Nat) (hk : k < 64) (hi : i < 64) : (rotl x k).getLsbD i = x.getLsbD ((i + (64 - k)) % 64) := by
  unfold rotl
  rw [BitVec.getLsbD_or, BitVec.getLsbD_shiftLeft, BitVec.getLsbD_ushiftRight]
  by_cases c : i < k
  · rw [show (i + (64 - k)) % 64 = 64 - k + i by omega]
    simp [c]
  · rw [show (i + (64 - k)) % 64 = i - k by omega]
    have : x.getLsbD (64 - k + i) = false := BitVec.getLsbD_of_ge x _ (by omega)
    simp [c, hi, this]
theorem rotl_inj {x y : BitVec 64} {k : Nat} (hk : k < 64) (h : rotl x k = rotl y k) : x = y := by
  apply BitVec.eq_of_getLsbD_eq
  intro i hi
  have h1 := congrArg (fun v => v.getLsbD ((i + k) % 64)) h
  simp only [rotl_bit _ k _ hk (Nat.mod_lt _ (by omega : 0 < 64))] at h1
  rw [show ((i + k) % 64 + (64 - k)) % 64 = i by omega] at h1
  exact h1

theorem iota_inj {k : Nat} {s r : Nat → BitVec 64} (h : Same (iota k s) (iota k r)) : Same s r := fun i hi => by
  have h1 := h i hi
  unfold iota at h1
  by_cases c : i = 0
  · subst c
    simp only [if_true] at h1
    exact (BitVec.xor_left_inj _).1 h1
  · simpa only [c, if_false] using h1

theorem rhopi_inj {s r : Nat → BitVec 64} (h : Same (rhopi s) (rhopi r)) : Same s r := fun i hi => by
  have h1 := h (tgts i) (tgts_lt i hi)
  unfold rhopi at h1
  rw [srcs_tgts i hi] at h1
  exact rotl_inj (offs_lt i hi) h1

theorem chi_bits : ∀ a0 a1 a2 a3 a4 b0 b1 b2 b3 b4 : Bool,
    (a0 ^^ (!a1 && a2)) = (b0 ^^ (!b1 && b2)) → (a1 ^^ (!a2 && a3)) = (b1 ^^ (!b2 && b3)) → (a2 ^^ (!a3 && a4)) = (b2 ^^ (!b3 && b4)) →
    (a3 ^^ (!a4 && a0)) = (b3 ^^ (!b4 && b0)) → (a4 ^^ (!a0 && a1)) = (b4 ^^ (!b0 && b1)) → a0 = b0 ∧ a1 = b1 ∧ a2 = b2 ∧ a3 = b3 ∧ a4 = b4 := by decide
theorem chi_inj {s r : Nat → BitVec 64} (h : Same (chi s) (chi r)) : Same s r := by
  have key : ∀ k, k < 5 → ∀ j, j < 5 → s (5 * k + j) = r (5 * k + j) := fun k hk j hj => by
    apply BitVec.eq_of_getLsbD_eq
    intro b hb
    obtain ⟨s0, s1, s2, s3, s4⟩ := chi_row s k
    obtain ⟨r0, r1, r2, r3, r4⟩ := chi_row r k
    have e0 := h (5 * k) (by omega)
    have e1 := h (5 * k + 1) (by omega)
    have e2 := h (5 * k + 2) (by omega)
    have e3 := h (5 * k + 3) (by omega)
    have e4 := h (5 * k + 4) (by omega)
    rw [s0, r0] at e0
    rw [s1, r1] at e1
    rw [s2, r2] at e2
    rw [s3, r3] at e3
    rw [s4, r4] at e4
    have f : ∀ {x y : BitVec 64}, x = y → x.getLsbD b = y.getLsbD b := fun q => by rw [q]
    have g0 := f e0
    have g1 := f e1
    have g2 := f e2
    have g3 := f e3
    have g4 := f e4
    simp only [BitVec.getLsbD_xor, BitVec.getLsbD_and, BitVec.getLsbD_not, hb, decide_true, Bool.true_and] at g0 g1 g2 g3 g4
    obtain ⟨q0, q1, q2, q3, q4⟩ := chi_bits _ _ _ _ _ _ _ _ _ _ g0 g1 g2 g3 g4
    have : j = 0 ∨ j = 1 ∨ j = 2 ∨ j = 3 ∨ j = 4 := by omega
    rcases this with rfl | rfl | rfl | rfl | rfl
    · exact q0
    · exact q1
    · exact q2
    · exact q3
    · exact q4
  intro i hi
  have := key (i / 5) (by omega) (i % 5) (by omega)
  rw [show 5 * (i / 5) + i % 5 = i by omega] at this
  exact this

/-- The doubling: a bit that is the sum of two others, again and again. -/
theorem doubled (c : Nat → Nat → Bool) (h : ∀ x i, c x i = (c (x + 4) i ^^ c (x + 1) (i + 63))) :
    ∀ n x i, c x i = (c (x + 4 * 2 ^ n) i ^^ c (x + 2 ^ n) (i + 63 * 2 ^ n))
  | 0, x, i => by simpa using h x i
  | n + 1, x, i => by
    have h1 := doubled c h n x i
    have h2 := doubled c h n (x + 4 * 2 ^ n) i
    have h3 := doubled c h n (x + 2 ^ n) (i + 63 * 2 ^ n)
    rw [h1, h2, h3]
    rw [show x + 4 * 2 ^ n + 4 * 2 ^ n = x + 4 * 2 ^ (n + 1) by rw [Nat.pow_succ]; omega, show x + 4 * 2 ^ n + 2 ^ n = x + 2 ^ n + 4 * 2 ^ n by omega,
      show x + 2 ^ n + 2 ^ n = x + 2 ^ (n + 1) by rw [Nat.pow_succ]; omega, show i + 63 * 2 ^ n + 63 * 2 ^ n = i + 63 * 2 ^ (n + 1) by rw [Nat.pow_succ]; omega]
    cases c (x + 4 * 2 ^ (n + 1)) i <;> cases c (x + 2 ^ n + 4 * 2 ^ n) (i + 63 * 2 ^ n) <;> cases c (x + 2 ^ (n + 1)) (i + 63 * 2 ^ (n + 1)) <;> rfl

theorem ring5 : ∀ b0 b1 b2 b3 b4 : Bool, b0 = (b1 ^^ b4) → b1 = (b2 ^^ b0) → b2 = (b3 ^^ b1) → b3 = (b4 ^^ b2) → b4 = (b0 ^^ b3) → b0 = false ∧ b1 = false ∧ b2 = false ∧ b3 = false ∧ b4 = false := by decide

/-- Parities that are what goes into their own column are none. -/
theorem col_zero (C : Nat → BitVec 64) (h : ∀ x, x < 5 → C x = C ((x + 4) % 5) ^^^ rotl (C ((x + 1) % 5)) 1) : ∀ x, x < 5 → C x = 0 := by
  have hc : ∀ x i, (C (x % 5)).getLsbD (i % 64) = ((C ((x + 4) % 5)).getLsbD (i % 64) ^^ (C ((x + 1) % 5)).getLsbD ((i + 63) % 64)) := fun x i => by
    have h1 := congrArg (fun v => v.getLsbD (i % 64)) (h (x % 5) (Nat.mod_lt _ (by omega)))
    simp only [BitVec.getLsbD_xor, rotl_bit _ 1 _ (by omega) (Nat.mod_lt i (by omega : 0 < 64))] at h1
    rw [h1, show (x % 5 + 4) % 5 = (x + 4) % 5 by omega, show (x % 5 + 1) % 5 = (x + 1) % 5 by omega, show (i % 64 + (64 - 1)) % 64 = (i + 63) % 64 by omega]
  have hd := doubled (fun x i => (C (x % 5)).getLsbD (i % 64)) hc 6
  have he : ∀ x i, i < 64 → (C (x % 5)).getLsbD i = ((C ((x + 1) % 5)).getLsbD i ^^ (C ((x + 4) % 5)).getLsbD i) := fun x i hi => by
    have : (C (x % 5)).getLsbD (i % 64) = ((C ((x + 4 * 2 ^ 6) % 5)).getLsbD (i % 64) ^^ (C ((x + 2 ^ 6) % 5)).getLsbD ((i + 63 * 2 ^ 6) % 64)) := hd x i
    rw [show i % 64 = i by omega, show (x + 4 * 2 ^ 6) % 5 = (x + 1) % 5 by omega, show (x + 2 ^ 6) % 5 = (x + 4) % 5 by omega, show (i + 63 * 2 ^ 6) % 64 = i by omega] at this
    exact this
  intro x hx
  apply BitVec.eq_of_getLsbD_eq
  intro i hi
  obtain ⟨z0, z1, z2, z3, z4⟩ := ring5 _ _ _ _ _ (he 0 i hi) (he 1 i hi) (he 2 i hi) (he 3 i hi) (he 4 i hi)
  have : x = 0 ∨ x = 1 ∨ x = 2 ∨ x = 3 ∨ x = 4 := by omega
  rcases this with rfl | rfl | rfl | rfl | rfl
  · simpa using z0
  · simpa using z1
  · simpa using z2
  · simpa using z3
  · simpa using z4

theorem rotl_xor (x y : BitVec 64) (k : Nat) : rotl (x ^^^ y) k = rotl x k ^^^ rotl y k := by
  apply BitVec.eq_of_getLsbD_eq
  intro i hi
  unfold rotl
  simp only [BitVec.getLsbD_or, BitVec.getLsbD_xor, BitVec.getLsbD_shiftLeft, BitVec.getLsbD_ushiftRight]
  by_cases c : i < k
  · simp [c]
  · have h1 : x.getLsbD (64 - k + i) = false ∨ k > 64 := by
      by_cases d : k ≤ 64
      · left; exact BitVec.getLsbD_of_ge x _ (by omega)
      · right; omega
    rcases h1 with h1 | h1
    · have h2 : y.getLsbD (64 - k + i) = false := BitVec.getLsbD_of_ge y _ (by
        by_cases d : k ≤ 64
        · omega
        · omega)
      simp [c, hi, h1, h2]
    · omega

theorem theta_inj {s r : Nat → BitVec 64} (h : Same (theta s) (theta r)) : Same s r := by
  -- the difference of the two, lane by lane
  have hd : ∀ i, i < 25 → s i ^^^ r i = dif s (i % 5) ^^^ dif r (i % 5) := fun i hi => by
    have := h i hi
    unfold theta at this
    have e : s i ^^^ r i = (s i ^^^ dif s (i % 5)) ^^^ (r i ^^^ dif r (i % 5)) ^^^ (dif s (i % 5) ^^^ dif r (i % 5)) := by
      apply BitVec.eq_of_getLsbD_eq
      intro b _
      simp only [BitVec.getLsbD_xor]
      cases (s i).getLsbD b <;> cases (r i).getLsbD b <;> cases (dif s (i % 5)).getLsbD b <;> cases (dif r (i % 5)).getLsbD b <;> rfl
    rw [e, this, BitVec.xor_self, BitVec.zero_xor]
  have hp : ∀ x, x < 5 → par s x ^^^ par r x = dif s x ^^^ dif r x := fun x hx => by
    have g0 := hd x (by omega)
    have g1 := hd (x + 5) (by omega)
    have g2 := hd (x + 10) (by omega)
    have g3 := hd (x + 15) (by omega)
    have g4 := hd (x + 20) (by omega)
    rw [show x % 5 = x by omega] at g0
    rw [show (x + 5) % 5 = x by omega] at g1
    rw [show (x + 10) % 5 = x by omega] at g2
    rw [show (x + 15) % 5 = x by omega] at g3
    rw [show (x + 20) % 5 = x by omega] at g4
    have e : par s x ^^^ par r x = (s x ^^^ r x) ^^^ (s (x + 5) ^^^ r (x + 5)) ^^^ (s (x + 10) ^^^ r (x + 10)) ^^^ (s (x + 15) ^^^ r (x + 15)) ^^^ (s (x + 20) ^^^ r (x + 20)) := by
      unfold par
      ac_rfl
    rw [e, g0, g1, g2, g3, g4]
    generalize dif s x ^^^ dif r x = d
    rw [BitVec.xor_self, BitVec.zero_xor, BitVec.xor_self, BitVec.zero_xor]
  have hz := col_zero (fun x => par s x ^^^ par r x) (fun x hx => by
    show par s x ^^^ par r x = (par s ((x + 4) % 5) ^^^ par r ((x + 4) % 5)) ^^^ rotl (par s ((x + 1) % 5) ^^^ par r ((x + 1) % 5)) 1
    rw [hp x hx, rotl_xor]
    unfold dif
    ac_rfl)
  intro i hi
  have h1 := hd i hi
  rw [← hp (i % 5) (by omega), hz (i % 5) (by omega)] at h1
  exact BitVec.xor_eq_zero_iff.1 h1

theorem round_inj {k : Nat} {s r : Nat → BitVec 64} (h : Same (round k s) (round k r)) : Same s r := theta_inj (rhopi_inj (chi_inj (iota_inj h)))
theorem rounds_inj {s r : Nat → BitVec 64} : ∀ k, Same (rounds k s) (rounds k r) → Same s r
  | 0, h => h
  | k + 1, h => rounds_inj k (round_inj h)
/-- The permutation is one-to-one. -/
theorem perm_inj {s r : Nat → BitVec 64} (h : Same (perm s) (perm r)) : Same s r := rounds_inj 24 h

end Go.Proofs.YtooednielegmnaaDoor
