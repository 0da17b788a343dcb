/-
  Two texts made one, from their last bytes on, by lists; nothing of the program.
-/
import Derived.Test.YtamijfdhaahalaaDoorSRules
namespace Go.Proofs.YtamijfdhaahalaaDoor
open Go Go.RowKit

def comb (F : Int → Int → Int) : List UInt8 → List UInt8 → List UInt8 × Int
  | x :: a, y :: b => (UInt8.ofNat ((F x.toNat y.toNat + (comb F a b).2) % 256).toNat :: (comb F a b).1, (F x.toNat y.toNat + (comb F a b).2) / 256)
  | _, _ => ([], 0)
theorem comb_cons (F : Int → Int → Int) (x y : UInt8) (a b : List UInt8) : comb F (x :: a) (y :: b) = (UInt8.ofNat ((F x.toNat y.toNat + (comb F a b).2) % 256).toNat :: (comb F a b).1, (F x.toNat y.toNat + (comb F a b).2) / 256) := rfl
theorem comb_len (F : Int → Int → Int) : ∀ a b : List UInt8, a.length = b.length → (comb F a b).1.length = a.length
  | [], [], _ => rfl
  | [], _ :: _, h => by simp at h
  | _ :: _, [], h => by simp at h
  | x :: a, y :: b, h => by rw [comb_cons]; simp only [List.length_cons]; rw [comb_len F a b (by simpa using h)]
def Calm (F : Int → Int → Int) : Prop := ∀ x y : Int, 0 ≤ x → x ≤ 255 → 0 ≤ y → y ≤ 255 → -255 ≤ F x y ∧ F x y ≤ 510
theorem calm_add : Calm (· + ·) := fun x y _ _ _ _ => by constructor <;> simp only <;> omega
theorem calm_sub : Calm (· - ·) := fun x y _ _ _ _ => by constructor <;> simp only <;> omega
theorem byte_le (c : UInt8) : (0 : Int) ≤ c.toNat ∧ (c.toNat : Int) ≤ 255 := by have := c.toNat_lt; omega
theorem comb_small {F : Int → Int → Int} (hF : Calm F) : ∀ a b : List UInt8, -1 ≤ (comb F a b).2 ∧ (comb F a b).2 ≤ 1
  | [], _ => by unfold comb; simp
  | _ :: _, [] => by unfold comb; simp
  | x :: a, y :: b => by
    have h1 := comb_small hF a b
    have h2 := hF x.toNat y.toNat (byte_le x).1 (byte_le x).2 (byte_le y).1 (byte_le y).2
    rw [comb_cons]
    simp only
    omega
theorem byte_of (v : Int) : ((UInt8.ofNat (v % 256).toNat).toNat : Int) = v % 256 := by
  rw [ofNat_toNat _ (by omega)]; omega
theorem comb_sum (F : Int → Int → Int) (G : Int → Int → Int) (hG : ∀ p x y s t : Int, G (x * p + s) (y * p + t) = F x y * p + G s t) (h0 : G 0 0 = 0) : ∀ a b : List UInt8, a.length = b.length →
    (val (comb F a b).1 : Int) + (comb F a b).2 * ((256 ^ a.length : Nat) : Int) = G (val a) (val b)
  | [], [], _ => by show (0 : Int) + 0 * _ = G 0 0; rw [h0]; simp
  | [], _ :: _, h => by simp at h
  | _ :: _, [], h => by simp at h
  | x :: a, y :: b, h => by
    have hl : a.length = b.length := by simpa using h
    have ih := comb_sum F G hG h0 a b hl
    have hc := comb_len F a b hl
    rw [comb_cons]
    simp only
    rw [val_cons, val_cons, val_cons, hc, ← hl, List.length_cons, Nat.pow_succ]
    generalize 256 ^ a.length = p at ih ⊢
    simp only [Int.natCast_add, Int.natCast_mul]
    rw [byte_of, hG, ← ih]
    generalize F x.toNat y.toNat = f
    generalize (comb F a b).2 = c
    generalize (val (comb F a b).1 : Int) = v
    have hd : f + c = 256 * ((f + c) / 256) + (f + c) % 256 := (Int.mul_ediv_add_emod (f + c) 256).symm
    generalize (f + c) / 256 = q at hd ⊢
    generalize (f + c) % 256 = r at hd ⊢
    have e1 : (f + c) * (p : Int) = (256 * q + r) * p := by rw [hd]
    rw [Int.add_mul, Int.add_mul] at e1
    have e2 : q * ((p : Int) * ((256 : Nat) : Int)) = 256 * q * p := by
      show q * ((p : Int) * 256) = 256 * q * p
      rw [← Int.mul_assoc, Int.mul_comm _ 256, ← Int.mul_assoc]
    omega
theorem comb_add (a b : List UInt8) (h : a.length = b.length) : (val (comb (· + ·) a b).1 : Int) + (comb (· + ·) a b).2 * ((256 ^ a.length : Nat) : Int) = (val a : Int) + val b :=
  comb_sum _ (· + ·) (fun p x y s t => by show (x * p + s) + (y * p + t) = (x + y) * p + (s + t); rw [Int.add_mul]; omega) rfl a b h
theorem comb_sub (a b : List UInt8) (h : a.length = b.length) : (val (comb (· - ·) a b).1 : Int) + (comb (· - ·) a b).2 * ((256 ^ a.length : Nat) : Int) = (val a : Int) - val b :=
  comb_sum _ (· - ·) (fun p x y s t => by show (x * p + s) - (y * p + t) = (x - y) * p + (s - t); rw [Int.sub_mul]; omega) rfl a b h

/-- What comes out: a number, or that it has no room. -/
def combE (F : Int → Int → Int) (a b : List UInt8) : Int := if rightN a = true ∧ rightN b = true then (if (comb F (wideL a) (wideL b)).2 = 0 then 0 else 11) else 1
def combS (F : Int → Int → Int) (a b : List UInt8) : List UInt8 := if combE F a b = 0 then trimL (comb F (wideL a) (wideL b)).1 else []
theorem right_wide {a : List UInt8} (h : rightN a = true) : (wideL a).length = 32 := by
  obtain ⟨h1, h2⟩ := (rightN_iff a).1 h
  exact wideL_len a (by rw [h2]; exact h1)
theorem comb_end (a b : List UInt8) (ha : rightN a = true) (hb : rightN b = true) (F : Int → Int → Int) (n : Int)
    (hs : (val (comb F (wideL a) (wideL b)).1 : Int) + (comb F (wideL a) (wideL b)).2 * ((256 ^ 32 : Nat) : Int) = n) :
    ((comb F (wideL a) (wideL b)).2 = 0 ↔ 0 ≤ n ∧ n < ((256 ^ 32 : Nat) : Int)) ∧ ((comb F (wideL a) (wideL b)).2 = 0 → trimL (comb F (wideL a) (wideL b)).1 = numF 32 n.toNat) := by
  have hl := comb_len F (wideL a) (wideL b) (by rw [right_wide ha, right_wide hb])
  have hv := val_lt (comb F (wideL a) (wideL b)).1
  rw [hl, right_wide ha] at hv
  generalize comb F (wideL a) (wideL b) = r at hs hv ⊢
  generalize hp : (256 ^ 32 : Nat) = p at hs hv ⊢
  have hp1 : 0 < p := by rw [← hp]; decide
  constructor
  · constructor
    · intro e; rw [e] at hs; omega
    · intro ⟨h1, h2⟩
      rcases Int.lt_trichotomy r.2 0 with q | q | q
      · have : r.2 * (p : Int) ≤ -1 * p := Int.mul_le_mul_of_nonneg_right (by omega) (by omega)
        omega
      · exact q
      · have : 1 * (p : Int) ≤ r.2 * p := Int.mul_le_mul_of_nonneg_right (by omega) (by omega)
        omega
  · intro e
    rw [e] at hs
    have hn : val r.1 = n.toNat := by omega
    rw [trimL_num r.1 32 (by rw [hp]; exact hv), hn]
theorem comb_is_add (a b : List UInt8) : combE (· + ·) a b = addE a b ∧ combS (· + ·) a b = addS a b := by
  have hE : combE (· + ·) a b = addE a b := by
    unfold combE addE
    by_cases h : rightN a = true ∧ rightN b = true
    · rw [if_pos h, if_pos h]
      have hs := comb_add (wideL a) (wideL b) (by rw [right_wide h.1, right_wide h.2])
      rw [right_wide h.1, wideL_val, wideL_val] at hs
      obtain ⟨h1, _⟩ := comb_end a b h.1 h.2 _ _ hs
      by_cases q : val a + val b < 256 ^ 32
      · rw [if_pos q, if_pos (h1.2 ⟨by omega, by omega⟩)]
      · rw [if_neg q, if_neg (fun e => q (by have := (h1.1 e).2; omega))]
    · rw [if_neg h, if_neg h]
  refine ⟨hE, ?_⟩
  unfold combS addS
  rw [hE]
  by_cases h : addE a b = 0
  · rw [if_pos h, if_pos h]
    have h' : combE (· + ·) a b = 0 := hE.trans h
    unfold combE at h'
    by_cases r : rightN a = true ∧ rightN b = true
    · rw [if_pos r] at h'
      have hs := comb_add (wideL a) (wideL b) (by rw [right_wide r.1, right_wide r.2])
      rw [right_wide r.1, wideL_val, wideL_val] at hs
      obtain ⟨_, h2⟩ := comb_end a b r.1 r.2 _ _ hs
      have hz : (comb (· + ·) (wideL a) (wideL b)).2 = 0 := by
        by_cases z : (comb (· + ·) (wideL a) (wideL b)).2 = 0
        · exact z
        · rw [if_neg z] at h'; omega
      rw [h2 hz]
      congr 1
    · rw [if_neg r] at h'; omega
  · rw [if_neg h, if_neg h]
theorem comb_is_sub (a b : List UInt8) : combE (· - ·) a b = subE a b ∧ combS (· - ·) a b = subS a b := by
  have hE : combE (· - ·) a b = subE a b := by
    unfold combE subE
    by_cases h : rightN a = true ∧ rightN b = true
    · rw [if_pos h, if_pos h]
      have hs := comb_sub (wideL a) (wideL b) (by rw [right_wide h.1, right_wide h.2])
      rw [right_wide h.1, wideL_val, wideL_val] at hs
      obtain ⟨h1, _⟩ := comb_end a b h.1 h.2 _ _ hs
      have ha := (right_lt h.1).1
      by_cases q : val a < val b
      · rw [if_pos q, if_neg (fun e => by have := (h1.1 e).1; omega)]
      · rw [if_neg q, if_pos (h1.2 ⟨by omega, by omega⟩)]
    · rw [if_neg h, if_neg h]
  refine ⟨hE, ?_⟩
  unfold combS subS
  rw [hE]
  by_cases h : subE a b = 0
  · rw [if_pos h, if_pos h]
    have h' : combE (· - ·) a b = 0 := hE.trans h
    unfold combE at h'
    by_cases r : rightN a = true ∧ rightN b = true
    · rw [if_pos r] at h'
      have hs := comb_sub (wideL a) (wideL b) (by rw [right_wide r.1, right_wide r.2])
      rw [right_wide r.1, wideL_val, wideL_val] at hs
      obtain ⟨_, h2⟩ := comb_end a b r.1 r.2 _ _ hs
      have hz : (comb (· - ·) (wideL a) (wideL b)).2 = 0 := by
        by_cases z : (comb (· - ·) (wideL a) (wideL b)).2 = 0
        · exact z
        · rw [if_neg z] at h'; omega
      rw [h2 hz]
      congr 1
      have hq : ¬ val a < val b := by
        intro q
        unfold subE at h
        rw [if_pos r, if_pos q] at h
        omega
      omega
    · rw [if_neg r] at h'; omega
  · rw [if_neg h, if_neg h]
end Go.Proofs.YtamijfdhaahalaaDoor
