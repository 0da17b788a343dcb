/-
  Masks of nibbles as numbers: what they have, by bits. Pure.
-/
import Derived.Lib.TrailingZeros
import Derived.Laws.BitsLemmas
import Derived.RowKit
namespace Go.Proofs.YtbidoangdnmjfaaDoor
open Go

/-- The nibbles of a mask, rising. -/
def nibs (m : Nat) : List Nat := (List.range 16).filter fun i => m.testBit i
/-- How many it has. -/
def cntM (m : Nat) : Nat := (nibs m).length
/-- How many stand below n. -/
def cntTo (m n : Nat) : Nat := ((List.range n).filter fun i => m.testBit i).length
/-- Has it the nibble? -/
def hasM (m : Nat) (n : Int) : Bool := decide (0 ≤ n) && decide (n < 16) && m.testBit n.toNat
/-- With one nibble more. -/
def orN (m : Nat) (n : Int) : Nat := if 0 ≤ n ∧ n < 16 then m ||| 2 ^ n.toNat else m
/-- The mask of these. -/
def ofM (l : List Int) : Nat := l.foldl orN 0
/-- A mask without those of another one. -/
def andN (a b : Nat) : Nat := a ^^^ (a &&& b)

theorem wraps_u16 (n : Int) (h₀ : 0 ≤ n) (h₁ : n < 2 ^ 16) : IntKind.u16.wrap n = n := by simp [IntKind.wrap, IntKind.bits, IntKind.signed]; omega
theorem wrap_u16 (n : Int) : IntKind.u16.wrap n = n % 65536 := by simp [IntKind.wrap, IntKind.bits, IntKind.signed]
theorem and_u16 (a b : Nat) (ha : a < 65536) (hb : b < 65536) : bits BinOp.and IntKind.u16 (a : Int) (b : Int) = ((a &&& b : Nat) : Int) := (bits_nat .u16 16 (by decide) wraps_u16 a b ha hb).1
theorem or_u16 (a b : Nat) (ha : a < 65536) (hb : b < 65536) : bits BinOp.or IntKind.u16 (a : Int) (b : Int) = ((a ||| b : Nat) : Int) := (bits_nat .u16 16 (by decide) wraps_u16 a b ha hb).2
theorem and_lt16 (a b : Nat) (ha : a < 65536) : a &&& b < 65536 := Nat.lt_of_le_of_lt Nat.and_le_left ha
theorem or_lt16 (a b : Nat) (ha : a < 65536) (hb : b < 65536) : a ||| b < 65536 := Nat.or_lt_two_pow (n := 16) ha hb
theorem andN_lt (a b : Nat) (ha : a < 65536) : andN a b < 65536 := Nat.xor_lt_two_pow (n := 16) ha (and_lt16 a b ha)
theorem testBit_andN (a b i : Nat) : (andN a b).testBit i = (a.testBit i && !b.testBit i) := by
  unfold andN
  rw [Nat.testBit_xor, Nat.testBit_and]
  cases a.testBit i <;> cases b.testBit i <;> rfl
theorem andNot_u16 (a b : Nat) (ha : a < 65536) (hb : b < 65536) : bits BinOp.andNot IntKind.u16 (a : Int) (b : Int) = ((andN a b : Nat) : Int) := by
  have ha' : a % 2 ^ 16 = a := Nat.mod_eq_of_lt ha
  have hb' : b % 2 ^ 16 = b := Nat.mod_eq_of_lt hb
  have e : (BitVec.ofInt 16 (a : Int) &&& ~~~BitVec.ofInt 16 (b : Int)).toNat = andN a b := by
    apply Nat.eq_of_testBit_eq
    intro i
    rw [testBit_andN]
    rw [← BitVec.getLsbD, BitVec.getLsbD_and, BitVec.getLsbD_not]
    simp only [BitVec.ofInt_natCast, BitVec.getLsbD, BitVec.toNat_ofNat, ha', hb']
    by_cases hi : i < 16
    · simp [hi]
    · have : a.testBit i = false := Nat.testBit_lt_two_pow (Nat.lt_of_lt_of_le ha (Nat.pow_le_pow_right (n := 2) (by decide) (by omega : 16 ≤ i)))
      simp [this]
  show IntKind.u16.wrap ((BitVec.ofInt 16 (a : Int) &&& ~~~BitVec.ofInt 16 (b : Int)).toNat : Int) = _
  rw [e]
  exact wraps_u16 _ (Int.natCast_nonneg _) (by have := andN_lt a b ha; omega)
theorem bit_high {m : Nat} (hm : m < 65536) {i : Nat} (hi : 16 ≤ i) : m.testBit i = false :=
  Nat.testBit_lt_two_pow (Nat.lt_of_lt_of_le hm (Nat.pow_le_pow_right (n := 2) (by decide) hi))
theorem eq_of_bits {a b : Nat} (ha : a < 65536) (hb : b < 65536) (h : ∀ i, i < 16 → a.testBit i = b.testBit i) : a = b := by
  apply Nat.eq_of_testBit_eq
  intro i
  by_cases hi : i < 16
  · exact h i hi
  · rw [bit_high ha (by omega), bit_high hb (by omega)]

theorem mem_nibs {m n : Nat} : n ∈ nibs m ↔ n < 16 ∧ m.testBit n = true := by
  unfold nibs
  rw [List.mem_filter, List.mem_range]
theorem nibs_rises (m : Nat) : (nibs m).Pairwise (· < ·) := (List.pairwise_lt_range (n := 16)).filter _
theorem nibs_zero : nibs 0 = [] := by decide
theorem cntTo_16 (m : Nat) : cntTo m 16 = cntM m := rfl
theorem cntTo_zero (m : Nat) : cntTo m 0 = 0 := rfl
theorem cntTo_succ (m n : Nat) : cntTo m (n + 1) = cntTo m n + if m.testBit n then 1 else 0 := by
  unfold cntTo
  rw [List.range_succ, List.filter_append, List.length_append]
  congr 1
  cases hb : m.testBit n with
  | true => rw [List.filter_cons_of_pos hb]; rfl
  | false => rw [List.filter_cons_of_neg (by simp [hb])]; rfl
theorem cntTo_le (m n : Nat) : cntTo m n ≤ n := by
  unfold cntTo
  have := List.length_filter_le (fun i => m.testBit i) (List.range n)
  rwa [List.length_range] at this
theorem cntTo_mono (m : Nat) {a b : Nat} (h : a ≤ b) : cntTo m a ≤ cntTo m b := by
  induction b with
  | zero => obtain rfl : a = 0 := by omega
            exact Nat.le_refl _
  | succ b ih =>
    rw [cntTo_succ]
    by_cases e : a = b + 1
    · subst e; rw [cntTo_succ]; exact Nat.le_refl _
    · have := ih (by omega); omega
theorem cntM_le (m : Nat) : cntM m ≤ 16 := cntTo_le m 16
theorem cntTo_lt {m n : Nat} (hn : n < 16) (h : m.testBit n = true) : cntTo m n < cntM m := by
  have h1 := cntTo_succ m n
  rw [if_pos h] at h1
  have h2 := cntTo_mono m (a := n + 1) (b := 16) (by omega)
  rw [cntTo_16] at h2
  omega
theorem nibs_congr {a b : Nat} (h : ∀ i, i < 16 → a.testBit i = b.testBit i) : nibs a = nibs b := by
  unfold nibs
  exact List.filter_congr fun i hi => h i (by simpa using hi)
theorem cntTo_congr {a b n : Nat} (h : ∀ i, i < n → a.testBit i = b.testBit i) : cntTo a n = cntTo b n := by
  unfold cntTo
  exact congrArg List.length (List.filter_congr fun i hi => h i (by simpa using hi))

/-- The least one, and the others. -/
theorem filter_first (p : Nat → Bool) (k : Nat) : ∀ (n s : Nat), s ≤ k → k < s + n → (∀ i, s ≤ i → i < k → p i = false) → p k = true →
    (List.range' s n).filter p = k :: (List.range' s n).filter (fun i => p i && i != k)
  | 0, s, h1, h2, _, _ => by omega
  | n + 1, s, h1, h2, h3, h4 => by
    rw [List.range'_succ]
    by_cases e : s = k
    · subst e
      rw [List.filter_cons_of_pos h4, List.filter_cons_of_neg (by simp)]
      congr 1
      refine List.filter_congr fun i hi => ?_
      have : s + 1 ≤ i := by have := List.mem_range'.1 hi; omega
      have : i ≠ s := by omega
      simp [this]
    · rw [List.filter_cons_of_neg (by simp [h3 s (Nat.le_refl _) (by omega)]), List.filter_cons_of_neg (by simp [h3 s (Nat.le_refl _) (by omega)])]
      exact filter_first p k n (s + 1) (by omega) (by omega) (fun i hi hk => h3 i (by omega) hk) h4
/-- The least bit: which one. -/
def lowM (m : Nat) : Nat := Lib.ctz 32 m
theorem lowM_spec {m : Nat} (h0 : m ≠ 0) (hm : m < 65536) : ∃ q, m = 2 ^ lowM m * (2 * q + 1) ∧ lowM m < 16 := by
  unfold lowM Lib.ctz
  rw [if_neg h0]
  obtain ⟨q, hq, hk⟩ := Lib.ctzFrom_spec 32 m (by omega) (by omega)
  generalize Lib.ctzFrom 32 m = k at hq hk
  refine ⟨q, hq, ?_⟩
  apply Nat.lt_of_not_le
  intro hle
  have h1 : 2 ^ 16 ≤ 2 ^ k := Nat.pow_le_pow_right (by decide) hle
  have h2 : 2 ^ k ≤ 2 ^ k * (2 * q + 1) := Nat.le_mul_of_pos_right _ (by omega)
  omega
theorem odd_testBit (k q i : Nat) : (2 ^ k * (2 * q + 1)).testBit i = (decide (i = k) || (decide (k < i) && q.testBit (i - k - 1))) := by
  rw [Nat.mul_comm, Nat.testBit_mul_two_pow]
  by_cases h : i = k
  · subst h; simp
  · by_cases h2 : k < i
    · have : i - k = (i - k - 1) + 1 := by omega
      rw [this, Nat.testBit_succ, show (2 * q + 1) / 2 = q by omega]
      simp [h, h2]
      omega
    · have : ¬ k ≤ i := by omega
      simp [h, h2, this]
theorem low_drop {m : Nat} (h0 : m ≠ 0) (hm : m < 65536) (i : Nat) : (m &&& (m - 1)).testBit i = (m.testBit i && i != lowM m) := by
  obtain ⟨q, hq, hk⟩ := lowM_spec h0 hm
  generalize lowM m = k at hq hk ⊢
  have e1 : m - 1 = 2 ^ k * (2 * q) + (2 ^ k - 1) := by
    have : 0 < 2 ^ k := Nat.two_pow_pos k
    rw [hq, Nat.mul_add, Nat.mul_one]
    omega
  have hlt : 2 ^ k - 1 < 2 ^ k := by have := Nat.two_pow_pos k; omega
  rw [Nat.testBit_and, e1, Nat.testBit_two_pow_mul_add _ hlt, hq, odd_testBit]
  by_cases h : i = k
  · subst h; simp
  · by_cases h2 : k < i
    · have h3 : ¬ i < k := by omega
      have : i - k = (i - k - 1) + 1 := by omega
      rw [if_neg h3, this, Nat.testBit_succ, show (2 * q) / 2 = q by omega]
      simp [h, h2]
    · simp [h, h2]
theorem low_testBit {m : Nat} (h0 : m ≠ 0) (hm : m < 65536) : m.testBit (lowM m) = true ∧ ∀ i, i < lowM m → m.testBit i = false := by
  obtain ⟨q, hq, hk⟩ := lowM_spec h0 hm
  generalize lowM m = k at hq hk ⊢
  rw [hq]
  refine ⟨by rw [odd_testBit]; simp, fun i hi => ?_⟩
  rw [odd_testBit]
  have : i ≠ k := by omega
  have h2 : ¬ k < i := by omega
  simp [this, h2]
theorem nibs_step {m : Nat} (h0 : m ≠ 0) (hm : m < 65536) : nibs m = lowM m :: nibs (m &&& (m - 1)) := by
  obtain ⟨h1, h2⟩ := low_testBit h0 hm
  obtain ⟨q, _, hk⟩ := lowM_spec h0 hm
  unfold nibs
  rw [List.range_eq_range', filter_first (fun i => m.testBit i) (lowM m) 16 0 (by omega) (by omega) (fun i _ hi => h2 i hi) h1]
  congr 1
  exact List.filter_congr fun i _ => (low_drop h0 hm i).symm
theorem low_lt {m : Nat} (h0 : m ≠ 0) (hm : m < 65536) : lowM m < 16 := by
  obtain ⟨q, _, h⟩ := lowM_spec h0 hm
  exact h
theorem low_less {m : Nat} (h0 : m ≠ 0) : m &&& (m - 1) < m := by
  have : m &&& (m - 1) ≤ m - 1 := Nat.and_le_right
  omega

theorem pow_lt16 {n : Nat} (h : n < 16) : 2 ^ n < 65536 := by
  have : 2 ^ n < 2 ^ 16 := Nat.pow_lt_pow_right (by decide) h
  exact this
theorem orN_lt {m : Nat} (hm : m < 65536) (n : Int) : orN m n < 65536 := by
  unfold orN
  split
  · exact or_lt16 _ _ hm (pow_lt16 (by omega))
  · exact hm
theorem foldl_orN_lt : ∀ (l : List Int) (m : Nat), m < 65536 → l.foldl orN m < 65536
  | [], _, h => h
  | n :: l, _, h => foldl_orN_lt l _ (orN_lt h n)
theorem ofM_lt (l : List Int) : ofM l < 65536 := foldl_orN_lt l 0 (by decide)
theorem testBit_orN (m : Nat) (n : Int) (i : Nat) (hi : i < 16) : (orN m n).testBit i = (m.testBit i || decide (n = i)) := by
  unfold orN
  split
  · next h =>
    rw [Nat.testBit_or, Nat.testBit_two_pow]
    congr 1
    exact decide_eq_decide.2 (by omega)
  · next h =>
    have : ¬ n = (i : Int) := by omega
    simp [this]
theorem testBit_foldl : ∀ (l : List Int) (m i : Nat), i < 16 → (l.foldl orN m).testBit i = (m.testBit i || decide ((i : Int) ∈ l))
  | [], m, i, _ => by simp
  | n :: l, m, i, hi => by
    rw [List.foldl_cons, testBit_foldl l _ i hi, testBit_orN m n i hi, Bool.or_assoc]
    congr 1
    rw [Bool.eq_iff_iff]
    simp
    constructor
    · rintro (h | h)
      · exact .inl h.symm
      · exact .inr h
    · rintro (h | h)
      · exact .inl h.symm
      · exact .inr h
theorem testBit_ofM (l : List Int) (i : Nat) (hi : i < 16) : (ofM l).testBit i = decide ((i : Int) ∈ l) := by
  unfold ofM
  rw [testBit_foldl l 0 i hi]
  simp
theorem ofM_one {n : Int} (h0 : 0 ≤ n) (h1 : n < 16) : ofM [n] = 2 ^ n.toNat := by
  simp [ofM, orN, h0, h1]
theorem ofM_none {n : Int} (h : ¬ (0 ≤ n ∧ n < 16)) : ofM [n] = 0 := by
  simp only [ofM, orN, List.foldl_cons, List.foldl_nil, if_neg h]
theorem hasM_nat (m n : Nat) (hn : n < 16) : hasM m (n : Int) = m.testBit n := by
  unfold hasM
  have h1 : (0 : Int) ≤ n := by omega
  have h2 : (n : Int) < 16 := by omega
  simp [h1, h2]
theorem hasM_no {m : Nat} {n : Int} (h : ¬ (0 ≤ n ∧ n < 16)) : hasM m n = false := by
  unfold hasM
  by_cases h1 : 0 ≤ n
  · have : ¬ n < 16 := by omega
    simp [this]
  · simp [h1]
/-- The program's way to ask. -/
theorem has_and (m : Nat) (n : Int) : (m &&& ofM [n] == 0) = !hasM m n := by
  by_cases h : 0 ≤ n ∧ n < 16
  · obtain ⟨k, rfl⟩ := Int.eq_ofNat_of_zero_le h.1
    have hk : k < 16 := by omega
    rw [ofM_one h.1 h.2, hasM_nat m k hk, Int.toNat_natCast]
    cases hb : m.testBit k with
    | true =>
      have : m &&& 2 ^ k ≠ 0 := fun e => by
        have := Nat.testBit_and m (2 ^ k) k
        rw [e, hb] at this
        simp at this
      simpa using this
    | false =>
      have : m &&& 2 ^ k = 0 := by
        apply Nat.eq_of_testBit_eq
        intro i
        rw [Nat.testBit_and, Nat.testBit_two_pow, Nat.zero_testBit]
        by_cases e : k = i
        · subst e; rw [hb]; rfl
        · simp [e]
      simp [this]
  · rw [ofM_none h, hasM_no h]
    simp
/-- Of a mask all those below a nibble. -/
theorem below_bits (m n : Nat) : nibs (m &&& (2 ^ n - 1)) = (nibs m).filter (fun i => decide (i < n)) := by
  unfold nibs
  rw [List.filter_filter]
  refine List.filter_congr fun i _ => ?_
  rw [Nat.testBit_and, Nat.testBit_two_pow_sub_one, Bool.and_comm]
theorem below_cnt (m : Nat) {n : Nat} (hn : n < 16) : cntM (m &&& (2 ^ n - 1)) = cntTo m n := by
  rw [cntM, below_bits m n]
  have key : ∀ d, n ≤ n + d → ((List.range (n + d)).filter fun i => decide (i < n) && m.testBit i) = (List.range n).filter fun i => m.testBit i := by
    intro d _
    induction d with
    | zero =>
      refine List.filter_congr fun i hi => ?_
      have : i < n := by simpa using hi
      simp [this]
    | succ d ih =>
      rw [← Nat.add_assoc, List.range_succ, List.filter_append, ih (by omega)]
      have : ¬ n + d < n := by omega
      simp [this]
  unfold nibs cntTo
  rw [List.filter_filter]
  have := key (16 - n) (by omega)
  rw [show n + (16 - n) = 16 by omega] at this
  rw [this]
/-- A branch that may be: two nibbles or more, those of the other masks among them. -/
def subM (s t : Nat) : Prop := ∀ i, i < 16 → t.testBit i = true → s.testBit i = true
theorem subM_iff (s t : Nat) (ht : t < 65536) : andN t s = 0 ↔ subM s t := by
  constructor
  · intro h i hi hb
    have := testBit_andN t s i
    rw [h, hb] at this
    simpa using this.symm
  · intro h
    refine eq_of_bits (andN_lt _ _ ht) (by decide) fun i hi => ?_
    rw [testBit_andN, Nat.zero_testBit]
    cases hb : t.testBit i with
    | false => rfl
    | true => rw [h i hi hb]; rfl
theorem subM_or (s t h : Nat) : subM s (t ||| h) ↔ subM s t ∧ subM s h := by
  unfold subM
  constructor
  · intro q
    exact ⟨fun i hi hb => q i hi (by rw [Nat.testBit_or, hb]; rfl), fun i hi hb => q i hi (by rw [Nat.testBit_or, hb]; simp)⟩
  · rintro ⟨q1, q2⟩ i hi hb
    rw [Nat.testBit_or, Bool.or_eq_true] at hb
    rcases hb with hb | hb
    · exact q1 i hi hb
    · exact q2 i hi hb
/-- With a nibble, or without. -/
def setM (m n : Nat) (is : Bool) : Nat := if is then m ||| 2 ^ n else andN m (2 ^ n)
theorem setM_lt {m n : Nat} (hm : m < 65536) (hn : n < 16) (is : Bool) : setM m n is < 65536 := by
  unfold setM
  split
  · exact or_lt16 _ _ hm (pow_lt16 hn)
  · exact andN_lt _ _ hm
theorem testBit_setM (m n : Nat) (is : Bool) (i : Nat) : (setM m n is).testBit i = if i = n then is else m.testBit i := by
  unfold setM
  cases is with
  | true =>
    simp only [if_true, Nat.testBit_or, Nat.testBit_two_pow]
    by_cases e : i = n
    · subst e; simp
    · have : n ≠ i := fun q => e q.symm
      simp [e, this]
  | false =>
    simp only [Bool.false_eq_true, if_false, testBit_andN, Nat.testBit_two_pow]
    by_cases e : i = n
    · subst e; simp
    · have : n ≠ i := fun q => e q.symm
      simp [e, this]
theorem add_bit {m n : Nat} (hb : m.testBit n = false) : m + 2 ^ n = m ||| 2 ^ n := by
  have h : m &&& 2 ^ n = 0 := by
    apply Nat.eq_of_testBit_eq
    intro i
    rw [Nat.testBit_and, Nat.testBit_two_pow, Nat.zero_testBit]
    by_cases e : n = i
    · subst e; rw [hb]; rfl
    · simp [e]
  obtain ⟨W, hW1, hW2⟩ : ∃ W, m + 2 ^ n < 2 ^ W ∧ m ||| 2 ^ n < 2 ^ W := by
    refine ⟨m + 2 ^ n + (m ||| 2 ^ n), ?_, ?_⟩
    · exact Nat.lt_of_le_of_lt (Nat.le_add_right _ _) Nat.lt_two_pow_self
    · exact Nat.lt_of_le_of_lt (Nat.le_add_left _ _) Nat.lt_two_pow_self
  generalize hP : 2 ^ n = P at hW1 hW2 h ⊢
  have h1 : m < 2 ^ W := by omega
  have h2 : P < 2 ^ W := by omega
  have := BitVec.add_eq_or_of_and_eq_zero (BitVec.ofNat W m) (BitVec.ofNat W P) (by
    apply BitVec.eq_of_toNat_eq
    rw [BitVec.toNat_and, BitVec.toNat_ofNat, BitVec.toNat_ofNat, Nat.mod_eq_of_lt h1, Nat.mod_eq_of_lt h2, h]
    rfl)
  have := congrArg BitVec.toNat this
  rw [BitVec.toNat_add, BitVec.toNat_or, BitVec.toNat_ofNat, BitVec.toNat_ofNat, Nat.mod_eq_of_lt h1, Nat.mod_eq_of_lt h2, Nat.mod_eq_of_lt hW1] at this
  exact this
theorem sub_bit {m n : Nat} (hb : m.testBit n = true) : m = andN m (2 ^ n) + 2 ^ n := by
  rw [add_bit (by rw [testBit_andN, Nat.testBit_two_pow]; simp)]
  apply Nat.eq_of_testBit_eq
  intro i
  rw [Nat.testBit_or, testBit_andN, Nat.testBit_two_pow]
  by_cases e : n = i
  · subst e; simp [hb]
  · simp [e]
/-- The document's way to set one. -/
theorem setM_has_not {m n : Nat} (hb : m.testBit n = true) : setM m n false = m - 2 ^ n ∧ 2 ^ n ≤ m := by
  have := sub_bit hb
  have e : setM m n false = andN m (2 ^ n) := rfl
  rw [e]
  omega
theorem setM_not_has {m n : Nat} (hb : m.testBit n = false) : setM m n true = m + 2 ^ n := (add_bit hb).symm
theorem setM_same {m n : Nat} (hm : m < 65536) (hn : n < 16) : setM m n (m.testBit n) = m := by
  refine eq_of_bits (setM_lt hm hn _) hm fun i hi => ?_
  rw [testBit_setM]
  by_cases e : i = n
  · subst e; simp
  · simp [e]
end Go.Proofs.YtbidoangdnmjfaaDoor
