/-
  Numbers of however many bytes, by lists: trimmed, widened, held against each other, added, taken away; nothing of the program.
-/
import Derived.Test.YtadpopjhhanapaaRPure
namespace Go.Proofs.Ytadpopjhhanapaa
open Go Go.RowKit

/-- Without the bytes 0 at the beginning. -/
def trimL : List UInt8 → List UInt8
  | [] => []
  | c :: l => if c = 0 then trimL l else c :: l
theorem trimL_val : ∀ l, val (trimL l) = val l
  | [] => rfl
  | c :: l => by
    unfold trimL
    split
    · next h => subst h; rw [trimL_val l, val_cons]; simp
    · rfl
theorem trimL_head : ∀ l, (trimL l).head? ≠ some 0
  | [] => by simp [trimL]
  | c :: l => by
    unfold trimL
    split
    · exact trimL_head l
    · next h => simpa using h
theorem trimL_len : ∀ l, (trimL l).length ≤ l.length
  | [] => Nat.le_refl _
  | c :: l => by
    unfold trimL
    split
    · have := trimL_len l; simp; omega
    · exact Nat.le_refl _
theorem trimL_of : ∀ l : List UInt8, l.head? ≠ some 0 → trimL l = l
  | [], _ => rfl
  | c :: l, h => by
    unfold trimL
    rw [if_neg (by simpa using h)]
theorem trimL_idem (l : List UInt8) : trimL (trimL l) = trimL l := trimL_of _ (trimL_head l)
theorem trimL_drop : ∀ (l : List UInt8) (k : Nat), (∀ j (h : j < l.length), j < k → l[j] = 0) → trimL (l.drop k) = trimL l
  | l, 0, _ => rfl
  | [], k + 1, _ => rfl
  | c :: l, k + 1, h => by
    have h0 : c = 0 := h 0 (by simp) (by omega)
    rw [List.drop_succ_cons, trimL_drop l k (fun j hj hk => h (j + 1) (by simpa using hj) (by omega))]
    subst h0
    conv => rhs; unfold trimL
    rw [if_pos rfl]
/-- A number: at most 32 bytes, the first of them not 0. -/
def rightN (l : List UInt8) : Bool := decide (l.length ≤ 32) && decide (trimL l = l)
theorem rightN_iff (l : List UInt8) : rightN l = true ↔ l.length ≤ 32 ∧ trimL l = l := by unfold rightN; simp
/-- The one form of a number below 256 ^ k. -/
theorem canon_eq {a : List UInt8} {k n : Nat} (ha : a.head? ≠ some 0) (hn : n < 256 ^ k) (h : val a = n) : a = numF k n :=
  val_inj a _ ha (numF_head k n hn) (by rw [h, val_numF k n hn])
theorem trimL_num (l : List UInt8) (k : Nat) (h : val l < 256 ^ k) : trimL l = numF k (val l) := canon_eq (trimL_head l) h (trimL_val l)
theorem val_zeros (k : Nat) (l : List UInt8) : val (List.replicate k 0 ++ l) = val l := by
  induction k with
  | zero => rfl
  | succ k ih => rw [List.replicate_succ, List.cons_append, val_cons, ih]; simp
/-- Made so wide. -/
def wideL (l : List UInt8) : List UInt8 := List.replicate (32 - (trimL l).length) 0 ++ trimL l
theorem wideL_val (l : List UInt8) : val (wideL l) = val l := by rw [wideL, val_zeros, trimL_val]
theorem wideL_len (l : List UInt8) (h : (trimL l).length ≤ 32) : (wideL l).length = 32 := by rw [wideL, List.length_append, List.length_replicate]; omega
theorem wideL_trim (l : List UInt8) : trimL (wideL l) = trimL l := by
  refine val_inj _ _ (trimL_head _) (trimL_head _) ?_
  rw [trimL_val, trimL_val, wideL_val]

/-- Fewer bytes: a lesser number, if the greater one's first byte is not 0. -/
theorem val_shorter (a b : List UInt8) (hb : b.head? ≠ some 0) (h : a.length < b.length) : val a < val b := by
  have h1 := val_lt a
  have h2 := val_pos b (by intro e; subst e; simp at h) hb
  exact Nat.lt_of_lt_of_le h1 (Nat.le_trans (Nat.pow_le_pow_right (by omega) (by omega)) h2)
/-- Of as many bytes, the first that differ decide. -/
theorem val_lex (p a b : List UInt8) (c d : UInt8) (hl : a.length = b.length) (h : c.toNat < d.toNat) : val (p ++ c :: a) < val (p ++ d :: b) := by
  induction p with
  | nil =>
    rw [List.nil_append, List.nil_append, val_cons, val_cons, hl]
    have h1 := val_lt a
    rw [hl] at h1
    have h2 : (c.toNat + 1) * 256 ^ b.length ≤ d.toNat * 256 ^ b.length := Nat.mul_le_mul_right _ h
    rw [Nat.add_mul, Nat.one_mul] at h2
    omega
  | cons e p ih =>
    rw [List.cons_append, List.cons_append, val_cons, val_cons, List.length_append, List.length_append, List.length_cons, List.length_cons, hl]
    omega
/-- Less, as texts of one length: less, as numbers. -/
theorem bytesLess_val : ∀ a b : List UInt8, a.length = b.length → Op.bytesLess a b = decide (val a < val b)
  | [], [], _ => rfl
  | [], _ :: _, h => by simp at h
  | _ :: _, [], h => by simp at h
  | c :: a, d :: b, h => by
    have hl : a.length = b.length := by simpa using h
    have ih := bytesLess_val a b hl
    show (decide (c < d) || (c == d && Op.bytesLess a b)) = _
    rw [ih]
    by_cases e : c = d
    · subst e
      rw [val_cons, val_cons, hl]
      simp [UInt8.lt_irrefl]
    · have hne : ¬ c.toNat = d.toNat := fun q => e (UInt8.toNat_inj.1 q)
      have hbeq : (c == d) = false := by simpa using e
      rw [hbeq, Bool.false_and, Bool.or_false]
      by_cases q : c.toNat < d.toNat
      · have h1 := val_lex [] a b c d hl q
        rw [List.nil_append, List.nil_append] at h1
        rw [decide_eq_true h1, decide_eq_true (UInt8.lt_iff_toNat_lt.2 q)]
      · have h1 := val_lex [] b a d c hl.symm (by omega)
        rw [List.nil_append, List.nil_append] at h1
        have d1 : decide (c < d) = false := decide_eq_false (fun z => q (UInt8.lt_iff_toNat_lt.1 z))
        have d2 : decide (val (c :: a) < val (d :: b)) = false := decide_eq_false (by omega)
        rw [d1, d2]
/-- -1, 0 or 1. -/
def cmpN (a b : Nat) : Int := if a < b then -1 else if b < a then 1 else 0

/-- Added from the end on: what has come of the last bytes, and the carry. -/
theorem add_step (a b : List UInt8) (x y : UInt8) (o : List UInt8) (carry k : Nat) (ha : a.length = k) (hb : b.length = k) (ho : o.length = k) (h : val o + carry * 256 ^ k = val a + val b) (hc : carry ≤ 1) :
    val (UInt8.ofNat ((x.toNat + y.toNat + carry) % 256) :: o) + ((x.toNat + y.toNat + carry) / 256) * 256 ^ (k + 1) = val (x :: a) + val (y :: b) ∧ (x.toNat + y.toNat + carry) / 256 ≤ 1 := by
  have hx := x.toNat_lt
  have hy := y.toNat_lt
  refine ⟨?_, by omega⟩
  rw [val_cons, val_cons, val_cons, ha, hb, ho, ofNat_toNat _ (Nat.mod_lt _ (by omega)), Nat.pow_succ]
  have h1 : (x.toNat + y.toNat + carry) = 256 * ((x.toNat + y.toNat + carry) / 256) + (x.toNat + y.toNat + carry) % 256 := (Nat.div_add_mod _ _).symm
  generalize (x.toNat + y.toNat + carry) / 256 = q at h1 ⊢
  generalize (x.toNat + y.toNat + carry) % 256 = r at h1 ⊢
  have h2 : x.toNat * 256 ^ k + y.toNat * 256 ^ k + carry * 256 ^ k = 256 * q * 256 ^ k + r * 256 ^ k := by
    rw [← Nat.add_mul, ← Nat.add_mul, h1, Nat.add_mul]
  have h3 : q * (256 ^ k * 256) = 256 * q * 256 ^ k := by rw [Nat.mul_comm (256 ^ k) 256, ← Nat.mul_assoc, Nat.mul_comm q 256]
  rw [h3]
  omega
/-- Taken away from the end on: what has come of the last bytes, and what was borrowed. -/
theorem sub_step (a b : List UInt8) (x y : UInt8) (o : List UInt8) (borrow k : Nat) (ha : a.length = k) (hb : b.length = k) (ho : o.length = k) (h : val o + val b = val a + borrow * 256 ^ k) (hc : borrow ≤ 1) :
    (y.toNat + borrow ≤ x.toNat → val (UInt8.ofNat (x.toNat - y.toNat - borrow) :: o) + val (y :: b) = val (x :: a) + 0 * 256 ^ (k + 1)) ∧
    (x.toNat < y.toNat + borrow → val (UInt8.ofNat (x.toNat + 256 - y.toNat - borrow) :: o) + val (y :: b) = val (x :: a) + 1 * 256 ^ (k + 1)) := by
  have hx := x.toNat_lt
  have hy := y.toNat_lt
  refine ⟨fun q => ?_, fun q => ?_⟩
  · rw [val_cons, val_cons, val_cons, ha, hb, ho, ofNat_toNat _ (by omega)]
    have h2 : (x.toNat - y.toNat - borrow) * 256 ^ k + y.toNat * 256 ^ k + borrow * 256 ^ k = x.toNat * 256 ^ k := by
      rw [← Nat.add_mul, ← Nat.add_mul]; congr 1; omega
    omega
  · rw [val_cons, val_cons, val_cons, ha, hb, ho, ofNat_toNat _ (by omega), Nat.pow_succ]
    have h2 : (x.toNat + 256 - y.toNat - borrow) * 256 ^ k + y.toNat * 256 ^ k + borrow * 256 ^ k = x.toNat * 256 ^ k + 256 * 256 ^ k := by
      rw [← Nat.add_mul, ← Nat.add_mul, ← Nat.add_mul]; congr 1; omega
    have h3 : 1 * (256 ^ k * 256) = 256 * 256 ^ k := by omega
    rw [h3]
    omega
end Go.Proofs.Ytadpopjhhanapaa
