/-
  What the calls of Number do.
-/
import Derived.Test.YtadpopjhhanapaaUintW
import Derived.Deep.OwnRows
import Derived.Lib.BitFns
import Derived.Laws.IdiomStrings
namespace Go.Proofs.Ytadpopjhhanapaa
open Go Go.RowKit

theorem add_plain (b o j : Nat) : (⟨b, o, none⟩ : Addr).add j = ⟨b, o + j, none⟩ := by unfold Addr.add; split <;> simp_all

theorem bitLen_pos (n : Nat) (h : n ≠ 0) : 1 ≤ Lib.bitLen n := by
  show 1 ≤ Lib.bitLenAux 64 n
  rw [Lib.bitLenAux, if_neg h]; omega
theorem numF_length (k : Nat) : ∀ n, n < 256 ^ k → k ≤ 8 → (numF k n).length = (Lib.bitLen n + 7) / 8 := by
  induction k with
  | zero => intro n h _; have : n = 0 := by simpa using h
            subst this; rfl
  | succ k ih =>
    intro n h hk
    unfold numF
    split
    · next h0 => subst h0; rfl
    · next h0 =>
      have hlt : n / 256 < 256 ^ k := by rw [Nat.pow_succ] at h; exact Nat.div_lt_of_lt_mul (by omega)
      have h64 : n < 18446744073709551616 := Nat.lt_of_lt_of_le h (Nat.le_trans (Nat.pow_le_pow_right (by omega) hk) (by decide))
      rw [List.length_append, ih _ hlt (by omega)]
      by_cases q : 256 ≤ n
      · rw [Lib.bitLen_shift8 n q h64]
        simp only [List.length_singleton]
        omega
      · have h1 := bitLen_pos n h0
        have h2 := Lib.bitLen_le n 8 (by omega) (by omega)
        have h3 : n / 256 = 0 := by omega
        rw [h3, show Lib.bitLen 0 = 0 from rfl]
        simp only [List.length_singleton]
        omega
theorem num_length (n : Nat) (h : n < 18446744073709551616) : (num n).length = (Lib.bitLen n + 7) / 8 := numF_length 8 n h (by omega)
theorem numF_rev (k : Nat) : ∀ n i, i < (numF k n).length → (numF k n).reverse[i]? = some (UInt8.ofNat (n / 256 ^ i % 256)) := by
  induction k with
  | zero => intro n i h; simp [numF] at h
  | succ k ih =>
    intro n i h
    unfold numF at h ⊢
    split
    · next h0 => rw [if_pos h0] at h; simp at h
    · next h0 =>
      rw [if_neg h0] at h
      simp only [List.reverse_append, List.reverse_cons, List.reverse_nil, List.nil_append, List.singleton_append]
      cases i with
      | zero => simp
      | succ i =>
        rw [List.getElem?_cons_succ, ih (n / 256) i (by simpa using h), Nat.div_div_eq_div_mul, Nat.pow_succ, Nat.mul_comm]
theorem num_at (n i : Nat) (h : i < (num n).length) : (num n)[(num n).length - 1 - i]? = some (UInt8.ofNat (n / 256 ^ i % 256)) := by
  rw [← List.getElem?_reverse h]; exact numF_rev 8 n i h

theorem info5 : (Try.prog.info? 5).map (fun i => (i.zero, i.size, i.bytes)) = some (some (.int .u8 0), 1, 1) := by kernel_rfl
theorem underBytes : Try.prog.underlying 86 = some (.slice 5) := by kernel_rfl

def byteV (n : Nat) (i : Nat) : Value := .int .u8 ((n / 256 ^ i % 256 : Nat) : Int)

theorem shr_byte (n i : Nat) : Value.int .u8 ((n : Int) / 2 ^ (8 * i) % 256) = byteV n i := by
  unfold byteV
  congr 1
  rw [show (2 : Int) ^ (8 * i) = ((256 ^ i : Nat) : Int) by rw [Int.pow_mul, Int.natCast_pow]; rfl, ← Int.natCast_ediv]
  omega
theorem convert_row {w : World} {b cap : Nat} {l : List UInt8} (h : w.rowIs b 5 l.length (fun j => .int .u8 ((l.getD j 0).toNat : Int))) :
    (convert 86 9 (.slice (some ⟨b, 0, none⟩) l.length cap)).run Try.prog w = .ok (.string ⟨l.toArray⟩) w :=
  run_convert_bytes_back w 86 9 5 ⟨b, 0, none⟩ cap l underBytes (by kernel_rfl) (by kernel_rfl) (fun j hj => by
    have := h.cell hj
    rw [add_plain, Nat.zero_add, this, List.getD_eq_getElem?_getD, List.getElem?_eq_getElem hj]
    rfl)

set_option maxRecDepth 4000 in
theorem number_any (n : Nat) (w : World) (hn : n < 18446744073709551616) :
    Calls Try.prog 37 #[.int .u64 n] w fun e w' => e = .returned (.string ⟨(num n).toArray⟩) ∧ Below w.heap.size w w' := by
  obtain ⟨k, hk⟩ : ∃ k, (num n).length = k := ⟨_, rfl⟩
  have hk8 : k ≤ 8 := hk ▸ num_len n
  have hbl := num_length n hn
  rw [hk] at hbl
  have hmk := run_make_row' (P := Try.prog) 86 5 (.int .u8 0) 1 underBytes info5 rfl .i64 .i64 k (by omega) (by omega)
  have hb64 := Lib.bitLen_le n 64 (by omega) hn
  obtain ⟨L, hL⟩ : ∃ L, L = Lib.bitLen n := ⟨_, rfl⟩
  rw [← hL] at hbl hb64
  have hq : ((L : Int) + 7) / 8 = (k : Int) := by omega
  have hn1 : (n : Int) < 18446744073709551616 := by omega
  have hn0 : (0 : Int) ≤ n := by omega
  have HL : Hid (L = Lib.bitLen n) := hL
  have HK : Hid ((num n).length = k) := hk
  clear hL hk hbl
  go_enter Try.func37, Try.ntmps37
  go_wp2_with (first
    | (go_at_call 60; refine (Try.bits_Len64 _ _ hn0 (by omega)).mono ?_; rintro e w1 ⟨rfl, rfl⟩; rw [show ((n : Int).toNat) = n by omega, ← HL.out])
    | fail)
  obtain ⟨b, hb⟩ : ∃ b, b = w1.heap.size := ⟨_, rfl⟩
  rw [← hb]
  have HB : Hid (b = w1.heap.size) := hb
  clear hb hmk hq
  go_loopw [12] (fun y wr => ∃ i : Nat, i ≤ k ∧ y = .int .i64 i ∧ Below w1.heap.size w1 wr ∧ wr.rowIs b 5 k (fun j => if k - 1 - j < i then byteV n (k - 1 - j) else .int .u8 0)) (fun y _ => k - (intOf y).toNat)
  case atStart => exact ⟨0, by omega, rfl, (Below.refl _ _).alloc (Nat.le_refl _) _, by rw [HB.out]; exact (World.rowIs_made w1 _ k _).congr fun i hi => by simp⟩
  case round =>
    obtain ⟨i, hi, rfl, hB, hr⟩ := hrel
    by_cases hlt : i < k
    · have hii : (i : Int) < k := by omega
      have hi0 : (0 : Int) ≤ i := by omega
      obtain ⟨m, hm⟩ : ∃ m, m = k - 1 - i := ⟨_, rfl⟩
      have hc := hr.cell (i := m) (by omega)
      have hmi : (k : Int) - 1 - i = (m : Int) := by omega
      have hmk : (m : Int) < k := by omega
      have hnt : ¬ k - 1 - m < i := by omega
      rw [if_neg hnt] at hc
      have HM : Hid (m = k - 1 - i) := hm
      clear hm hnt
      have hf := hr.frozen
      have HR : Hid (wr.rowIs b 5 k (fun j => if k - 1 - j < i then byteV n (k - 1 - j) else .int .u8 0)) := hr
      clear hr
      go_wp2_with fail
      go_roundw
      case rel =>
        refine ⟨i + 1, by omega, rfl, hB.setCell (by have := HB.out; show _ ≤ b; omega) _, ?_⟩
        rw [shr_byte]
        refine (HR.out.set m (byteV n i)).congr fun j hj => ?_
        have hm := HM.out
        by_cases e : j = m
        · subst e
          rw [if_pos rfl, if_pos (by omega), show k - 1 - j = i by omega]
        · rw [if_neg e]
          by_cases q : k - 1 - j < i
          · rw [if_pos q, if_pos (by omega)]
          · rw [if_neg q, if_neg (by omega)]
      case measure => simp [intOf]; omega
    · have hii : ¬ (i : Int) < k := by omega
      have hik : i = k := by omega
      have hcv := convert_row (l := num n) (cap := k) (w := wr) (b := b) (by
        rw [HK.out]
        refine hr.congr fun j hj => ?_
        rw [if_pos (by omega)]
        have h1 := num_at n (k - 1 - j) (by rw [HK.out]; omega)
        rw [HK.out, show k - 1 - (k - 1 - j) = j by omega] at h1
        have h2 : (num n).getD j 0 = UInt8.ofNat (n / 256 ^ (k - 1 - j) % 256) := by rw [List.getD_eq_getElem?_getD, h1]; rfl
        rw [h2, ofNat_toNat _ (Nat.mod_lt _ (by omega))]
        rfl)
      rw [HK.out] at hcv
      obtain ⟨S, hS⟩ : ∃ S, S = num n := ⟨_, rfl⟩
      rw [← hS] at hcv
      have HS : Hid (S = num n) := hS
      clear hr hS
      go_wp2_with fail
      go_ret
      exact ⟨by rw [HS.out]; rfl, hB⟩
end Go.Proofs.Ytadpopjhhanapaa
