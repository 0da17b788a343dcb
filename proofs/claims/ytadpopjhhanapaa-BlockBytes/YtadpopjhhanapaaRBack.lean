/-
  What was written is read again, and nothing else: on lists of bytes; nothing of the program.
-/
import Derived.Test.YtadpopjhhanapaaRowMem
namespace Go.Proofs.Ytadpopjhhanapaa
open Go Go.RowKit

theorem hd_short (b n : Nat) (h : n < 56) : hd b n = [UInt8.ofNat (b + n)] := by unfold hd; rw [if_pos h]
theorem hd_long (b n : Nat) (h : ¬ n < 56) : hd b n = UInt8.ofNat (b + 55 + (num n).length) :: num n := by unfold hd; rw [if_neg h]

theorem rd_short (c : UInt8) (q : List UInt8) (n : Nat) (h1 : 128 ≤ c.toNat) (h2 : (c.toNat - 128) % 64 = n) (h3 : n < 56) : rd (c :: q) = (1, n, true) := by
  unfold rd
  dsimp only
  rw [if_neg (by omega), h2, if_pos h3]
theorem rd_long (c : UInt8) (q : List UInt8) (L : Nat) (h1 : 128 ≤ c.toNat) (h2 : (c.toNat - 128) % 64 = 55 + L) (h3 : 1 ≤ L) (h4 : L ≤ q.length) :
    rd (c :: q) = (L + 1, uintV (q.take L), uintB (q.take L) && decide (56 ≤ uintV (q.take L))) := by
  unfold rd
  dsimp only
  rw [if_neg (by omega), h2, if_neg (by omega), show 55 + L - 55 = L by omega, if_neg (by omega), show 55 + L - 54 = L + 1 by omega]

theorem rd_hd (b n : Nat) (q : List UInt8) (hb : b = 128 ∨ b = 192) (hn : n < 18446744073709551616) : rd (hd b n ++ q) = ((hd b n).length, n, true) := by
  by_cases h : n < 56
  · rw [hd_short b n h]
    have hc : (UInt8.ofNat (b + n)).toNat = b + n := ofNat_toNat _ (by omega)
    exact rd_short _ _ n (by omega) (by omega) h
  · have hl := num_len n
    have hp := num_len_pos (n := n) (by omega)
    rw [hd_long b n h, List.cons_append]
    have hc : (UInt8.ofNat (b + 55 + (num n).length)).toNat = b + 55 + (num n).length := ofNat_toNat _ (by omega)
    rw [rd_long _ _ (num n).length (by omega) (by omega) hp (by simp), List.take_left]
    have hu := uint_num n hn
    rw [show uintV (num n) = n by unfold uintV; rw [hu]; rfl, show uintB (num n) = true by unfold uintB; rw [hu]; rfl, decide_eq_true (by omega)]
    rfl
theorem hd_head (b n : Nat) (q : List UInt8) (hb : b = 128 ∨ b = 192) : b ≤ ((hd b n ++ q).headD 0).toNat ∧ (b = 128 → ((hd b n ++ q).headD 0).toNat < 192) := by
  by_cases h : n < 56
  · rw [hd_short b n h]
    have hc : (UInt8.ofNat (b + n)).toNat = b + n := ofNat_toNat _ (by omega)
    simp only [List.singleton_append, List.headD_cons, hc]; omega
  · have hl := num_len n
    rw [hd_long b n h]
    have hc : (UInt8.ofNat (b + 55 + (num n).length)).toNat = b + 55 + (num n).length := ofNat_toNat _ (by omega)
    simp only [List.cons_append, List.headD_cons, hc]; omega
theorem hd_pos (b n : Nat) : 0 < (hd b n).length := by
  by_cases h : n < 56
  · rw [hd_short b n h]; simp
  · rw [hd_long b n h]; simp

theorem split_hd (b : Nat) (p r : List UInt8) (hb : b = 128 ∨ b = 192) (hp : p.length < 4611686018427387904) (hal : b = 128 → alone p = false) :
    split (hd b p.length ++ (p ++ r)) = some (p, decide (b = 192), r) := by
  have h1 := rd_hd b p.length (p ++ r) hb (by omega)
  have h2 := hd_head b p.length (p ++ r) hb
  have h3 := hd_pos b p.length
  unfold split
  rw [h1]
  dsimp only
  rw [if_neg (by simp), List.drop_left, List.take_left]
  rw [if_neg (by
    rintro ⟨_, h4, h5⟩
    rcases hb with rfl | rfl
    · rw [hal rfl] at h5; cases h5
    · omega)]
  have h6 : (hd b p.length ++ (p ++ r)).drop ((hd b p.length).length + p.length) = r := by
    rw [← List.drop_drop, List.drop_left, List.drop_left]
  rw [h6]
  congr 2
  congr 1
  rcases hb with rfl | rfl
  · rw [decide_eq_false (by have := h2.2 rfl; omega)]; rfl
  · rw [decide_eq_true (by omega)]; rfl
/-- What was written is split off again. -/
theorem split_list (p r : List UInt8) (hp : p.length < 4611686018427387904) : split (listL p ++ r) = some (p, true, r) := by
  unfold listL
  rw [List.append_assoc]
  exact split_hd 192 p r (.inr rfl) hp (fun h => by omega)
theorem split_bytes (p r : List UInt8) (hp : p.length < 4611686018427387904) : split (bytesL p ++ r) = some (p, false, r) := by
  unfold bytesL
  by_cases h : alone p = true
  · rw [if_pos h]
    match p, h with
    | [c], h =>
      have hc : c.toNat < 128 := by simpa [alone] using h
      have hr : rd (c :: r) = (0, 1, true) := by unfold rd; simp only [if_pos hc]
      show split (c :: r) = _
      unfold split
      rw [hr]
      dsimp only
      rw [if_neg (by simp), if_neg (by simp)]
      have hd0 : decide (192 ≤ ((c :: r).headD 0).toNat) = false := decide_eq_false (by simp; omega)
      rw [hd0]
      rfl
  · rw [if_neg h, List.append_assoc]
    exact split_hd 128 p r (.inl rfl) hp (fun _ => by simpa using h)

/-- What is split off is what was written. -/
theorem split_back {s p r : List UInt8} {b : Bool} (h : split s = some (p, b, r)) : s = (if b = true then listL p else bytesL p) ++ r := by
  unfold split at h
  by_cases h1 : (rd s).2.2 = false ∨ s.length < (rd s).1 + (rd s).2.1
  · rw [if_pos h1] at h; cases h
  rw [if_neg h1] at h
  by_cases h2 : 0 < (rd s).1 ∧ (s.headD 0).toNat < 192 ∧ alone ((s.drop (rd s).1).take (rd s).2.1) = true
  · rw [if_pos h2] at h; cases h
  rw [if_neg h2] at h
  simp only [Option.some.injEq, Prod.mk.injEq] at h
  obtain ⟨hp, hb, hr⟩ := h
  have hok : (rd s).2.2 = true := by
    cases q : (rd s).2.2 with
    | true => rfl
    | false => exact absurd (.inl q) h1
  have hlen : (rd s).1 + (rd s).2.1 ≤ s.length := by
    rcases Nat.lt_or_ge s.length ((rd s).1 + (rd s).2.1) with q | q
    · exact absurd (.inr q) h1
    · exact q
  have hpl : p.length = (rd s).2.1 := by rw [← hp, List.length_take, List.length_drop]; omega
  have hcut : s = s.take (rd s).1 ++ (p ++ r) := by
    rw [← hp, ← hr, ← List.drop_drop, List.take_append_drop, List.take_append_drop]
  cases s with
  | nil => cases hok
  | cons c q =>
    simp only [List.headD_cons] at h2 hb
    have hlt := c.toNat_lt
    by_cases hc : c.toNat < 128
    · have hrd : rd (c :: q) = (0, 1, true) := by unfold rd; simp only [if_pos hc]
      rw [hrd] at hp hr
      have hb2 : b = false := by rw [← hb]; exact decide_eq_false (by omega)
      have hp2 : p = [c] := by rw [← hp]; rfl
      have hr2 : r = q := by rw [← hr]; rfl
      have hal : alone [c] = true := by simp [alone, hc]
      rw [hb2, hp2, hr2, if_neg (by simp), bytesL, if_pos hal]; rfl
    · by_cases hk : (c.toNat - 128) % 64 < 56
      · have hrd := rd_short c q _ (by omega) rfl hk
        rw [hrd] at hcut hpl h2 hp
        dsimp only at hcut hpl h2 hp
        rw [hp] at h2
        rw [hcut]
        by_cases hL : c.toNat < 192
        · have hb2 : b = false := by rw [← hb]; exact decide_eq_false (by omega)
          have hal : alone p = false := by
            cases q2 : alone p with
            | false => rfl
            | true => exact absurd ⟨by omega, hL, q2⟩ h2
          rw [hb2, if_neg (by simp), bytesL, hal, if_neg (by simp), hpl, hd_short 128 _ hk, show 128 + (c.toNat - 128) % 64 = c.toNat by omega]
          simp
        · have hb2 : b = true := by rw [← hb]; exact decide_eq_true (by omega)
          rw [hb2, if_pos rfl, listL, hpl, hd_short 192 _ hk, show 192 + (c.toNat - 128) % 64 = c.toNat by omega]
          simp
      · obtain ⟨L, hLk⟩ : ∃ L, (c.toNat - 128) % 64 = 55 + L := ⟨(c.toNat - 128) % 64 - 55, by omega⟩
        by_cases hq : L ≤ q.length
        · have hrd := rd_long c q L (by omega) hLk (by omega) hq
          rw [hrd] at hcut hpl h2 hp hok
          dsimp only at hcut hpl h2 hp hok
          rw [hp] at h2
          simp only [Bool.and_eq_true, decide_eq_true_eq] at hok
          obtain ⟨v, hv⟩ := Option.isSome_iff_exists.1 (show (uint (q.take L)).isSome = true from hok.1)
          have hvv : uintV (q.take L) = v := by unfold uintV; rw [hv]; rfl
          rw [hvv] at hok hpl
          have hnum := num_uint hv
          have hnl : (num v).length = L := by rw [hnum, List.length_take]; omega
          rw [hcut, List.take_succ_cons, ← hnum]
          by_cases hL : c.toNat < 192
          · have hb2 : b = false := by rw [← hb]; exact decide_eq_false (by omega)
            have hal : alone p = false := by
              cases q2 : alone p with
              | false => rfl
              | true => exact absurd ⟨by omega, hL, q2⟩ h2
            rw [hb2, if_neg (by simp), bytesL, hal, if_neg (by simp), hpl, hd_long 128 v (by omega), hnl, show 128 + 55 + L = c.toNat by omega]
            simp
          · have hb2 : b = true := by rw [← hb]; exact decide_eq_true (by omega)
            rw [hb2, if_pos rfl, listL, hpl, hd_long 192 v (by omega), hnl, show 192 + 55 + L = c.toNat by omega]
            simp
        · exfalso
          have hrd : rd (c :: q) = (0, 0, false) := by
            unfold rd
            dsimp only
            rw [if_neg hc, hLk, if_neg (by omega), if_pos (by omega)]
          rw [hrd] at hok
          cases hok
/-- What is written and cut short is none. -/
theorem split_cut {t p : List UInt8} (h : split t = some (p, true, [])) (ht : t.length < 4611686018427387904) (k : Nat) (hk : k < t.length) : split (t.take k) = none := by
  cases hs : split (t.take k) with
  | none => rfl
  | some q =>
    exfalso
    obtain ⟨p2, b2, r2⟩ := q
    have h1 := split_back hs
    have hl := split_len hs
    obtain ⟨D, hD⟩ : ∃ D, D = t.drop k := ⟨_, rfl⟩
    have hDl : 0 < D.length := by rw [hD, List.length_drop]; omega
    have h2 : t = (if b2 = true then listL p2 else bytesL p2) ++ (r2 ++ D) := by
      rw [← List.append_assoc, ← h1, hD, List.take_append_drop]
    have hp2 : p2.length < 4611686018427387904 := by have := hl.1; rw [List.length_take] at this; omega
    have h3 : split t = some (p2, b2, r2 ++ D) := by
      clear hs h1 hl h hD
      subst h2
      cases b2 with
      | true => exact split_list p2 _ hp2
      | false => exact split_bytes p2 _ hp2
    rw [h] at h3
    simp only [Option.some.injEq, Prod.mk.injEq] at h3
    have h4 := congrArg List.length h3.2.2
    simp at h4
    omega
end Go.Proofs.Ytadpopjhhanapaa
