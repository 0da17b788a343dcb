/-
  What the calls of head, standsAlone, Bytes and List do, and the document's.
-/
import Derived.Test.YtadpopjhhanapaaRefNumW
namespace Go.Proofs.Ytadpopjhhanapaa
open Go Go.RowKit

/-- What stands ahead of n bytes. -/
def hd (b n : Nat) : List UInt8 := if n < 56 then [UInt8.ofNat (b + n)] else UInt8.ofNat (b + 55 + (num n).length) :: num n
def alone (l : List UInt8) : Bool := match l with
  | [c] => decide (c.toNat < 128)
  | _ => false
def bytesL (l : List UInt8) : List UInt8 := if alone l then l else hd 128 l.length ++ l
def listL (l : List UInt8) : List UInt8 := hd 192 l.length ++ l

theorem convert_at (w : World) (v : Int) (c : UInt8) (h : v = (c.toNat : Int)) : (convert 86 9 (.slice (some ⟨w.heap.size, 0, none⟩) 1 1)).run Try.prog (w.alloc (.cells #[.int .u8 v] 5)) = .ok (.string ⟨#[c]⟩) (w.alloc (.cells #[.int .u8 v] 5)) := by
  subst h; exact convert_one w c

theorem stands_any (x : ByteArray) (w : World) (_ : x.size ≤ 9223372036854775807) :
    Calls Try.prog 66 #[.string x] w fun e w' => e = .returned (.bool (alone x.data.toList)) ∧ w' = w := by
  by_cases h1 : x.size = 1
  · have h1i : (x.size : Int) = 1 := by omega
    have hp : 0 < x.size := by omega
    have hal : alone x.data.toList = decide ((x[0]).toNat < 128) := by
      rw [getB x 0 hp]
      obtain ⟨c, hc⟩ : ∃ c, x.data.toList = [c] := List.length_eq_one_iff.1 (by rw [sizeB]; exact h1)
      simp [hc, alone]
    have hlt := (x[0]).toNat_lt
    go_enter Try.func66, Try.ntmps66
    go_wp2_with fail
    go_ret
    refine ⟨?_, rfl⟩
    rw [hal]
    simp
    omega
  · have h1i : ¬ (x.size : Int) = 1 := by omega
    have hal : alone x.data.toList = false := by
      have h2 := sizeB x
      cases hl : x.data.toList with
      | nil => rfl
      | cons c l => cases l with
        | nil => rw [hl] at h2; exact absurd h2.symm h1
        | cons d l => rfl
    go_enter Try.func66, Try.ntmps66
    go_wp2_with fail
    go_ret
    exact ⟨by rw [hal]; rfl, rfl⟩

set_option maxRecDepth 4000 in
theorem head_any (b n : Nat) (w : World) (hb : b = 128 ∨ b = 192) (hn : n < 4611686018427387904) :
    Calls Try.prog 57 #[.int .u8 b, .int .i64 n] w fun e w' => e = .returned (.string ⟨(hd b n).toArray⟩) ∧ Below w.heap.size w w' := by
  have hbi : (b : Int) = 128 ∨ (b : Int) = 192 := by omega
  by_cases h : n < 56
  · have hi : (n : Int) < 56 := by omega
    obtain ⟨c, hc⟩ : ∃ c, c = UInt8.ofNat (b + n) := ⟨_, rfl⟩
    have hcv := fun w => convert_at w ((b : Int) + n) c (by rw [hc, ofNat_toNat _ (by omega)]; omega)
    have hh : hd b n = [c] := by unfold hd; rw [if_pos h, hc]
    clear hc
    go_enter Try.func57, Try.ntmps57
    go_wp2_with fail
    go_ret
    exact ⟨by rw [hh]; rfl, (Below.refl _ _).alloc (Nat.le_refl _) _⟩
  · have hi : ¬ (n : Int) < 56 := by omega
    have hl := num_len n
    obtain ⟨N, hN⟩ : ∃ N, N = num n := ⟨_, rfl⟩
    rw [← hN] at hl
    have hsz : (⟨N.toArray⟩ : ByteArray).size = N.length := rfl
    have HN : Hid (N = num n) := hN
    obtain ⟨c, hc⟩ : ∃ c, c = UInt8.ofNat (b + 55 + N.length) := ⟨_, rfl⟩
    have hcv := fun w => convert_at w ((b : Int) + 56 - 1 + N.length) c (by rw [hc, ofNat_toNat _ (by omega)]; omega)
    have hh : hd b n = c :: N := by unfold hd; rw [if_neg h, hc, hN]
    have hap : (⟨#[c]⟩ : ByteArray) ++ ⟨N.toArray⟩ = ⟨(c :: N).toArray⟩ := ByteArray.mk_append_mk [c] N
    have HH : Hid (hd b n = c :: N) := hh
    clear hN hc hh
    go_enter Try.func57, Try.ntmps57
    go_wp2_with (first
      | (go_at_call 37; refine (number_any n _ (by omega)).mono ?_; rintro e w1 ⟨rfl, hB1⟩; rw [← HN.out])
      | fail)
    go_ret
    exact ⟨by rw [HH.out]; rfl, hB1.alloc hB1.size _⟩

set_option maxRecDepth 4000 in
theorem refHead_any (b n : Nat) (w : World) (hb : b = 128 ∨ b = 192) (hn : n < 4611686018427387904) :
    Calls Try.prog 64 #[.int .i64 b, .int .i64 n] w fun e w' => e = .returned (.string ⟨(hd b n).toArray⟩) ∧ Below w.heap.size w w' := by
  have hbi : (b : Int) = 128 ∨ (b : Int) = 192 := by omega
  by_cases h : n < 56
  · have hi : (n : Int) < 56 := by omega
    obtain ⟨c, hc⟩ : ∃ c, c = UInt8.ofNat (b + n) := ⟨_, rfl⟩
    have hcv := fun w => convert_at w ((b : Int) + n) c (by rw [hc, ofNat_toNat _ (by omega)]; omega)
    have hh : hd b n = [c] := by unfold hd; rw [if_pos h, hc]
    clear hc
    go_enter Try.func64, Try.ntmps64
    go_wp2_with fail
    go_ret
    exact ⟨by rw [hh]; rfl, (Below.refl _ _).alloc (Nat.le_refl _) _⟩
  · have hi : ¬ (n : Int) < 56 := by omega
    have hl := num_len n
    obtain ⟨N, hN⟩ : ∃ N, N = num n := ⟨_, rfl⟩
    rw [← hN] at hl
    have hsz : (⟨N.toArray⟩ : ByteArray).size = N.length := rfl
    have HN : Hid (N = num n) := hN
    obtain ⟨c, hc⟩ : ∃ c, c = UInt8.ofNat (b + 55 + N.length) := ⟨_, rfl⟩
    have hcv := fun w => convert_at w ((b : Int) + 55 + N.length) c (by rw [hc, ofNat_toNat _ (by omega)]; omega)
    have hh : hd b n = c :: N := by unfold hd; rw [if_neg h, hc, hN]
    have hap : (⟨#[c]⟩ : ByteArray) ++ ⟨N.toArray⟩ = ⟨(c :: N).toArray⟩ := ByteArray.mk_append_mk [c] N
    have HH : Hid (hd b n = c :: N) := hh
    clear hN hc hh
    go_enter Try.func64, Try.ntmps64
    go_wp2_with (first
      | (go_at_call 41; refine (refNumber_any n _ (by omega)).mono ?_; rintro e w1 ⟨rfl, hB1⟩; rw [← HN.out])
      | fail)
    go_ret
    exact ⟨by rw [HH.out]; rfl, hB1.alloc hB1.size _⟩

theorem hd_len (b n : Nat) : (hd b n).length ≤ 9 := by
  unfold hd
  split
  · simp
  · have := num_len n; simp; omega
theorem strApp (x : ByteArray) (l : List UInt8) : (⟨l.toArray⟩ : ByteArray) ++ x = ⟨(l ++ x.data.toList).toArray⟩ := by
  have := ByteArray.mk_append_mk l x.data.toList
  rw [show (⟨x.data.toList.toArray⟩ : ByteArray) = x by simp] at this
  exact this

set_option maxRecDepth 4000 in
theorem bytes_any (x : ByteArray) (w : World) (hx : x.size < 4611686018427387904) :
    Calls Try.prog 59 #[.string x] w fun e w' => e = .returned (.string ⟨(bytesL x.data.toList).toArray⟩) ∧ Below w.heap.size w w' := by
  by_cases hal : alone x.data.toList = true
  · have hr : bytesL x.data.toList = x.data.toList := by unfold bytesL; rw [if_pos hal]
    go_enter Try.func59, Try.ntmps59
    go_wp2_with (first
      | (go_at_call 66; refine (stands_any x _ (by omega)).mono ?_; rintro e w1 ⟨rfl, rfl⟩; rw [hal])
      | fail)
    go_ret
    exact ⟨by rw [hr]; simp, Below.refl _ _⟩
  · have hal : alone x.data.toList = false := by simpa using hal
    obtain ⟨H, hH⟩ : ∃ H, H = hd 128 x.size := ⟨_, rfl⟩
    have hr : bytesL x.data.toList = H ++ x.data.toList := by unfold bytesL; rw [hal, hH, sizeB]; rfl
    have hl : H.length ≤ 9 := hH ▸ hd_len _ _
    have hsz : (⟨H.toArray⟩ : ByteArray).size = H.length := rfl
    have hxi : (x.size : Int) < 4611686018427387904 := by omega
    have hap := strApp x H
    have HH : Hid (H = hd 128 x.size) := hH
    clear hH
    go_enter Try.func59, Try.ntmps59
    go_wp2_with (first
      | (go_at_call 66; refine (stands_any x _ (by omega)).mono ?_; rintro e w1 ⟨rfl, rfl⟩; rw [hal])
      | (go_at_call 57; refine (head_any 128 x.size _ (.inl rfl) hx).mono ?_; rintro e w2 ⟨rfl, hB⟩; rw [← HH.out])
      | fail)
    go_ret
    exact ⟨by rw [hr]; rfl, hB⟩

set_option maxRecDepth 4000 in
theorem refBytes_any (x : ByteArray) (w : World) (hx : x.size < 4611686018427387904) :
    Calls Try.prog 40 #[.string x] w fun e w' => e = .returned (.string ⟨(bytesL x.data.toList).toArray⟩) ∧ Below w.heap.size w w' := by
  obtain ⟨H, hH⟩ : ∃ H, H = hd 128 x.size := ⟨_, rfl⟩
  have hl : H.length ≤ 9 := hH ▸ hd_len _ _
  have hsz : (⟨H.toArray⟩ : ByteArray).size = H.length := rfl
  have hxi : (x.size : Int) < 4611686018427387904 := by omega
  have hap := strApp x H
  have hr0 : alone x.data.toList = false → bytesL x.data.toList = H ++ x.data.toList := fun hal => by unfold bytesL; rw [hal, hH, sizeB]; rfl
  have hr1 : alone x.data.toList = true → bytesL x.data.toList = x.data.toList := fun hal => by unfold bytesL; rw [if_pos hal]
  have HH : Hid (H = hd 128 x.size) := hH
  clear hH
  by_cases h1 : x.size = 1
  · have h1i : (x.size : Int) = 1 := by omega
    have hp : 0 < x.size := by omega
    have hal : alone x.data.toList = decide ((x[0]).toNat < 128) := by
      rw [getB x 0 hp]
      obtain ⟨c, hc⟩ : ∃ c, x.data.toList = [c] := List.length_eq_one_iff.1 (by rw [sizeB]; exact h1)
      simp [hc, alone]
    have hlt := (x[0]).toNat_lt
    by_cases hs : (x[0]).toNat < 128
    · have hsi : ((x[0]).toNat : Int) < 128 := by omega
      have hr := hr1 (by rw [hal]; simpa using hs)
      clear hr0 hr1 hal
      go_enter Try.func40, Try.ntmps40
      go_wp2_with fail
      go_ret
      exact ⟨by rw [hr]; simp, Below.refl _ _⟩
    · have hsi : ¬ ((x[0]).toNat : Int) < 128 := by omega
      have hr := hr0 (by rw [hal]; simpa using hs)
      have HH1 : Hid (H = hd 128 1) := by have h3 := HH.out; rw [h1] at h3; exact h3
      clear hr0 hr1 hal
      go_enter Try.func40, Try.ntmps40
      go_wp2_with (first
        | (go_at_call 64; refine (refHead_any 128 1 _ (.inl rfl) (by omega)).mono ?_; rintro e w2 ⟨rfl, hB⟩; rw [← HH1.out])
        | fail)
      go_ret
      exact ⟨by rw [hr]; rfl, hB⟩
  · have h1i : ¬ (x.size : Int) = 1 := by omega
    have hal : alone x.data.toList = false := by
      have h2 := sizeB x
      cases hl : x.data.toList with
      | nil => rfl
      | cons c l => cases l with
        | nil => rw [hl] at h2; exact absurd h2.symm h1
        | cons d l => rfl
    have hr := hr0 hal
    clear hr0 hr1 hal
    go_enter Try.func40, Try.ntmps40
    go_wp2_with (first
      | (go_at_call 64; refine (refHead_any 128 x.size _ (.inl rfl) hx).mono ?_; rintro e w2 ⟨rfl, hB⟩; rw [← HH.out])
      | fail)
    go_ret
    exact ⟨by rw [hr]; rfl, hB⟩

set_option maxRecDepth 4000 in
theorem refList_any (x : ByteArray) (w : World) (hx : x.size < 4611686018427387904) :
    Calls Try.prog 39 #[.string x] w fun e w' => e = .returned (.string ⟨(listL x.data.toList).toArray⟩) ∧ Below w.heap.size w w' := by
  obtain ⟨H, hH⟩ : ∃ H, H = hd 192 x.size := ⟨_, rfl⟩
  have hl : H.length ≤ 9 := hH ▸ hd_len _ _
  have hsz : (⟨H.toArray⟩ : ByteArray).size = H.length := rfl
  have hxi : (x.size : Int) < 4611686018427387904 := by omega
  have hap := strApp x H
  have hr : listL x.data.toList = H ++ x.data.toList := by unfold listL; rw [hH, sizeB]
  have HH : Hid (H = hd 192 x.size) := hH
  clear hH
  go_enter Try.func39, Try.ntmps39
  go_wp2_with (first
    | (go_at_call 64; refine (refHead_any 192 x.size _ (.inr rfl) hx).mono ?_; rintro e w2 ⟨rfl, hB⟩; rw [← HH.out])
    | fail)
  go_ret
  exact ⟨by rw [hr]; rfl, hB⟩
end Go.Proofs.Ytadpopjhhanapaa
