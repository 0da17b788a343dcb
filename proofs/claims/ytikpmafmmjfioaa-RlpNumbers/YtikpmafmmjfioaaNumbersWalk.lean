/-
  RlpNumbers walked.
-/
import Derived.Test.YtikpmafmmjfioaaAwake2
namespace Go.Proofs.Ytikpmafmmjfioaa
open Go Go.RowKit

theorem uintV_num (n : Nat) (h : n < 18446744073709551616) : uintV (num n) = n := by unfold uintV; rw [uint_num n h]; rfl
theorem uintB_num (n : Nat) (h : n < 18446744073709551616) : uintB (num n) = true := by unfold uintB; rw [uint_num n h]; rfl

set_option maxRecDepth 8000 in
set_option maxHeartbeats 4000000 in
theorem numbers_walk (n m : Nat) (s : ByteArray) (w : World) (hn : n < 18446744073709551616) (hm : m < 18446744073709551616) (hs : s.size ≤ 9223372036854775807) :
    Calls Try.prog 6 #[.int .u64 n, .int .u64 m, .string s] w fun e w' => e = .returned (.bool true) ∧ Below w.heap.size w w' := by
  have hnu := num_len n
  have hmu := num_len m
  have hU1 := uintV_num n hn
  have hU2 := uintB_num n hn
  obtain ⟨b, hb⟩ : ∃ b, b = uintV s.data.toList := ⟨_, rfl⟩
  obtain ⟨y, hy⟩ : ∃ y, y = uintB s.data.toList := ⟨_, rfl⟩
  have hbl : b < 18446744073709551616 := hb ▸ uintV_lt _
  have hback : y = true → num b = s.data.toList := fun h => by
    rw [hb, uintV]
    rw [hy] at h
    unfold uintB at h
    obtain ⟨v, hv⟩ := Option.isSome_iff_exists.1 h
    rw [hv]; exact num_uint hv
  have hlen : ¬ n < m → (num m).length ≤ (num n).length := fun h => num_len_mono hn (by omega)
  obtain ⟨A, hA⟩ : ∃ A, A = num n := ⟨_, rfl⟩
  obtain ⟨B, hBm⟩ : ∃ B, B = num m := ⟨_, rfl⟩
  rw [← hA, ← hBm] at hlen
  rw [← hA] at hU1 hU2 hnu
  rw [← hBm] at hmu
  have HA : Hid (A = num n) := hA
  have HBm : Hid (B = num m) := hBm
  have Hb : Hid (b = uintV s.data.toList) := hb
  have Hy : Hid (y = uintB s.data.toList) := hy
  have HU : Hid (uintV A = n ∧ uintB A = true) := ⟨hU1, hU2⟩
  have hAs : (⟨A.toArray⟩ : ByteArray).size ≤ 9223372036854775807 := by show A.toArray.size ≤ _; simp; omega
  have HAs : Hid ((⟨A.toArray⟩ : ByteArray).size ≤ 9223372036854775807) := hAs
  have hlb : s.toList = s.data.toList := lb s
  clear hA hBm hb hy hU1 hU2 hAs
  have HB : Below w.heap.size w w := Below.refl _ _
  have key : ∀ (hyy : y = true ∨ y = false) (hnm : (n : Int) < m ∨ ¬ (n : Int) < m), Calls Try.prog 6 #[.int .u64 n, .int .u64 m, .string s] w fun e w' => e = .returned (.bool true) ∧ Below w.heap.size w w' := by
    intro hyy hnm
    rcases hyy with rfl | rfl
    · have hbk := hback rfl
      obtain ⟨S, hS⟩ : ∃ S, S = s.data.toList := ⟨_, rfl⟩
      rw [← hS] at hbk hlb
      have HBK : Hid (num b = S) := hbk
      clear hback hbk hS
      rcases hnm with hnm | hnm
      · clear hlen
        go_enter Try.func6, Try.ntmps6
        go_wp2_with fail
        refine (awake_any _).mono ?_
        rintro e v1 ⟨rfl, hB1⟩
        replace HB := HB.trans (hB1.mono HB.size)
        clear hB1
        go_wp2_with fail
        refine (number_any n _ hn).mono ?_
        rintro e v2 ⟨rfl, hB2⟩
        replace HB := HB.trans (hB2.mono HB.size)
        clear hB2
        rw [← HA.out]
        go_wp2_with fail
        refine (uint_any ⟨A.toArray⟩ _ HAs.out).mono ?_
        rintro e v3 ⟨rfl, rfl⟩
        rw [show (⟨A.toArray⟩ : ByteArray).data.toList = A from rfl, HU.out.1, HU.out.2]
        go_wp2_with fail
        refine (uint_any s _ hs).mono ?_
        rintro e v4 ⟨rfl, rfl⟩
        rw [← Hb.out, ← Hy.out]
        go_wp2_with fail
        refine (refUint_any s _ hs).mono ?_
        rintro e v5 ⟨rfl, rfl⟩
        rw [← Hb.out, ← Hy.out]
        go_wp2_with fail
        refine (number_any n _ hn).mono ?_
        rintro e v6 ⟨rfl, hB6⟩
        replace HB := HB.trans (hB6.mono HB.size)
        clear hB6
        rw [← HA.out]
        go_wp2_with fail
        refine (refNumber_any n _ hn).mono ?_
        rintro e v7 ⟨rfl, hB7⟩
        replace HB := HB.trans (hB7.mono HB.size)
        clear hB7
        rw [← HA.out]
        go_wp2_with fail
        refine (number_any b _ hbl).mono ?_
        rintro e v8 ⟨rfl, hB8⟩
        replace HB := HB.trans (hB8.mono HB.size)
        clear hB8
        rw [HBK.out]
        go_wp2_with fail
        go_ret
        exact ⟨rfl, HB⟩
      · have hll := hlen (by omega)
        have hli : ((B.length : Nat) : Int) ≤ A.length := by omega
        clear hlen
        go_enter Try.func6, Try.ntmps6
        go_wp2_with fail
        refine (awake_any _).mono ?_
        rintro e v1 ⟨rfl, hB1⟩
        replace HB := HB.trans (hB1.mono HB.size)
        clear hB1
        go_wp2_with fail
        refine (number_any n _ hn).mono ?_
        rintro e v2 ⟨rfl, hB2⟩
        replace HB := HB.trans (hB2.mono HB.size)
        clear hB2
        rw [← HA.out]
        go_wp2_with fail
        refine (uint_any ⟨A.toArray⟩ _ HAs.out).mono ?_
        rintro e v3 ⟨rfl, rfl⟩
        rw [show (⟨A.toArray⟩ : ByteArray).data.toList = A from rfl, HU.out.1, HU.out.2]
        go_wp2_with fail
        refine (uint_any s _ hs).mono ?_
        rintro e v4 ⟨rfl, rfl⟩
        rw [← Hb.out, ← Hy.out]
        go_wp2_with fail
        refine (refUint_any s _ hs).mono ?_
        rintro e v5 ⟨rfl, rfl⟩
        rw [← Hb.out, ← Hy.out]
        go_wp2_with fail
        refine (number_any n _ hn).mono ?_
        rintro e v6 ⟨rfl, hB6⟩
        replace HB := HB.trans (hB6.mono HB.size)
        clear hB6
        rw [← HA.out]
        go_wp2_with fail
        refine (refNumber_any n _ hn).mono ?_
        rintro e v7 ⟨rfl, hB7⟩
        replace HB := HB.trans (hB7.mono HB.size)
        clear hB7
        rw [← HA.out]
        go_wp2_with fail
        refine (number_any b _ hbl).mono ?_
        rintro e v8 ⟨rfl, hB8⟩
        replace HB := HB.trans (hB8.mono HB.size)
        clear hB8
        rw [HBK.out]
        go_wp2_with fail
        refine (number_any n _ hn).mono ?_
        rintro e v9 ⟨rfl, hB9⟩
        replace HB := HB.trans (hB9.mono HB.size)
        clear hB9
        rw [← HA.out]
        go_wp2_with fail
        refine (number_any m _ hm).mono ?_
        rintro e v10 ⟨rfl, hB10⟩
        replace HB := HB.trans (hB10.mono HB.size)
        clear hB10
        rw [← HBm.out]
        go_wp2_with fail
        go_ret
        exact ⟨rfl, HB⟩
    · clear hback
      rcases hnm with hnm | hnm
      · clear hlen
        go_enter Try.func6, Try.ntmps6
        go_wp2_with fail
        refine (awake_any _).mono ?_
        rintro e v1 ⟨rfl, hB1⟩
        replace HB := HB.trans (hB1.mono HB.size)
        clear hB1
        go_wp2_with fail
        refine (number_any n _ hn).mono ?_
        rintro e v2 ⟨rfl, hB2⟩
        replace HB := HB.trans (hB2.mono HB.size)
        clear hB2
        rw [← HA.out]
        go_wp2_with fail
        refine (uint_any ⟨A.toArray⟩ _ HAs.out).mono ?_
        rintro e v3 ⟨rfl, rfl⟩
        rw [show (⟨A.toArray⟩ : ByteArray).data.toList = A from rfl, HU.out.1, HU.out.2]
        go_wp2_with fail
        refine (uint_any s _ hs).mono ?_
        rintro e v4 ⟨rfl, rfl⟩
        rw [← Hb.out, ← Hy.out]
        go_wp2_with fail
        refine (refUint_any s _ hs).mono ?_
        rintro e v5 ⟨rfl, rfl⟩
        rw [← Hb.out, ← Hy.out]
        go_wp2_with fail
        refine (number_any n _ hn).mono ?_
        rintro e v6 ⟨rfl, hB6⟩
        replace HB := HB.trans (hB6.mono HB.size)
        clear hB6
        rw [← HA.out]
        go_wp2_with fail
        refine (refNumber_any n _ hn).mono ?_
        rintro e v7 ⟨rfl, hB7⟩
        replace HB := HB.trans (hB7.mono HB.size)
        clear hB7
        rw [← HA.out]
        go_wp2_with fail
        go_ret
        exact ⟨rfl, HB⟩
      · have hll := hlen (by omega)
        have hli : ((B.length : Nat) : Int) ≤ A.length := by omega
        clear hlen
        go_enter Try.func6, Try.ntmps6
        go_wp2_with fail
        refine (awake_any _).mono ?_
        rintro e v1 ⟨rfl, hB1⟩
        replace HB := HB.trans (hB1.mono HB.size)
        clear hB1
        go_wp2_with fail
        refine (number_any n _ hn).mono ?_
        rintro e v2 ⟨rfl, hB2⟩
        replace HB := HB.trans (hB2.mono HB.size)
        clear hB2
        rw [← HA.out]
        go_wp2_with fail
        refine (uint_any ⟨A.toArray⟩ _ HAs.out).mono ?_
        rintro e v3 ⟨rfl, rfl⟩
        rw [show (⟨A.toArray⟩ : ByteArray).data.toList = A from rfl, HU.out.1, HU.out.2]
        go_wp2_with fail
        refine (uint_any s _ hs).mono ?_
        rintro e v4 ⟨rfl, rfl⟩
        rw [← Hb.out, ← Hy.out]
        go_wp2_with fail
        refine (refUint_any s _ hs).mono ?_
        rintro e v5 ⟨rfl, rfl⟩
        rw [← Hb.out, ← Hy.out]
        go_wp2_with fail
        refine (number_any n _ hn).mono ?_
        rintro e v6 ⟨rfl, hB6⟩
        replace HB := HB.trans (hB6.mono HB.size)
        clear hB6
        rw [← HA.out]
        go_wp2_with fail
        refine (refNumber_any n _ hn).mono ?_
        rintro e v7 ⟨rfl, hB7⟩
        replace HB := HB.trans (hB7.mono HB.size)
        clear hB7
        rw [← HA.out]
        go_wp2_with fail
        refine (number_any n _ hn).mono ?_
        rintro e v8 ⟨rfl, hB8⟩
        replace HB := HB.trans (hB8.mono HB.size)
        clear hB8
        rw [← HA.out]
        go_wp2_with fail
        refine (number_any m _ hm).mono ?_
        rintro e v9 ⟨rfl, hB9⟩
        replace HB := HB.trans (hB9.mono HB.size)
        clear hB9
        rw [← HBm.out]
        go_wp2_with fail
        go_ret
        exact ⟨rfl, HB⟩
  exact key (by cases y <;> simp) (by omega)
end Go.Proofs.Ytikpmafmmjfioaa
