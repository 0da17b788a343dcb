/-
  BitsetReads' walk.
-/
import Derived.Test.YtkbpoplodfihoaaBQReadW
import Derived.Test.YtkbpoplodfihoaaBAwake
namespace Go.Proofs.Ytkbpoplodfihoaa
open Go Go.RowKit Go.Maps

theorem read_no {y : ByteArray} (hno : ∀ N : Nat → Bool, (∀ n, N n = true → n < 2147483648) → bytesM N ≠ y.data.toList) (hy : y.size ≤ 2147483648) (w : World) :
    Calls Try.prog 22 #[.string y] w fun e w' => e = .returned (.tuple #[.pointer none, .int .i64 10]) ∧ Below w.heap.size w w' := by
  refine (read_any y hy w).mono ?_
  rintro e w' ⟨hB, ⟨N, b, rfl, mo, hs, hb, hm, hN⟩ | ⟨rfl, _⟩⟩
  · exact absurd hN (hno N hs.map.bound)
  · exact ⟨rfl, hB⟩
theorem qread_no {y : ByteArray} (hno : ∀ N : Nat → Bool, (∀ n, N n = true → n < 2147483648) → bytesM N ≠ y.data.toList) (hy : y.size ≤ 600) (w : World) :
    Calls Try.prog 23 #[.string y] w fun e w' => e = .returned (.tuple #[.slice none 0 0, .int .i64 10]) ∧ Below w.heap.size w w' := by
  refine (qread_any y hy w).mono ?_
  rintro e w' ⟨hB, ⟨L, v, rfl, _, _, hz, hL⟩ | ⟨rfl, _⟩⟩
  · exact absurd hL (hno _ (ofN_bound hz))
  · exact ⟨rfl, hB⟩
theorem qread_ok {M : Nat → Bool} (hM : ∀ n, M n = true → n < 2147483648) (hy : (ByteArray.mk (bytesM M).toArray).size ≤ 600) (w : World) :
    Calls Try.prog 23 #[.string ⟨(bytesM M).toArray⟩] w fun e w' => ∃ v, e = .returned (.tuple #[v, .int .i64 0]) ∧ OwnInts w' w.heap.size v (memFrom M 0) ∧ Below w.heap.size w w' := by
  refine (qread_any _ hy w).mono ?_
  rintro e w' ⟨hB, ⟨L, v, rfl, ho, hr, hz, hL⟩ | ⟨_, hno⟩⟩
  · have h1 := bytesM_inj (ofN_bound hz) hM (hL.trans (mk_list _))
    have h2 := mem_ofN hr hz
    rw [h1] at h2
    rw [h2]
    exact ⟨v, rfl, ho, hB⟩
  · exact absurd (mk_list _).symm (hno M hM)

set_option maxRecDepth 100000 in
set_option maxHeartbeats 4000000 in
theorem reads_walk (x : ByteArray) (hx : x.size ≤ 9223372036854775807) (w : World) : Calls Try.prog 4 #[.string x] w fun e w' => e = .returned (.bool true) ∧ Below w.heap.size w w' := by
  have haw := awake_any w
  by_cases h6 : 600 < x.size
  · have h6i : (600 : Int) < x.size := by omega
    have hle : (600 : Int) ≤ x.size := by omega
    have hlen : 600 ≤ x.size := by omega
    obtain ⟨y, hy⟩ : ∃ y, x.extract 0 600 = y := ⟨_, rfl⟩
    have hys : y.size ≤ 600 := by rw [← hy]; simp; omega
    by_cases hN : ∃ N : Nat → Bool, (∀ n, N n = true → n < 2147483648) ∧ bytesM N = y.data.toList
    · obtain ⟨M, hM, hMy⟩ := hN
      have hyM : y = ⟨(bytesM M).toArray⟩ := by rw [hMy]
      have hrd := fun W => read_back hM W
      have hqr := fun W => qread_ok hM (by rw [← hyM]; exact hys) W
      rw [← hyM] at hqr
      have hrd2 : ∀ W, Calls Try.prog 22 #[.string y] W fun e w' => ∃ b, e = .returned (.tuple #[.pointer (some ⟨b, 0, none⟩), .int .i64 0]) ∧ ∃ mo, SetAt w' b mo M ∧ W.heap.size ≤ b ∧ (∀ m, mo = some m → W.heap.size ≤ m) ∧ Below W.heap.size W w' := fun W => by
        have := hrd W
        rw [← hyM] at this
        exact this
      have HML : Hid ((memFrom M 0).length ≤ 2147483648) := memFrom_len hM 0
      have hyb := fun W s mo (h : View W s mo M) => bytes_any h
      rw [← hyM] at hyb
      have HQR : Hid (∀ W, Calls Try.prog 23 #[.string y] W fun e w' => ∃ v, e = .returned (.tuple #[v, .int .i64 0]) ∧ OwnInts w' W.heap.size v (memFrom M 0) ∧ Below W.heap.size W w') := hqr
      have HRD : Hid (∀ W, Calls Try.prog 22 #[.string y] W fun e w' => ∃ b, e = .returned (.tuple #[.pointer (some ⟨b, 0, none⟩), .int .i64 0]) ∧ ∃ mo, SetAt w' b mo M ∧ W.heap.size ≤ b ∧ (∀ m, mo = some m → W.heap.size ≤ m) ∧ Below W.heap.size W w') := hrd2
      have HYB : Hid (∀ W s mo, View W s mo M → Calls Try.prog 20 #[s] W fun e w' => e = .returned (.string y) ∧ Below W.heap.size W w') := hyb
      clear hrd hyM hMy hqr hrd2 hyb hM
      go_enter Try.func4, Try.ntmps4
      go_wp2_with (first
        | (go_at_call 9; refine haw.mono ?_; rintro e w1 ⟨rfl, hB1⟩; clear haw)
        | (go_at_call 22; refine (HRD.out _).mono ?_; rintro e w2 ⟨b, rfl, mo, hs, hb, hmo, hB2⟩; clear HRD)
        | (go_at_call 23; refine (HQR.out _).mono ?_; rintro e w3 ⟨v, rfl, hown, hB3⟩; clear HQR; obtain ⟨pL, cL, rfl, hia⟩ := hown.intsAt; have hs3 := hs.below hB3; have hm3 := members_any hs3.view)
        | (go_at_call 19; refine hm3.mono ?_; rintro e w4 ⟨v4, rfl, hrow4, hB4⟩; clear hm3; obtain ⟨p4, c4, rfl, hi4⟩ := hrow4.intsAt; have hsm := same_any hi4 (hia.below hB4) (by have := HML.out; omega) (by have := HML.out; omega); rw [decide_eq_true rfl] at hsm)
        | (go_at_call 18; refine hsm.mono ?_; rintro e w5 ⟨rfl, hB5⟩; clear hsm; have hy5 := HYB.out _ _ _ (hs3.below (below_new hB4 hB5)).view; clear HYB)
        | (go_at_call 20; refine hy5.mono ?_; rintro e w6 ⟨rfl, hB6⟩; clear hy5))
      go_ret
      exact ⟨by simp, below_new (below_new (below_new (below_new (below_new hB1 hB2) hB3) hB4) hB5) hB6⟩
    · have hno : ∀ N : Nat → Bool, (∀ n, N n = true → n < 2147483648) → bytesM N ≠ y.data.toList := fun N h e => hN ⟨N, h, e⟩
      have hrd := fun W => read_no hno (by omega) W
      have hqr := fun W => qread_no hno hys W
      clear hno hN
      go_enter Try.func4, Try.ntmps4
      go_wp2_with (first
        | (go_at_call 9; refine haw.mono ?_; rintro e w1 ⟨rfl, hB1⟩; clear haw)
        | (go_at_call 22; refine (hrd _).mono ?_; rintro e w2 ⟨rfl, hB2⟩; clear hrd)
        | (go_at_call 23; refine (hqr _).mono ?_; rintro e w3 ⟨rfl, hB3⟩; clear hqr))
      go_ret
      exact ⟨rfl, below_new (below_new hB1 hB2) hB3⟩
  · have h6i : (x.size : Int) ≤ 600 := by omega
    have hys : x.size ≤ 600 := by omega
    obtain ⟨y, rfl⟩ : ∃ y, x = y := ⟨_, rfl⟩
    obtain ⟨y, hyx⟩ : ∃ y, y = x := ⟨_, rfl⟩
    subst hyx
    clear h6 hx
    have hdc : decide ((600 : Int) < y.size) = false := decide_eq_false (by omega)
    have hdp : ((600 : Int) < y.size) = False := eq_false (by omega)
    by_cases hN : ∃ N : Nat → Bool, (∀ n, N n = true → n < 2147483648) ∧ bytesM N = y.data.toList
    · obtain ⟨M, hM, hMy⟩ := hN
      have hyM : y = ⟨(bytesM M).toArray⟩ := by rw [hMy]
      have hrd := fun W => read_back hM W
      have hqr := fun W => qread_ok hM (by rw [← hyM]; exact hys) W
      rw [← hyM] at hqr
      have hrd2 : ∀ W, Calls Try.prog 22 #[.string y] W fun e w' => ∃ b, e = .returned (.tuple #[.pointer (some ⟨b, 0, none⟩), .int .i64 0]) ∧ ∃ mo, SetAt w' b mo M ∧ W.heap.size ≤ b ∧ (∀ m, mo = some m → W.heap.size ≤ m) ∧ Below W.heap.size W w' := fun W => by
        have := hrd W
        rw [← hyM] at this
        exact this
      have HML : Hid ((memFrom M 0).length ≤ 2147483648) := memFrom_len hM 0
      have hyb := fun W s mo (h : View W s mo M) => bytes_any h
      rw [← hyM] at hyb
      have HQR : Hid (∀ W, Calls Try.prog 23 #[.string y] W fun e w' => ∃ v, e = .returned (.tuple #[v, .int .i64 0]) ∧ OwnInts w' W.heap.size v (memFrom M 0) ∧ Below W.heap.size W w') := hqr
      have HRD : Hid (∀ W, Calls Try.prog 22 #[.string y] W fun e w' => ∃ b, e = .returned (.tuple #[.pointer (some ⟨b, 0, none⟩), .int .i64 0]) ∧ ∃ mo, SetAt w' b mo M ∧ W.heap.size ≤ b ∧ (∀ m, mo = some m → W.heap.size ≤ m) ∧ Below W.heap.size W w') := hrd2
      have HYB : Hid (∀ W s mo, View W s mo M → Calls Try.prog 20 #[s] W fun e w' => e = .returned (.string y) ∧ Below W.heap.size W w') := hyb
      clear hrd hyM hMy hqr hrd2 hyb hM
      go_enter Try.func4, Try.ntmps4
      go_wp2_with (first
        | (go_at_call 9; refine haw.mono ?_; rintro e w1 ⟨rfl, hB1⟩; clear haw)
        | (go_at_call 22; refine (HRD.out _).mono ?_; rintro e w2 ⟨b, rfl, mo, hs, hb, hmo, hB2⟩; clear HRD)
        | (go_at_call 23; refine (HQR.out _).mono ?_; rintro e w3 ⟨v, rfl, hown, hB3⟩; clear HQR; obtain ⟨pL, cL, rfl, hia⟩ := hown.intsAt; have hs3 := hs.below hB3; have hm3 := members_any hs3.view)
        | (go_at_call 19; refine hm3.mono ?_; rintro e w4 ⟨v4, rfl, hrow4, hB4⟩; clear hm3; obtain ⟨p4, c4, rfl, hi4⟩ := hrow4.intsAt; have hsm := same_any hi4 (hia.below hB4) (by have := HML.out; omega) (by have := HML.out; omega); rw [decide_eq_true rfl] at hsm)
        | (go_at_call 18; refine hsm.mono ?_; rintro e w5 ⟨rfl, hB5⟩; clear hsm; have hy5 := HYB.out _ _ _ (hs3.below (below_new hB4 hB5)).view; clear HYB)
        | (go_at_call 20; refine hy5.mono ?_; rintro e w6 ⟨rfl, hB6⟩; clear hy5))
      go_ret
      exact ⟨by simp, below_new (below_new (below_new (below_new (below_new hB1 hB2) hB3) hB4) hB5) hB6⟩
    · have hno : ∀ N : Nat → Bool, (∀ n, N n = true → n < 2147483648) → bytesM N ≠ y.data.toList := fun N h e => hN ⟨N, h, e⟩
      have hrd := fun W => read_no hno (by omega) W
      have hqr := fun W => qread_no hno hys W
      clear hno hN
      go_enter Try.func4, Try.ntmps4
      go_wp2_with (first
        | (go_at_call 9; refine haw.mono ?_; rintro e w1 ⟨rfl, hB1⟩; clear haw)
        | (go_at_call 22; refine (hrd _).mono ?_; rintro e w2 ⟨rfl, hB2⟩; clear hrd)
        | (go_at_call 23; refine (hqr _).mono ?_; rintro e w3 ⟨rfl, hB3⟩; clear hqr))
      go_ret
      exact ⟨rfl, below_new (below_new hB1 hB2) hB3⟩
end Go.Proofs.Ytkbpoplodfihoaa
