/-
  What the document's calls of Cmp, Add and Sub do.
-/
import Derived.Test.YtamijfdhaahalaaDoorSRefA
import Derived.Test.YtamijfdhaahalaaDoorSCombW
namespace Go.Proofs.YtamijfdhaahalaaDoor
open Go Go.RowKit

theorem split_at (x : ByteArray) (i : Nat) (h : i < x.size) : x.data.toList = x.data.toList.take i ++ x[i] :: x.data.toList.drop (i + 1) := by
  rw [getB x i h, ← List.drop_eq_getElem_cons (by exact h), List.take_append_drop]
theorem less_at {x y : ByteArray} {i : Nat} (hs : x.size = y.size) (h : i < x.size) (h' : i < y.size) (ht : x.data.toList.take i = y.data.toList.take i) (hl : (x[i]).toNat < (y[i]).toNat) : val x.data.toList < val y.data.toList := by
  rw [split_at x i h, split_at y i h', ht]
  exact val_lex _ _ _ _ _ (by rw [List.length_drop, List.length_drop, sizeB, sizeB, hs]) hl
theorem take_more (x y : ByteArray) (k : Nat) (hx : k < x.size) (hy : k < y.size) (h : x.data.toList.take k = y.data.toList.take k) (he : (x[k]).toNat = (y[k]).toNat) :
    x.data.toList.take (k + 1) = y.data.toList.take (k + 1) := by
  rw [List.take_succ_eq_append_getElem (by exact hx), List.take_succ_eq_append_getElem (by exact hy), h, ← getB x k hx, ← getB y k hy, UInt8.toNat_inj.1 he]
theorem cmpN_lt {a b : Nat} (h : a < b) : cmpN a b = -1 := by unfold cmpN; rw [if_pos h]
theorem cmpN_gt {a b : Nat} (h : b < a) : cmpN a b = 1 := by unfold cmpN; rw [if_neg (by omega), if_pos h]
theorem cmpN_eq {a b : Nat} (h : a = b) : cmpN a b = 0 := (cmp_zero a b).2 h

set_option maxRecDepth 4000 in
set_option maxHeartbeats 1000000 in
theorem qcmp_any (x y : ByteArray) (w : World) (hx : x.size ≤ 1000000) (hy : y.size ≤ 1000000) :
    Calls Tryd.prog 21 #[.string x, .string y] w fun e w' => e = .returned (.int .i64 (cmpN (val x.data.toList) (val y.data.toList))) ∧ Below w.heap.size w w' := by
  obtain ⟨S, hS⟩ : ∃ S : ByteArray, ⟨(trimL x.data.toList).toArray⟩ = S := ⟨_, rfl⟩
  obtain ⟨T, hT⟩ : ∃ T : ByteArray, ⟨(trimL y.data.toList).toArray⟩ = T := ⟨_, rfl⟩
  have hSl : S.data.toList = trimL x.data.toList := by rw [← hS]
  have hTl : T.data.toList = trimL y.data.toList := by rw [← hT]
  have hSs : S.size ≤ 1000000 := by rw [← sizeB, hSl]; have := trimL_len x.data.toList; rw [sizeB] at this; omega
  have hTs : T.size ≤ 1000000 := by rw [← sizeB, hTl]; have := trimL_len y.data.toList; rw [sizeB] at this; omega
  have hvx : val x.data.toList = val S.data.toList := by rw [hSl, trimL_val]
  have hvy : val y.data.toList = val T.data.toList := by rw [hTl, trimL_val]
  obtain ⟨c, hc⟩ : ∃ c, cmpN (val x.data.toList) (val y.data.toList) = c := ⟨_, rfl⟩
  rw [hc]
  rw [hvx, hvy] at hc
  have hls : S.size < T.size → c = -1 := fun h => by
    rw [← hc]; refine cmpN_lt ?_
    rw [hSl, hTl]; exact val_shorter _ _ (trimL_head _) (by rw [← hSl, ← hTl, sizeB, sizeB]; exact h)
  have hlg : T.size < S.size → c = 1 := fun h => by
    rw [← hc]; refine cmpN_gt ?_
    rw [hSl, hTl]; exact val_shorter _ _ (trimL_head _) (by rw [← hSl, ← hTl, sizeB, sizeB]; exact h)
  have HS : Hid ((⟨(trimL x.data.toList).toArray⟩ : ByteArray) = S) := hS
  have HT : Hid ((⟨(trimL y.data.toList).toArray⟩ : ByteArray) = T) := hT
  have HC : Hid (cmpN (val S.data.toList) (val T.data.toList) = c) := hc
  have HL : Hid ((S.size < T.size → c = -1) ∧ (T.size < S.size → c = 1)) := ⟨hls, hlg⟩
  clear hS hT hSl hTl hvx hvy hc hls hlg
  rcases Nat.lt_trichotomy S.size T.size with h | h | h
  · have h1 : ¬ (S.size : Int) = T.size := by omega
    have h2 : (S.size : Int) < T.size := by omega
    have hc := HL.out.1 h
    subst hc
    go_enter Tryd.func21, Tryd.ntmps21
    go_wp2_with fail
    refine (qtrim_any x _).mono ?_
    rintro e w1 ⟨rfl, rfl⟩
    rw [HS.out]
    go_wp2_with fail
    refine (qtrim_any y _).mono ?_
    rintro e w1 ⟨rfl, rfl⟩
    rw [HT.out]
    go_wp2_with fail
    go_ret
    exact ⟨rfl, Below.refl _ _⟩
  · have h1 : (S.size : Int) = T.size := by omega
    have hTS : T.size = S.size := h.symm
    have hTSi : (T.size : Int) = S.size := by omega
    clear h1
    have HSZ : Hid (S.size = T.size) := h
    clear h
    go_enter Tryd.func21, Tryd.ntmps21
    go_wp2_with fail
    refine (qtrim_any x _).mono ?_
    rintro e w1 ⟨rfl, rfl⟩
    rw [HS.out]
    go_wp2_with fail
    refine (qtrim_any y _).mono ?_
    rintro e w1 ⟨rfl, rfl⟩
    rw [HT.out]
    go_wp2_with fail
    go_loopw [5] (fun z wr => ∃ k : Nat, k ≤ S.size ∧ z = .int .i64 k ∧ Below w1.heap.size w1 wr ∧ Hid (S.data.toList.take k = T.data.toList.take k)) (fun z _ => S.size - (intOf z).toNat)
    case atStart => exact ⟨0, by omega, rfl, Below.refl _ _, by simp [Hid]⟩
    case round =>
      obtain ⟨k, hk, rfl, hB, HTK⟩ := hrel
      by_cases hlt : k < S.size
      · have hki : (k : Int) < S.size := by omega
        have hky : (k : Int) < T.size := by omega
        have hkx' : k < S.size := by omega
        have hky' : k < T.size := by omega
        have hk0 : (0 : Int) ≤ k := by omega
        go_wp2_with fail
        go_quiet (fail)
        rcases Nat.lt_trichotomy (S[k]).toNat (T[k]).toNat with q | q | q
        · have qi : ((S[k]).toNat : Int) < (T[k]).toNat := by omega
          have hc : c = -1 := by rw [← HC.out]; exact cmpN_lt (less_at HSZ.out hkx' hky' HTK.out q)
          subst hc
          go_wp2_with fail
          go_ret
          exact ⟨rfl, drewB hB _⟩
        · have qi : ¬ ((S[k]).toNat : Int) < (T[k]).toNat := by omega
          have qj : ¬ ((T[k]).toNat : Int) < (S[k]).toNat := by omega
          have HN : Hid (S.data.toList.take (k + 1) = T.data.toList.take (k + 1)) := take_more S T k hkx' hky' HTK.out q
          go_wp2_with fail
          go_quiet (fail)
          go_wp2_with fail
          go_roundw
          case rel => exact ⟨k + 1, by omega, rfl, drewB hB _, HN⟩
          case measure => simp [intOf]; omega
        · have qi : ¬ ((S[k]).toNat : Int) < (T[k]).toNat := by omega
          have qj : ((T[k]).toNat : Int) < (S[k]).toNat := by omega
          have hc : c = 1 := by rw [← HC.out]; exact cmpN_gt (less_at HSZ.out.symm hky' hkx' HTK.out.symm q)
          subst hc
          go_wp2_with fail
          go_quiet (fail)
          go_wp2_with fail
          go_ret
          exact ⟨rfl, drewB (drewB hB _) _⟩
      · have hki : ¬ (k : Int) < S.size := by omega
        have hkk : k = S.size := by omega
        have hc : c = 0 := by
          rw [← HC.out]
          refine cmpN_eq ?_
          have := HTK.out
          rw [List.take_of_length_le (by rw [sizeB]; omega), List.take_of_length_le (by rw [sizeB]; omega)] at this
          rw [this]
        subst hc
        go_wp2_with fail
        go_ret
        exact ⟨rfl, hB⟩
  · have h1 : ¬ (S.size : Int) = T.size := by omega
    have h2 : ¬ (S.size : Int) < T.size := by omega
    have hc := HL.out.2 h
    subst hc
    go_enter Tryd.func21, Tryd.ntmps21
    go_wp2_with fail
    refine (qtrim_any x _).mono ?_
    rintro e w1 ⟨rfl, rfl⟩
    rw [HS.out]
    go_wp2_with fail
    refine (qtrim_any y _).mono ?_
    rintro e w1 ⟨rfl, rfl⟩
    rw [HT.out]
    go_wp2_with fail
    go_ret
    exact ⟨rfl, Below.refl _ _⟩
end Go.Proofs.YtamijfdhaahalaaDoor
