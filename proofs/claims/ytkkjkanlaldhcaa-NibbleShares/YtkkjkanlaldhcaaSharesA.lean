/-
  NibbleShares walked.
-/
import Derived.Test.YtkkjkanlaldhcaaSharesBase
namespace Go.Proofs.Ytkkjkanlaldhcaa
open Go Go.RowKit

set_option maxRecDepth 8000 in
set_option maxHeartbeats 4000000 in
theorem shares_a (a b c : ByteArray) (w : World) (ha : a.size ≤ 500) (hb : b.size ≤ 500) (hc : c.size ≤ 500) (p m k : Nat) (hp : pre a.data.toList b.data.toList = p) (hm : pre b.data.toList c.data.toList = m) (hk : pre a.data.toList c.data.toList = k) (hpa : ¬ p < a.size) :
    SharesGoal a b c w := by
  unfold SharesGoal
  have h3 := pre_three a.data.toList b.data.toList c.data.toList
  have hle := pre_le a.data.toList b.data.toList
  have htk := pre_take a.data.toList b.data.toList
  have hne := pre_ne a.data.toList b.data.toList
  have hp' : pre b.data.toList a.data.toList = p := by rw [pre_comm]; exact hp
  rw [hp, hm, hk] at h3
  rw [hp, sizeB, sizeB] at hle
  rw [hp] at htk hne
  obtain ⟨T, hT⟩ : ∃ T, T = a.extract 0 p := ⟨_, rfl⟩
  have hTb : b.extract 0 p = T := by rw [hT, extract_take, extract_take, htk]
  have hsa := slice_to a p hle.1
  have hsb := slice_to b p hle.2
  rw [hTb] at hsb
  rw [← hT] at hsa
  have hai : ¬ (500 : Int) < a.size := by omega
  have hbi : ¬ (500 : Int) < b.size := by omega
  have hci : ¬ (500 : Int) < c.size := by omega
  have hpai : ¬ (a.size : Int) < p := by omega
  have hpbi : ¬ (b.size : Int) < p := by omega
  have hp0 : (0 : Int) ≤ p := by omega
  have haa := pre_self a.data.toList
  rw [sizeB] at haa
  have hpa2 : ¬ (p : Int) < a.size := by omega
  have hpa3 : decide (p < a.size) = false := decide_eq_false hpa
  have hd1 : decide (a.size < p) = false := decide_eq_false (by omega)
  have hd2 : decide (b.size < p) = false := decide_eq_false (by omega)
  have H3 : Hid ((p = m ∧ p ≤ k) ∨ (p = k ∧ p ≤ m) ∨ (m = k ∧ m ≤ p)) := h3
  have HP : Hid (pre a.data.toList b.data.toList = p) := hp
  have HP' : Hid (pre b.data.toList a.data.toList = p) := hp'
  have HM : Hid (pre b.data.toList c.data.toList = m) := hm
  have HK : Hid (pre a.data.toList c.data.toList = k) := hk
  have HA : Hid (pre a.data.toList a.data.toList = a.size) := haa
  clear h3 htk hne hp hp' hm hk hT hTb haa
  go_enter Try.func7, Try.ntmps7
  go_wp2_with fail
  refine (awake_any _).mono ?_
  rintro e v1 ⟨rfl, HB⟩
  go_wp2_with fail
  refine (prefix_drew a b _ (by omega) (by omega) p HP.out).mono ?_
  rintro e v2 ⟨rfl, n2, rfl⟩
  replace HB := drewB HB n2
  go_wp2_with fail
  refine (prefix_drew b c _ (by omega) (by omega) m HM.out).mono ?_
  rintro e v3 ⟨rfl, n3, rfl⟩
  replace HB := drewB HB n3
  go_wp2_with fail
  refine (prefix_drew a c _ (by omega) (by omega) k HK.out).mono ?_
  rintro e v4 ⟨rfl, n4, rfl⟩
  replace HB := drewB HB n4
  go_wp2_with fail
  obtain ⟨V, hV⟩ : ∃ V, V = v1.drewN (n2 + n3 + n4) := ⟨_, rfl⟩
  have HB2 : Below w.heap.size w V := by rw [hV]; simpa using HB
  rw [← hV]
  clear hV HB
  go_quiet (first | (go_at_call 22; refine Calls.quiet_of (prefix_drew b a _ (by omega) (by omega) p HP'.out)) | fail)
  have HB : Below w.heap.size w (V.drewN nq) := drewB HB2 nq
  (try rw [hd1, hd2])
  (try rw [hpa3])
  generalize V.drewN nq = V2 at HB ⊢
  clear HB2
  rcases (show (p = m ∧ p = k) ∨ (p = m ∧ p < k) ∨ (p = k ∧ p < m) ∨ (m = k ∧ m < p) by have := H3.out; omega) with ⟨rfl, rfl⟩ | ⟨rfl, hlt⟩ | ⟨rfl, hlt⟩ | ⟨rfl, hlt⟩
  · go_wp2_with fail
    refine (prefix_drew a a _ (by omega) (by omega) a.size HA.out).mono ?_
    rintro e v5 ⟨rfl, n5, rfl⟩
    go_wp2_with fail
    go_ret
    exact ⟨rfl, drewB HB n5⟩
  · have hl1 : (p : Int) < k := by omega
    have hl2 : ¬ (k : Int) < p := by omega
    have hl3 : ¬ (p : Int) = k := by omega
    have hl4 : ¬ (k : Int) = p := by omega
    go_wp2_with fail
    refine (prefix_drew a a _ (by omega) (by omega) a.size HA.out).mono ?_
    rintro e v5 ⟨rfl, n5, rfl⟩
    go_wp2_with fail
    go_ret
    exact ⟨rfl, drewB HB n5⟩
  · have hl1 : (p : Int) < m := by omega
    have hl2 : ¬ (m : Int) < p := by omega
    have hl3 : ¬ (p : Int) = m := by omega
    have hl4 : ¬ (m : Int) = p := by omega
    go_wp2_with fail
    refine (prefix_drew a a _ (by omega) (by omega) a.size HA.out).mono ?_
    rintro e v5 ⟨rfl, n5, rfl⟩
    go_wp2_with fail
    go_ret
    exact ⟨rfl, drewB HB n5⟩
  · have hl1 : (m : Int) < p := by omega
    have hl2 : ¬ (p : Int) < m := by omega
    have hl3 : ¬ (m : Int) = p := by omega
    have hl4 : ¬ (p : Int) = m := by omega
    go_wp2_with fail
    refine (prefix_drew a a _ (by omega) (by omega) a.size HA.out).mono ?_
    rintro e v5 ⟨rfl, n5, rfl⟩
    go_wp2_with fail
    go_ret
    exact ⟨rfl, drewB HB n5⟩
end Go.Proofs.Ytkkjkanlaldhcaa
