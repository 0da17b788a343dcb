/-
  ScalarRules walked.
-/
import Derived.Test.YtamijfdhaahalaaDoorAwake4
namespace Go.Proofs.YtamijfdhaahalaaDoor
open Go Go.RowKit

def RulesGoal (s t : ByteArray) (w : World) : Prop :=
    Calls Tryd.prog 4 #[.string s, .string t] w fun e w' => e = .returned (.bool true) ∧ Below w.heap.size w w'
theorem mk_list (x : ByteArray) : (⟨x.data.toList.toArray⟩ : ByteArray) = x := by simp
theorem cmpN_small (a b : Nat) : -1 ≤ cmpN a b ∧ cmpN a b ≤ 1 := by
  unfold cmpN
  split
  · omega
  · split <;> omega
theorem list_ne {x y : ByteArray} (h : x ≠ y) : (x.toList == y.toList) = false := by
  rw [lb, lb]
  refine beq_eq_false_iff_ne.2 fun e => h ?_
  rw [← mk_list x, ← mk_list y, e]
theorem cut_size (x : ByteArray) (n : Nat) (h : n < x.size) : (x.extract 0 n).size = n := by rw [ByteArray.size_extract]; omega
/-- What the calls answer at two short texts. -/
structure RulesAt (A B X Y S : ByteArray) : Prop where
  x : trimL A.data.toList = X.data.toList
  y : trimL B.data.toList = Y.data.toList
  e1 : addE X.data.toList Y.data.toList = 0
  s1 : addS X.data.toList Y.data.toList = S.data.toList
  e2 : addE Y.data.toList X.data.toList = 0
  s2 : addS Y.data.toList X.data.toList = S.data.toList
  e3 : subE S.data.toList Y.data.toList = 0
  s3 : subS S.data.toList Y.data.toList = X.data.toList
  r : rightN S.data.toList = true
  c : 0 ≤ cmpN (val S.data.toList) (val X.data.toList)
  d : cmpN (val X.data.toList) (val Y.data.toList) = -cmpN (val Y.data.toList) (val X.data.toList)
  i : cmpN (val X.data.toList) (val Y.data.toList) = 0 ↔ X = Y
theorem rulesAt (A B : ByteArray) (ha : A.size ≤ 31) (hb : B.size ≤ 31) : ∃ X Y S, RulesAt A B X Y S := by
  obtain ⟨h1, h2, h3, h4, h5, h6, h7⟩ := rules (a := A.data.toList) (b := B.data.toList) (by rw [sizeB]; exact ha) (by rw [sizeB]; exact hb)
  refine ⟨⟨(trimL A.data.toList).toArray⟩, ⟨(trimL B.data.toList).toArray⟩, ⟨(addS (trimL A.data.toList) (trimL B.data.toList)).toArray⟩, rfl, rfl, h1, rfl, h2, h3.symm, h4, h5, h6, ?_, cmp_turn _ _, ?_⟩
  · exact (cmp_ge _ _).2 h7
  · refine (cmp_same (trimL_head _) (trimL_head _)).trans ⟨fun e => by rw [e], fun e => ?_⟩
    have := congrArg (fun z : ByteArray => z.data.toList) e
    simpa using this

set_option maxRecDepth 8000 in
set_option maxHeartbeats 4000000 in
theorem rules_cce (s t : ByteArray) (w : World) (hs :  31 < s.size) (ht :  31 < t.size) (A B X Y S : ByteArray) (hA : s.extract 0 31 = A) (hB : t.extract 0 31 = B) (h : RulesAt A B X Y S) (hxy : X = Y) : RulesGoal s t w := by
  unfold RulesGoal
  have hsi :  (31 : Int) < s.size := by omega
  have hti :  (31 : Int) < t.size := by omega
  obtain ⟨c, hc⟩ : ∃ c, cmpN (val S.data.toList) (val X.data.toList) = c := ⟨_, rfl⟩
  obtain ⟨d, hd⟩ : ∃ d, cmpN (val X.data.toList) (val Y.data.toList) = d := ⟨_, rfl⟩
  obtain ⟨d2, hd2⟩ : ∃ d2, cmpN (val Y.data.toList) (val X.data.toList) = d2 := ⟨_, rfl⟩
  have hc0 := h.c
  have hdd := h.d
  have hdi := h.i
  have hm2 := cmpN_small (val Y.data.toList) (val X.data.toList)
  rw [hc] at hc0
  rw [hd, hd2] at hdd
  rw [hd] at hdi
  rw [hd2] at hm2
  obtain ⟨hm3, hm4⟩ := hm2
  have HA : Hid (s.extract 0 31 = A ∧ t.extract 0 31 = B) := ⟨hA, hB⟩
  have HR : Hid (RulesAt A B X Y S) := h
  have HC : Hid (cmpN (val S.data.toList) (val X.data.toList) = c ∧ cmpN (val X.data.toList) (val Y.data.toList) = d ∧ cmpN (val Y.data.toList) (val X.data.toList) = d2) := ⟨hc, hd, hd2⟩
  have hd0 : d = 0 := hdi.2 hxy
  have hd20 : d2 = 0 := by omega
  subst hd0 hd20
  clear hdd hm3 hm4
  have hxl : (X.toList == Y.toList) = true := by rw [hxy]; exact beq_self_eq_true _
  clear hA hB h hc hd hd2 hdi hxy
  go_enter Tryd.func4, Tryd.ntmps4
  go_wp2_with fail
  refine (awake_any _).mono ?_
  rintro e w1 ⟨rfl, hB⟩
  go_wp2_with fail
  rw [HA.out.1]
  refine (trim_any A _).mono ?_
  rintro e w2 ⟨rfl, rfl⟩
  rw [HR.out.x, mk_list]
  go_wp2_with fail
  rw [HA.out.2]
  refine (trim_any B _).mono ?_
  rintro e w2 ⟨rfl, rfl⟩
  rw [HR.out.y, mk_list]
  go_wp2_with fail
  refine (sadd_any X Y _).mono ?_
  rintro e w3 ⟨rfl, h2⟩
  rw [HR.out.e1, HR.out.s1, mk_list]
  replace hB := hB.trans (h2.mono hB.size)
  clear h2
  go_wp2_with fail
  refine (sadd_any Y X _).mono ?_
  rintro e w3 ⟨rfl, h2⟩
  rw [HR.out.e2, HR.out.s2, mk_list]
  replace hB := hB.trans (h2.mono hB.size)
  clear h2
  go_wp2_with fail
  refine (ssub_any S Y _).mono ?_
  rintro e w3 ⟨rfl, h2⟩
  rw [HR.out.e3, HR.out.s3, mk_list]
  replace hB := hB.trans (h2.mono hB.size)
  clear h2
  go_wp2_with fail
  refine (sright_any S _).mono ?_
  rintro e w3 ⟨rfl, rfl⟩
  rw [HR.out.r]
  go_wp2_with fail
  refine (cmp_any S X _).mono ?_
  rintro e w3 ⟨rfl, rfl⟩
  rw [HC.out.1]
  go_wp2_with fail
  refine (cmp_any X Y _).mono ?_
  rintro e w3 ⟨rfl, rfl⟩
  rw [HC.out.2.1]
  go_wp2_with fail
  refine (cmp_any Y X _).mono ?_
  rintro e w3 ⟨rfl, rfl⟩
  rw [HC.out.2.2]
  go_wp2_with fail
  refine (cmp_any X Y _).mono ?_
  rintro e w3 ⟨rfl, rfl⟩
  rw [HC.out.2.1]
  go_wp2_with fail
  go_ret
  exact ⟨rfl, hB⟩

set_option maxRecDepth 8000 in
set_option maxHeartbeats 4000000 in
theorem rules_ccd (s t : ByteArray) (w : World) (hs :  31 < s.size) (ht :  31 < t.size) (A B X Y S : ByteArray) (hA : s.extract 0 31 = A) (hB : t.extract 0 31 = B) (h : RulesAt A B X Y S) (hxy : X ≠ Y) : RulesGoal s t w := by
  unfold RulesGoal
  have hsi :  (31 : Int) < s.size := by omega
  have hti :  (31 : Int) < t.size := by omega
  obtain ⟨c, hc⟩ : ∃ c, cmpN (val S.data.toList) (val X.data.toList) = c := ⟨_, rfl⟩
  obtain ⟨d, hd⟩ : ∃ d, cmpN (val X.data.toList) (val Y.data.toList) = d := ⟨_, rfl⟩
  obtain ⟨d2, hd2⟩ : ∃ d2, cmpN (val Y.data.toList) (val X.data.toList) = d2 := ⟨_, rfl⟩
  have hc0 := h.c
  have hdd := h.d
  have hdi := h.i
  have hm2 := cmpN_small (val Y.data.toList) (val X.data.toList)
  rw [hc] at hc0
  rw [hd, hd2] at hdd
  rw [hd] at hdi
  rw [hd2] at hm2
  obtain ⟨hm3, hm4⟩ := hm2
  have HA : Hid (s.extract 0 31 = A ∧ t.extract 0 31 = B) := ⟨hA, hB⟩
  have HR : Hid (RulesAt A B X Y S) := h
  have HC : Hid (cmpN (val S.data.toList) (val X.data.toList) = c ∧ cmpN (val X.data.toList) (val Y.data.toList) = d ∧ cmpN (val Y.data.toList) (val X.data.toList) = d2) := ⟨hc, hd, hd2⟩
  have hd0 : ¬ d = 0 := fun e => hxy (hdi.1 e)
  have hxl := list_ne hxy
  have hd3 : (-d2 == 0) = false := beq_eq_false_iff_ne.2 (by omega)
  clear hA hB h hc hd hd2 hdi hxy
  go_enter Tryd.func4, Tryd.ntmps4
  go_wp2_with fail
  refine (awake_any _).mono ?_
  rintro e w1 ⟨rfl, hB⟩
  go_wp2_with fail
  rw [HA.out.1]
  refine (trim_any A _).mono ?_
  rintro e w2 ⟨rfl, rfl⟩
  rw [HR.out.x, mk_list]
  go_wp2_with fail
  rw [HA.out.2]
  refine (trim_any B _).mono ?_
  rintro e w2 ⟨rfl, rfl⟩
  rw [HR.out.y, mk_list]
  go_wp2_with fail
  refine (sadd_any X Y _).mono ?_
  rintro e w3 ⟨rfl, h2⟩
  rw [HR.out.e1, HR.out.s1, mk_list]
  replace hB := hB.trans (h2.mono hB.size)
  clear h2
  go_wp2_with fail
  refine (sadd_any Y X _).mono ?_
  rintro e w3 ⟨rfl, h2⟩
  rw [HR.out.e2, HR.out.s2, mk_list]
  replace hB := hB.trans (h2.mono hB.size)
  clear h2
  go_wp2_with fail
  refine (ssub_any S Y _).mono ?_
  rintro e w3 ⟨rfl, h2⟩
  rw [HR.out.e3, HR.out.s3, mk_list]
  replace hB := hB.trans (h2.mono hB.size)
  clear h2
  go_wp2_with fail
  refine (sright_any S _).mono ?_
  rintro e w3 ⟨rfl, rfl⟩
  rw [HR.out.r]
  go_wp2_with fail
  refine (cmp_any S X _).mono ?_
  rintro e w3 ⟨rfl, rfl⟩
  rw [HC.out.1]
  go_wp2_with fail
  refine (cmp_any X Y _).mono ?_
  rintro e w3 ⟨rfl, rfl⟩
  rw [HC.out.2.1]
  go_wp2_with fail
  refine (cmp_any Y X _).mono ?_
  rintro e w3 ⟨rfl, rfl⟩
  rw [HC.out.2.2]
  go_wp2_with fail
  refine (cmp_any X Y _).mono ?_
  rintro e w3 ⟨rfl, rfl⟩
  rw [HC.out.2.1]
  go_wp2_with fail
  go_ret
  exact ⟨rfl, hB⟩

set_option maxRecDepth 8000 in
set_option maxHeartbeats 4000000 in
theorem rules_cne (s t : ByteArray) (w : World) (hs :  31 < s.size) (ht : ¬ 31 < t.size) (A B X Y S : ByteArray) (hA : s.extract 0 31 = A) (hB : t = B) (h : RulesAt A B X Y S) (hxy : X = Y) : RulesGoal s t w := by
  unfold RulesGoal
  have hsi :  (31 : Int) < s.size := by omega
  have hti : ¬ (31 : Int) < t.size := by omega
  obtain ⟨c, hc⟩ : ∃ c, cmpN (val S.data.toList) (val X.data.toList) = c := ⟨_, rfl⟩
  obtain ⟨d, hd⟩ : ∃ d, cmpN (val X.data.toList) (val Y.data.toList) = d := ⟨_, rfl⟩
  obtain ⟨d2, hd2⟩ : ∃ d2, cmpN (val Y.data.toList) (val X.data.toList) = d2 := ⟨_, rfl⟩
  have hc0 := h.c
  have hdd := h.d
  have hdi := h.i
  have hm2 := cmpN_small (val Y.data.toList) (val X.data.toList)
  rw [hc] at hc0
  rw [hd, hd2] at hdd
  rw [hd] at hdi
  rw [hd2] at hm2
  obtain ⟨hm3, hm4⟩ := hm2
  have HA : Hid (s.extract 0 31 = A ∧ t = B) := ⟨hA, hB⟩
  have HR : Hid (RulesAt A B X Y S) := h
  have HC : Hid (cmpN (val S.data.toList) (val X.data.toList) = c ∧ cmpN (val X.data.toList) (val Y.data.toList) = d ∧ cmpN (val Y.data.toList) (val X.data.toList) = d2) := ⟨hc, hd, hd2⟩
  have hd0 : d = 0 := hdi.2 hxy
  have hd20 : d2 = 0 := by omega
  subst hd0 hd20
  clear hdd hm3 hm4
  have hxl : (X.toList == Y.toList) = true := by rw [hxy]; exact beq_self_eq_true _
  clear hA hB h hc hd hd2 hdi hxy
  go_enter Tryd.func4, Tryd.ntmps4
  go_wp2_with fail
  refine (awake_any _).mono ?_
  rintro e w1 ⟨rfl, hB⟩
  go_wp2_with fail
  rw [HA.out.1]
  refine (trim_any A _).mono ?_
  rintro e w2 ⟨rfl, rfl⟩
  rw [HR.out.x, mk_list]
  go_wp2_with fail
  rw [HA.out.2]
  refine (trim_any B _).mono ?_
  rintro e w2 ⟨rfl, rfl⟩
  rw [HR.out.y, mk_list]
  go_wp2_with fail
  refine (sadd_any X Y _).mono ?_
  rintro e w3 ⟨rfl, h2⟩
  rw [HR.out.e1, HR.out.s1, mk_list]
  replace hB := hB.trans (h2.mono hB.size)
  clear h2
  go_wp2_with fail
  refine (sadd_any Y X _).mono ?_
  rintro e w3 ⟨rfl, h2⟩
  rw [HR.out.e2, HR.out.s2, mk_list]
  replace hB := hB.trans (h2.mono hB.size)
  clear h2
  go_wp2_with fail
  refine (ssub_any S Y _).mono ?_
  rintro e w3 ⟨rfl, h2⟩
  rw [HR.out.e3, HR.out.s3, mk_list]
  replace hB := hB.trans (h2.mono hB.size)
  clear h2
  go_wp2_with fail
  refine (sright_any S _).mono ?_
  rintro e w3 ⟨rfl, rfl⟩
  rw [HR.out.r]
  go_wp2_with fail
  refine (cmp_any S X _).mono ?_
  rintro e w3 ⟨rfl, rfl⟩
  rw [HC.out.1]
  go_wp2_with fail
  refine (cmp_any X Y _).mono ?_
  rintro e w3 ⟨rfl, rfl⟩
  rw [HC.out.2.1]
  go_wp2_with fail
  refine (cmp_any Y X _).mono ?_
  rintro e w3 ⟨rfl, rfl⟩
  rw [HC.out.2.2]
  go_wp2_with fail
  refine (cmp_any X Y _).mono ?_
  rintro e w3 ⟨rfl, rfl⟩
  rw [HC.out.2.1]
  go_wp2_with fail
  go_ret
  exact ⟨rfl, hB⟩

set_option maxRecDepth 8000 in
set_option maxHeartbeats 4000000 in
theorem rules_cnd (s t : ByteArray) (w : World) (hs :  31 < s.size) (ht : ¬ 31 < t.size) (A B X Y S : ByteArray) (hA : s.extract 0 31 = A) (hB : t = B) (h : RulesAt A B X Y S) (hxy : X ≠ Y) : RulesGoal s t w := by
  unfold RulesGoal
  have hsi :  (31 : Int) < s.size := by omega
  have hti : ¬ (31 : Int) < t.size := by omega
  obtain ⟨c, hc⟩ : ∃ c, cmpN (val S.data.toList) (val X.data.toList) = c := ⟨_, rfl⟩
  obtain ⟨d, hd⟩ : ∃ d, cmpN (val X.data.toList) (val Y.data.toList) = d := ⟨_, rfl⟩
  obtain ⟨d2, hd2⟩ : ∃ d2, cmpN (val Y.data.toList) (val X.data.toList) = d2 := ⟨_, rfl⟩
  have hc0 := h.c
  have hdd := h.d
  have hdi := h.i
  have hm2 := cmpN_small (val Y.data.toList) (val X.data.toList)
  rw [hc] at hc0
  rw [hd, hd2] at hdd
  rw [hd] at hdi
  rw [hd2] at hm2
  obtain ⟨hm3, hm4⟩ := hm2
  have HA : Hid (s.extract 0 31 = A ∧ t = B) := ⟨hA, hB⟩
  have HR : Hid (RulesAt A B X Y S) := h
  have HC : Hid (cmpN (val S.data.toList) (val X.data.toList) = c ∧ cmpN (val X.data.toList) (val Y.data.toList) = d ∧ cmpN (val Y.data.toList) (val X.data.toList) = d2) := ⟨hc, hd, hd2⟩
  have hd0 : ¬ d = 0 := fun e => hxy (hdi.1 e)
  have hxl := list_ne hxy
  have hd3 : (-d2 == 0) = false := beq_eq_false_iff_ne.2 (by omega)
  clear hA hB h hc hd hd2 hdi hxy
  go_enter Tryd.func4, Tryd.ntmps4
  go_wp2_with fail
  refine (awake_any _).mono ?_
  rintro e w1 ⟨rfl, hB⟩
  go_wp2_with fail
  rw [HA.out.1]
  refine (trim_any A _).mono ?_
  rintro e w2 ⟨rfl, rfl⟩
  rw [HR.out.x, mk_list]
  go_wp2_with fail
  rw [HA.out.2]
  refine (trim_any B _).mono ?_
  rintro e w2 ⟨rfl, rfl⟩
  rw [HR.out.y, mk_list]
  go_wp2_with fail
  refine (sadd_any X Y _).mono ?_
  rintro e w3 ⟨rfl, h2⟩
  rw [HR.out.e1, HR.out.s1, mk_list]
  replace hB := hB.trans (h2.mono hB.size)
  clear h2
  go_wp2_with fail
  refine (sadd_any Y X _).mono ?_
  rintro e w3 ⟨rfl, h2⟩
  rw [HR.out.e2, HR.out.s2, mk_list]
  replace hB := hB.trans (h2.mono hB.size)
  clear h2
  go_wp2_with fail
  refine (ssub_any S Y _).mono ?_
  rintro e w3 ⟨rfl, h2⟩
  rw [HR.out.e3, HR.out.s3, mk_list]
  replace hB := hB.trans (h2.mono hB.size)
  clear h2
  go_wp2_with fail
  refine (sright_any S _).mono ?_
  rintro e w3 ⟨rfl, rfl⟩
  rw [HR.out.r]
  go_wp2_with fail
  refine (cmp_any S X _).mono ?_
  rintro e w3 ⟨rfl, rfl⟩
  rw [HC.out.1]
  go_wp2_with fail
  refine (cmp_any X Y _).mono ?_
  rintro e w3 ⟨rfl, rfl⟩
  rw [HC.out.2.1]
  go_wp2_with fail
  refine (cmp_any Y X _).mono ?_
  rintro e w3 ⟨rfl, rfl⟩
  rw [HC.out.2.2]
  go_wp2_with fail
  refine (cmp_any X Y _).mono ?_
  rintro e w3 ⟨rfl, rfl⟩
  rw [HC.out.2.1]
  go_wp2_with fail
  go_ret
  exact ⟨rfl, hB⟩

set_option maxRecDepth 8000 in
set_option maxHeartbeats 4000000 in
theorem rules_nce (s t : ByteArray) (w : World) (hs : ¬ 31 < s.size) (ht :  31 < t.size) (A B X Y S : ByteArray) (hA : s = A) (hB : t.extract 0 31 = B) (h : RulesAt A B X Y S) (hxy : X = Y) : RulesGoal s t w := by
  unfold RulesGoal
  have hsi : ¬ (31 : Int) < s.size := by omega
  have hti :  (31 : Int) < t.size := by omega
  obtain ⟨c, hc⟩ : ∃ c, cmpN (val S.data.toList) (val X.data.toList) = c := ⟨_, rfl⟩
  obtain ⟨d, hd⟩ : ∃ d, cmpN (val X.data.toList) (val Y.data.toList) = d := ⟨_, rfl⟩
  obtain ⟨d2, hd2⟩ : ∃ d2, cmpN (val Y.data.toList) (val X.data.toList) = d2 := ⟨_, rfl⟩
  have hc0 := h.c
  have hdd := h.d
  have hdi := h.i
  have hm2 := cmpN_small (val Y.data.toList) (val X.data.toList)
  rw [hc] at hc0
  rw [hd, hd2] at hdd
  rw [hd] at hdi
  rw [hd2] at hm2
  obtain ⟨hm3, hm4⟩ := hm2
  have HA : Hid (s = A ∧ t.extract 0 31 = B) := ⟨hA, hB⟩
  have HR : Hid (RulesAt A B X Y S) := h
  have HC : Hid (cmpN (val S.data.toList) (val X.data.toList) = c ∧ cmpN (val X.data.toList) (val Y.data.toList) = d ∧ cmpN (val Y.data.toList) (val X.data.toList) = d2) := ⟨hc, hd, hd2⟩
  have hd0 : d = 0 := hdi.2 hxy
  have hd20 : d2 = 0 := by omega
  subst hd0 hd20
  clear hdd hm3 hm4
  have hxl : (X.toList == Y.toList) = true := by rw [hxy]; exact beq_self_eq_true _
  clear hA hB h hc hd hd2 hdi hxy
  go_enter Tryd.func4, Tryd.ntmps4
  go_wp2_with fail
  refine (awake_any _).mono ?_
  rintro e w1 ⟨rfl, hB⟩
  go_wp2_with fail
  rw [HA.out.1]
  refine (trim_any A _).mono ?_
  rintro e w2 ⟨rfl, rfl⟩
  rw [HR.out.x, mk_list]
  go_wp2_with fail
  rw [HA.out.2]
  refine (trim_any B _).mono ?_
  rintro e w2 ⟨rfl, rfl⟩
  rw [HR.out.y, mk_list]
  go_wp2_with fail
  refine (sadd_any X Y _).mono ?_
  rintro e w3 ⟨rfl, h2⟩
  rw [HR.out.e1, HR.out.s1, mk_list]
  replace hB := hB.trans (h2.mono hB.size)
  clear h2
  go_wp2_with fail
  refine (sadd_any Y X _).mono ?_
  rintro e w3 ⟨rfl, h2⟩
  rw [HR.out.e2, HR.out.s2, mk_list]
  replace hB := hB.trans (h2.mono hB.size)
  clear h2
  go_wp2_with fail
  refine (ssub_any S Y _).mono ?_
  rintro e w3 ⟨rfl, h2⟩
  rw [HR.out.e3, HR.out.s3, mk_list]
  replace hB := hB.trans (h2.mono hB.size)
  clear h2
  go_wp2_with fail
  refine (sright_any S _).mono ?_
  rintro e w3 ⟨rfl, rfl⟩
  rw [HR.out.r]
  go_wp2_with fail
  refine (cmp_any S X _).mono ?_
  rintro e w3 ⟨rfl, rfl⟩
  rw [HC.out.1]
  go_wp2_with fail
  refine (cmp_any X Y _).mono ?_
  rintro e w3 ⟨rfl, rfl⟩
  rw [HC.out.2.1]
  go_wp2_with fail
  refine (cmp_any Y X _).mono ?_
  rintro e w3 ⟨rfl, rfl⟩
  rw [HC.out.2.2]
  go_wp2_with fail
  refine (cmp_any X Y _).mono ?_
  rintro e w3 ⟨rfl, rfl⟩
  rw [HC.out.2.1]
  go_wp2_with fail
  go_ret
  exact ⟨rfl, hB⟩

set_option maxRecDepth 8000 in
set_option maxHeartbeats 4000000 in
theorem rules_ncd (s t : ByteArray) (w : World) (hs : ¬ 31 < s.size) (ht :  31 < t.size) (A B X Y S : ByteArray) (hA : s = A) (hB : t.extract 0 31 = B) (h : RulesAt A B X Y S) (hxy : X ≠ Y) : RulesGoal s t w := by
  unfold RulesGoal
  have hsi : ¬ (31 : Int) < s.size := by omega
  have hti :  (31 : Int) < t.size := by omega
  obtain ⟨c, hc⟩ : ∃ c, cmpN (val S.data.toList) (val X.data.toList) = c := ⟨_, rfl⟩
  obtain ⟨d, hd⟩ : ∃ d, cmpN (val X.data.toList) (val Y.data.toList) = d := ⟨_, rfl⟩
  obtain ⟨d2, hd2⟩ : ∃ d2, cmpN (val Y.data.toList) (val X.data.toList) = d2 := ⟨_, rfl⟩
  have hc0 := h.c
  have hdd := h.d
  have hdi := h.i
  have hm2 := cmpN_small (val Y.data.toList) (val X.data.toList)
  rw [hc] at hc0
  rw [hd, hd2] at hdd
  rw [hd] at hdi
  rw [hd2] at hm2
  obtain ⟨hm3, hm4⟩ := hm2
  have HA : Hid (s = A ∧ t.extract 0 31 = B) := ⟨hA, hB⟩
  have HR : Hid (RulesAt A B X Y S) := h
  have HC : Hid (cmpN (val S.data.toList) (val X.data.toList) = c ∧ cmpN (val X.data.toList) (val Y.data.toList) = d ∧ cmpN (val Y.data.toList) (val X.data.toList) = d2) := ⟨hc, hd, hd2⟩
  have hd0 : ¬ d = 0 := fun e => hxy (hdi.1 e)
  have hxl := list_ne hxy
  have hd3 : (-d2 == 0) = false := beq_eq_false_iff_ne.2 (by omega)
  clear hA hB h hc hd hd2 hdi hxy
  go_enter Tryd.func4, Tryd.ntmps4
  go_wp2_with fail
  refine (awake_any _).mono ?_
  rintro e w1 ⟨rfl, hB⟩
  go_wp2_with fail
  rw [HA.out.1]
  refine (trim_any A _).mono ?_
  rintro e w2 ⟨rfl, rfl⟩
  rw [HR.out.x, mk_list]
  go_wp2_with fail
  rw [HA.out.2]
  refine (trim_any B _).mono ?_
  rintro e w2 ⟨rfl, rfl⟩
  rw [HR.out.y, mk_list]
  go_wp2_with fail
  refine (sadd_any X Y _).mono ?_
  rintro e w3 ⟨rfl, h2⟩
  rw [HR.out.e1, HR.out.s1, mk_list]
  replace hB := hB.trans (h2.mono hB.size)
  clear h2
  go_wp2_with fail
  refine (sadd_any Y X _).mono ?_
  rintro e w3 ⟨rfl, h2⟩
  rw [HR.out.e2, HR.out.s2, mk_list]
  replace hB := hB.trans (h2.mono hB.size)
  clear h2
  go_wp2_with fail
  refine (ssub_any S Y _).mono ?_
  rintro e w3 ⟨rfl, h2⟩
  rw [HR.out.e3, HR.out.s3, mk_list]
  replace hB := hB.trans (h2.mono hB.size)
  clear h2
  go_wp2_with fail
  refine (sright_any S _).mono ?_
  rintro e w3 ⟨rfl, rfl⟩
  rw [HR.out.r]
  go_wp2_with fail
  refine (cmp_any S X _).mono ?_
  rintro e w3 ⟨rfl, rfl⟩
  rw [HC.out.1]
  go_wp2_with fail
  refine (cmp_any X Y _).mono ?_
  rintro e w3 ⟨rfl, rfl⟩
  rw [HC.out.2.1]
  go_wp2_with fail
  refine (cmp_any Y X _).mono ?_
  rintro e w3 ⟨rfl, rfl⟩
  rw [HC.out.2.2]
  go_wp2_with fail
  refine (cmp_any X Y _).mono ?_
  rintro e w3 ⟨rfl, rfl⟩
  rw [HC.out.2.1]
  go_wp2_with fail
  go_ret
  exact ⟨rfl, hB⟩

set_option maxRecDepth 8000 in
set_option maxHeartbeats 4000000 in
theorem rules_nne (s t : ByteArray) (w : World) (hs : ¬ 31 < s.size) (ht : ¬ 31 < t.size) (A B X Y S : ByteArray) (hA : s = A) (hB : t = B) (h : RulesAt A B X Y S) (hxy : X = Y) : RulesGoal s t w := by
  unfold RulesGoal
  have hsi : ¬ (31 : Int) < s.size := by omega
  have hti : ¬ (31 : Int) < t.size := by omega
  obtain ⟨c, hc⟩ : ∃ c, cmpN (val S.data.toList) (val X.data.toList) = c := ⟨_, rfl⟩
  obtain ⟨d, hd⟩ : ∃ d, cmpN (val X.data.toList) (val Y.data.toList) = d := ⟨_, rfl⟩
  obtain ⟨d2, hd2⟩ : ∃ d2, cmpN (val Y.data.toList) (val X.data.toList) = d2 := ⟨_, rfl⟩
  have hc0 := h.c
  have hdd := h.d
  have hdi := h.i
  have hm2 := cmpN_small (val Y.data.toList) (val X.data.toList)
  rw [hc] at hc0
  rw [hd, hd2] at hdd
  rw [hd] at hdi
  rw [hd2] at hm2
  obtain ⟨hm3, hm4⟩ := hm2
  have HA : Hid (s = A ∧ t = B) := ⟨hA, hB⟩
  have HR : Hid (RulesAt A B X Y S) := h
  have HC : Hid (cmpN (val S.data.toList) (val X.data.toList) = c ∧ cmpN (val X.data.toList) (val Y.data.toList) = d ∧ cmpN (val Y.data.toList) (val X.data.toList) = d2) := ⟨hc, hd, hd2⟩
  have hd0 : d = 0 := hdi.2 hxy
  have hd20 : d2 = 0 := by omega
  subst hd0 hd20
  clear hdd hm3 hm4
  have hxl : (X.toList == Y.toList) = true := by rw [hxy]; exact beq_self_eq_true _
  clear hA hB h hc hd hd2 hdi hxy
  go_enter Tryd.func4, Tryd.ntmps4
  go_wp2_with fail
  refine (awake_any _).mono ?_
  rintro e w1 ⟨rfl, hB⟩
  go_wp2_with fail
  rw [HA.out.1]
  refine (trim_any A _).mono ?_
  rintro e w2 ⟨rfl, rfl⟩
  rw [HR.out.x, mk_list]
  go_wp2_with fail
  rw [HA.out.2]
  refine (trim_any B _).mono ?_
  rintro e w2 ⟨rfl, rfl⟩
  rw [HR.out.y, mk_list]
  go_wp2_with fail
  refine (sadd_any X Y _).mono ?_
  rintro e w3 ⟨rfl, h2⟩
  rw [HR.out.e1, HR.out.s1, mk_list]
  replace hB := hB.trans (h2.mono hB.size)
  clear h2
  go_wp2_with fail
  refine (sadd_any Y X _).mono ?_
  rintro e w3 ⟨rfl, h2⟩
  rw [HR.out.e2, HR.out.s2, mk_list]
  replace hB := hB.trans (h2.mono hB.size)
  clear h2
  go_wp2_with fail
  refine (ssub_any S Y _).mono ?_
  rintro e w3 ⟨rfl, h2⟩
  rw [HR.out.e3, HR.out.s3, mk_list]
  replace hB := hB.trans (h2.mono hB.size)
  clear h2
  go_wp2_with fail
  refine (sright_any S _).mono ?_
  rintro e w3 ⟨rfl, rfl⟩
  rw [HR.out.r]
  go_wp2_with fail
  refine (cmp_any S X _).mono ?_
  rintro e w3 ⟨rfl, rfl⟩
  rw [HC.out.1]
  go_wp2_with fail
  refine (cmp_any X Y _).mono ?_
  rintro e w3 ⟨rfl, rfl⟩
  rw [HC.out.2.1]
  go_wp2_with fail
  refine (cmp_any Y X _).mono ?_
  rintro e w3 ⟨rfl, rfl⟩
  rw [HC.out.2.2]
  go_wp2_with fail
  refine (cmp_any X Y _).mono ?_
  rintro e w3 ⟨rfl, rfl⟩
  rw [HC.out.2.1]
  go_wp2_with fail
  go_ret
  exact ⟨rfl, hB⟩

set_option maxRecDepth 8000 in
set_option maxHeartbeats 4000000 in
theorem rules_nnd (s t : ByteArray) (w : World) (hs : ¬ 31 < s.size) (ht : ¬ 31 < t.size) (A B X Y S : ByteArray) (hA : s = A) (hB : t = B) (h : RulesAt A B X Y S) (hxy : X ≠ Y) : RulesGoal s t w := by
  unfold RulesGoal
  have hsi : ¬ (31 : Int) < s.size := by omega
  have hti : ¬ (31 : Int) < t.size := by omega
  obtain ⟨c, hc⟩ : ∃ c, cmpN (val S.data.toList) (val X.data.toList) = c := ⟨_, rfl⟩
  obtain ⟨d, hd⟩ : ∃ d, cmpN (val X.data.toList) (val Y.data.toList) = d := ⟨_, rfl⟩
  obtain ⟨d2, hd2⟩ : ∃ d2, cmpN (val Y.data.toList) (val X.data.toList) = d2 := ⟨_, rfl⟩
  have hc0 := h.c
  have hdd := h.d
  have hdi := h.i
  have hm2 := cmpN_small (val Y.data.toList) (val X.data.toList)
  rw [hc] at hc0
  rw [hd, hd2] at hdd
  rw [hd] at hdi
  rw [hd2] at hm2
  obtain ⟨hm3, hm4⟩ := hm2
  have HA : Hid (s = A ∧ t = B) := ⟨hA, hB⟩
  have HR : Hid (RulesAt A B X Y S) := h
  have HC : Hid (cmpN (val S.data.toList) (val X.data.toList) = c ∧ cmpN (val X.data.toList) (val Y.data.toList) = d ∧ cmpN (val Y.data.toList) (val X.data.toList) = d2) := ⟨hc, hd, hd2⟩
  have hd0 : ¬ d = 0 := fun e => hxy (hdi.1 e)
  have hxl := list_ne hxy
  have hd3 : (-d2 == 0) = false := beq_eq_false_iff_ne.2 (by omega)
  clear hA hB h hc hd hd2 hdi hxy
  go_enter Tryd.func4, Tryd.ntmps4
  go_wp2_with fail
  refine (awake_any _).mono ?_
  rintro e w1 ⟨rfl, hB⟩
  go_wp2_with fail
  rw [HA.out.1]
  refine (trim_any A _).mono ?_
  rintro e w2 ⟨rfl, rfl⟩
  rw [HR.out.x, mk_list]
  go_wp2_with fail
  rw [HA.out.2]
  refine (trim_any B _).mono ?_
  rintro e w2 ⟨rfl, rfl⟩
  rw [HR.out.y, mk_list]
  go_wp2_with fail
  refine (sadd_any X Y _).mono ?_
  rintro e w3 ⟨rfl, h2⟩
  rw [HR.out.e1, HR.out.s1, mk_list]
  replace hB := hB.trans (h2.mono hB.size)
  clear h2
  go_wp2_with fail
  refine (sadd_any Y X _).mono ?_
  rintro e w3 ⟨rfl, h2⟩
  rw [HR.out.e2, HR.out.s2, mk_list]
  replace hB := hB.trans (h2.mono hB.size)
  clear h2
  go_wp2_with fail
  refine (ssub_any S Y _).mono ?_
  rintro e w3 ⟨rfl, h2⟩
  rw [HR.out.e3, HR.out.s3, mk_list]
  replace hB := hB.trans (h2.mono hB.size)
  clear h2
  go_wp2_with fail
  refine (sright_any S _).mono ?_
  rintro e w3 ⟨rfl, rfl⟩
  rw [HR.out.r]
  go_wp2_with fail
  refine (cmp_any S X _).mono ?_
  rintro e w3 ⟨rfl, rfl⟩
  rw [HC.out.1]
  go_wp2_with fail
  refine (cmp_any X Y _).mono ?_
  rintro e w3 ⟨rfl, rfl⟩
  rw [HC.out.2.1]
  go_wp2_with fail
  refine (cmp_any Y X _).mono ?_
  rintro e w3 ⟨rfl, rfl⟩
  rw [HC.out.2.2]
  go_wp2_with fail
  refine (cmp_any X Y _).mono ?_
  rintro e w3 ⟨rfl, rfl⟩
  rw [HC.out.2.1]
  go_wp2_with fail
  go_ret
  exact ⟨rfl, hB⟩

theorem rules_walk (s t : ByteArray) (w : World) : RulesGoal s t w := by
  by_cases hs : 31 < s.size
  · by_cases ht : 31 < t.size
    · obtain ⟨X, Y, S, h⟩ := rulesAt (s.extract 0 31) (t.extract 0 31) (by rw [cut_size s 31 hs]; omega) (by rw [cut_size t 31 ht]; omega)
      by_cases q : X = Y
      · exact rules_cce s t w hs ht _ _ X Y S rfl rfl h q
      · exact rules_ccd s t w hs ht _ _ X Y S rfl rfl h q
    · obtain ⟨X, Y, S, h⟩ := rulesAt (s.extract 0 31) t (by rw [cut_size s 31 hs]; omega) (by omega)
      by_cases q : X = Y
      · exact rules_cne s t w hs ht _ _ X Y S rfl rfl h q
      · exact rules_cnd s t w hs ht _ _ X Y S rfl rfl h q
  · by_cases ht : 31 < t.size
    · obtain ⟨X, Y, S, h⟩ := rulesAt s (t.extract 0 31) (by omega) (by rw [cut_size t 31 ht]; omega)
      by_cases q : X = Y
      · exact rules_nce s t w hs ht _ _ X Y S rfl rfl h q
      · exact rules_ncd s t w hs ht _ _ X Y S rfl rfl h q
    · obtain ⟨X, Y, S, h⟩ := rulesAt s t (by omega) (by omega)
      by_cases q : X = Y
      · exact rules_nne s t w hs ht _ _ X Y S rfl rfl h q
      · exact rules_nnd s t w hs ht _ _ X Y S rfl rfl h q
end Go.Proofs.YtamijfdhaahalaaDoor
