/-
  ScalarNumbers walked.
-/
import Derived.Test.YtamijfdhaahalaaDoorAwake4
import Derived.Test.YtamijfdhaahalaaDoorSRefD
namespace Go.Proofs.YtamijfdhaahalaaDoor
open Go Go.RowKit

def NumbersGoal (s t : ByteArray) (w : World) : Prop :=
    Calls Tryd.prog 3 #[.string s, .string t] w fun e w' => e = .returned (.bool true) ∧ Below w.heap.size w w'
theorem cut_size (x : ByteArray) (n : Nat) (h : n < x.size) : (x.extract 0 n).size = n := by rw [ByteArray.size_extract]; omega

set_option maxRecDepth 8000 in
set_option maxHeartbeats 4000000 in
theorem numbers_cc (s t : ByteArray) (w : World) (hs :  2000 < s.size) (ht :  2000 < t.size) (A B : ByteArray) (hA : s.extract 0 2000 = A) (hB : t.extract 0 2000 = B) (hAs : A.size ≤ 2000) (hBs : B.size ≤ 2000) : NumbersGoal s t w := by
  unfold NumbersGoal
  have hsi :  (2000 : Int) < s.size := by omega
  have hti :  (2000 : Int) < t.size := by omega
  obtain ⟨W, hW⟩ : ∃ W : ByteArray, ⟨(wideS A.data.toList).toArray⟩ = W := ⟨_, rfl⟩
  obtain ⟨We, hWe⟩ : ∃ e, wideE A.data.toList = e := ⟨_, rfl⟩
  obtain ⟨P, hP⟩ : ∃ P : ByteArray, ⟨(addS A.data.toList B.data.toList).toArray⟩ = P := ⟨_, rfl⟩
  obtain ⟨Pe, hPe⟩ : ∃ e, addE A.data.toList B.data.toList = e := ⟨_, rfl⟩
  obtain ⟨D, hD⟩ : ∃ D : ByteArray, ⟨(subS A.data.toList B.data.toList).toArray⟩ = D := ⟨_, rfl⟩
  obtain ⟨De, hDe⟩ : ∃ e, subE A.data.toList B.data.toList = e := ⟨_, rfl⟩
  obtain ⟨T, hT⟩ : ∃ T : ByteArray, ⟨(trimL A.data.toList).toArray⟩ = T := ⟨_, rfl⟩
  obtain ⟨r, hr⟩ : ∃ r, rightN A.data.toList = r := ⟨_, rfl⟩
  obtain ⟨c, hc⟩ : ∃ c, cmpN (val A.data.toList) (val B.data.toList) = c := ⟨_, rfl⟩
  have HA : Hid (s.extract 0 2000 = A ∧ t.extract 0 2000 = B) := ⟨hA, hB⟩
  have HW : Hid ((⟨(wideS A.data.toList).toArray⟩ : ByteArray) = W ∧ wideE A.data.toList = We) := ⟨hW, hWe⟩
  have HP : Hid ((⟨(addS A.data.toList B.data.toList).toArray⟩ : ByteArray) = P ∧ addE A.data.toList B.data.toList = Pe) := ⟨hP, hPe⟩
  have HD : Hid ((⟨(subS A.data.toList B.data.toList).toArray⟩ : ByteArray) = D ∧ subE A.data.toList B.data.toList = De) := ⟨hD, hDe⟩
  have HT : Hid ((⟨(trimL A.data.toList).toArray⟩ : ByteArray) = T) := hT
  have HR : Hid (rightN A.data.toList = r) := hr
  have HC : Hid (cmpN (val A.data.toList) (val B.data.toList) = c) := hc
  clear hA hB hW hWe hP hPe hD hDe hT hr hc
  go_enter Tryd.func3, Tryd.ntmps3
  go_wp2_with fail
  refine (awake_any _).mono ?_
  rintro e w1 ⟨rfl, hB⟩
  go_wp2_with fail
  rw [HA.out.1]
  refine (wide_any A _).mono ?_
  rintro e w2 ⟨rfl, h2⟩
  rw [HW.out.1, HW.out.2]
  replace hB := hB.trans (h2.mono hB.size)
  clear h2
  go_wp2_with fail
  refine (qwide_any A _).mono ?_
  rintro e w2 ⟨rfl, h2⟩
  rw [HW.out.1, HW.out.2]
  replace hB := hB.trans (h2.mono hB.size)
  clear h2
  go_wp2_with fail
  rw [HA.out.2]
  refine (sadd_any A B _).mono ?_
  rintro e w2 ⟨rfl, h2⟩
  rw [HP.out.1, HP.out.2]
  replace hB := hB.trans (h2.mono hB.size)
  clear h2
  go_wp2_with fail
  refine (qadd_any A B _).mono ?_
  rintro e w2 ⟨rfl, h2⟩
  rw [HP.out.1, HP.out.2]
  replace hB := hB.trans (h2.mono hB.size)
  clear h2
  go_wp2_with fail
  refine (ssub_any A B _).mono ?_
  rintro e w2 ⟨rfl, h2⟩
  rw [HD.out.1, HD.out.2]
  replace hB := hB.trans (h2.mono hB.size)
  clear h2
  go_wp2_with fail
  refine (qsub_any A B _).mono ?_
  rintro e w2 ⟨rfl, h2⟩
  rw [HD.out.1, HD.out.2]
  replace hB := hB.trans (h2.mono hB.size)
  clear h2
  go_wp2_with fail
  refine (trim_any A _).mono ?_
  rintro e w2 ⟨rfl, rfl⟩
  rw [HT.out]
  go_wp2_with fail
  refine (qtrim_any A _).mono ?_
  rintro e w2 ⟨rfl, rfl⟩
  rw [HT.out]
  go_wp2_with fail
  refine (sright_any A _).mono ?_
  rintro e w2 ⟨rfl, rfl⟩
  rw [HR.out]
  go_wp2_with fail
  refine (qright_any A _).mono ?_
  rintro e w2 ⟨rfl, rfl⟩
  rw [HR.out]
  go_wp2_with fail
  refine (cmp_any A B _).mono ?_
  rintro e w2 ⟨rfl, rfl⟩
  rw [HC.out]
  go_wp2_with fail
  refine (qcmp_any A B _ (by omega) (by omega)).mono ?_
  rintro e w2 ⟨rfl, h2⟩
  rw [HC.out]
  replace hB := hB.trans (h2.mono hB.size)
  clear h2
  go_wp2_with fail
  go_ret
  exact ⟨rfl, hB⟩

set_option maxRecDepth 8000 in
set_option maxHeartbeats 4000000 in
theorem numbers_cn (s t : ByteArray) (w : World) (hs :  2000 < s.size) (ht : ¬ 2000 < t.size) (A B : ByteArray) (hA : s.extract 0 2000 = A) (hB : t = B) (hAs : A.size ≤ 2000) (hBs : B.size ≤ 2000) : NumbersGoal s t w := by
  unfold NumbersGoal
  have hsi :  (2000 : Int) < s.size := by omega
  have hti : ¬ (2000 : Int) < t.size := by omega
  obtain ⟨W, hW⟩ : ∃ W : ByteArray, ⟨(wideS A.data.toList).toArray⟩ = W := ⟨_, rfl⟩
  obtain ⟨We, hWe⟩ : ∃ e, wideE A.data.toList = e := ⟨_, rfl⟩
  obtain ⟨P, hP⟩ : ∃ P : ByteArray, ⟨(addS A.data.toList B.data.toList).toArray⟩ = P := ⟨_, rfl⟩
  obtain ⟨Pe, hPe⟩ : ∃ e, addE A.data.toList B.data.toList = e := ⟨_, rfl⟩
  obtain ⟨D, hD⟩ : ∃ D : ByteArray, ⟨(subS A.data.toList B.data.toList).toArray⟩ = D := ⟨_, rfl⟩
  obtain ⟨De, hDe⟩ : ∃ e, subE A.data.toList B.data.toList = e := ⟨_, rfl⟩
  obtain ⟨T, hT⟩ : ∃ T : ByteArray, ⟨(trimL A.data.toList).toArray⟩ = T := ⟨_, rfl⟩
  obtain ⟨r, hr⟩ : ∃ r, rightN A.data.toList = r := ⟨_, rfl⟩
  obtain ⟨c, hc⟩ : ∃ c, cmpN (val A.data.toList) (val B.data.toList) = c := ⟨_, rfl⟩
  have HA : Hid (s.extract 0 2000 = A ∧ t = B) := ⟨hA, hB⟩
  have HW : Hid ((⟨(wideS A.data.toList).toArray⟩ : ByteArray) = W ∧ wideE A.data.toList = We) := ⟨hW, hWe⟩
  have HP : Hid ((⟨(addS A.data.toList B.data.toList).toArray⟩ : ByteArray) = P ∧ addE A.data.toList B.data.toList = Pe) := ⟨hP, hPe⟩
  have HD : Hid ((⟨(subS A.data.toList B.data.toList).toArray⟩ : ByteArray) = D ∧ subE A.data.toList B.data.toList = De) := ⟨hD, hDe⟩
  have HT : Hid ((⟨(trimL A.data.toList).toArray⟩ : ByteArray) = T) := hT
  have HR : Hid (rightN A.data.toList = r) := hr
  have HC : Hid (cmpN (val A.data.toList) (val B.data.toList) = c) := hc
  clear hA hB hW hWe hP hPe hD hDe hT hr hc
  go_enter Tryd.func3, Tryd.ntmps3
  go_wp2_with fail
  refine (awake_any _).mono ?_
  rintro e w1 ⟨rfl, hB⟩
  go_wp2_with fail
  rw [HA.out.1]
  refine (wide_any A _).mono ?_
  rintro e w2 ⟨rfl, h2⟩
  rw [HW.out.1, HW.out.2]
  replace hB := hB.trans (h2.mono hB.size)
  clear h2
  go_wp2_with fail
  refine (qwide_any A _).mono ?_
  rintro e w2 ⟨rfl, h2⟩
  rw [HW.out.1, HW.out.2]
  replace hB := hB.trans (h2.mono hB.size)
  clear h2
  go_wp2_with fail
  rw [HA.out.2]
  refine (sadd_any A B _).mono ?_
  rintro e w2 ⟨rfl, h2⟩
  rw [HP.out.1, HP.out.2]
  replace hB := hB.trans (h2.mono hB.size)
  clear h2
  go_wp2_with fail
  refine (qadd_any A B _).mono ?_
  rintro e w2 ⟨rfl, h2⟩
  rw [HP.out.1, HP.out.2]
  replace hB := hB.trans (h2.mono hB.size)
  clear h2
  go_wp2_with fail
  refine (ssub_any A B _).mono ?_
  rintro e w2 ⟨rfl, h2⟩
  rw [HD.out.1, HD.out.2]
  replace hB := hB.trans (h2.mono hB.size)
  clear h2
  go_wp2_with fail
  refine (qsub_any A B _).mono ?_
  rintro e w2 ⟨rfl, h2⟩
  rw [HD.out.1, HD.out.2]
  replace hB := hB.trans (h2.mono hB.size)
  clear h2
  go_wp2_with fail
  refine (trim_any A _).mono ?_
  rintro e w2 ⟨rfl, rfl⟩
  rw [HT.out]
  go_wp2_with fail
  refine (qtrim_any A _).mono ?_
  rintro e w2 ⟨rfl, rfl⟩
  rw [HT.out]
  go_wp2_with fail
  refine (sright_any A _).mono ?_
  rintro e w2 ⟨rfl, rfl⟩
  rw [HR.out]
  go_wp2_with fail
  refine (qright_any A _).mono ?_
  rintro e w2 ⟨rfl, rfl⟩
  rw [HR.out]
  go_wp2_with fail
  refine (cmp_any A B _).mono ?_
  rintro e w2 ⟨rfl, rfl⟩
  rw [HC.out]
  go_wp2_with fail
  refine (qcmp_any A B _ (by omega) (by omega)).mono ?_
  rintro e w2 ⟨rfl, h2⟩
  rw [HC.out]
  replace hB := hB.trans (h2.mono hB.size)
  clear h2
  go_wp2_with fail
  go_ret
  exact ⟨rfl, hB⟩

set_option maxRecDepth 8000 in
set_option maxHeartbeats 4000000 in
theorem numbers_nc (s t : ByteArray) (w : World) (hs : ¬ 2000 < s.size) (ht :  2000 < t.size) (A B : ByteArray) (hA : s = A) (hB : t.extract 0 2000 = B) (hAs : A.size ≤ 2000) (hBs : B.size ≤ 2000) : NumbersGoal s t w := by
  unfold NumbersGoal
  have hsi : ¬ (2000 : Int) < s.size := by omega
  have hti :  (2000 : Int) < t.size := by omega
  obtain ⟨W, hW⟩ : ∃ W : ByteArray, ⟨(wideS A.data.toList).toArray⟩ = W := ⟨_, rfl⟩
  obtain ⟨We, hWe⟩ : ∃ e, wideE A.data.toList = e := ⟨_, rfl⟩
  obtain ⟨P, hP⟩ : ∃ P : ByteArray, ⟨(addS A.data.toList B.data.toList).toArray⟩ = P := ⟨_, rfl⟩
  obtain ⟨Pe, hPe⟩ : ∃ e, addE A.data.toList B.data.toList = e := ⟨_, rfl⟩
  obtain ⟨D, hD⟩ : ∃ D : ByteArray, ⟨(subS A.data.toList B.data.toList).toArray⟩ = D := ⟨_, rfl⟩
  obtain ⟨De, hDe⟩ : ∃ e, subE A.data.toList B.data.toList = e := ⟨_, rfl⟩
  obtain ⟨T, hT⟩ : ∃ T : ByteArray, ⟨(trimL A.data.toList).toArray⟩ = T := ⟨_, rfl⟩
  obtain ⟨r, hr⟩ : ∃ r, rightN A.data.toList = r := ⟨_, rfl⟩
  obtain ⟨c, hc⟩ : ∃ c, cmpN (val A.data.toList) (val B.data.toList) = c := ⟨_, rfl⟩
  have HA : Hid (s = A ∧ t.extract 0 2000 = B) := ⟨hA, hB⟩
  have HW : Hid ((⟨(wideS A.data.toList).toArray⟩ : ByteArray) = W ∧ wideE A.data.toList = We) := ⟨hW, hWe⟩
  have HP : Hid ((⟨(addS A.data.toList B.data.toList).toArray⟩ : ByteArray) = P ∧ addE A.data.toList B.data.toList = Pe) := ⟨hP, hPe⟩
  have HD : Hid ((⟨(subS A.data.toList B.data.toList).toArray⟩ : ByteArray) = D ∧ subE A.data.toList B.data.toList = De) := ⟨hD, hDe⟩
  have HT : Hid ((⟨(trimL A.data.toList).toArray⟩ : ByteArray) = T) := hT
  have HR : Hid (rightN A.data.toList = r) := hr
  have HC : Hid (cmpN (val A.data.toList) (val B.data.toList) = c) := hc
  clear hA hB hW hWe hP hPe hD hDe hT hr hc
  go_enter Tryd.func3, Tryd.ntmps3
  go_wp2_with fail
  refine (awake_any _).mono ?_
  rintro e w1 ⟨rfl, hB⟩
  go_wp2_with fail
  rw [HA.out.1]
  refine (wide_any A _).mono ?_
  rintro e w2 ⟨rfl, h2⟩
  rw [HW.out.1, HW.out.2]
  replace hB := hB.trans (h2.mono hB.size)
  clear h2
  go_wp2_with fail
  refine (qwide_any A _).mono ?_
  rintro e w2 ⟨rfl, h2⟩
  rw [HW.out.1, HW.out.2]
  replace hB := hB.trans (h2.mono hB.size)
  clear h2
  go_wp2_with fail
  rw [HA.out.2]
  refine (sadd_any A B _).mono ?_
  rintro e w2 ⟨rfl, h2⟩
  rw [HP.out.1, HP.out.2]
  replace hB := hB.trans (h2.mono hB.size)
  clear h2
  go_wp2_with fail
  refine (qadd_any A B _).mono ?_
  rintro e w2 ⟨rfl, h2⟩
  rw [HP.out.1, HP.out.2]
  replace hB := hB.trans (h2.mono hB.size)
  clear h2
  go_wp2_with fail
  refine (ssub_any A B _).mono ?_
  rintro e w2 ⟨rfl, h2⟩
  rw [HD.out.1, HD.out.2]
  replace hB := hB.trans (h2.mono hB.size)
  clear h2
  go_wp2_with fail
  refine (qsub_any A B _).mono ?_
  rintro e w2 ⟨rfl, h2⟩
  rw [HD.out.1, HD.out.2]
  replace hB := hB.trans (h2.mono hB.size)
  clear h2
  go_wp2_with fail
  refine (trim_any A _).mono ?_
  rintro e w2 ⟨rfl, rfl⟩
  rw [HT.out]
  go_wp2_with fail
  refine (qtrim_any A _).mono ?_
  rintro e w2 ⟨rfl, rfl⟩
  rw [HT.out]
  go_wp2_with fail
  refine (sright_any A _).mono ?_
  rintro e w2 ⟨rfl, rfl⟩
  rw [HR.out]
  go_wp2_with fail
  refine (qright_any A _).mono ?_
  rintro e w2 ⟨rfl, rfl⟩
  rw [HR.out]
  go_wp2_with fail
  refine (cmp_any A B _).mono ?_
  rintro e w2 ⟨rfl, rfl⟩
  rw [HC.out]
  go_wp2_with fail
  refine (qcmp_any A B _ (by omega) (by omega)).mono ?_
  rintro e w2 ⟨rfl, h2⟩
  rw [HC.out]
  replace hB := hB.trans (h2.mono hB.size)
  clear h2
  go_wp2_with fail
  go_ret
  exact ⟨rfl, hB⟩

set_option maxRecDepth 8000 in
set_option maxHeartbeats 4000000 in
theorem numbers_nn (s t : ByteArray) (w : World) (hs : ¬ 2000 < s.size) (ht : ¬ 2000 < t.size) (A B : ByteArray) (hA : s = A) (hB : t = B) (hAs : A.size ≤ 2000) (hBs : B.size ≤ 2000) : NumbersGoal s t w := by
  unfold NumbersGoal
  have hsi : ¬ (2000 : Int) < s.size := by omega
  have hti : ¬ (2000 : Int) < t.size := by omega
  obtain ⟨W, hW⟩ : ∃ W : ByteArray, ⟨(wideS A.data.toList).toArray⟩ = W := ⟨_, rfl⟩
  obtain ⟨We, hWe⟩ : ∃ e, wideE A.data.toList = e := ⟨_, rfl⟩
  obtain ⟨P, hP⟩ : ∃ P : ByteArray, ⟨(addS A.data.toList B.data.toList).toArray⟩ = P := ⟨_, rfl⟩
  obtain ⟨Pe, hPe⟩ : ∃ e, addE A.data.toList B.data.toList = e := ⟨_, rfl⟩
  obtain ⟨D, hD⟩ : ∃ D : ByteArray, ⟨(subS A.data.toList B.data.toList).toArray⟩ = D := ⟨_, rfl⟩
  obtain ⟨De, hDe⟩ : ∃ e, subE A.data.toList B.data.toList = e := ⟨_, rfl⟩
  obtain ⟨T, hT⟩ : ∃ T : ByteArray, ⟨(trimL A.data.toList).toArray⟩ = T := ⟨_, rfl⟩
  obtain ⟨r, hr⟩ : ∃ r, rightN A.data.toList = r := ⟨_, rfl⟩
  obtain ⟨c, hc⟩ : ∃ c, cmpN (val A.data.toList) (val B.data.toList) = c := ⟨_, rfl⟩
  have HA : Hid (s = A ∧ t = B) := ⟨hA, hB⟩
  have HW : Hid ((⟨(wideS A.data.toList).toArray⟩ : ByteArray) = W ∧ wideE A.data.toList = We) := ⟨hW, hWe⟩
  have HP : Hid ((⟨(addS A.data.toList B.data.toList).toArray⟩ : ByteArray) = P ∧ addE A.data.toList B.data.toList = Pe) := ⟨hP, hPe⟩
  have HD : Hid ((⟨(subS A.data.toList B.data.toList).toArray⟩ : ByteArray) = D ∧ subE A.data.toList B.data.toList = De) := ⟨hD, hDe⟩
  have HT : Hid ((⟨(trimL A.data.toList).toArray⟩ : ByteArray) = T) := hT
  have HR : Hid (rightN A.data.toList = r) := hr
  have HC : Hid (cmpN (val A.data.toList) (val B.data.toList) = c) := hc
  clear hA hB hW hWe hP hPe hD hDe hT hr hc
  go_enter Tryd.func3, Tryd.ntmps3
  go_wp2_with fail
  refine (awake_any _).mono ?_
  rintro e w1 ⟨rfl, hB⟩
  go_wp2_with fail
  rw [HA.out.1]
  refine (wide_any A _).mono ?_
  rintro e w2 ⟨rfl, h2⟩
  rw [HW.out.1, HW.out.2]
  replace hB := hB.trans (h2.mono hB.size)
  clear h2
  go_wp2_with fail
  refine (qwide_any A _).mono ?_
  rintro e w2 ⟨rfl, h2⟩
  rw [HW.out.1, HW.out.2]
  replace hB := hB.trans (h2.mono hB.size)
  clear h2
  go_wp2_with fail
  rw [HA.out.2]
  refine (sadd_any A B _).mono ?_
  rintro e w2 ⟨rfl, h2⟩
  rw [HP.out.1, HP.out.2]
  replace hB := hB.trans (h2.mono hB.size)
  clear h2
  go_wp2_with fail
  refine (qadd_any A B _).mono ?_
  rintro e w2 ⟨rfl, h2⟩
  rw [HP.out.1, HP.out.2]
  replace hB := hB.trans (h2.mono hB.size)
  clear h2
  go_wp2_with fail
  refine (ssub_any A B _).mono ?_
  rintro e w2 ⟨rfl, h2⟩
  rw [HD.out.1, HD.out.2]
  replace hB := hB.trans (h2.mono hB.size)
  clear h2
  go_wp2_with fail
  refine (qsub_any A B _).mono ?_
  rintro e w2 ⟨rfl, h2⟩
  rw [HD.out.1, HD.out.2]
  replace hB := hB.trans (h2.mono hB.size)
  clear h2
  go_wp2_with fail
  refine (trim_any A _).mono ?_
  rintro e w2 ⟨rfl, rfl⟩
  rw [HT.out]
  go_wp2_with fail
  refine (qtrim_any A _).mono ?_
  rintro e w2 ⟨rfl, rfl⟩
  rw [HT.out]
  go_wp2_with fail
  refine (sright_any A _).mono ?_
  rintro e w2 ⟨rfl, rfl⟩
  rw [HR.out]
  go_wp2_with fail
  refine (qright_any A _).mono ?_
  rintro e w2 ⟨rfl, rfl⟩
  rw [HR.out]
  go_wp2_with fail
  refine (cmp_any A B _).mono ?_
  rintro e w2 ⟨rfl, rfl⟩
  rw [HC.out]
  go_wp2_with fail
  refine (qcmp_any A B _ (by omega) (by omega)).mono ?_
  rintro e w2 ⟨rfl, h2⟩
  rw [HC.out]
  replace hB := hB.trans (h2.mono hB.size)
  clear h2
  go_wp2_with fail
  go_ret
  exact ⟨rfl, hB⟩

theorem snumbers_walk (s t : ByteArray) (w : World) : NumbersGoal s t w := by
  by_cases hs : 2000 < s.size
  · by_cases ht : 2000 < t.size
    · exact numbers_cc s t w hs ht _ _ rfl rfl (by rw [cut_size s 2000 hs]; omega) (by rw [cut_size t 2000 ht]; omega)
    · exact numbers_cn s t w hs ht _ _ rfl rfl (by rw [cut_size s 2000 hs]; omega) (by omega)
  · by_cases ht : 2000 < t.size
    · exact numbers_nc s t w hs ht _ _ rfl rfl (by omega) (by rw [cut_size t 2000 ht]; omega)
    · exact numbers_nn s t w hs ht _ _ rfl rfl (by omega) (by omega)
end Go.Proofs.YtamijfdhaahalaaDoor
