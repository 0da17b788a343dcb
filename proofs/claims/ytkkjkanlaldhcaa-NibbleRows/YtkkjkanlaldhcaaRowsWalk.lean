/-
  NibbleRows walked.
-/
import Derived.Test.YtkkjkanlaldhcaaAwake3
import Derived.Test.YtkkjkanlaldhcaaRefD
namespace Go.Proofs.Ytkkjkanlaldhcaa
open Go Go.RowKit

def RowsGoal (s t : ByteArray) (leaf : Bool) (w : World) : Prop :=
    Calls Try.prog 3 #[.string s, .string t, .bool leaf] w fun e w' => e = .returned (.bool true) ∧ Below w.heap.size w w'

set_option maxRecDepth 16000 in
set_option maxHeartbeats 8000000 in
theorem rows_00 (s t : ByteArray) (leaf : Bool) (w : World) (h1 : ¬ 3000 < s.size) (h2 : ¬ 3000 < t.size) : RowsGoal s t leaf w := by
  unfold RowsGoal
  have h1i : ¬ (3000 : Int) < s.size := by omega
  have h2i : ¬ (3000 : Int) < t.size := by omega
  obtain ⟨S, hS⟩ : ∃ X, X = s := ⟨_, rfl⟩
  have hSs : S.size ≤ 3000 := by rw [hS]; omega
  subst hS
  obtain ⟨T, hT⟩ : ∃ X, X = t := ⟨_, rfl⟩
  have hTs : T.size ≤ 3000 := by rw [hT]; omega
  subst hT
  obtain ⟨a, ha⟩ : ∃ a, bytS S.data.toList = a := ⟨_, rfl⟩
  obtain ⟨b, hb⟩ : ∃ b, bytB S.data.toList = b := ⟨_, rfl⟩
  obtain ⟨c, hc⟩ : ∃ c, pckS S.data.toList leaf = c := ⟨_, rfl⟩
  obtain ⟨d, hd⟩ : ∃ d, pckE S.data.toList = d := ⟨_, rfl⟩
  obtain ⟨f, hf⟩ : ∃ f, unpS T.data.toList = f := ⟨_, rfl⟩
  obtain ⟨g, hg⟩ : ∃ g, unpB T.data.toList = g := ⟨_, rfl⟩
  obtain ⟨i, hi⟩ : ∃ i, unpE T.data.toList = i := ⟨_, rfl⟩
  obtain ⟨j, hj⟩ : ∃ j, nxtS S.data.toList = j := ⟨_, rfl⟩
  obtain ⟨k, hk⟩ : ∃ k, nxtB S.data.toList = k := ⟨_, rfl⟩
  obtain ⟨l, hl⟩ : ∃ l, (⟨(hal S.data.toList).toArray⟩ : ByteArray) = l := ⟨_, rfl⟩
  obtain ⟨m, hm⟩ : ∃ m, rightL S.data.toList = m := ⟨_, rfl⟩
  obtain ⟨n, hn⟩ : ∃ n, pre S.data.toList T.data.toList = n := ⟨_, rfl⟩
  obtain ⟨o, ho⟩ : ∃ o, Op.bytesLess S.data.toList T.data.toList = o := ⟨_, rfl⟩
  have E1 : Hid (bytS S.data.toList = a) := ha
  have E2 : Hid (bytB S.data.toList = b) := hb
  have E3 : Hid (pckS S.data.toList leaf = c) := hc
  have E4 : Hid (pckE S.data.toList = d) := hd
  have E5 : Hid (unpS T.data.toList = f) := hf
  have E6 : Hid (unpB T.data.toList = g) := hg
  have E7 : Hid (unpE T.data.toList = i) := hi
  have E8 : Hid (nxtS S.data.toList = j) := hj
  have E9 : Hid (nxtB S.data.toList = k) := hk
  have E10 : Hid ((⟨(hal S.data.toList).toArray⟩ : ByteArray) = l) := hl
  have E11 : Hid (rightL S.data.toList = m) := hm
  have E12 : Hid (pre S.data.toList T.data.toList = n) := hn
  have E13 : Hid (Op.bytesLess S.data.toList T.data.toList = o) := ho
  clear ha hb hc hd hf hg hi hj hk hl hm hn ho
  go_enter Try.func3, Try.ntmps3
  go_wp2_with fail
  refine (awake_any _).mono ?_
  rintro e v1 ⟨rfl, HB⟩
  go_wp2_with fail
  refine (bytes_any S _ (by omega)).mono ?_
  rintro e vv ⟨rfl, h⟩
  replace HB := HB.trans (h.mono HB.size)
  clear h
  rw [E1.out, E2.out]
  go_wp2_with fail
  refine (refBytes_any S _ (by omega)).mono ?_
  rintro e vv ⟨rfl, h⟩
  replace HB := HB.trans (h.mono HB.size)
  clear h
  rw [E1.out, E2.out]
  go_wp2_with fail
  refine (pack_any S leaf _ (by omega)).mono ?_
  rintro e vv ⟨rfl, h⟩
  replace HB := HB.trans (h.mono HB.size)
  clear h
  rw [E3.out, E4.out]
  go_wp2_with fail
  refine (rpack_any S leaf _ (by omega)).mono ?_
  rintro e vv ⟨rfl, h⟩
  replace HB := HB.trans (h.mono HB.size)
  clear h
  rw [E3.out, E4.out]
  go_wp2_with fail
  refine (unpack_any T _ (by omega)).mono ?_
  rintro e vv ⟨rfl, h⟩
  replace HB := HB.trans (h.mono HB.size)
  clear h
  rw [E5.out, E6.out, E7.out]
  go_wp2_with fail
  refine (refUnpack_any T _ (by omega)).mono ?_
  rintro e vv ⟨rfl, h⟩
  replace HB := HB.trans (h.mono HB.size)
  clear h
  rw [E5.out, E6.out, E7.out]
  go_wp2_with fail
  refine (next_any S _ (by omega)).mono ?_
  rintro e vv ⟨rfl, h⟩
  replace HB := HB.trans (h.mono HB.size)
  clear h
  rw [E8.out, E9.out]
  go_wp2_with fail
  refine (refNext_any S _ (by omega)).mono ?_
  rintro e vv ⟨rfl, h⟩
  replace HB := HB.trans (h.mono HB.size)
  clear h
  rw [E8.out, E9.out]
  go_wp2_with fail
  refine (of_any S _ (by omega)).mono ?_
  rintro e vv ⟨rfl, h⟩
  replace HB := HB.trans (h.mono HB.size)
  clear h
  rw [E10.out]
  go_wp2_with fail
  refine (refOf_any S _ (by omega)).mono ?_
  rintro e vv ⟨rfl, h⟩
  replace HB := HB.trans (h.mono HB.size)
  clear h
  rw [E10.out]
  go_wp2_with fail
  refine (right_any S _ (by omega)).mono ?_
  rintro e vv ⟨rfl, rfl⟩
  rw [E11.out]
  go_wp2_with fail
  refine (refRight_any S _ (by omega)).mono ?_
  rintro e vv ⟨rfl, rfl⟩
  rw [E11.out]
  go_wp2_with fail
  refine (prefix_any S T _ (by omega) (by omega)).mono ?_
  rintro e vv ⟨rfl, h⟩
  replace HB := HB.trans (h.mono HB.size)
  clear h
  rw [E12.out]
  go_wp2_with fail
  refine (refPrefix_drew S T _ (by omega) (by omega)).mono ?_
  rintro e vv ⟨rfl, nn, rfl⟩
  replace HB := drewB HB nn
  rw [E12.out]
  go_wp2_with fail
  refine (less_any S T _).mono ?_
  rintro e vv ⟨rfl, rfl⟩
  rw [E13.out]
  go_wp2_with fail
  refine (refLess_any S T _ (by omega) (by omega)).mono ?_
  rintro e vv ⟨rfl, h⟩
  replace HB := HB.trans (h.mono HB.size)
  clear h
  rw [E13.out]
  go_wp2_with fail
  go_ret
  exact ⟨rfl, HB⟩

set_option maxRecDepth 16000 in
set_option maxHeartbeats 8000000 in
theorem rows_01 (s t : ByteArray) (leaf : Bool) (w : World) (h1 : ¬ 3000 < s.size) (h2 : 3000 < t.size) : RowsGoal s t leaf w := by
  unfold RowsGoal
  have h1i : ¬ (3000 : Int) < s.size := by omega
  have h2i : (3000 : Int) < t.size := by omega
  obtain ⟨S, hS⟩ : ∃ X, X = s := ⟨_, rfl⟩
  have hSs : S.size ≤ 3000 := by rw [hS]; omega
  subst hS
  obtain ⟨T, htX⟩ : ∃ X, X = t.extract 0 3000 := ⟨_, rfl⟩
  have hTs : T.size ≤ 3000 := by rw [htX, ← sizeB, extract_take, List.length_take, sizeB]; omega
  have hslt := slice_to t 3000 (by omega)
  rw [← htX] at hslt
  have hext : t.extract 0 3000 = T := htX.symm
  simp only [Int.cast_ofNat_Int] at hslt
  clear htX
  obtain ⟨a, ha⟩ : ∃ a, bytS S.data.toList = a := ⟨_, rfl⟩
  obtain ⟨b, hb⟩ : ∃ b, bytB S.data.toList = b := ⟨_, rfl⟩
  obtain ⟨c, hc⟩ : ∃ c, pckS S.data.toList leaf = c := ⟨_, rfl⟩
  obtain ⟨d, hd⟩ : ∃ d, pckE S.data.toList = d := ⟨_, rfl⟩
  obtain ⟨f, hf⟩ : ∃ f, unpS T.data.toList = f := ⟨_, rfl⟩
  obtain ⟨g, hg⟩ : ∃ g, unpB T.data.toList = g := ⟨_, rfl⟩
  obtain ⟨i, hi⟩ : ∃ i, unpE T.data.toList = i := ⟨_, rfl⟩
  obtain ⟨j, hj⟩ : ∃ j, nxtS S.data.toList = j := ⟨_, rfl⟩
  obtain ⟨k, hk⟩ : ∃ k, nxtB S.data.toList = k := ⟨_, rfl⟩
  obtain ⟨l, hl⟩ : ∃ l, (⟨(hal S.data.toList).toArray⟩ : ByteArray) = l := ⟨_, rfl⟩
  obtain ⟨m, hm⟩ : ∃ m, rightL S.data.toList = m := ⟨_, rfl⟩
  obtain ⟨n, hn⟩ : ∃ n, pre S.data.toList T.data.toList = n := ⟨_, rfl⟩
  obtain ⟨o, ho⟩ : ∃ o, Op.bytesLess S.data.toList T.data.toList = o := ⟨_, rfl⟩
  have E1 : Hid (bytS S.data.toList = a) := ha
  have E2 : Hid (bytB S.data.toList = b) := hb
  have E3 : Hid (pckS S.data.toList leaf = c) := hc
  have E4 : Hid (pckE S.data.toList = d) := hd
  have E5 : Hid (unpS T.data.toList = f) := hf
  have E6 : Hid (unpB T.data.toList = g) := hg
  have E7 : Hid (unpE T.data.toList = i) := hi
  have E8 : Hid (nxtS S.data.toList = j) := hj
  have E9 : Hid (nxtB S.data.toList = k) := hk
  have E10 : Hid ((⟨(hal S.data.toList).toArray⟩ : ByteArray) = l) := hl
  have E11 : Hid (rightL S.data.toList = m) := hm
  have E12 : Hid (pre S.data.toList T.data.toList = n) := hn
  have E13 : Hid (Op.bytesLess S.data.toList T.data.toList = o) := ho
  clear ha hb hc hd hf hg hi hj hk hl hm hn ho
  go_enter Try.func3, Try.ntmps3
  go_wp2_with fail
  refine (awake_any _).mono ?_
  rintro e v1 ⟨rfl, HB⟩
  go_wp2_with fail
  refine (bytes_any S _ (by omega)).mono ?_
  rintro e vv ⟨rfl, h⟩
  replace HB := HB.trans (h.mono HB.size)
  clear h
  rw [E1.out, E2.out]
  go_wp2_with fail
  refine (refBytes_any S _ (by omega)).mono ?_
  rintro e vv ⟨rfl, h⟩
  replace HB := HB.trans (h.mono HB.size)
  clear h
  rw [E1.out, E2.out]
  go_wp2_with fail
  refine (pack_any S leaf _ (by omega)).mono ?_
  rintro e vv ⟨rfl, h⟩
  replace HB := HB.trans (h.mono HB.size)
  clear h
  rw [E3.out, E4.out]
  go_wp2_with fail
  refine (rpack_any S leaf _ (by omega)).mono ?_
  rintro e vv ⟨rfl, h⟩
  replace HB := HB.trans (h.mono HB.size)
  clear h
  rw [E3.out, E4.out]
  go_wp2_with fail
  refine (unpack_any T _ (by omega)).mono ?_
  rintro e vv ⟨rfl, h⟩
  replace HB := HB.trans (h.mono HB.size)
  clear h
  rw [E5.out, E6.out, E7.out]
  go_wp2_with fail
  refine (refUnpack_any T _ (by omega)).mono ?_
  rintro e vv ⟨rfl, h⟩
  replace HB := HB.trans (h.mono HB.size)
  clear h
  rw [E5.out, E6.out, E7.out]
  go_wp2_with fail
  refine (next_any S _ (by omega)).mono ?_
  rintro e vv ⟨rfl, h⟩
  replace HB := HB.trans (h.mono HB.size)
  clear h
  rw [E8.out, E9.out]
  go_wp2_with fail
  refine (refNext_any S _ (by omega)).mono ?_
  rintro e vv ⟨rfl, h⟩
  replace HB := HB.trans (h.mono HB.size)
  clear h
  rw [E8.out, E9.out]
  go_wp2_with fail
  refine (of_any S _ (by omega)).mono ?_
  rintro e vv ⟨rfl, h⟩
  replace HB := HB.trans (h.mono HB.size)
  clear h
  rw [E10.out]
  go_wp2_with fail
  refine (refOf_any S _ (by omega)).mono ?_
  rintro e vv ⟨rfl, h⟩
  replace HB := HB.trans (h.mono HB.size)
  clear h
  rw [E10.out]
  go_wp2_with fail
  refine (right_any S _ (by omega)).mono ?_
  rintro e vv ⟨rfl, rfl⟩
  rw [E11.out]
  go_wp2_with fail
  refine (refRight_any S _ (by omega)).mono ?_
  rintro e vv ⟨rfl, rfl⟩
  rw [E11.out]
  go_wp2_with fail
  refine (prefix_any S T _ (by omega) (by omega)).mono ?_
  rintro e vv ⟨rfl, h⟩
  replace HB := HB.trans (h.mono HB.size)
  clear h
  rw [E12.out]
  go_wp2_with fail
  refine (refPrefix_drew S T _ (by omega) (by omega)).mono ?_
  rintro e vv ⟨rfl, nn, rfl⟩
  replace HB := drewB HB nn
  rw [E12.out]
  go_wp2_with fail
  refine (less_any S T _).mono ?_
  rintro e vv ⟨rfl, rfl⟩
  rw [E13.out]
  go_wp2_with fail
  refine (refLess_any S T _ (by omega) (by omega)).mono ?_
  rintro e vv ⟨rfl, h⟩
  replace HB := HB.trans (h.mono HB.size)
  clear h
  rw [E13.out]
  go_wp2_with fail
  go_ret
  exact ⟨rfl, HB⟩

set_option maxRecDepth 16000 in
set_option maxHeartbeats 8000000 in
theorem rows_10 (s t : ByteArray) (leaf : Bool) (w : World) (h1 : 3000 < s.size) (h2 : ¬ 3000 < t.size) : RowsGoal s t leaf w := by
  unfold RowsGoal
  have h1i : (3000 : Int) < s.size := by omega
  have h2i : ¬ (3000 : Int) < t.size := by omega
  obtain ⟨S, hsX⟩ : ∃ X, X = s.extract 0 3000 := ⟨_, rfl⟩
  have hSs : S.size ≤ 3000 := by rw [hsX, ← sizeB, extract_take, List.length_take, sizeB]; omega
  have hsls := slice_to s 3000 (by omega)
  rw [← hsX] at hsls
  have hexs : s.extract 0 3000 = S := hsX.symm
  simp only [Int.cast_ofNat_Int] at hsls
  clear hsX
  obtain ⟨T, hT⟩ : ∃ X, X = t := ⟨_, rfl⟩
  have hTs : T.size ≤ 3000 := by rw [hT]; omega
  subst hT
  obtain ⟨a, ha⟩ : ∃ a, bytS S.data.toList = a := ⟨_, rfl⟩
  obtain ⟨b, hb⟩ : ∃ b, bytB S.data.toList = b := ⟨_, rfl⟩
  obtain ⟨c, hc⟩ : ∃ c, pckS S.data.toList leaf = c := ⟨_, rfl⟩
  obtain ⟨d, hd⟩ : ∃ d, pckE S.data.toList = d := ⟨_, rfl⟩
  obtain ⟨f, hf⟩ : ∃ f, unpS T.data.toList = f := ⟨_, rfl⟩
  obtain ⟨g, hg⟩ : ∃ g, unpB T.data.toList = g := ⟨_, rfl⟩
  obtain ⟨i, hi⟩ : ∃ i, unpE T.data.toList = i := ⟨_, rfl⟩
  obtain ⟨j, hj⟩ : ∃ j, nxtS S.data.toList = j := ⟨_, rfl⟩
  obtain ⟨k, hk⟩ : ∃ k, nxtB S.data.toList = k := ⟨_, rfl⟩
  obtain ⟨l, hl⟩ : ∃ l, (⟨(hal S.data.toList).toArray⟩ : ByteArray) = l := ⟨_, rfl⟩
  obtain ⟨m, hm⟩ : ∃ m, rightL S.data.toList = m := ⟨_, rfl⟩
  obtain ⟨n, hn⟩ : ∃ n, pre S.data.toList T.data.toList = n := ⟨_, rfl⟩
  obtain ⟨o, ho⟩ : ∃ o, Op.bytesLess S.data.toList T.data.toList = o := ⟨_, rfl⟩
  have E1 : Hid (bytS S.data.toList = a) := ha
  have E2 : Hid (bytB S.data.toList = b) := hb
  have E3 : Hid (pckS S.data.toList leaf = c) := hc
  have E4 : Hid (pckE S.data.toList = d) := hd
  have E5 : Hid (unpS T.data.toList = f) := hf
  have E6 : Hid (unpB T.data.toList = g) := hg
  have E7 : Hid (unpE T.data.toList = i) := hi
  have E8 : Hid (nxtS S.data.toList = j) := hj
  have E9 : Hid (nxtB S.data.toList = k) := hk
  have E10 : Hid ((⟨(hal S.data.toList).toArray⟩ : ByteArray) = l) := hl
  have E11 : Hid (rightL S.data.toList = m) := hm
  have E12 : Hid (pre S.data.toList T.data.toList = n) := hn
  have E13 : Hid (Op.bytesLess S.data.toList T.data.toList = o) := ho
  clear ha hb hc hd hf hg hi hj hk hl hm hn ho
  go_enter Try.func3, Try.ntmps3
  go_wp2_with fail
  refine (awake_any _).mono ?_
  rintro e v1 ⟨rfl, HB⟩
  go_wp2_with fail
  refine (bytes_any S _ (by omega)).mono ?_
  rintro e vv ⟨rfl, h⟩
  replace HB := HB.trans (h.mono HB.size)
  clear h
  rw [E1.out, E2.out]
  go_wp2_with fail
  refine (refBytes_any S _ (by omega)).mono ?_
  rintro e vv ⟨rfl, h⟩
  replace HB := HB.trans (h.mono HB.size)
  clear h
  rw [E1.out, E2.out]
  go_wp2_with fail
  refine (pack_any S leaf _ (by omega)).mono ?_
  rintro e vv ⟨rfl, h⟩
  replace HB := HB.trans (h.mono HB.size)
  clear h
  rw [E3.out, E4.out]
  go_wp2_with fail
  refine (rpack_any S leaf _ (by omega)).mono ?_
  rintro e vv ⟨rfl, h⟩
  replace HB := HB.trans (h.mono HB.size)
  clear h
  rw [E3.out, E4.out]
  go_wp2_with fail
  refine (unpack_any T _ (by omega)).mono ?_
  rintro e vv ⟨rfl, h⟩
  replace HB := HB.trans (h.mono HB.size)
  clear h
  rw [E5.out, E6.out, E7.out]
  go_wp2_with fail
  refine (refUnpack_any T _ (by omega)).mono ?_
  rintro e vv ⟨rfl, h⟩
  replace HB := HB.trans (h.mono HB.size)
  clear h
  rw [E5.out, E6.out, E7.out]
  go_wp2_with fail
  refine (next_any S _ (by omega)).mono ?_
  rintro e vv ⟨rfl, h⟩
  replace HB := HB.trans (h.mono HB.size)
  clear h
  rw [E8.out, E9.out]
  go_wp2_with fail
  refine (refNext_any S _ (by omega)).mono ?_
  rintro e vv ⟨rfl, h⟩
  replace HB := HB.trans (h.mono HB.size)
  clear h
  rw [E8.out, E9.out]
  go_wp2_with fail
  refine (of_any S _ (by omega)).mono ?_
  rintro e vv ⟨rfl, h⟩
  replace HB := HB.trans (h.mono HB.size)
  clear h
  rw [E10.out]
  go_wp2_with fail
  refine (refOf_any S _ (by omega)).mono ?_
  rintro e vv ⟨rfl, h⟩
  replace HB := HB.trans (h.mono HB.size)
  clear h
  rw [E10.out]
  go_wp2_with fail
  refine (right_any S _ (by omega)).mono ?_
  rintro e vv ⟨rfl, rfl⟩
  rw [E11.out]
  go_wp2_with fail
  refine (refRight_any S _ (by omega)).mono ?_
  rintro e vv ⟨rfl, rfl⟩
  rw [E11.out]
  go_wp2_with fail
  refine (prefix_any S T _ (by omega) (by omega)).mono ?_
  rintro e vv ⟨rfl, h⟩
  replace HB := HB.trans (h.mono HB.size)
  clear h
  rw [E12.out]
  go_wp2_with fail
  refine (refPrefix_drew S T _ (by omega) (by omega)).mono ?_
  rintro e vv ⟨rfl, nn, rfl⟩
  replace HB := drewB HB nn
  rw [E12.out]
  go_wp2_with fail
  refine (less_any S T _).mono ?_
  rintro e vv ⟨rfl, rfl⟩
  rw [E13.out]
  go_wp2_with fail
  refine (refLess_any S T _ (by omega) (by omega)).mono ?_
  rintro e vv ⟨rfl, h⟩
  replace HB := HB.trans (h.mono HB.size)
  clear h
  rw [E13.out]
  go_wp2_with fail
  go_ret
  exact ⟨rfl, HB⟩

set_option maxRecDepth 16000 in
set_option maxHeartbeats 8000000 in
theorem rows_11 (s t : ByteArray) (leaf : Bool) (w : World) (h1 : 3000 < s.size) (h2 : 3000 < t.size) : RowsGoal s t leaf w := by
  unfold RowsGoal
  have h1i : (3000 : Int) < s.size := by omega
  have h2i : (3000 : Int) < t.size := by omega
  obtain ⟨S, hsX⟩ : ∃ X, X = s.extract 0 3000 := ⟨_, rfl⟩
  have hSs : S.size ≤ 3000 := by rw [hsX, ← sizeB, extract_take, List.length_take, sizeB]; omega
  have hsls := slice_to s 3000 (by omega)
  rw [← hsX] at hsls
  have hexs : s.extract 0 3000 = S := hsX.symm
  simp only [Int.cast_ofNat_Int] at hsls
  clear hsX
  obtain ⟨T, htX⟩ : ∃ X, X = t.extract 0 3000 := ⟨_, rfl⟩
  have hTs : T.size ≤ 3000 := by rw [htX, ← sizeB, extract_take, List.length_take, sizeB]; omega
  have hslt := slice_to t 3000 (by omega)
  rw [← htX] at hslt
  have hext : t.extract 0 3000 = T := htX.symm
  simp only [Int.cast_ofNat_Int] at hslt
  clear htX
  obtain ⟨a, ha⟩ : ∃ a, bytS S.data.toList = a := ⟨_, rfl⟩
  obtain ⟨b, hb⟩ : ∃ b, bytB S.data.toList = b := ⟨_, rfl⟩
  obtain ⟨c, hc⟩ : ∃ c, pckS S.data.toList leaf = c := ⟨_, rfl⟩
  obtain ⟨d, hd⟩ : ∃ d, pckE S.data.toList = d := ⟨_, rfl⟩
  obtain ⟨f, hf⟩ : ∃ f, unpS T.data.toList = f := ⟨_, rfl⟩
  obtain ⟨g, hg⟩ : ∃ g, unpB T.data.toList = g := ⟨_, rfl⟩
  obtain ⟨i, hi⟩ : ∃ i, unpE T.data.toList = i := ⟨_, rfl⟩
  obtain ⟨j, hj⟩ : ∃ j, nxtS S.data.toList = j := ⟨_, rfl⟩
  obtain ⟨k, hk⟩ : ∃ k, nxtB S.data.toList = k := ⟨_, rfl⟩
  obtain ⟨l, hl⟩ : ∃ l, (⟨(hal S.data.toList).toArray⟩ : ByteArray) = l := ⟨_, rfl⟩
  obtain ⟨m, hm⟩ : ∃ m, rightL S.data.toList = m := ⟨_, rfl⟩
  obtain ⟨n, hn⟩ : ∃ n, pre S.data.toList T.data.toList = n := ⟨_, rfl⟩
  obtain ⟨o, ho⟩ : ∃ o, Op.bytesLess S.data.toList T.data.toList = o := ⟨_, rfl⟩
  have E1 : Hid (bytS S.data.toList = a) := ha
  have E2 : Hid (bytB S.data.toList = b) := hb
  have E3 : Hid (pckS S.data.toList leaf = c) := hc
  have E4 : Hid (pckE S.data.toList = d) := hd
  have E5 : Hid (unpS T.data.toList = f) := hf
  have E6 : Hid (unpB T.data.toList = g) := hg
  have E7 : Hid (unpE T.data.toList = i) := hi
  have E8 : Hid (nxtS S.data.toList = j) := hj
  have E9 : Hid (nxtB S.data.toList = k) := hk
  have E10 : Hid ((⟨(hal S.data.toList).toArray⟩ : ByteArray) = l) := hl
  have E11 : Hid (rightL S.data.toList = m) := hm
  have E12 : Hid (pre S.data.toList T.data.toList = n) := hn
  have E13 : Hid (Op.bytesLess S.data.toList T.data.toList = o) := ho
  clear ha hb hc hd hf hg hi hj hk hl hm hn ho
  go_enter Try.func3, Try.ntmps3
  go_wp2_with fail
  refine (awake_any _).mono ?_
  rintro e v1 ⟨rfl, HB⟩
  go_wp2_with fail
  refine (bytes_any S _ (by omega)).mono ?_
  rintro e vv ⟨rfl, h⟩
  replace HB := HB.trans (h.mono HB.size)
  clear h
  rw [E1.out, E2.out]
  go_wp2_with fail
  refine (refBytes_any S _ (by omega)).mono ?_
  rintro e vv ⟨rfl, h⟩
  replace HB := HB.trans (h.mono HB.size)
  clear h
  rw [E1.out, E2.out]
  go_wp2_with fail
  refine (pack_any S leaf _ (by omega)).mono ?_
  rintro e vv ⟨rfl, h⟩
  replace HB := HB.trans (h.mono HB.size)
  clear h
  rw [E3.out, E4.out]
  go_wp2_with fail
  refine (rpack_any S leaf _ (by omega)).mono ?_
  rintro e vv ⟨rfl, h⟩
  replace HB := HB.trans (h.mono HB.size)
  clear h
  rw [E3.out, E4.out]
  go_wp2_with fail
  refine (unpack_any T _ (by omega)).mono ?_
  rintro e vv ⟨rfl, h⟩
  replace HB := HB.trans (h.mono HB.size)
  clear h
  rw [E5.out, E6.out, E7.out]
  go_wp2_with fail
  refine (refUnpack_any T _ (by omega)).mono ?_
  rintro e vv ⟨rfl, h⟩
  replace HB := HB.trans (h.mono HB.size)
  clear h
  rw [E5.out, E6.out, E7.out]
  go_wp2_with fail
  refine (next_any S _ (by omega)).mono ?_
  rintro e vv ⟨rfl, h⟩
  replace HB := HB.trans (h.mono HB.size)
  clear h
  rw [E8.out, E9.out]
  go_wp2_with fail
  refine (refNext_any S _ (by omega)).mono ?_
  rintro e vv ⟨rfl, h⟩
  replace HB := HB.trans (h.mono HB.size)
  clear h
  rw [E8.out, E9.out]
  go_wp2_with fail
  refine (of_any S _ (by omega)).mono ?_
  rintro e vv ⟨rfl, h⟩
  replace HB := HB.trans (h.mono HB.size)
  clear h
  rw [E10.out]
  go_wp2_with fail
  refine (refOf_any S _ (by omega)).mono ?_
  rintro e vv ⟨rfl, h⟩
  replace HB := HB.trans (h.mono HB.size)
  clear h
  rw [E10.out]
  go_wp2_with fail
  refine (right_any S _ (by omega)).mono ?_
  rintro e vv ⟨rfl, rfl⟩
  rw [E11.out]
  go_wp2_with fail
  refine (refRight_any S _ (by omega)).mono ?_
  rintro e vv ⟨rfl, rfl⟩
  rw [E11.out]
  go_wp2_with fail
  refine (prefix_any S T _ (by omega) (by omega)).mono ?_
  rintro e vv ⟨rfl, h⟩
  replace HB := HB.trans (h.mono HB.size)
  clear h
  rw [E12.out]
  go_wp2_with fail
  refine (refPrefix_drew S T _ (by omega) (by omega)).mono ?_
  rintro e vv ⟨rfl, nn, rfl⟩
  replace HB := drewB HB nn
  rw [E12.out]
  go_wp2_with fail
  refine (less_any S T _).mono ?_
  rintro e vv ⟨rfl, rfl⟩
  rw [E13.out]
  go_wp2_with fail
  refine (refLess_any S T _ (by omega) (by omega)).mono ?_
  rintro e vv ⟨rfl, h⟩
  replace HB := HB.trans (h.mono HB.size)
  clear h
  rw [E13.out]
  go_wp2_with fail
  go_ret
  exact ⟨rfl, HB⟩

theorem rows_walk (s t : ByteArray) (leaf : Bool) (w : World) (_ : s.size ≤ 9223372036854775807) (_ : t.size ≤ 9223372036854775807) :
    Calls Try.prog 3 #[.string s, .string t, .bool leaf] w fun e w' => e = .returned (.bool true) ∧ Below w.heap.size w w' := by
  show RowsGoal s t leaf w
  by_cases h1 : 3000 < s.size
  · by_cases h2 : 3000 < t.size
    · exact rows_11 s t leaf w h1 h2
    · exact rows_10 s t leaf w h1 h2
  · by_cases h2 : 3000 < t.size
    · exact rows_01 s t leaf w h1 h2
    · exact rows_00 s t leaf w h1 h2
end Go.Proofs.Ytkkjkanlaldhcaa
