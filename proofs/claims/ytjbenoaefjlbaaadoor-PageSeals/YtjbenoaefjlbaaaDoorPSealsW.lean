/-
  PageSeals' walk.
-/
import Derived.Test.YtjbenoaefjlbaaaDoorPAwake
import Derived.Test.YtjbenoaefjlbaaaDoorPQOpenW
namespace Go.Proofs.YtjbenoaefjlbaaaDoor
open Go Go.RowKit

set_option maxRecDepth 8000 in
set_option maxHeartbeats 16000000 in
theorem seals_walk (k : UInt8) (x y : ByteArray) (w : World) (hT : Tabs w) (hx : x.size ≤ 9223372036854775807) (hy : y.size ≤ 9223372036854775807) :
    Calls Tryd.prog 3 #[.int .u8 (oct k), .string x, .string y] w fun e w' => e = .returned (.bool true) ∧ Below w.heap.size w w' := by
  go_enter Tryd.func3, Tryd.ntmps3
  go_wp2_with fail
  refine (awake_any _ hT).mono ?_
  rintro e w1 ⟨rfl, hB1⟩
  by_cases hxl : 1100 < x.size
  · have hxi : (1100 : Int) < x.size := by omega
    obtain ⟨v, hv⟩ : ∃ v, v = x.extract 0 1100 := ⟨_, rfl⟩
    have hvs : v.size ≤ 1100 := by rw [hv, ByteArray.size_extract]; omega
    have hve := hv.symm
    clear hv
    by_cases hyl : 1030 < y.size
    · have hyi : (1030 : Int) < y.size := by omega
      obtain ⟨z, hz⟩ : ∃ z, z = y.extract 0 1030 := ⟨_, rfl⟩
      have hzs : z.size ≤ 1030 := by rw [hz, ByteArray.size_extract]; omega
      have hze := hz.symm
      clear hz
      go_wp2_with fail
      by_cases h13 : v.size ≤ 1013
      · have h13i : (v.size : Int) ≤ 1013 := by omega
        refine (seal_any k v _ (hT.below hB1) h13).mono ?_
        rintro e w2 ⟨rfl, hB2'⟩
        have hB2 := hB1.trans (hB2'.mono hB1.size)
        clear hB2' hB1
        obtain ⟨S, hS⟩ : ∃ S, S = sealS k v := ⟨_, rfl⟩
        have HO : Hid (openS S = some (k, v)) := by unfold Hid; rw [hS]; exact open_seal k h13
        have hSs : S.size = 1024 := by rw [hS]; exact sealS_size k h13
        rw [← hS]
        have HS : Hid (S = sealS k v) := hS
        clear hS
        go_wp2_with fail
        refine (qseal_any k v _ h13).mono ?_
        rintro e w3 ⟨rfl, hB3'⟩
        have hB3 := hB2.trans (hB3'.mono hB2.size)
        clear hB3' hB2
        rw [← HS.out]
        go_wp2_with fail
        refine (open_any z _ (hT.below hB3) (by omega)).mono ?_
        rintro e w4 ⟨rfl, hB4'⟩
        have hB4 := hB3.trans (hB4'.mono hB3.size)
        clear hB4' hB3
        cases ho : openS z with
        | none =>
          obtain ⟨e1, e2, e3⟩ := open_no ho
          rw [e1, e2, e3]
          go_wp2_with fail
          refine (qopen_any z _ (by omega)).mono ?_
          rintro e w5 ⟨rfl, hB5'⟩
          have hB5 := hB4.trans (hB5'.mono hB4.size)
          clear hB5' hB4
          rw [e1, e2, e3]
          clear e1 e2 e3 ho
          go_wp2_with fail
          refine (open_any S _ (hT.below hB5) (by omega)).mono ?_
          rintro e w6 ⟨rfl, hB6'⟩
          have hB6 := hB5.trans (hB6'.mono hB5.size)
          clear hB6' hB5
          obtain ⟨e1, e2, e3⟩ := open_yes HO.out
          rw [e1, e2, e3]
          clear e1 e2 e3
          go_wp2_with fail
          go_ret
          exact ⟨rfl, hB6⟩
        | some kb =>
          obtain ⟨k', b'⟩ := kb
          obtain ⟨e1, e2, e3⟩ := open_yes ho
          rw [e1, e2, e3]
          go_wp2_with fail
          refine (qopen_any z _ (by omega)).mono ?_
          rintro e w5 ⟨rfl, hB5'⟩
          have hB5 := hB4.trans (hB5'.mono hB4.size)
          clear hB5' hB4
          rw [e1, e2, e3]
          clear e1 e2 e3 ho
          go_wp2_with fail
          refine (open_any S _ (hT.below hB5) (by omega)).mono ?_
          rintro e w6 ⟨rfl, hB6'⟩
          have hB6 := hB5.trans (hB6'.mono hB5.size)
          clear hB6' hB5
          obtain ⟨e1, e2, e3⟩ := open_yes HO.out
          rw [e1, e2, e3]
          clear e1 e2 e3
          go_wp2_with fail
          go_ret
          exact ⟨rfl, hB6⟩
      · have h13i : ¬ (v.size : Int) ≤ 1013 := by omega
        refine (seal_no k v _ (by omega)).mono ?_
        rintro e w2 ⟨rfl, hB2'⟩
        have hB2 := hB1.trans (hB2'.mono hB1.size)
        clear hB2' hB1
        go_wp2_with fail
        refine (qseal_no k v _ (by omega)).mono ?_
        rintro e w3 ⟨rfl, hB3'⟩
        have hB3 := hB2.trans (hB3'.mono hB2.size)
        clear hB3' hB2
        go_wp2_with fail
        refine (open_any z _ (hT.below hB3) (by omega)).mono ?_
        rintro e w4 ⟨rfl, hB4'⟩
        have hB4 := hB3.trans (hB4'.mono hB3.size)
        clear hB4' hB3
        cases ho : openS z with
        | none =>
          obtain ⟨e1, e2, e3⟩ := open_no ho
          rw [e1, e2, e3]
          go_wp2_with fail
          refine (qopen_any z _ (by omega)).mono ?_
          rintro e w5 ⟨rfl, hB5'⟩
          have hB5 := hB4.trans (hB5'.mono hB4.size)
          clear hB5' hB4
          rw [e1, e2, e3]
          clear e1 e2 e3 ho
          go_wp2_with fail
          go_ret
          exact ⟨rfl, hB5⟩
        | some kb =>
          obtain ⟨k', b'⟩ := kb
          obtain ⟨e1, e2, e3⟩ := open_yes ho
          rw [e1, e2, e3]
          go_wp2_with fail
          refine (qopen_any z _ (by omega)).mono ?_
          rintro e w5 ⟨rfl, hB5'⟩
          have hB5 := hB4.trans (hB5'.mono hB4.size)
          clear hB5' hB4
          rw [e1, e2, e3]
          clear e1 e2 e3 ho
          go_wp2_with fail
          go_ret
          exact ⟨rfl, hB5⟩
    · have hyi : ¬ (1030 : Int) < y.size := by omega
      go_wp2_with fail
      by_cases h13 : v.size ≤ 1013
      · have h13i : (v.size : Int) ≤ 1013 := by omega
        refine (seal_any k v _ (hT.below hB1) h13).mono ?_
        rintro e w2 ⟨rfl, hB2'⟩
        have hB2 := hB1.trans (hB2'.mono hB1.size)
        clear hB2' hB1
        obtain ⟨S, hS⟩ : ∃ S, S = sealS k v := ⟨_, rfl⟩
        have HO : Hid (openS S = some (k, v)) := by unfold Hid; rw [hS]; exact open_seal k h13
        have hSs : S.size = 1024 := by rw [hS]; exact sealS_size k h13
        rw [← hS]
        have HS : Hid (S = sealS k v) := hS
        clear hS
        go_wp2_with fail
        refine (qseal_any k v _ h13).mono ?_
        rintro e w3 ⟨rfl, hB3'⟩
        have hB3 := hB2.trans (hB3'.mono hB2.size)
        clear hB3' hB2
        rw [← HS.out]
        go_wp2_with fail
        refine (open_any y _ (hT.below hB3) (by omega)).mono ?_
        rintro e w4 ⟨rfl, hB4'⟩
        have hB4 := hB3.trans (hB4'.mono hB3.size)
        clear hB4' hB3
        cases ho : openS y with
        | none =>
          obtain ⟨e1, e2, e3⟩ := open_no ho
          rw [e1, e2, e3]
          go_wp2_with fail
          refine (qopen_any y _ (by omega)).mono ?_
          rintro e w5 ⟨rfl, hB5'⟩
          have hB5 := hB4.trans (hB5'.mono hB4.size)
          clear hB5' hB4
          rw [e1, e2, e3]
          clear e1 e2 e3 ho
          go_wp2_with fail
          refine (open_any S _ (hT.below hB5) (by omega)).mono ?_
          rintro e w6 ⟨rfl, hB6'⟩
          have hB6 := hB5.trans (hB6'.mono hB5.size)
          clear hB6' hB5
          obtain ⟨e1, e2, e3⟩ := open_yes HO.out
          rw [e1, e2, e3]
          clear e1 e2 e3
          go_wp2_with fail
          go_ret
          exact ⟨rfl, hB6⟩
        | some kb =>
          obtain ⟨k', b'⟩ := kb
          obtain ⟨e1, e2, e3⟩ := open_yes ho
          rw [e1, e2, e3]
          go_wp2_with fail
          refine (qopen_any y _ (by omega)).mono ?_
          rintro e w5 ⟨rfl, hB5'⟩
          have hB5 := hB4.trans (hB5'.mono hB4.size)
          clear hB5' hB4
          rw [e1, e2, e3]
          clear e1 e2 e3 ho
          go_wp2_with fail
          refine (open_any S _ (hT.below hB5) (by omega)).mono ?_
          rintro e w6 ⟨rfl, hB6'⟩
          have hB6 := hB5.trans (hB6'.mono hB5.size)
          clear hB6' hB5
          obtain ⟨e1, e2, e3⟩ := open_yes HO.out
          rw [e1, e2, e3]
          clear e1 e2 e3
          go_wp2_with fail
          go_ret
          exact ⟨rfl, hB6⟩
      · have h13i : ¬ (v.size : Int) ≤ 1013 := by omega
        refine (seal_no k v _ (by omega)).mono ?_
        rintro e w2 ⟨rfl, hB2'⟩
        have hB2 := hB1.trans (hB2'.mono hB1.size)
        clear hB2' hB1
        go_wp2_with fail
        refine (qseal_no k v _ (by omega)).mono ?_
        rintro e w3 ⟨rfl, hB3'⟩
        have hB3 := hB2.trans (hB3'.mono hB2.size)
        clear hB3' hB2
        go_wp2_with fail
        refine (open_any y _ (hT.below hB3) (by omega)).mono ?_
        rintro e w4 ⟨rfl, hB4'⟩
        have hB4 := hB3.trans (hB4'.mono hB3.size)
        clear hB4' hB3
        cases ho : openS y with
        | none =>
          obtain ⟨e1, e2, e3⟩ := open_no ho
          rw [e1, e2, e3]
          go_wp2_with fail
          refine (qopen_any y _ (by omega)).mono ?_
          rintro e w5 ⟨rfl, hB5'⟩
          have hB5 := hB4.trans (hB5'.mono hB4.size)
          clear hB5' hB4
          rw [e1, e2, e3]
          clear e1 e2 e3 ho
          go_wp2_with fail
          go_ret
          exact ⟨rfl, hB5⟩
        | some kb =>
          obtain ⟨k', b'⟩ := kb
          obtain ⟨e1, e2, e3⟩ := open_yes ho
          rw [e1, e2, e3]
          go_wp2_with fail
          refine (qopen_any y _ (by omega)).mono ?_
          rintro e w5 ⟨rfl, hB5'⟩
          have hB5 := hB4.trans (hB5'.mono hB4.size)
          clear hB5' hB4
          rw [e1, e2, e3]
          clear e1 e2 e3 ho
          go_wp2_with fail
          go_ret
          exact ⟨rfl, hB5⟩
  · have hxi : ¬ (1100 : Int) < x.size := by omega
    by_cases hyl : 1030 < y.size
    · have hyi : (1030 : Int) < y.size := by omega
      obtain ⟨z, hz⟩ : ∃ z, z = y.extract 0 1030 := ⟨_, rfl⟩
      have hzs : z.size ≤ 1030 := by rw [hz, ByteArray.size_extract]; omega
      have hze := hz.symm
      clear hz
      go_wp2_with fail
      by_cases h13 : x.size ≤ 1013
      · have h13i : (x.size : Int) ≤ 1013 := by omega
        refine (seal_any k x _ (hT.below hB1) h13).mono ?_
        rintro e w2 ⟨rfl, hB2'⟩
        have hB2 := hB1.trans (hB2'.mono hB1.size)
        clear hB2' hB1
        obtain ⟨S, hS⟩ : ∃ S, S = sealS k x := ⟨_, rfl⟩
        have HO : Hid (openS S = some (k, x)) := by unfold Hid; rw [hS]; exact open_seal k h13
        have hSs : S.size = 1024 := by rw [hS]; exact sealS_size k h13
        rw [← hS]
        have HS : Hid (S = sealS k x) := hS
        clear hS
        go_wp2_with fail
        refine (qseal_any k x _ h13).mono ?_
        rintro e w3 ⟨rfl, hB3'⟩
        have hB3 := hB2.trans (hB3'.mono hB2.size)
        clear hB3' hB2
        rw [← HS.out]
        go_wp2_with fail
        refine (open_any z _ (hT.below hB3) (by omega)).mono ?_
        rintro e w4 ⟨rfl, hB4'⟩
        have hB4 := hB3.trans (hB4'.mono hB3.size)
        clear hB4' hB3
        cases ho : openS z with
        | none =>
          obtain ⟨e1, e2, e3⟩ := open_no ho
          rw [e1, e2, e3]
          go_wp2_with fail
          refine (qopen_any z _ (by omega)).mono ?_
          rintro e w5 ⟨rfl, hB5'⟩
          have hB5 := hB4.trans (hB5'.mono hB4.size)
          clear hB5' hB4
          rw [e1, e2, e3]
          clear e1 e2 e3 ho
          go_wp2_with fail
          refine (open_any S _ (hT.below hB5) (by omega)).mono ?_
          rintro e w6 ⟨rfl, hB6'⟩
          have hB6 := hB5.trans (hB6'.mono hB5.size)
          clear hB6' hB5
          obtain ⟨e1, e2, e3⟩ := open_yes HO.out
          rw [e1, e2, e3]
          clear e1 e2 e3
          go_wp2_with fail
          go_ret
          exact ⟨rfl, hB6⟩
        | some kb =>
          obtain ⟨k', b'⟩ := kb
          obtain ⟨e1, e2, e3⟩ := open_yes ho
          rw [e1, e2, e3]
          go_wp2_with fail
          refine (qopen_any z _ (by omega)).mono ?_
          rintro e w5 ⟨rfl, hB5'⟩
          have hB5 := hB4.trans (hB5'.mono hB4.size)
          clear hB5' hB4
          rw [e1, e2, e3]
          clear e1 e2 e3 ho
          go_wp2_with fail
          refine (open_any S _ (hT.below hB5) (by omega)).mono ?_
          rintro e w6 ⟨rfl, hB6'⟩
          have hB6 := hB5.trans (hB6'.mono hB5.size)
          clear hB6' hB5
          obtain ⟨e1, e2, e3⟩ := open_yes HO.out
          rw [e1, e2, e3]
          clear e1 e2 e3
          go_wp2_with fail
          go_ret
          exact ⟨rfl, hB6⟩
      · have h13i : ¬ (x.size : Int) ≤ 1013 := by omega
        refine (seal_no k x _ (by omega)).mono ?_
        rintro e w2 ⟨rfl, hB2'⟩
        have hB2 := hB1.trans (hB2'.mono hB1.size)
        clear hB2' hB1
        go_wp2_with fail
        refine (qseal_no k x _ (by omega)).mono ?_
        rintro e w3 ⟨rfl, hB3'⟩
        have hB3 := hB2.trans (hB3'.mono hB2.size)
        clear hB3' hB2
        go_wp2_with fail
        refine (open_any z _ (hT.below hB3) (by omega)).mono ?_
        rintro e w4 ⟨rfl, hB4'⟩
        have hB4 := hB3.trans (hB4'.mono hB3.size)
        clear hB4' hB3
        cases ho : openS z with
        | none =>
          obtain ⟨e1, e2, e3⟩ := open_no ho
          rw [e1, e2, e3]
          go_wp2_with fail
          refine (qopen_any z _ (by omega)).mono ?_
          rintro e w5 ⟨rfl, hB5'⟩
          have hB5 := hB4.trans (hB5'.mono hB4.size)
          clear hB5' hB4
          rw [e1, e2, e3]
          clear e1 e2 e3 ho
          go_wp2_with fail
          go_ret
          exact ⟨rfl, hB5⟩
        | some kb =>
          obtain ⟨k', b'⟩ := kb
          obtain ⟨e1, e2, e3⟩ := open_yes ho
          rw [e1, e2, e3]
          go_wp2_with fail
          refine (qopen_any z _ (by omega)).mono ?_
          rintro e w5 ⟨rfl, hB5'⟩
          have hB5 := hB4.trans (hB5'.mono hB4.size)
          clear hB5' hB4
          rw [e1, e2, e3]
          clear e1 e2 e3 ho
          go_wp2_with fail
          go_ret
          exact ⟨rfl, hB5⟩
    · have hyi : ¬ (1030 : Int) < y.size := by omega
      go_wp2_with fail
      by_cases h13 : x.size ≤ 1013
      · have h13i : (x.size : Int) ≤ 1013 := by omega
        refine (seal_any k x _ (hT.below hB1) h13).mono ?_
        rintro e w2 ⟨rfl, hB2'⟩
        have hB2 := hB1.trans (hB2'.mono hB1.size)
        clear hB2' hB1
        obtain ⟨S, hS⟩ : ∃ S, S = sealS k x := ⟨_, rfl⟩
        have HO : Hid (openS S = some (k, x)) := by unfold Hid; rw [hS]; exact open_seal k h13
        have hSs : S.size = 1024 := by rw [hS]; exact sealS_size k h13
        rw [← hS]
        have HS : Hid (S = sealS k x) := hS
        clear hS
        go_wp2_with fail
        refine (qseal_any k x _ h13).mono ?_
        rintro e w3 ⟨rfl, hB3'⟩
        have hB3 := hB2.trans (hB3'.mono hB2.size)
        clear hB3' hB2
        rw [← HS.out]
        go_wp2_with fail
        refine (open_any y _ (hT.below hB3) (by omega)).mono ?_
        rintro e w4 ⟨rfl, hB4'⟩
        have hB4 := hB3.trans (hB4'.mono hB3.size)
        clear hB4' hB3
        cases ho : openS y with
        | none =>
          obtain ⟨e1, e2, e3⟩ := open_no ho
          rw [e1, e2, e3]
          go_wp2_with fail
          refine (qopen_any y _ (by omega)).mono ?_
          rintro e w5 ⟨rfl, hB5'⟩
          have hB5 := hB4.trans (hB5'.mono hB4.size)
          clear hB5' hB4
          rw [e1, e2, e3]
          clear e1 e2 e3 ho
          go_wp2_with fail
          refine (open_any S _ (hT.below hB5) (by omega)).mono ?_
          rintro e w6 ⟨rfl, hB6'⟩
          have hB6 := hB5.trans (hB6'.mono hB5.size)
          clear hB6' hB5
          obtain ⟨e1, e2, e3⟩ := open_yes HO.out
          rw [e1, e2, e3]
          clear e1 e2 e3
          go_wp2_with fail
          go_ret
          exact ⟨rfl, hB6⟩
        | some kb =>
          obtain ⟨k', b'⟩ := kb
          obtain ⟨e1, e2, e3⟩ := open_yes ho
          rw [e1, e2, e3]
          go_wp2_with fail
          refine (qopen_any y _ (by omega)).mono ?_
          rintro e w5 ⟨rfl, hB5'⟩
          have hB5 := hB4.trans (hB5'.mono hB4.size)
          clear hB5' hB4
          rw [e1, e2, e3]
          clear e1 e2 e3 ho
          go_wp2_with fail
          refine (open_any S _ (hT.below hB5) (by omega)).mono ?_
          rintro e w6 ⟨rfl, hB6'⟩
          have hB6 := hB5.trans (hB6'.mono hB5.size)
          clear hB6' hB5
          obtain ⟨e1, e2, e3⟩ := open_yes HO.out
          rw [e1, e2, e3]
          clear e1 e2 e3
          go_wp2_with fail
          go_ret
          exact ⟨rfl, hB6⟩
      · have h13i : ¬ (x.size : Int) ≤ 1013 := by omega
        refine (seal_no k x _ (by omega)).mono ?_
        rintro e w2 ⟨rfl, hB2'⟩
        have hB2 := hB1.trans (hB2'.mono hB1.size)
        clear hB2' hB1
        go_wp2_with fail
        refine (qseal_no k x _ (by omega)).mono ?_
        rintro e w3 ⟨rfl, hB3'⟩
        have hB3 := hB2.trans (hB3'.mono hB2.size)
        clear hB3' hB2
        go_wp2_with fail
        refine (open_any y _ (hT.below hB3) (by omega)).mono ?_
        rintro e w4 ⟨rfl, hB4'⟩
        have hB4 := hB3.trans (hB4'.mono hB3.size)
        clear hB4' hB3
        cases ho : openS y with
        | none =>
          obtain ⟨e1, e2, e3⟩ := open_no ho
          rw [e1, e2, e3]
          go_wp2_with fail
          refine (qopen_any y _ (by omega)).mono ?_
          rintro e w5 ⟨rfl, hB5'⟩
          have hB5 := hB4.trans (hB5'.mono hB4.size)
          clear hB5' hB4
          rw [e1, e2, e3]
          clear e1 e2 e3 ho
          go_wp2_with fail
          go_ret
          exact ⟨rfl, hB5⟩
        | some kb =>
          obtain ⟨k', b'⟩ := kb
          obtain ⟨e1, e2, e3⟩ := open_yes ho
          rw [e1, e2, e3]
          go_wp2_with fail
          refine (qopen_any y _ (by omega)).mono ?_
          rintro e w5 ⟨rfl, hB5'⟩
          have hB5 := hB4.trans (hB5'.mono hB4.size)
          clear hB5' hB4
          rw [e1, e2, e3]
          clear e1 e2 e3 ho
          go_wp2_with fail
          go_ret
          exact ⟨rfl, hB5⟩
end Go.Proofs.YtjbenoaefjlbaaaDoor
