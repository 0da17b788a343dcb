/-
  The document's Hash, of branches with as many hashes as their masks say.
-/
import Derived.Test.YtbidoangdnmjfaaDoorMHashW
import Derived.Test.YtbidoangdnmjfaaDoorMQChkW
namespace Go.Proofs.YtbidoangdnmjfaaDoor
open Go Go.RowKit

set_option maxRecDepth 8000 in
set_option maxHeartbeats 1000000 in
theorem qhash_any {w : World} {s t h : Nat} {v : Value} {L : List H32} (hh : h < 65536) (hv : HashesAt w v L) (hL : L.length = cntM h) (n : Int) : Calls Tryd.prog 24 #[brV s t h v, .int .i64 n] w fun e w' => e = .returned (.tuple #[hla (hashX h L n), .bool (hasM h n)]) ∧ Below w.heap.size w w' := by
  unfold brV
  obtain ⟨p, c, rfl⟩ := hv.shape
  obtain ⟨m, hm⟩ : ∃ m, L.length = m := ⟨_, rfl⟩
  have HM : Hid (L.length = m) := hm
  rw [hm] at hv hL ⊢
  clear hm
  have hm16 : m ≤ 16 := by rw [hL]; exact cntM_le h
  have hmi : (m : Int) ≤ 16 := by omega
  have HL : Hid (m = cntM h) := hL
  clear hL
  obtain ⟨W0, g, hW0, hg, hB0, hb0, _, _, _, _⟩ := box_br w s t h (.slice p m c)
  obtain ⟨W1, hW1⟩ : ∃ W1, World.alloc W0 (.cells zero32 43) = W1 := ⟨_, rfl⟩
  have hz : Holds W1 W0.heap.size 43 (hcl zeroH).toArray := by rw [← hW1]; exact Holds.new _ _ _
  have hB1 : Below W0.heap.size W0 W1 := by rw [← hW1]; exact below_new1 _ _
  rw [zero32_eq] at hW1
  have hb1 := below_holds hB1 hb0
  have c2 : W1.cell? ⟨g, 2, none⟩ = some (.int .u16 (h : Nat)) := hb1.cell 2
  have c3 : W1.cell? ⟨g, 3, none⟩ = some (.slice p m c) := hb1.cell 3
  have HW : Hid (Below w.heap.size w W1 ∧ w.heap.size ≤ W0.heap.size) := ⟨below_new hB0 hB1, hB0.size⟩
  have HV : Hid (HashesAt W1 (.slice p m c) L) := hv.below HW.out.1
  have hq := fun n w => qhas_any hh n w
  clear hb0 hB0 hB1 hb1 hv
  cases hb : hasM h n with
  | false =>
    rw [hashX_no hb]
    go_enter Tryd.func24, Tryd.ntmps24
    go_wp2_with fail
    refine (hq n W1).mono ?_
    rintro e w2 ⟨rfl, hw2⟩
    subst hw2
    rw [hb]
    clear hb hq
    go_wp2_with (refine wpList_stH rfl _ _ rfl rfl zeroLit hz ?_; intro W7 h7 hO7 hs7)
    refine bodyPost_ret (results_cellM rfl _ _ _ _ _ _ rfl h7 underSumM rfl (infoHcl zeroH)) rfl ?_
    exact ⟨rfl, Only.fresh HW.out.1 hO7 HW.out.2⟩
  | true =>
    obtain ⟨k, rfl, hk, hbk⟩ := hasM_true hb
    have hx := hashX_yes hk hbk (HM.out.trans HL.out)
    have hlt := cntTo_lt hk hbk
    rw [← HL.out] at hlt
    have hki : (k : Int) < 16 := by omega
    obtain ⟨S, hS⟩ : ∃ S : Nat → Nat, ∀ k, S k = cntTo h k := ⟨_, fun _ => rfl⟩
    have HSk : Hid (∀ k, S (k + 1) = S k + if h.testBit k then 1 else 0) := fun k => by rw [hS, hS, cntTo_succ]
    have HSl : Hid (∀ k, S k ≤ k) := fun k => by rw [hS]; exact cntTo_le h k
    have HS0 : Hid (S 0 = 0) := by show S 0 = 0; rw [hS]; rfl
    rw [← hS k] at hx hlt
    clear hS
    generalize hashX h L (k : Int) = x at hx ⊢
    have HX : Hid (L[S k]? = some x) := hx
    have HLT : Hid (S k < m) := hlt
    clear hbk hx hlt
    go_enter Tryd.func24, Tryd.ntmps24
    go_wp2_with fail
    refine (hq (k : Int) W1).mono ?_
    rintro e w2 ⟨rfl, hw2⟩
    subst hw2
    rw [hb]
    clear hb
    go_wp2_with fail
    rename World => wo
    go_loopw [7, 8, 9] (fun y z _ wr => ∃ i : Nat, z = .int .i64 (i : Nat) ∧ i ≤ k ∧ y = .int .i64 (S i : Nat) ∧ wr = wo) (fun _ z _ _ => k - (intOf z).toNat)
    case atStart => exact ⟨0, rfl, Nat.zero_le _, by rw [HS0.out]; rfl, rfl⟩
    case round =>
      obtain ⟨i, rfl, hi, rfl, hww⟩ := hrel
      have hww' := hww.symm
      clear hww
      subst hww'
      by_cases hik : i < k
      · have hii : (i : Int) < k := by omega
        have hqk := hq (i : Int) wo
        rw [hasM_nat h i (by omega)] at hqk
        have HT := HSk.out i
        have hsl := HSl.out i
        generalize S i = s0 at HT hsl ⊢
        have hs0 : (s0 : Int) ≤ 16 := by omega
        cases hb : h.testBit i with
        | true =>
          have HT2 : Hid (S (i + 1) = s0 + 1) := by rw [hb] at HT; exact HT
          rw [hb] at hqk
          clear HT hb hq
          go_wp2_with fail
          refine hqk.mono ?_
          rintro e w3 ⟨rfl, hw3⟩
          subst hw3
          go_wp2_with fail
          go_roundw
          case rel => exact ⟨i + 1, by go_num, by omega, by rw [HT2.out]; go_num, trivial⟩
          case measure => simp [intOf]; omega
        | false =>
          have HT2 : Hid (S (i + 1) = s0) := by rw [hb] at HT; exact HT
          rw [hb] at hqk
          clear HT hb hq
          go_wp2_with fail
          refine hqk.mono ?_
          rintro e w3 ⟨rfl, hw3⟩
          subst hw3
          go_wp2_with fail
          go_roundw
          case rel => exact ⟨i + 1, by go_num, by omega, by rw [HT2.out], trivial⟩
          case measure => simp [intOf]; omega
      · have hii : ¬ (i : Int) < k := by omega
        obtain rfl : i = k := by omega
        have hx := HX.out
        have hlt := HLT.out
        generalize S i = j at hx hlt ⊢
        have hji : (j : Int) < m := by omega
        have hji2 : ¬ (m : Int) ≤ j := by omega
        obtain ⟨b, o, rfl, hnn, hd⟩ := HV.out.at hx
        clear hnn hx hlt hq
        go_wp2_with (first
          | (refine wpList_ldH rfl _ rfl rfl hd ?_)
          | (refine wpList_stH rfl _ _ rfl rfl rfl hz ?_; intro W7 h7 hO7 hs7))
        refine bodyPost_ret (results_cellM rfl _ _ _ _ _ _ rfl h7 underSumM rfl (infoHcl x)) rfl ?_
        rw [← hg]
        exact ⟨rfl, Only.fresh HW.out.1 hO7 HW.out.2⟩
end Go.Proofs.YtbidoangdnmjfaaDoor
