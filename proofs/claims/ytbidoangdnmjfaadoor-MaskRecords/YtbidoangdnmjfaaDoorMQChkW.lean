/-
  The document's Count, Check.
-/
import Derived.Test.YtbidoangdnmjfaaDoorMChkW
namespace Go.Proofs.YtbidoangdnmjfaaDoor
open Go Go.RowKit

theorem hasM_k (m k : Nat) (hk : k < 16) : hasM m (k : Int) = m.testBit k := hasM_nat m k hk
set_option maxRecDepth 8000 in
theorem qcount_any {m : Nat} (hm : m < 65536) (w : World) : Calls Tryd.prog 21 #[.int .u16 (m : Nat)] w fun e w' => e = .returned (.int .i64 (cntM m : Nat)) ∧ w' = w := by
  rw [← cntTo_16]
  obtain ⟨S, hS⟩ : ∃ S : Nat → Nat, ∀ k, S k = cntTo m k := ⟨_, fun _ => rfl⟩
  have hSk : ∀ k, S (k + 1) = S k + if m.testBit k then 1 else 0 := fun k => by rw [hS, hS, cntTo_succ]
  have hSl : ∀ k, S k ≤ k := fun k => by rw [hS]; exact cntTo_le m k
  have hS0 : S 0 = 0 := by rw [hS]; rfl
  rw [← hS 16]
  clear hS
  have hq := fun n w => qhas_any hm n w
  go_enter Tryd.func21, Tryd.ntmps21
  go_wp2_with fail
  go_loopw [3, 4, 5] (fun x y _ wr => ∃ k : Nat, y = .int .i64 (k : Nat) ∧ k ≤ 16 ∧ x = .int .i64 (S k : Nat) ∧ wr = w) (fun _ y _ _ => 16 - (intOf y).toNat)
  case atStart => exact ⟨0, rfl, by omega, by rw [hS0]; rfl, rfl⟩
  case round =>
    obtain ⟨k, rfl, hk, rfl, hww⟩ := hrel
    have hww' := hww.symm
    clear hww
    subst hww'
    by_cases hlt : k < 16
    · have hki : (k : Int) < 16 := by omega
      have hqk := hq k w
      rw [hasM_k m k hlt] at hqk
      have HT : Hid _ := hSk k
      have hsl := hSl k
      clear hSk hSl hS0 hq
      generalize S k = s0 at HT hsl ⊢
      have hs0 : (s0 : Int) ≤ 16 := by omega
      cases hb : m.testBit k with
      | true =>
        have HT2 : Hid (S (k + 1) = s0 + 1) := by have := HT.out; rw [hb] at this; exact this
        rw [hb] at hqk
        clear HT hb
        go_wp2_with (go_at_call 15; refine hqk.mono ?_; rintro e w1 ⟨rfl, hw1⟩; subst hw1)
        go_roundw
        case rel => exact ⟨k + 1, by go_num, by omega, by rw [HT2.out]; go_num, trivial⟩
        case measure => simp [intOf]; omega
      | false =>
        have HT2 : Hid (S (k + 1) = s0) := by have := HT.out; rw [hb] at this; exact this
        rw [hb] at hqk
        clear HT hb
        go_wp2_with (go_at_call 15; refine hqk.mono ?_; rintro e w1 ⟨rfl, hw1⟩; subst hw1)
        go_roundw
        case rel => exact ⟨k + 1, by go_num, by omega, by rw [HT2.out], trivial⟩
        case measure => simp [intOf]; omega
    · have hki : ¬ (k : Int) < 16 := by omega
      obtain rfl : k = 16 := by omega
      clear hSk hSl hS0 hq
      go_wp2_with fail
      go_ret
      exact ⟨rfl, rfl⟩
/-- The document's way to look at them. -/
theorem sub_bits {s t h : Nat} (ht : t < 65536) (hh : h < 65536) : (andN (t ||| h) s = 0) ↔ ∀ i, i < 16 → s.testBit i = false → t.testBit i = false ∧ h.testBit i = false := by
  rw [subM_iff s _ (or_lt16 _ _ ht hh)]
  unfold subM
  constructor
  · intro q i hi hs
    have := q i hi
    rw [Nat.testBit_or, hs] at this
    cases h1 : t.testBit i <;> cases h2 : h.testBit i <;> simp [h1, h2] at this ⊢
  · intro q i hi hb
    cases hs : s.testBit i with
    | true => rfl
    | false =>
      obtain ⟨h1, h2⟩ := q i hi hs
      rw [Nat.testBit_or, h1, h2] at hb
      cases hb
set_option maxRecDepth 8000 in
set_option maxHeartbeats 1000000 in
theorem qcheck_any {w : World} {s t h n c : Nat} {p : Option Addr} (hs : s < 65536) (ht : t < 65536) (hh : h < 65536) (hn : n ≤ 9223372036854775807) : Calls Tryd.prog 17 #[brV s t h (.slice p n c)] w fun e w' => e = .returned (.int .i64 (chkM s t h n)) ∧ Below w.heap.size w w' := by
  unfold brV
  have hcs := fun W => qcount_any hs W
  have hch := fun W => qcount_any hh W
  have hqs := fun n w => qhas_any hs n w
  have hqt := fun n w => qhas_any ht n w
  have hqh := fun n w => qhas_any hh n w
  have HSB : Hid _ := sub_bits (s := s) ht hh
  obtain ⟨R, hR⟩ : ∃ R, chkM s t h n = R := ⟨_, rfl⟩
  have HR : Hid (chkM s t h n = R) := hR
  rw [hR]
  clear hR
  have hcl := cntM_le s
  have hch2 := cntM_le h
  unfold chkM at HR
  generalize cntM s = a at hcs HR hcl
  generalize cntM h = b at hch HR hch2
  obtain ⟨W0, g, hW0, hg, hB0, hb0, c0, c1, c2, c3⟩ := box_br w s t h (.slice p n c)
  have hgH : Hid (w.heap.size = g) := hg
  have hWH : Hid (Below w.heap.size w W0) := hB0
  clear hB0 hb0
  have hni : (n : Int) ≤ 9223372036854775807 := by omega
  go_enter Tryd.func17, Tryd.ntmps17
  by_cases ha : a < 2
  · have HRe : Hid (R = 1) := HR.out.symm.trans (if_neg (by omega))
    go_wp2_with fail
    refine wp_region_class (fun W => Below W0.heap.size W0 W) mixedP (by kernel_rfl) (Below.refl _ _).drew ?_
    go_big_quiet_step (exact fun _ => rfl)
    refine wpQ_ld rfl _ _ rfl rfl (fun W hW => ldU16M (keep_cellM hW c0)) ?_
    go_frame
    refine wpQ_call rfl 21 #[.int .u16 (s : Nat)] (fun _ => by go_simp) (.int .i64 (a : Nat)) (fun W hW => (hcs W).mono fun e w' h => ⟨h.1, by rw [h.2]; exact hW⟩) ?_
    go_frame
    refine wpQ_val rfl (.bool true) (fun _ => by go_simp <;> omega) ?_
    go_frame
    go_big_quiet_step (exact fun _ => rfl)
    go_big_quiet_step (fail)
    go_big_quiet_step (fail)
    go_big_quiet_step (fail)
    go_big_quiet_step (fail)
    go_big_quiet_step (fail)
    go_big_quiet_step (fail)
    go_big_quiet_step (fail)
    go_big_quiet_step (exact fun _ => rfl)
    refine wpQuiet_nil ?_
    intro W6 hB6
    show Exit.then _ _ Exit.normal _ _
    simp only [Exit.then]
    go_at_K
    have HB2 : Hid (Below w.heap.size w W6) := below_new hWH.out hB6
    clear hB6
    go_wp2_with fail
    go_ret
    exact ⟨by rw [HRe.out]; rfl, HB2.out⟩
  · by_cases hbn : b = n
    · subst hbn
      go_wp2_with fail
      refine wp_region_class (fun W => Below W0.heap.size W0 W) mixedP (by kernel_rfl) (Below.refl _ _).drew ?_
      go_big_quiet_step (exact fun _ => rfl)
      refine wpQ_ld rfl _ _ rfl rfl (fun W hW => ldU16M (keep_cellM hW c0)) ?_
      go_frame
      refine wpQ_call rfl 21 #[.int .u16 (s : Nat)] (fun _ => by go_simp) (.int .i64 (a : Nat)) (fun W hW => (hcs W).mono fun e w' h => ⟨h.1, by rw [h.2]; exact hW⟩) ?_
      go_frame
      refine wpQ_val rfl (.bool false) (fun _ => by go_simp <;> omega) ?_
      go_frame
      go_big_quiet_step (exact fun _ => rfl)
      go_big_quiet_step (exact fun _ => rfl)
      refine wpQ_ld rfl _ _ rfl rfl (fun W hW => ldRowM (keep_cellM hW c3)) ?_
      go_frame
      go_big_quiet_step (exact fun _ => rfl)
      go_big_quiet_step (exact fun _ => rfl)
      refine wpQ_ld rfl _ _ rfl rfl (fun W hW => ldU16M (keep_cellM hW c2)) ?_
      go_frame
      refine wpQ_call rfl 21 #[.int .u16 (h : Nat)] (fun _ => by go_simp) (.int .i64 (b : Nat)) (fun W hW => (hch W).mono fun e w' h => ⟨h.1, by rw [h.2]; exact hW⟩) ?_
      go_frame
      refine wpQ_val rfl (.bool false) (fun _ => by go_simp <;> omega) ?_
      go_frame
      go_big_quiet_step (exact fun _ => rfl)
      refine wpQuiet_nil ?_
      intro W6 hB6
      show Exit.then _ _ Exit.normal _ _
      simp only [Exit.then]
      go_at_K
      have HB2 : Hid (Below w.heap.size w W6) := below_new hWH.out hB6
      have d0 := keep_cellM hB6 c0
      have d1 := keep_cellM hB6 c1
      have d2 := keep_cellM hB6 c2
      clear hB6 c0 c1 c2 c3 hcs hch
      go_wp2_with fail
      go_loopw [3, 4, 5, 6] (fun y _ _ _ wr => ∃ k : Nat, y = .int .i64 (k : Nat) ∧ k ≤ 16 ∧ Hid (∀ i, i < k → s.testBit i = false → t.testBit i = false ∧ h.testBit i = false) ∧ wr = W6) (fun y _ _ _ _ => 16 - (intOf y).toNat)
      case atStart => exact ⟨0, rfl, by omega, fun i hi => absurd hi (by omega), rfl⟩
      case round =>
        obtain ⟨k, rfl, hk, HI, hww⟩ := hrel
        have hww' := hww.symm
        clear hww
        subst hww'
        by_cases hlt : k < 16
        · have hki : (k : Int) < 16 := by omega
          have q1 := hqs k W6
          have q2 := hqt k W6
          have q3 := hqh k W6
          rw [hasM_k _ k hlt] at q1 q2 q3
          have HN : Hid (∀ x y z, s.testBit k = x → t.testBit k = y → h.testBit k = z → (x = false → y = false ∧ z = false) → ∀ i, i < k + 1 → s.testBit i = false → t.testBit i = false ∧ h.testBit i = false) := fun x y z hx hy hz hf i hi hs => by
            by_cases e : i = k
            · subst e
              rw [hy, hz]
              exact hf (by rw [← hx]; exact hs)
            · exact HI.out i (by omega) hs
          clear hqs hqt hqh
          have hHB := HSB.out
          have HY : Hid (∀ hf : ¬ (s.testBit k = false → t.testBit k = false ∧ h.testBit k = false), R = 1) := fun hf => HR.out.symm.trans (if_neg (fun q => hf (hHB.1 q.2.1 k hlt)))
          clear hHB
          generalize hx : s.testBit k = x at q1 HN HY
          generalize hy : t.testBit k = y at q2 HN HY
          generalize hz : h.testBit k = z at q3 HN HY
          have HN3 : Hid ((x = false → y = false ∧ z = false) → ∀ i, i < k + 1 → s.testBit i = false → t.testBit i = false ∧ h.testBit i = false) := HN.out _ _ _ rfl rfl rfl
          clear HN hx hy hz HI
          cases x with
          | true =>
            have HN2 : Hid _ := HN3.out (by simp)
            clear HN3 HY
            go_wp2_with fail
            refine q1.mono ?_
            rintro e w1 ⟨rfl, hw1⟩
            subst hw1
            go_wp2_with fail
            refine q2.mono ?_
            rintro e w1 ⟨rfl, hw1⟩
            subst hw1
            go_wp2_with fail
            refine q3.mono ?_
            rintro e w1 ⟨rfl, hw1⟩
            subst hw1
            go_wp2_with fail
            go_roundw
            case rel => exact ⟨k + 1, by go_num, by omega, HN2, trivial⟩
            case measure => simp [intOf]; omega
          | false =>
            cases y with
            | true =>
              have HRe : Hid (R = 1) := HY.out (by simp)
              clear HN3 HY
              go_wp2_with fail
              refine q1.mono ?_
              rintro e w1 ⟨rfl, hw1⟩
              subst hw1
              go_wp2_with fail
              refine q2.mono ?_
              rintro e w1 ⟨rfl, hw1⟩
              subst hw1
              go_wp2_with fail
              refine q3.mono ?_
              rintro e w1 ⟨rfl, hw1⟩
              subst hw1
              go_wp2_with fail
              go_ret
              exact ⟨by rw [HRe.out]; rfl, HB2.out⟩
            | false =>
              cases z with
              | true =>
                have HRe : Hid (R = 1) := HY.out (by simp)
                clear HN3 HY
                go_wp2_with fail
                refine q1.mono ?_
                rintro e w1 ⟨rfl, hw1⟩
                subst hw1
                go_wp2_with fail
                refine q2.mono ?_
                rintro e w1 ⟨rfl, hw1⟩
                subst hw1
                go_wp2_with fail
                refine q3.mono ?_
                rintro e w1 ⟨rfl, hw1⟩
                subst hw1
                go_wp2_with fail
                go_ret
                exact ⟨by rw [HRe.out]; rfl, HB2.out⟩
              | false =>
                have HN2 : Hid _ := HN3.out (by simp)
                clear HN3 HY
                go_wp2_with fail
                refine q1.mono ?_
                rintro e w1 ⟨rfl, hw1⟩
                subst hw1
                go_wp2_with fail
                refine q2.mono ?_
                rintro e w1 ⟨rfl, hw1⟩
                subst hw1
                go_wp2_with fail
                refine q3.mono ?_
                rintro e w1 ⟨rfl, hw1⟩
                subst hw1
                go_wp2_with fail
                go_roundw
                case rel => exact ⟨k + 1, by go_num, by omega, HN2, trivial⟩
                case measure => simp [intOf]; omega
        · have hki : ¬ (k : Int) < 16 := by omega
          obtain rfl : k = 16 := by omega
          have HRe : Hid (R = 0) := HR.out.symm.trans (if_pos ⟨by omega, HSB.out.2 HI.out, trivial⟩)
          clear hqs hqt hqh
          go_wp2_with fail
          go_ret
          rw [← hgH.out]
          exact ⟨by rw [HRe.out]; rfl, HB2.out⟩
    · have HRe : Hid (R = 1) := HR.out.symm.trans (if_neg (by omega))
      go_wp2_with fail
      refine wp_region_class (fun W => Below W0.heap.size W0 W) mixedP (by kernel_rfl) (Below.refl _ _).drew ?_
      go_big_quiet_step (exact fun _ => rfl)
      refine wpQ_ld rfl _ _ rfl rfl (fun W hW => ldU16M (keep_cellM hW c0)) ?_
      go_frame
      refine wpQ_call rfl 21 #[.int .u16 (s : Nat)] (fun _ => by go_simp) (.int .i64 (a : Nat)) (fun W hW => (hcs W).mono fun e w' h => ⟨h.1, by rw [h.2]; exact hW⟩) ?_
      go_frame
      refine wpQ_val rfl (.bool false) (fun _ => by go_simp <;> omega) ?_
      go_frame
      go_big_quiet_step (exact fun _ => rfl)
      go_big_quiet_step (exact fun _ => rfl)
      refine wpQ_ld rfl _ _ rfl rfl (fun W hW => ldRowM (keep_cellM hW c3)) ?_
      go_frame
      go_big_quiet_step (exact fun _ => rfl)
      go_big_quiet_step (exact fun _ => rfl)
      refine wpQ_ld rfl _ _ rfl rfl (fun W hW => ldU16M (keep_cellM hW c2)) ?_
      go_frame
      refine wpQ_call rfl 21 #[.int .u16 (h : Nat)] (fun _ => by go_simp) (.int .i64 (b : Nat)) (fun W hW => (hch W).mono fun e w' h => ⟨h.1, by rw [h.2]; exact hW⟩) ?_
      go_frame
      refine wpQ_val rfl (.bool true) (fun _ => by go_simp <;> omega) ?_
      go_frame
      go_big_quiet_step (exact fun _ => rfl)
      refine wpQuiet_nil ?_
      intro W6 hB6
      show Exit.then _ _ Exit.normal _ _
      simp only [Exit.then]
      go_at_K
      have HB2 : Hid (Below w.heap.size w W6) := below_new hWH.out hB6
      clear hB6
      go_wp2_with fail
      go_ret
      exact ⟨by rw [HRe.out]; rfl, HB2.out⟩
end Go.Proofs.YtbidoangdnmjfaaDoor
