/-
  DiskFaults' walk.
-/
import Derived.Test.YtonmjkalkkfhhaaDFaultsP
namespace Go.Proofs.Ytonmjkalkkfhhaa
open Go Go.RowKit Go.Maps

theorem ints_below {w W : World} {v : Value} {l : List Int} (hl : IntsAt w v l) (hB : Below w.heap.size w W) : IntsAt W v l := by
  by_cases h0 : l = []
  · rcases hl with q | ⟨b, o, c, rfl, h2⟩
    · exact .inl q
    · exact .inl ⟨h0, _, _, by rw [h0]; rfl⟩
  · exact hl.block fun k hk => hB.block k (ints_lt hl h0 k hk)
theorem row_same {w w' : World} {g n : Nat} {t : TypeId} {f : Nat → Value} (h : w.rowIs g t n f) (hs : Same (fun k => k = g) w w') : w'.rowIs g t n f := h.of_block (hs g rfl)

/-- A row of another type is no block of a device. -/
theorem not_blk {W : World} {h : Hd} {E : Dev} (a : DiskAt W h E) {g n : Nat} {t : TypeId} {f : Nat → Value} (hr : W.rowIs g t n f) (h1 : t ≠ 60) (h2 : t ≠ 73) : ¬ Blk h g := by
  obtain ⟨c, hc, _, _⟩ := hr
  rintro (rfl | q | q | q)
  · have := a.ptr
    unfold Holds at this
    rw [this] at hc
    injection hc with hc
    injection hc with _ hc
    exact h1 hc.symm
  · obtain ⟨es, clock, hq⟩ := a.pages.obj g q
    rw [hq] at hc
    cases hc
  · obtain ⟨n0, hf⟩ := a.fails
    obtain ⟨es, clock, hq⟩ := hf.obj g q
    rw [hq] at hc
    cases hc
  · obtain ⟨cur, hq⟩ := a.writes.obj g q
    rw [hq] at hc
    injection hc with hc
    injection hc with _ hc
    exact h2 hc.symm
theorem fill_pg (i : Nat) (hi : i < 200) (w : World) : Calls Try.prog 29 #[.int .u8 ((i : Int) + 1)] w fun e w' => e = .returned (.string (pg i)) ∧ Below w.heap.size w w' := by
  have := fill_any (UInt8.ofNat (i + 1)) w
  rw [show (UInt8.ofNat (i + 1)).toNat = i + 1 by rw [UInt8.toNat_ofNat']; omega, show ((i + 1 : Nat) : Int) = (i : Int) + 1 by omega] at this
  exact this
theorem fill_zeros (w : World) : Calls Try.prog 29 #[.int .u8 0] w fun e w' => e = .returned (.string zeros) ∧ Below w.heap.size w w' := fill_any 0 w
theorem pg_ne (j : Nat) (hj : j < 20) : pg j ≠ zeros := fun e => by
  have h1 := fillOf_at (UInt8.ofNat (j + 1)) 0 (by decide)
  have h2 := fillOf_at 0 0 (by decide)
  unfold pg zeros at e
  rw [e, h2] at h1
  have := congrArg UInt8.toNat h1
  rw [UInt8.toNat_ofNat'] at this
  have h0 : (0 : UInt8).toNat = 0 := rfl
  omega

set_option maxRecDepth 100000 in
set_option maxHeartbeats 8000000 in
theorem faults_walk {w : World} {p : Option Addr} {m c : Nat} {l : List Int} (hl : IntsAt w (.slice p m c) l) (hml : m = l.length) (_hmc : m ≤ c) (hc : c ≤ 9223372036854775807) (hin : ∀ x ∈ l, -9223372036854775808 ≤ x ∧ x ≤ 9223372036854775807)
    {p2 : Option Addr} {m2 c2 : Nat} {l2 : List Int} (hl2 : IntsAt w (.slice p2 m2 c2) l2) (hml2 : m2 = l2.length) (hmc2 : m2 ≤ c2) (hc2 : c2 ≤ 9223372036854775807) :
    Calls Try.prog 5 #[.slice p m c, .slice p2 m2 c2] w fun e w' => e = .returned (.bool true) ∧ Below w.heap.size w w' := by
  have hq := ptr_eql
  have hnot := run_not
  subst hml hml2
  have hlm : l.length ≤ 9223372036854775807 := by omega
  have hlm2 : l2.length ≤ 9223372036854775807 := by omega
  have hli : (l.length : Int) ≤ 9223372036854775807 := by omega
  go_enter Try.func5, Try.ntmps5
  go_wp2_with fail
  refine (awake_any _).mono ?_
  rintro e w1 ⟨rfl, hB1⟩
  go_wp2_with fail
  refine (own_new 20 _).mono ?_
  rintro e w2 ⟨b, rfl, o0⟩
  have o0' : Own w w2 b (Dev.new 20) := by
    obtain ⟨h, q1, q2, q3, q4⟩ := o0
    exact ⟨h, q1, q2, fun k hk => by have := q3 k hk; have := hB1.size; omega, below_new hB1 q4⟩
  clear o0
  go_wp2_with fail
  refine (own_fail o0' hl hlm hin).mono ?_
  rintro e w3 ⟨rfl, o1⟩
  have hF0 : Flt l 0 { Dev.new 20 with fails := failsOf l, count := 0 } := by
    have ok := Dev.new_ok 20 0
    exact ⟨⟨ok.size, ok.keys, ok.texts, ok.writes, ok.many, ok.ops, ok.left, ok.count⟩, rfl, rfl, rfl, rfl, rfl, rfl, rfl, fun j => by rw [if_neg (by omega)]; rfl⟩
  generalize ({ Dev.new 20 with fails := failsOf l, count := 0 } : Dev) = D0 at o1 hF0
  clear o0' hB1
  go_wp2_with fail
  obtain ⟨g, hg⟩ : ∃ g, w3.heap.size = g := ⟨_, rfl⟩
  have hrow : (w3.alloc (.cells #[.bool false, .bool false, .bool false, .bool false, .bool false, .bool false, .bool false, .bool false, .bool false, .bool false, .bool false, .bool false, .bool false, .bool false, .bool false, .bool false, .bool false, .bool false, .bool false, .bool false] 52)).rowIs g 52 20 (fun j => .bool (decide (j < 0) && good l j)) := by
    rw [← hg]
    refine World.rowIs_alloc w3 #[.bool false, .bool false, .bool false, .bool false, .bool false, .bool false, .bool false, .bool false, .bool false, .bool false, .bool false, .bool false, .bool false, .bool false, .bool false, .bool false, .bool false, .bool false, .bool false, .bool false] 52 _ (fun i hi => ?_)
    have hi' : i < 20 := hi
    rw [decide_eq_false (Nat.not_lt_zero i), Bool.false_and]
    have : i = 0 ∨ i = 1 ∨ i = 2 ∨ i = 3 ∨ i = 4 ∨ i = 5 ∨ i = 6 ∨ i = 7 ∨ i = 8 ∨ i = 9 ∨ i = 10 ∨ i = 11 ∨ i = 12 ∨ i = 13 ∨ i = 14 ∨ i = 15 ∨ i = 16 ∨ i = 17 ∨ i = 18 ∨ i = 19 := by omega
    rcases this with rfl | rfl | rfl | rfl | rfl | rfl | rfl | rfl | rfl | rfl | rfl | rfl | rfl | rfl | rfl | rfl | rfl | rfl | rfl | rfl <;> rfl
  have oG : OwnG (fun k => k = g) w (w3.alloc (.cells #[.bool false, .bool false, .bool false, .bool false, .bool false, .bool false, .bool false, .bool false, .bool false, .bool false, .bool false, .bool false, .bool false, .bool false, .bool false, .bool false, .bool false, .bool false, .bool false, .bool false] 52)) b D0 := o1.toG.more (below_new1 _ _) (fun k e => .inr (by omega)) (fun k e => by simp; omega)
  rw [hg]
  generalize w3.alloc (.cells #[.bool false, .bool false, .bool false, .bool false, .bool false, .bool false, .bool false, .bool false, .bool false, .bool false, .bool false, .bool false, .bool false, .bool false, .bool false, .bool false, .bool false, .bool false, .bool false, .bool false] 52) = W3 at hrow oG ⊢
  have HGW : Hid (w.heap.size ≤ g) := by show _ ≤ _; have := o1.all.size; omega
  clear hg o1
  go_loopw [7, 9] (fun dn y wr => ∃ (i : Nat) (D : Dev), y = .int .i64 (i : Nat) ∧ i ≤ 20 ∧ dn = .int .i64 ((goods l i).length : Nat) ∧ Flt l i D ∧ OwnG (fun k => k = g) w wr b D ∧ wr.rowIs g 52 20 (fun j => .bool (decide (j < i) && good l j))) (fun _ y _ => 20 - (intOf y).toNat)
  case atStart => exact ⟨0, D0, rfl, by omega, rfl, hF0, oG, hrow⟩
  case round =>
    obtain ⟨i, D, rfl, hi20, rfl, hF, o, hr⟩ := hrel
    have hgl : (goods l i).length ≤ i := by have := hF.ok.many; rw [hF.writes] at this; exact this
    by_cases hi : i < 20
    · have hii : (i : Int) < 20 := by omega
      go_wp2_with fail
      go_loopw [10, 11] (fun q y wi => ∃ k : Nat, y = .int .i64 (k : Nat) ∧ k ≤ l.length ∧ q = .bool (decide (((i : Int) + 1) ∈ l.take k)) ∧ wi = wr) (fun _ y _ => l.length - (intOf y).toNat)
      case atStart => exact ⟨0, rfl, Nat.zero_le _, by simp, rfl⟩
      case round =>
        obtain ⟨k, rfl, hkl, rfl, rfl⟩ := hrel
        by_cases hk : k < l.length
        · have hki : (k : Int) < l.length := by omega
          obtain ⟨x, hx⟩ : ∃ x, l[k]? = some x := ⟨_, List.getElem?_eq_getElem hk⟩
          obtain ⟨gg, oo, rfl, _, hcx⟩ := (ints_below hl o.all).at hx
          have HT : Hid (decide (((i : Int) + 1) ∈ l.take (k + 1)) = (decide (((i : Int) + 1) ∈ l.take k) || decide (x = (i : Int) + 1))) := take_mem l k x _ hx
          generalize decide (((i : Int) + 1) ∈ l.take k) = q at HT ⊢
          cases q with
          | true =>
            go_wp2_with fail
            go_roundw
            case rel => exact ⟨k + 1, by go_num, by omega, by rw [HT.out]; rfl, trivial⟩
            case measure => simp [intOf]; omega
          | false =>
            by_cases hxi : x = (i : Int) + 1
            · have hb : (x == (i : Int) + 1) = true := by rw [hxi]; simp
              have HX : Hid (x = (i : Int) + 1) := hxi
              clear hxi
              go_wp2_with fail
              go_roundw
              case rel => exact ⟨k + 1, by go_num, by omega, by rw [HT.out, decide_eq_true HX.out]; rfl, trivial⟩
              case measure => simp [intOf]; omega
            · have hb : (x == (i : Int) + 1) = false := beq_eq_false_iff_ne.2 hxi
              go_wp2_with fail
              go_roundw
              case rel => exact ⟨k + 1, by go_num, by omega, by rw [HT.out, decide_eq_false hxi]; rfl, trivial⟩
              case measure => simp [intOf]; omega
        · have hkn : ¬ (k : Int) < l.length := by omega
          have hkl2 : l.take k = l := List.take_of_length_le (by omega)
          rw [hkl2]
          have hst := hF.step hi
          have hbad : decide (((i : Int) + 1) ∈ l) = !good l i := by unfold good; by_cases q : ((i : Int) + 1) ∈ l <;> simp [q]
          rw [hbad]
          clear hbad hkl2
          obtain ⟨q, hq2⟩ : ∃ q, good l i = q := ⟨_, rfl⟩
          rw [hq2]
          have HG : Hid (good l i = q) := hq2
          clear hq2
          cases q with
          | true =>
            go_wp2_with fail
            refine (fill_pg i (by omega) _).mono ?_
            rintro e w5 ⟨rfl, hB5⟩
            have o5 := o.below hB5
            have hwr := ownG_write o5.1 hF.ok (by omega) (i : Int) (by omega) (pg i)
            rw [hst.1, HG.out] at hwr
            simp only [if_true] at hwr
            go_wp2_with fail
            refine hwr.mono ?_
            rintro e w6 ⟨rfl, o6, hs6⟩
            clear hwr
            have hr6 := row_same (row_same hr o5.2) hs6
            have hci : w6.cell? ⟨g, i, none⟩ = some (.bool false) := by have := hr6.cell hi; rw [decide_eq_false (show ¬ i < i by omega)] at this; exact this
            have hfi := hr6.frozen i
            have HR : Hid (∀ v, v = good l i → (w6.setCell ⟨g, i, none⟩ (.bool v)).rowIs g 52 20 (fun j => .bool (decide (j < i + 1) && good l j))) := fun v hv => (hr6.set i (.bool v)).congr fun j hj => by
              by_cases e : j = i
              · subst e
                rw [if_pos rfl, hv, decide_eq_true (show j < j + 1 by omega), Bool.true_and]
              · rw [if_neg e]
                by_cases q : j < i
                · rw [decide_eq_true q, decide_eq_true (show j < i + 1 by omega)]
                · rw [decide_eq_false q, decide_eq_false (show ¬ j < i + 1 by omega)]
            have HO : Hid (∀ v, OwnG (fun k => k = g) w (w6.setCell ⟨g, i, none⟩ v) b (D.write (i : Int) (pg i)).2) := fun v => by
              obtain ⟨h, q1, q2, q3, q4, q5⟩ := o6
              have hgne : ∀ k, Blk h k → k ≠ g := fun k hk e => not_blk q2 hr6 (by decide) (by decide) (e ▸ hk)
              refine ⟨h, q1, q2.kept fun k hk => Below.heap_setCell _ _ _ _ (hgne k hk), q3, ?_, fun k e => by have := q5 k e; simpa using this⟩
              exact q4.setCell (by have := HGW.out; show _ ≤ g; omega) _
            have HF : Hid (Flt l (i + 1) (D.write (i : Int) (pg i)).2) := hst.2
            clear hst hF hr hr6 hs6 o6 o5 o
            go_wp2_with fail
            go_roundw
            case rel => exact ⟨i + 1, _, by go_num, by omega, by rw [goods, if_pos HG.out]; simp, HF.out, HO.out _, HR.out _ HG.out.symm⟩
            case measure => simp [intOf]; omega
          | false =>
            go_wp2_with fail
            refine (fill_pg i (by omega) _).mono ?_
            rintro e w5 ⟨rfl, hB5⟩
            have o5 := o.below hB5
            have hwr := ownG_write o5.1 hF.ok (by omega) (i : Int) (by omega) (pg i)
            rw [hst.1, HG.out] at hwr
            simp only [Bool.false_eq_true, if_false] at hwr
            go_wp2_with fail
            refine hwr.mono ?_
            rintro e w6 ⟨rfl, o6, hs6⟩
            clear hwr
            have hr6 := row_same (row_same hr o5.2) hs6
            have hci : w6.cell? ⟨g, i, none⟩ = some (.bool false) := by have := hr6.cell hi; rw [decide_eq_false (show ¬ i < i by omega)] at this; exact this
            have hfi := hr6.frozen i
            have HR : Hid (∀ v, v = good l i → (w6.setCell ⟨g, i, none⟩ (.bool v)).rowIs g 52 20 (fun j => .bool (decide (j < i + 1) && good l j))) := fun v hv => (hr6.set i (.bool v)).congr fun j hj => by
              by_cases e : j = i
              · subst e
                rw [if_pos rfl, hv, decide_eq_true (show j < j + 1 by omega), Bool.true_and]
              · rw [if_neg e]
                by_cases q : j < i
                · rw [decide_eq_true q, decide_eq_true (show j < i + 1 by omega)]
                · rw [decide_eq_false q, decide_eq_false (show ¬ j < i + 1 by omega)]
            have HO : Hid (∀ v, OwnG (fun k => k = g) w (w6.setCell ⟨g, i, none⟩ v) b (D.write (i : Int) (pg i)).2) := fun v => by
              obtain ⟨h, q1, q2, q3, q4, q5⟩ := o6
              have hgne : ∀ k, Blk h k → k ≠ g := fun k hk e => not_blk q2 hr6 (by decide) (by decide) (e ▸ hk)
              refine ⟨h, q1, q2.kept fun k hk => Below.heap_setCell _ _ _ _ (hgne k hk), q3, ?_, fun k e => by have := q5 k e; simpa using this⟩
              exact q4.setCell (by have := HGW.out; show _ ≤ g; omega) _
            have HF : Hid (Flt l (i + 1) (D.write (i : Int) (pg i)).2) := hst.2
            clear hst hF hr hr6 hs6 o6 o5 o
            go_wp2_with fail
            go_roundw
            case rel => exact ⟨i + 1, _, by go_num, by omega, by rw [goods, if_neg (by rw [HG.out]; decide)], HF.out, HO.out _, HR.out _ HG.out.symm⟩
            case measure => simp [intOf]; omega
    · have hii : ¬ (i : Int) < 20 := by omega
      have hi' : i = 20 := by omega
      subst hi'
      have hopc := ownG_ops o
      rw [hF.ops] at hopc
      go_wp2_with fail
      refine hopc.mono ?_
      rintro e w5 ⟨rfl, rfl⟩
      clear hopc
      go_wp2_with fail
      refine (ownG_clear o).mono ?_
      rintro e w6 ⟨rfl, o6, hs6⟩
      have o6' : OwnG (fun k => k = g) w w6 b D.cleared := o6
      have hsy := ownG_sync o6' (cleared_ok hF.ok) (by omega)
      go_wp2_with fail
      refine hsy.mono ?_
      rintro e w7 ⟨rfl, o7, hs7⟩
      clear hsy
      have hcr := ownG_crash o7 (sync_ok (cleared_ok hF.ok)) (by omega) hl2 rfl hmc2 hlm2
      go_wp2_with fail
      refine hcr.mono ?_
      rintro e w8 ⟨rfl, o8, hs8⟩
      clear hcr
      have hr8 := row_same (row_same (row_same hr hs6) hs7) hs8
      have hK := Kept.of hF l2
      generalize D.cleared.sync.2.crash l2 = E at o8 hK
      clear o6 o6' o7 hs6 hs7 hs8 hr o hF
      go_wp2_with fail
      go_loopw [13] (fun y wj => ∃ (j : Nat) (E : Dev), y = .int .i64 (j : Nat) ∧ j ≤ 20 ∧ Kept l (21 + j) E ∧ OwnG (fun k => k = g) w wj b E ∧ wj.rowIs g 52 20 (fun j => .bool (decide (j < 20) && good l j))) (fun y _ => 20 - (intOf y).toNat)
      case atStart => exact ⟨0, E, rfl, by omega, hK, o8, hr8⟩
      case round =>
        clear hK o8 hr8
        obtain ⟨j, E, rfl, hj20, hK, oj, hrj⟩ := hrel
        by_cases hj : j < 20
        · have hji : (j : Int) < 20 := by omega
          have hst := hK.step hj
          have hrd := ownG_read oj hK.ok (by omega) (j : Int) (by omega)
          rw [hst.1] at hrd
          obtain ⟨q, hgj⟩ : ∃ q, good l j = q := ⟨_, rfl⟩
          rw [hgj] at hrd
          have HK := hst.2
          cases q with
          | true =>
            simp only [if_true] at hrd
            go_wp2_with fail
            refine hrd.mono ?_
            rintro e w9 ⟨rfl, o9, hs9⟩
            clear hrd
            have hr9 := row_same hrj hs9
            go_wp2_with fail
            refine (fill_zeros _).mono ?_
            rintro e w10 ⟨rfl, hB10⟩
            have o10 := o9.below hB10
            have hr10 := row_same hr9 o10.2
            have hcj : w10.cell? ⟨g, j, none⟩ = some (.bool true) := by have := hr10.cell hj; rw [decide_eq_true (show j < 20 by omega), hgj] at this; exact this
            go_wp2_with fail
            refine (fill_pg j (by omega) _).mono ?_
            rintro e w11 ⟨rfl, hB11⟩
            have o11 := o10.1.below hB11
            have HR : Hid _ := row_same hr10 o11.2
            have HKK : Hid _ := HK
            clear hst HK hK
            go_wp2_with fail
            go_roundw
            case rel => exact ⟨j + 1, _, by go_num, by omega, HKK.out, o11.1, HR.out⟩
            case measure => simp [intOf]; omega
          | false =>
            simp only [Bool.false_eq_true, if_false] at hrd
            go_wp2_with fail
            refine hrd.mono ?_
            rintro e w9 ⟨rfl, o9, hs9⟩
            clear hrd
            have hr9 := row_same hrj hs9
            go_wp2_with fail
            refine (fill_zeros _).mono ?_
            rintro e w10 ⟨rfl, hB10⟩
            have o10 := o9.below hB10
            have hr10 := row_same hr9 o10.2
            have hcj : w10.cell? ⟨g, j, none⟩ = some (.bool false) := by have := hr10.cell hj; rw [decide_eq_true (show j < 20 by omega), hgj] at this; exact this
            have HR : Hid _ := hr10
            have HKK : Hid _ := HK
            clear hst HK hK
            go_wp2_with fail
            go_roundw
            case rel => exact ⟨j + 1, _, by go_num, by omega, HKK.out, o10.1, HR.out⟩
            case measure => simp [intOf]; omega
        · have hji : ¬ (j : Int) < 20 := by omega
          go_wp2_with fail
          go_ret
          exact ⟨rfl, oj.all⟩
end Go.Proofs.Ytonmjkalkkfhhaa
