/-
  What held, put, Has, Add and New do.
-/
import Derived.Test.YtiokbhbggpibpaaBGA
import Derived.Laws.Cover3
namespace Go.Proofs.Ytiokbhbggpibpaa
open Go Go.RowKit Go.Maps

theorem eql_map (mo : Option Nat) (w : World) : (binOp .eql 60 (.map mo) (.map none)).run Try.prog w = .ok (.bool mo.isNone) w := by
  have h := run_equal_map_nil (w := w) 60 3 76 mo Try.underlying60
  simp [binOp, h, Result.andThen]
theorem run_ldC {w : World} {b : Nat} {t : TypeId} {p : Nat → Bool} (h : Holds w b t (contA p)) : (loadVar 76 ⟨b, 0, none⟩).run Try.prog w = .ok (.agg (contA p)) w :=
  run_loadVar_row w b t 76 (contA p) (0, 0) _ h Try.underlying76 (by rfl) (infoC p)

theorem held_any {w : World} {s : Value} {mo : Option Nat} {M : Nat → Bool} (h : View w s mo M) :
    Calls Try.prog 44 #[s] w fun e w' => e = .returned (.map mo) ∧ w' = w := by
  rcases h.ptr with ⟨rfl, rfl⟩ | ⟨b, rfl, hb⟩
  · go_enter Try.func44, Try.ntmps44
    go_wp2_with fail
    go_ret
    exact ⟨rfl, rfl⟩
  · have hc : w.cell? ⟨b, 0, none⟩ = some (.map mo) := hb.cell 0
    go_enter Try.func44, Try.ntmps44
    go_wp2_with fail
    go_ret
    exact ⟨rfl, rfl⟩

/-- Has a number. -/
def hasI (M : Nat → Bool) (n : Int) : Bool := decide (0 ≤ n) && M n.toNat
theorem hasI_pos {M : Nat → Bool} {n : Nat} : hasI M (n : Int) = M n := by simp [hasI]

set_option maxRecDepth 8000 in
theorem has5_any {w : World} {s : Value} {mo : Option Nat} {M : Nat → Bool} (h : View w s mo M) (n : Int) (hn : n ≤ 9223372036854775807) :
    Calls Try.prog 33 #[s, .int .i64 n] w fun e w' => e = .returned (.bool (hasI M n)) ∧ Below w.heap.size w w' := by
  have hh := held_any h
  by_cases h0 : 0 ≤ n
  · obtain ⟨k, rfl⟩ := Int.eq_ofNat_of_zero_le h0
    have hl := run_lookV h.map (u := ((k / 256 : Nat) : Int)) (wfI (by omega) (by omega))
    rw [atI_nat] at hl
    have hc := has_any (atU M (k / 256)) (k % 256) w (by omega)
    have e : atU M (k / 256) (k % 256) = hasI M (k : Int) := by
      rw [hasI_pos]; unfold atU
      rw [show 256 * (k / 256) + k % 256 = k by omega]
    rw [e] at hc
    rw [show ((k / 256 : Nat) : Int) = (k : Int) / 256 by simp] at hl
    rw [show ((k % 256 : Nat) : Int) = (k : Int) % 256 by simp] at hc
    generalize contA (atU M (k / 256)) = cs at hl hc
    generalize hasI M (k : Int) = r at hc ⊢
    go_enter Try.func33, Try.ntmps33
    go_wp2_with (first
      | (go_at_call 44; refine hh.mono ?_; rintro e w1 ⟨rfl, rfl⟩)
      | (go_at_call 58; refine hc.mono ?_; rintro e w1 ⟨rfl, hB1⟩))
    go_ret
    exact ⟨rfl, hB1⟩
  · have hneg : ¬ 0 ≤ n := h0
    have e : hasI M n = false := by unfold hasI; rw [decide_eq_false h0]; rfl
    rw [e]
    go_enter Try.func33, Try.ntmps33
    go_wp2_with fail
    go_ret
    exact ⟨rfl, Below.refl _ _⟩

set_option maxRecDepth 8000 in
/-- put: a container that has members. -/
theorem put_any {w : World} {b : Nat} {mo : Option Nat} {M : Nat → Bool} (h : SetAt w b mo M) {u : Nat} (hu : u < NU) {q : Nat → Bool} (hq : ∃ l, l < 256 ∧ q l = true) :
    Calls Try.prog 46 #[.pointer (some ⟨b, 0, none⟩), .int .i64 (u : Nat), .agg (contA q)] w fun e w' => e = .returned (.tuple #[]) ∧ ∃ mo', SetAt w' b mo' (setU M u q) ∧ Newer w mo mo' ∧ OnlyS b mo w w' ∧ ∃ m, mo' = some m := by
  have hblt := h.ptr.lt
  cases mo with
  | some m =>
    obtain ⟨W0, hW⟩ : ∃ W0, World.alloc w (.cells (contA q) 76) = W0 := ⟨_, rfl⟩
    have h1 : Holds W0 w.heap.size 76 (contA q) := by rw [← hW]; exact Holds.new _ _ _
    have hB : Below w.heap.size w W0 := by rw [← hW]; exact below_new1 _ _
    have h2 := h.below hB
    have hc : W0.cell? ⟨b, 0, none⟩ = some (.map (some m)) := h2.ptr.cell 0
    have hm : MapAt W0 m M := h2.map
    have hm2 : MapAt W0.drew m M := hm
    obtain ⟨w', hrun, r1, r2, r3⟩ := run_upd hm2 hu hq
    have heq := eql_map (some m)
    have hfr := h2.ptr.frozen 0
    have HB : Hid (OnlyS b (some m) w w') := OnlyS.trans (OnlyS.below hB) (Newer.refl _ _) (OnlyS.trans (OnlyS.below (below_drewL (Below.refl _ _))) (Newer.refl _ _) (OnlyS.onlyM r2))
    have HR : Hid (SetAt w' b (some m) (setU M u q)) := ⟨r2.holds h2.ptr (by
      rintro rfl
      obtain ⟨es, clock, hq⟩ := MapAt.obj hm
      have := h2.ptr
      unfold Holds at this
      rw [this] at hq; cases hq), r1⟩
    clear hB h2 hm hm2 r1 r2 r3 h
    go_enter Try.func46, Try.ntmps46
    go_wp2_with fail
    refine wp_region_qtail 6 mixedP (by kernel_rfl) ?_
    simp only [List.take_succ_cons, List.take_zero, List.drop_succ_cons, List.drop_zero]
    go_big_quiet_step (fail)
    go_big_quiet_step (fail)
    go_big_quiet_step (fail)
    go_big_quiet_step (fail)
    go_big_quiet_step (fail)
    refine wpQ_ldC rfl _ rfl rfl (fun w' hw' => by subst hw'; exact h1.drew) ?_
    refine wpQuiet_nil ?_
    go_wp2_with fail
    go_end0
    exact ⟨rfl, some m, HR.out, Newer.refl _ _, HB.out, m, rfl⟩
  | none =>
    obtain ⟨W0, hW⟩ : ∃ W0, World.alloc w (.cells (contA q) 76) = W0 := ⟨_, rfl⟩
    have h1 : Holds W0 w.heap.size 76 (contA q) := by rw [← hW]; exact Holds.new _ _ _
    have hB : Below w.heap.size w W0 := by rw [← hW]; exact below_new1 _ _
    have h2 := h.below hB
    have hc : W0.cell? ⟨b, 0, none⟩ = some (.map none) := h2.ptr.cell 0
    have hfr := h2.ptr.frozen 0
    obtain ⟨W1, hW1⟩ : ∃ W1, W0.alloc (.map #[] 0) = W1 := ⟨_, rfl⟩
    have hB1 : Below W0.heap.size W0 W1 := by rw [← hW1]; exact below_new1 _ _
    have hM1 : MapAt W1 W0.heap.size M := by rw [← hW1]; exact MapAt.made W0 M h.map
    have hP1 : Holds W1 b 62 #[.map none] := below_holds hB1 h2.ptr
    have hc1 : W1.cell? ⟨b, 0, none⟩ = some (.map none) := hP1.cell 0
    have hf1 := hP1.frozen 0
    have hb0 : b < W0.heap.size := by have := hB.size; omega
    obtain ⟨W2, hW2⟩ : ∃ W2, W1.setCell ⟨b, 0, none⟩ (.map (some W0.heap.size)) = W2 := ⟨_, rfl⟩
    have hP2 : Holds W2 b 62 #[.map (some W0.heap.size)] := by rw [← hW2]; exact hP1.set 0 _
    have hO2 : Only b W1 W2 := by rw [← hW2]; exact (Only.refl b W1).set 0 _
    have hM2 : MapAt W2.drew W0.heap.size M := MapAt.block (w' := W2.drew) hM1 (hO2.block _ hM1.lt (by omega))
    have h12 : Holds W2 w.heap.size 76 (contA q) := hO2.holds (below_holds hB1 h1) (by omega)
    have hc2 : W2.cell? ⟨b, 0, none⟩ = some (.map (some W0.heap.size)) := hP2.cell 0
    obtain ⟨w', hrun, r1, r2, r3⟩ := run_upd hM2 hu hq
    have heq := eql_map none
    have hmm := @run_makeMap Try.prog
    have HB : Hid (OnlyS b none w w') := by
      refine OnlyS.trans (OnlyS.below (below_new hB hB1)) (.inr ⟨W0.heap.size, rfl, hB.size⟩) ?_
      exact OnlyS.trans (OnlyS.only hO2) (Newer.refl _ _) (OnlyS.trans (OnlyS.below (below_drewL (Below.refl _ _))) (Newer.refl _ _) (OnlyS.onlyM r2))
    have HR : Hid (SetAt w' b (some W0.heap.size) (setU M u q)) := ⟨r2.holds hP2 (by omega), r1⟩
    have HN : Hid (w.heap.size ≤ W0.heap.size) := hB.size
    clear hB h2 hB1 hM1 hP1 hP2 hO2 hM2 h1 r1 r2 r3 h hb0 hblt
    go_enter Try.func46, Try.ntmps46
    go_wp2_with fail
    refine wp_region_qtail 6 mixedP (by kernel_rfl) ?_
    simp only [List.take_succ_cons, List.take_zero, List.drop_succ_cons, List.drop_zero]
    go_big_quiet_step (fail)
    go_big_quiet_step (fail)
    go_big_quiet_step (fail)
    go_big_quiet_step (fail)
    go_big_quiet_step (fail)
    refine wpQ_ldC rfl _ rfl rfl (fun w' hw' => by subst hw'; exact h12.drew) ?_
    refine wpQuiet_nil ?_
    go_wp2_with fail
    go_end0
    exact ⟨rfl, _, HR.out, .inr ⟨_, rfl, HN.out⟩, HB.out, _, rfl⟩

/-- A number more. -/
def insN (M : Nat → Bool) (n : Nat) (k : Nat) : Bool := decide (k = n) || M k
theorem setU_with (M : Nat → Bool) (n : Nat) : setU M (n / 256) (fun l => decide (l = n % 256) || atU M (n / 256) l) = insN M n := by
  funext k
  unfold setU insN atU
  split
  · rename_i h
    dsimp only
    rw [← h, show 256 * (k / 256) + k % 256 = k by omega]
    congr 1
    exact decide_eq_decide.2 (by omega)
  · rename_i h
    rw [decide_eq_false (fun e => h (by rw [e]))]
    rfl

set_option maxRecDepth 8000 in
/-- Add, where it adds. -/
theorem add_new {w : World} {b : Nat} {mo : Option Nat} {M : Nat → Bool} (h : SetAt w b mo M) {n : Nat} (hn : n < 2147483648) (hM : M n = false) :
    Calls Try.prog 27 #[.pointer (some ⟨b, 0, none⟩), .int .i64 (n : Nat)] w fun e w' => e = .returned (.bool true) ∧ ∃ mo', SetAt w' b mo' (insN M n) ∧ Newer w mo mo' ∧ OnlyS b mo w w' ∧ ∃ m, mo' = some m := by
  have hh := has5_any h.view (n : Int) (by omega)
  rw [hasI_pos, hM] at hh
  have hni : ¬ (n : Int) < 0 := by omega
  have hni2 : ¬ (2147483647 : Int) < n := by omega
  go_enter Try.func27, Try.ntmps27
  go_wp2_with (first
    | (go_at_call 33; refine hh.mono ?_; rintro e w1 ⟨rfl, hB1⟩; have h1 := h.below hB1; have hc1 : w1.cell? ⟨b, 0, none⟩ = some (.map mo) := h1.ptr.cell 0; have hl := run_lookV h1.map (u := ((n / 256 : Nat) : Int)) (wfI (by omega) (by omega)); rw [atI_nat, show ((n / 256 : Nat) : Int) = (n : Int) / 256 by simp] at hl; have hw := with_any (atU M (n / 256)) (n % 256) w1 (by omega); rw [show ((n % 256 : Nat) : Int) = (n : Int) % 256 by simp] at hw)
    | (go_at_call 47; refine hw.mono ?_; rintro e w2 ⟨rfl, hB2⟩; have h2 := h1.below hB2; have hp := put_any h2 (u := n / 256) (q := fun l => decide (l = n % 256) || atU M (n / 256) l) (by rw [NU_eq]; omega) ⟨n % 256, by omega, by simp⟩; rw [setU_with, show ((n / 256 : Nat) : Int) = (n : Int) / 256 by simp] at hp)
    | (go_at_call 46; refine hp.mono ?_; rintro e w3 ⟨rfl, mo', h3, hN, hO, hs⟩))
  go_ret
  have hB := below_new hB1 hB2
  refine ⟨rfl, mo', h3, ?_, OnlyS.trans (OnlyS.below hB) (Newer.refl _ _) hO, hs⟩
  exact (Newer.refl w mo).trans hB.size hN

/-- May it be a member, and is it none? -/
def addB (M : Nat → Bool) (n : Int) : Bool := decide (0 ≤ n ∧ n ≤ 2147483647) && !M n.toNat
def addM (M : Nat → Bool) (n : Int) : Nat → Bool := if 0 ≤ n ∧ n ≤ 2147483647 then insN M n.toNat else M
theorem insN_same {M : Nat → Bool} {n : Nat} (h : M n = true) : insN M n = M := by
  funext k
  unfold insN
  by_cases e : k = n
  · rw [e, h]; simp
  · rw [decide_eq_false e]; rfl
/-- A number that may be a member. -/
def okN (n : Int) : Prop := 0 ≤ n ∧ n ≤ 2147483647

set_option maxRecDepth 8000 in
theorem add_any {w : World} {b : Nat} {mo : Option Nat} {M : Nat → Bool} (h : SetAt w b mo M) (n : Int) (hn : n ≤ 9223372036854775807) :
    Calls Try.prog 27 #[.pointer (some ⟨b, 0, none⟩), .int .i64 n] w fun e w' => e = .returned (.bool (addB M n)) ∧ ∃ mo', SetAt w' b mo' (addM M n) ∧ Newer w mo mo' ∧ OnlyS b mo w w' := by
  by_cases h0 : 0 ≤ n
  · by_cases h1 : n ≤ 2147483647
    · obtain ⟨k, rfl⟩ := Int.eq_ofNat_of_zero_le h0
      have e2 : addM M (k : Int) = insN M k := by unfold addM; rw [if_pos ⟨h0, h1⟩, Int.toNat_natCast]
      rw [e2]
      cases hm : M k with
      | false =>
        have e1 : addB M (k : Int) = true := by unfold addB; rw [decide_eq_true ⟨h0, h1⟩, Int.toNat_natCast, hm]; rfl
        rw [e1]
        exact (add_new h (by omega) hm).mono fun e w' ⟨he, mo', a, b, c, _⟩ => ⟨he, mo', a, b, c⟩
      | true =>
        have e1 : addB M (k : Int) = false := by unfold addB; rw [Int.toNat_natCast, hm]; simp
        rw [e1, insN_same hm]
        have hh := has5_any h.view (k : Int) (by omega)
        rw [hasI_pos, hm] at hh
        have hni : ¬ (k : Int) < 0 := by omega
        have hni2 : ¬ (2147483647 : Int) < k := by omega
        go_enter Try.func27, Try.ntmps27
        go_wp2_with (first
          | (go_at_call 33; refine hh.mono ?_; rintro e w1 ⟨rfl, hB1⟩))
        go_ret
        exact ⟨rfl, mo, h.below hB1, Newer.refl _ _, OnlyS.below hB1⟩
    · have e1 : addB M n = false := by unfold addB; rw [decide_eq_false (by omega)]; rfl
      have e2 : addM M n = M := by unfold addM; rw [if_neg (by omega)]
      rw [e1, e2]
      have hni : ¬ n < 0 := by omega
      have hni2 : (2147483647 : Int) < n := by omega
      go_enter Try.func27, Try.ntmps27
      go_wp2_with fail
      go_ret
      exact ⟨rfl, mo, h, Newer.refl _ _, OnlyS.refl _ _ _⟩
  · have e1 : addB M n = false := by unfold addB; rw [decide_eq_false (by omega)]; rfl
    have e2 : addM M n = M := by unfold addM; rw [if_neg (by omega)]
    rw [e1, e2]
    have hni : n < 0 := by omega
    go_enter Try.func27, Try.ntmps27
    go_wp2_with fail
    go_ret
    exact ⟨rfl, mo, h, Newer.refl _ _, OnlyS.refl _ _ _⟩
theorem add_nil (n : Int) (w : World) : Calls Try.prog 27 #[.pointer none, .int .i64 n] w fun e w' => e = .returned (.bool false) ∧ w' = w := by
  go_enter Try.func27, Try.ntmps27
  go_wp2_with fail
  go_ret
  exact ⟨rfl, rfl⟩

/-- The set of those of a list that may be members. -/
def ofInts (l : List Int) (n : Nat) : Bool := decide ((n : Int) ∈ l) && decide (n < 2147483648)
theorem ofInts_nil : ofInts [] = fun _ => false := by funext n; simp [ofInts]
theorem addM_ofInts (l : List Int) (x : Int) : addM (ofInts l) x = ofInts (l ++ [x]) := by
  funext k
  unfold addM
  split
  · rename_i h
    unfold insN ofInts
    rw [Bool.eq_iff_iff]
    simp
    constructor
    · rintro (h1 | ⟨h1, h2⟩)
      · exact ⟨.inr (by omega), by omega⟩
      · exact ⟨.inl h1, h2⟩
    · rintro ⟨h1 | h1, h2⟩
      · exact .inr ⟨h1, h2⟩
      · exact .inl (by omega)
  · rename_i h
    unfold ofInts
    rw [Bool.eq_iff_iff]
    simp
    intro h1 h2
    omega

/-- A slice of integers, as it lies in memory. -/
def IntsAt (w : World) (v : Value) (l : List Int) : Prop :=
  (l = [] ∧ ∃ p c, v = .slice p 0 c) ∨ ∃ b o c, v = .slice (some ⟨b, o, none⟩) l.length c ∧ ∀ i, i < l.length → w.cell? ⟨b, o + i, none⟩ = some (.int .i64 (l.getD i 0))
theorem IntsAt.below {w w' : World} {v : Value} {l : List Int} (h : IntsAt w v l) (hb : Below w.heap.size w w') : IntsAt w' v l := by
  rcases h with h | ⟨b, o, c, h1, h2⟩
  · exact .inl h
  · exact .inr ⟨b, o, c, h1, fun i hi => (hb.cell (p := ⟨b, o + i, none⟩) (World.block_lt_of_cell? w _ (h2 i hi))).trans (h2 i hi)⟩
end Go.Proofs.Ytiokbhbggpibpaa
