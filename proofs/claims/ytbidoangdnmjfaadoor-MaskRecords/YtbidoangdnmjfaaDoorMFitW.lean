/-
  The law's fit: a branch with as many hashes as its mask has nibbles.
-/
import Derived.Test.YtbidoangdnmjfaaDoorMWithW
import Derived.Test.YtbidoangdnmjfaaDoorMQChkW
namespace Go.Proofs.YtbidoangdnmjfaaDoor
open Go Go.RowKit

theorem below_ownH {w w' : World} {base : Nat} {v : Value} {L : List H32} (hown : OwnH w base v L) (hg : w.grownBy w' v.ownBlock) (hb : base ≤ w.heap.size) : Below base w w' := by
  refine ⟨hg.os, hg.tape, hg.output, hg.size, fun k hk => hg.block k (by omega) fun e => ?_⟩
  have := hown.new k e.symm
  omega
theorem below_onlyB {B b : Nat} {w w' : World} (k : Only b w w') (hb : B ≤ b) (hs : B ≤ w.heap.size) : Below B w w' := ⟨k.os, k.tape, k.output, k.size, fun i hi => k.block i (by omega) (by omega)⟩
/-- As many as there should be; zeros where none are. -/
def fitL (L : List H32) (k : Nat) : List H32 := (List.range k).map fun i => L.getD i zeroH
theorem fitL_len (L : List H32) (k : Nat) : (fitL L k).length = k := by simp [fitL]
theorem fitL_succ (L : List H32) (k : Nat) : fitL L (k + 1) = fitL L k ++ [L.getD k zeroH] := by simp [fitL, List.range_succ]
theorem holds_b {B b : Nat} {w w' : World} {t : TypeId} {cs : Array Value} (h : Below B w w') (hh : Holds w b t cs) (hb : b < B) : Holds w' b t cs := by
  exact (h.block b hb).trans hh
set_option maxRecDepth 8000 in
set_option maxHeartbeats 4000000 in
theorem fit_any {w : World} {s t h : Nat} {v : Value} {L : List H32} (hh : h < 65536) (hv : HashesAt w v L) (hl : L.length ≤ 9223372036854775807) :
    Calls Tryd.prog 22 #[brV s t h v] w fun e w' => ∃ v', e = .returned (brV s t h v') ∧ HashesAt w' v' (fitL L (cntM h)) ∧ Below w.heap.size w w' := by
  obtain ⟨p, c, rfl⟩ := hv.shape
  obtain ⟨m, hm⟩ : ∃ m, L.length = m := ⟨_, rfl⟩
  have HM : Hid (L.length = m) := hm
  rw [hm] at hv hl ⊢
  clear hm
  have hqc := fun W => qcount_any hh W
  obtain ⟨n, hn⟩ : ∃ n, cntM h = n := ⟨_, rfl⟩
  have hn16 : n ≤ 16 := by rw [← hn]; exact cntM_le h
  rw [hn] at hqc ⊢
  clear hn
  have hni : (n : Int) ≤ 16 := by omega
  obtain ⟨W0, g, hW0, hg, hB0, hb0, _, _, _, _⟩ := box_br w s t h (.slice p m c)
  obtain ⟨W1, g1, hW1, hg1, hB1, hb1⟩ := box_zero W0
  have hgl : g < g1 := by rw [← hg1]; exact hb0.lt
  have hbg : Holds W1 g 25 (brC s t h (.slice p m c)) := below_holds hB1 hb0
  have HG : Hid (w.heap.size = g ∧ g < g1) := ⟨hg, hgl⟩
  have HW : Hid (Below w.heap.size w W1 ∧ HashesAt W1 (.slice p m c) L ∧ Holds W1 g 25 (brC s t h (.slice p m c)) ∧ Holds W1 g1 25 (brC 0 0 0 (.slice none 0 0))) := ⟨below_new hB0 hB1, (hv.below hB0).below hB1, hbg, hb1⟩
  obtain ⟨W2, g2, hW2, hg2, hB2, hb2⟩ := box_zero W1
  have hgl2 : g1 < g2 := by rw [← hg2]; exact hb1.lt
  have c0 := hbg.cell 0
  have c1 := hbg.cell 1
  have c2 := hbg.cell 2
  unfold brC at c0 c1 c2
  have HV0 : Hid (HashesAt w (.slice p m c) L) := hv
  clear hB0 hB1 hb0 hb1 hv hbg
  unfold brV
  go_enter Tryd.func22, Tryd.ntmps22
  go_wp2_with fail
  refine (hqc _).mono ?_
  rintro e w3 ⟨rfl, hw3⟩
  have hw3' := hw3.symm
  subst hw3'
  clear hw3
  go_wp2_with (refine wpList_storeH rfl 25 _ _ rfl _ _ rfl rfl _ _ hb2 infoBr rfl (by simp [brC, Value.oneCell']) ?_; intro W3 h3 hO3 hs3)
  have HW3 : Hid (Below w.heap.size w W3 ∧ HashesAt W3 (.slice p m c) L ∧ Holds W3 g 25 (brC s t h (.slice p m c)) ∧ Holds W3 g1 25 (brC 0 0 0 (.slice none 0 0)) ∧ W3.heap.size ≤ W3.heap.size) := by
    have hBw : Below w.heap.size w W2 := below_new HW.out.1 hB2
    refine ⟨Only.fresh hBw hO3 (by have := HG.out; omega), (HW.out.2.1.below hB2).only hO3 hb2, hO3.holds (below_holds hB2 HW.out.2.2.1) (by omega), hO3.holds (below_holds hB2 HW.out.2.2.2) (by omega), Nat.le_refl _⟩
  clear hB2 hb2 hO3 hs3 HW hqc c0 c1 c2
  have hlt3 := h3.lt
  obtain ⟨B, hB⟩ : ∃ B, B = W3.heap.size := ⟨_, rfl⟩
  have HB : Hid (g < B ∧ g1 < B ∧ g2 < B ∧ w.heap.size ≤ B) := by rw [hB]; exact ⟨by omega, by omega, hlt3, HW3.out.1.size⟩
  go_wp2_with fail
  go_loopw [5, 6] (fun x y wr => ∃ (k : Nat) (v : Value), x = .int .i64 (k : Nat) ∧ k ≤ n ∧ OwnH wr B v (fitL L k) ∧ Holds wr g2 25 (brC s t h v) ∧ B ≤ wr.heap.size ∧ Below w.heap.size w wr ∧ HashesAt wr (.slice p m c) L ∧ Holds wr g 25 (brC s t h (.slice p m c)) ∧ Holds wr g1 25 (brC 0 0 0 (.slice none 0 0))) (fun x _ _ => n - (intOf x).toNat)
  case atStart => exact ⟨0, _, rfl, Nat.zero_le _, OwnH.nil _ _, h3, by rw [hB]; exact Nat.le_refl _, HW3.out.1, HW3.out.2.1, HW3.out.2.2.1, HW3.out.2.2.2.1⟩
  case round =>
    clear h3 hB
    obtain ⟨k, v, rfl, hk, hown, h2, hBs, hBw, hv, h0, h1⟩ := hrel
    by_cases hkn : k < n
    · have hki : (k : Int) < n := by omega
      have hk0 : (0 : Int) ≤ k := by omega
      obtain ⟨W5, hW5⟩ : ∃ W5, World.alloc wr (.cells zero32 43) = W5 := ⟨_, rfl⟩
      obtain ⟨gz, hgz⟩ : ∃ gz, wr.heap.size = gz := ⟨_, rfl⟩
      have h5 : Holds W5 gz 43 (hcl zeroH).toArray := by rw [← hW5, ← hgz]; exact Holds.new _ _ _
      have hB5 : Below wr.heap.size wr W5 := by rw [← hW5]; exact below_new1 _ _
      rw [zero32_eq] at hW5
      have a0 := below_holds hB5 h0
      have c3 := a0.cell 3
      unfold brC at c3
      have hfl := fitL_succ L k
      have hfk := fitL_len L k
      have HST : Hid (OwnH W5 B v (fitL L k) ∧ Holds W5 g2 25 (brC s t h v) ∧ B ≤ W5.heap.size ∧ Below w.heap.size w W5 ∧ HashesAt W5 (.slice p m c) L ∧ Holds W5 g 25 (brC s t h (.slice p m c)) ∧ Holds W5 g1 25 (brC 0 0 0 (.slice none 0 0)) ∧ B ≤ gz) :=
        ⟨hown.below0 hB5, below_holds hB5 h2, Nat.le_trans hBs hB5.size, below_new hBw hB5, hv.below hB5, a0, below_holds hB5 h1, by rw [← hgz]; exact hBs⟩
      have hvv := HST.out.2.2.2.2.1
      have hownlt : ∀ q, v.ownBlock = some q → q < gz := fun q hq => by rw [← hgz]; exact hown.blk q hq
      clear hown h2 hBs hBw hv h0 h1 hB5 a0
      by_cases hkm : k < m
      · have hkmi : (k : Int) < m := by omega
        obtain ⟨x, hx⟩ : ∃ x, L[k]? = some x := ⟨_, List.getElem?_eq_getElem (by rw [HM.out]; exact hkm)⟩
        have hgx : L.getD k zeroH = x := by rw [List.getD_eq_getElem?_getD, hx]; rfl
        rw [hgx] at hfl
        obtain ⟨b, o, rfl, hm', hhx⟩ := hvv.at hx
        clear hm' hvv hgx
        have hne : ∀ q, v.ownBlock = some q → q ≠ gz := fun q hq => by have := hownlt q hq; omega
        go_wp2_with (first
          | (refine wpList_stH rfl _ _ rfl rfl rfl h5 ?_; intro W7 h7 hO7 hs7; clear hs7; refine Hid.out ?_)
          | (refine wpList_ldH rfl _ rfl ?_ hhx ?_; exact rfl))
        have hB57 : Below B W5 W7 := below_onlyB hO7 HST.out.2.2.2.2.2.2.2 HST.out.2.2.1
        have hh7 := h7.hash
        have c7 := (holds_b hB57 HST.out.2.1 HB.out.2.2.1).cell 3
        unfold brC at c7
        have hownA : OwnH (W7.alloc (.cells (hcl x).toArray 43)) B v (fitL L k) := (HST.out.1.block fun q hq => hO7.block q (HST.out.1.blk q hq) (hne q hq)).below0 (below_new1 _ _)
        have hcx : HashesAt (W7.alloc (.cells (hcl x).toArray 43)) (.slice (some ⟨W7.heap.size, 0, none⟩) 1 1) [x] := .one (Holds.new W7 43 _)
        have HLE : Hid ((fitL L k).length + [x].length ≤ 1000000000) := by show _ ≤ _; rw [hfk]; simp; omega
        have hbs : B ≤ (W7.alloc (.cells (hcl x).toArray 43)).heap.size := by rw [World.size_alloc]; have := HST.out.2.2.1; have := hB57.size; omega
        obtain ⟨pv, cv, rfl⟩ := hownA.at.shape
        rw [hfk] at hownA c7
        unfold Hid
        go_wp2_with (first
          | (refine wpList_ldH rfl _ rfl rfl hh7 ?_)
          | (refine wpList_buildH rfl _ rfl rfl ?_)
          | (at_builtin; refine wpList_append_h rfl _ _ rfl rfl rfl hownA hcx HLE.out hbs ?_; intro v9 w9 hown9 hg9; rw [← hfl] at hown9; obtain ⟨p9, c9, rfl⟩ := hown9.at.shape; rw [fitL_len] at hown9 ⊢
             have hB9 : Below B W5 w9 := (hB57.alloc (Nat.le_trans HST.out.2.2.1 hB57.size) _).trans (below_ownH hownA hg9 (by rw [World.size_alloc]; have := HST.out.2.2.1; have := hB57.size; omega))
             have h29 := holds_b hB9 HST.out.2.1 HB.out.2.2.1
             have f9 := h29.frozen 3
             have cc9 := h29.cell 3
             unfold brC at cc9
             have HX : Hid (Below B W5 w9 ∧ Holds w9 g2 25 (brC s t h (.slice pv (fitL L k).length cv)) ∧ OwnH w9 B (.slice p9 (k + 1) c9) (fitL L (k + 1))) := ⟨hB9, h29, hown9⟩
             clear hB9 h29 hown9 hg9 hownA hcx))
        have hB9 := HX.out.1
        have h29 := HX.out.2.1
        have hown9 := HX.out.2.2
        obtain ⟨W10, hW10⟩ : ∃ W, w9.setCell ⟨g2, 3, none⟩ (.slice p9 (k + 1) c9) = W := ⟨_, rfl⟩
        have h210 : Holds W10 g2 25 (brC s t h (.slice p9 (k + 1) c9)) := by rw [← hW10]; exact h29.set 3 _
        have hO10 : Only g2 w9 W10 := by rw [← hW10]; exact (Only.refl g2 w9).set 3 _
        have hBw9 : Below w.heap.size w w9 := HST.out.2.2.2.1.trans (hB9.mono HB.out.2.2.2)
        have HE : Hid (OwnH W10 B (.slice p9 (k + 1) c9) (fitL L (k + 1)) ∧ Holds W10 g2 25 (brC s t h (.slice p9 (k + 1) c9)) ∧ B ≤ W10.heap.size ∧ Below w.heap.size w W10 ∧ HashesAt W10 (.slice (some ⟨b, o, none⟩) m c) L ∧ Holds W10 g 25 (brC s t h (.slice (some ⟨b, o, none⟩) m c)) ∧ Holds W10 g1 25 (brC 0 0 0 (.slice none 0 0))) := by
          have hBw10 : Below w.heap.size w W10 := Only.fresh hBw9 hO10 (by have := HG.out; omega)
          refine ⟨?_, h210, ?_, hBw10, HV0.out.below hBw10, hO10.holds (holds_b hB9 HST.out.2.2.2.2.2.1 HB.out.1) (by have := HG.out; omega), hO10.holds (holds_b hB9 HST.out.2.2.2.2.2.2.1 HB.out.2.1) (by omega)⟩
          · exact hown9.block fun q hq => hO10.block q (hown9.blk q hq) (by have := hown9.new q hq; have := HB.out.2.2.1; omega)
          · exact Nat.le_trans HST.out.2.2.1 (Nat.le_trans hB9.size hO10.size)
        rw [hW10]
        go_roundw
        case rel => exact ⟨k + 1, (.slice p9 (k + 1) c9), by go_num, by omega, HE.out⟩
        case measure => simp [intOf]; omega
      · have hkmi : ¬ (k : Int) < m := by omega
        have hgx : L.getD k zeroH = zeroH := by rw [List.getD_eq_getElem?_getD, List.getElem?_eq_none (by rw [HM.out]; omega)]; rfl
        rw [hgx] at hfl
        obtain ⟨x, hx⟩ : ∃ x, x = zeroH := ⟨_, rfl⟩
        rw [← hx] at h5 hfl
        clear hvv hgx hx
        have hB57 : Below B W5 W5 := Below.refl _ _
        have hh7 := h5.hash
        have c7 := HST.out.2.1.cell 3
        unfold brC at c7
        have hownA : OwnH (W5.alloc (.cells (hcl x).toArray 43)) B v (fitL L k) := HST.out.1.below0 (below_new1 _ _)
        have hcx : HashesAt (W5.alloc (.cells (hcl x).toArray 43)) (.slice (some ⟨W5.heap.size, 0, none⟩) 1 1) [x] := .one (Holds.new W5 43 _)
        have HLE : Hid ((fitL L k).length + [x].length ≤ 1000000000) := by show _ ≤ _; rw [hfk]; simp; omega
        have hbs : B ≤ (W5.alloc (.cells (hcl x).toArray 43)).heap.size := by rw [World.size_alloc]; have := HST.out.2.2.1; omega
        obtain ⟨pv, cv, rfl⟩ := hownA.at.shape
        rw [hfk] at hownA c7
        go_wp2_with (first
          | (refine wpList_ldH rfl _ rfl rfl hh7 ?_)
          | (refine wpList_buildH rfl _ rfl rfl ?_)
          | (at_builtin; refine wpList_append_h rfl _ _ rfl rfl rfl hownA hcx HLE.out hbs ?_; intro v9 w9 hown9 hg9; rw [← hfl] at hown9; obtain ⟨p9, c9, rfl⟩ := hown9.at.shape; rw [fitL_len] at hown9 ⊢
             have hB9 : Below B W5 w9 := (hB57.alloc (Nat.le_trans HST.out.2.2.1 hB57.size) _).trans (below_ownH hownA hg9 (by rw [World.size_alloc]; have := HST.out.2.2.1; have := hB57.size; omega))
             have h29 := holds_b hB9 HST.out.2.1 HB.out.2.2.1
             have f9 := h29.frozen 3
             have cc9 := h29.cell 3
             unfold brC at cc9
             have HX : Hid (Below B W5 w9 ∧ Holds w9 g2 25 (brC s t h (.slice pv (fitL L k).length cv)) ∧ OwnH w9 B (.slice p9 (k + 1) c9) (fitL L (k + 1))) := ⟨hB9, h29, hown9⟩
             clear hB9 h29 hown9 hg9 hownA hcx))
        have hB9 := HX.out.1
        have h29 := HX.out.2.1
        have hown9 := HX.out.2.2
        obtain ⟨W10, hW10⟩ : ∃ W, w9.setCell ⟨g2, 3, none⟩ (.slice p9 (k + 1) c9) = W := ⟨_, rfl⟩
        have h210 : Holds W10 g2 25 (brC s t h (.slice p9 (k + 1) c9)) := by rw [← hW10]; exact h29.set 3 _
        have hO10 : Only g2 w9 W10 := by rw [← hW10]; exact (Only.refl g2 w9).set 3 _
        have hBw9 : Below w.heap.size w w9 := HST.out.2.2.2.1.trans (hB9.mono HB.out.2.2.2)
        have HE : Hid (OwnH W10 B (.slice p9 (k + 1) c9) (fitL L (k + 1)) ∧ Holds W10 g2 25 (brC s t h (.slice p9 (k + 1) c9)) ∧ B ≤ W10.heap.size ∧ Below w.heap.size w W10 ∧ HashesAt W10 (.slice p m c) L ∧ Holds W10 g 25 (brC s t h (.slice p m c)) ∧ Holds W10 g1 25 (brC 0 0 0 (.slice none 0 0))) := by
          have hBw10 : Below w.heap.size w W10 := Only.fresh hBw9 hO10 (by have := HG.out; omega)
          refine ⟨?_, h210, ?_, hBw10, HV0.out.below hBw10, hO10.holds (holds_b hB9 HST.out.2.2.2.2.2.1 HB.out.1) (by have := HG.out; omega), hO10.holds (holds_b hB9 HST.out.2.2.2.2.2.2.1 HB.out.2.1) (by omega)⟩
          · exact hown9.block fun q hq => hO10.block q (hown9.blk q hq) (by have := hown9.new q hq; have := HB.out.2.2.1; omega)
          · exact Nat.le_trans HST.out.2.2.1 (Nat.le_trans hB9.size hO10.size)
        rw [hW10]
        go_roundw
        case rel => exact ⟨k + 1, (.slice p9 (k + 1) c9), by go_num, by omega, HE.out⟩
        case measure => simp [intOf]; omega
    · have hki : ¬ (k : Int) < n := by omega
      obtain rfl : k = n := by omega
      have HF : Hid (HashesAt wr v (fitL L k) ∧ Below w.heap.size w wr) := ⟨hown.at, hBw⟩
      unfold brC at h2 h1
      obtain ⟨pv, cv, rfl⟩ := hown.at.shape
      clear hown hBw hv h0
      go_wp2_with (first
        | (refine wpList_loadH rfl 25 _ rfl _ rfl _ _ _ h2 Tryd.underlying25 rfl infoBr ?_)
        | (refine wpList_storeH rfl 25 _ _ rfl _ _ rfl rfl _ _ h1 infoBr rfl (by simp [Value.oneCell']) ?_; intro W9 h9 hO9 hs9))
      refine bodyPost_ret (results_cellH rfl _ _ _ _ _ _ rfl h9 Tryd.underlying25 rfl infoBr) rfl ?_
      exact ⟨_, rfl, HF.out.1.only hO9 h1, by have hq := Only.fresh HF.out.2 hO9 (by have := HG.out; omega); rwa [HG.out.1] at hq⟩
end Go.Proofs.YtbidoangdnmjfaaDoor
