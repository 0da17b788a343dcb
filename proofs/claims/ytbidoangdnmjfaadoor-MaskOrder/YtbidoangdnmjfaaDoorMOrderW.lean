/-
  MaskOrder: the law's walk.
-/
import Derived.Test.YtbidoangdnmjfaaDoorMOrdP
import Derived.Test.YtbidoangdnmjfaaDoorMAwake
namespace Go.Proofs.YtbidoangdnmjfaaDoor
open Go Go.RowKit

theorem BrAt.drew {w : World} {g : Nat} {b : Br} (h : BrAt w g b) : BrAt w.drew g b := h.below (Below.refl _ _).drew
theorem then_normalD {K : Act → World → Prop} {Q : Exit → Act → World → Prop} {a : Act} {w : World} (h : K a w) : Exit.then K Q .normal a w := h
theorem block_normal {n : Nat} {K : Act → World → Prop} {Q : Exit → Act → World → Prop} {a : Act} {w : World} (h : K a w) : Exit.inBlock n (Exit.then K Q) .normal a w := h
section
variable {ops : Array Oper} {C : World → Prop} {Q : Exit → Act → World → Prop} {t : List Plan} {k f : Nat} {op : Oper} {a : Act} {w : World}
theorem planE_nil (h : Q .normal a w) : wpPlanE Tryd.prog ops C Q f [] a w := h
theorem planE_ld (d : Option Tmp) (hdd : op.dst = d) (hk : ops[k]?.getD default = op) (hgd : op.guard = none) (ty : TypeId) (x : Operand) (ho : op.op = .load ty x) {ad : Addr} (hx : a.eval x = .pointer (some ad)) {v : Value}
    (hh : ∀ w, C w → (loadVar ty ad).run Tryd.prog w = .ok v w) (h : wpPlanE Tryd.prog ops C Q f t (a.put d v) w) : wpPlanE Tryd.prog ops C Q f (.take k :: t) a w :=
  planE_val d hdd hk hgd v (fun w' hw => by
    unfold execOp
    simp only [ho, hx, Instr.loadAt, Instr.sureAddr, Sem.run_bind, Sem.run_pure, Result.andThen_ok, hh w' hw]) h
theorem planE_call (d : Option Tmp) (hdd : op.dst = d) (hk : ops[k]? = some op) (hgd : op.guard = none) {fn : FuncId} {vs : Array Value} (hf : (execOp a.eval op).run Tryd.prog w = .ok (.enter fn vs) w)
    (hc : Calls Tryd.prog fn vs w fun e w' => ∃ v, e = .returned v ∧ C w' ∧ wpPlanE Tryd.prog ops C Q f t (a.put d v) w') : wpPlanE Tryd.prog ops C Q f (.one k :: t) a w := by
  show wpOp Tryd.prog ops Q k _ a w
  refine op_call d hdd hk (by simp [Region.wanted, hgd]) hf (hc.mono ?_)
  rintro e w' ⟨v, rfl, h1, h2⟩
  exact ⟨v, rfl, fun _ => h1, h2⟩
theorem planE_storeH (d : Option Tmp) (hdd : op.dst = d) (hk : ops[k]? = some op) (hgd : op.guard = none) (ty : TypeId) (x y : Operand) (ho : op.op = .store ty x y)
    (b : Nat) (cells : Array Value) (hx : a.eval x = .pointer (some ⟨b, 0, none⟩)) (hy : a.eval y = .agg cells)
    (t' : TypeId) (old : Array Value) (hh : Holds w b t' old) (hi : (Tryd.prog.info? ty).map (·.size) = some cells.size) (hz : old.size = cells.size) (h1 : cells.all (·.oneCell') = true)
    (h : ∀ w', Holds w' b t' cells → Only b w w' → w'.heap.size = w.heap.size → wpPlanE Tryd.prog ops C Q k t (a.put d undef) w') : wpPlanE Tryd.prog ops C Q k (.one k :: t) a w := by
  show wpOp Tryd.prog ops Q k _ a w
  refine op_storeH d hdd hk (by simp [Region.wanted, hgd]) ty x y ho b cells hx hy t' old hh hi hz h1 fun w' h2 h3 h4 => ?_
  exact ⟨fun q => absurd rfl q, h w' h2 h3 h4⟩
end
set_option maxRecDepth 8000 in
set_option maxHeartbeats 4000000 in
theorem order_walk {w : World} {m : Nat} (R : Nat → ByteArray) (hm : m < 65536) (hT : DbAt w) (hR : ∀ i, (R i).size ≤ 9223372036854775807) :
    Calls Tryd.prog 7 #[.agg (strA 16 R), .int .u16 (m : Nat)] w fun e w' => e = .returned (.bool true) ∧ Below w.heap.size w w' := by
  obtain ⟨W0, hW0⟩ : ∃ W0, World.alloc w (.cells (strA 16 R) 51) = W0 := ⟨_, rfl⟩
  obtain ⟨g2, hg2⟩ : ∃ g2, w.heap.size = g2 := ⟨_, rfl⟩
  have h0 : Holds W0 g2 51 (strA 16 R) := by rw [← hW0, ← hg2]; exact Holds.new _ _ _
  have hB0 : Below w.heap.size w W0 := by rw [← hW0]; exact below_new1 _ _
  have HG2 : Hid (w.heap.size = g2) := hg2
  have haw := awake_any (hT.below hB0)
  have hg2l := h0.lt
  generalize hRA : strA 16 R = RA at hW0
  have HRA : Hid (strA 16 R = RA) := hRA
  rw [hRA] at h0
  clear hRA
  have H0 : Hid (DbAt W0 ∧ Below w.heap.size w W0 ∧ 0 < g2) := ⟨hT.below hB0, hB0, by rw [← hg2]; exact hT.lt⟩
  clear hT hB0
  go_enter Tryd.func7, Tryd.ntmps7
  go_wp2_with fail
  refine haw.mono ?_
  rintro e w1 ⟨rfl, hB1⟩
  obtain ⟨W2, ga, hW2, hga, hB2, ha2⟩ := box_zero w1
  obtain ⟨W3, gb, hW3, hgb, hB3, hb3⟩ := box_zero W2
  have hgl : g2 < ga := by rw [← hga]; exact (below_holds hB1 h0).lt
  have hgl2 : ga < gb := by rw [← hgb]; exact ha2.lt
  have h3 : Holds W3 g2 51 RA := below_holds hB3 (below_holds hB2 (below_holds hB1 h0))
  rw [← HRA.out] at h3
  have HT3 : Hid (DbAt W3) := ((H0.out.1.below hB1).below hB2).below hB3
  have HB3 : Hid (Below w.heap.size w W3) := below_new (below_new (below_new H0.out.2.1 hB1) hB2) hB3
  have HA3 : Hid (Holds W3 ga 25 (brC 0 0 0 (.slice none 0 0)) ∧ Holds W3 gb 25 (brC 0 0 0 (.slice none 0 0))) := ⟨below_holds hB3 ha2, hb3⟩
  clear haw h0 hB1 hB2 hB3 ha2 hb3
  go_wp2_with fail
  go_loopw [8, 9] (fun x y wr => ∃ k : Nat, y = .int .i64 (k : Nat) ∧ k ≤ 16 ∧ x = .int .i64 (manyR (fun i => cutR (R i)) k : Nat) ∧ Holds wr g2 51 (strA 16 fun j => if j < k then cutR (R j) else R j) ∧ Only g2 W3 wr) (fun _ y _ => 16 - (intOf y).toNat)
  case atStart => exact ⟨0, rfl, by omega, rfl, h3, Only.refl _ _⟩
  case round =>
    clear h3
    obtain ⟨k, rfl, hk, rfl, hh, hO⟩ := hrel
    by_cases hlt : k < 16
    · have hki : (k : Int) < 16 := by omega
      have hk0 : (0 : Int) ≤ k := by omega
      have hM := manyR_succ (fun i => cutR (R i)) k
      have hMl := manyR_le (fun i => cutR (R i)) k
      have hRk := hR k
      have hset := strA_set 16 (fun j => if j < k then cutR (R j) else R j) k hlt (cutR (R k))
      have hS : strA 16 (fun j => if j = k then cutR (R k) else if j < k then cutR (R j) else R j) = strA 16 (fun j => if j < k + 1 then cutR (R j) else R j) := strA_congr fun i hi => by
        by_cases e : i = k
        · subst e; simp
        · rw [if_neg e]
          by_cases e2 : i < k
          · rw [if_pos e2, if_pos (by omega)]
          · rw [if_neg e2, if_neg (by omega)]
      rw [hS] at hset
      have hS2 : ¬ 40 < (R k).size → strA 16 (fun j => if j < k then cutR (R j) else R j) = strA 16 (fun j => if j < k + 1 then cutR (R j) else R j) := fun h40 => strA_congr fun i hi => by
        by_cases e : i = k
        · rw [e, if_neg (Nat.lt_irrefl k), if_pos (Nat.lt_succ_self k)]
          unfold cutR
          rw [if_neg h40]
        · by_cases e2 : i < k
          · rw [if_pos e2, if_pos (by omega)]
          · rw [if_neg e2, if_neg (by omega)]
      have hget : (strA 16 fun j => if j < k then cutR (R j) else R j)[k]? = some (.string (R k)) := by rw [strA_get 16 _ k hlt, if_neg (by omega)]
      have hcell := hh.cell k
      rw [hget] at hcell
      have hfr := hh.frozen k
      have HH : Hid (Holds wr g2 51 (strA 16 fun j => if j < k then cutR (R j) else R j) ∧ Only g2 W3 wr) := ⟨hh, hO⟩
      clear hS hget hh hO
      generalize manyR (fun i => cutR (R i)) k = q at hM hMl ⊢
      have hqi : (q : Int) ≤ 16 := by omega
      have hcn := cutR_ne (R k)
      by_cases h40 : 40 < (R k).size
      · have h4i : (40 : Int) < (R k).size := by omega
        have hct : cutR (R k) = (R k).extract 0 40 := by unfold cutR; rw [if_pos h40]
        have hne : ((R k).size != 0) = true := bne_iff_ne.2 (by omega)
        rw [hne] at hcn
        have HM2 : Hid (manyR (fun i => cutR (R i)) (k + 1) = q + 1) := by rw [hM, hcn]; rfl
        have hemp := emp_eq (cutR (R k))
        rw [hcn, hct] at hemp
        have HC : Hid (cutR (R k) = (R k).extract 0 40) := hct
        have HSET : Hid _ := hset
        obtain ⟨W5, hW5⟩ : ∃ W5, wr.setCell ⟨g2, k, none⟩ (.string ((R k).extract 0 40)) = W5 := ⟨_, rfl⟩
        have h5 : Holds W5 g2 51 (strA 16 fun j => if j < k + 1 then cutR (R j) else R j) := by
          rw [← hW5, ← HC.out]
          exact (HH.out.1.set k _).congr HSET.out
        have hO5 : Only g2 wr W5 := by rw [← hW5]; exact (Only.refl _ _).set k _
        have hc5 := h5.cell k
        rw [strA_get 16 _ k hlt, if_pos (by omega), HC.out] at hc5
        have HH5 : Hid (Holds W5 g2 51 (strA 16 fun j => if j < k + 1 then cutR (R j) else R j) ∧ Only g2 W3 W5) := ⟨h5, HH.out.2.trans hO5⟩
        clear hM hcn hct hset hS2 h5 hO5 hne
        go_wp2_with fail
        go_roundw
        case rel => exact ⟨k + 1, by go_num, by omega, by rw [HM2.out]; go_num, HH5.out⟩
        case measure => simp [intOf]; omega
      · have h4i : ¬ (40 : Int) < (R k).size := by omega
        have hct : cutR (R k) = R k := by unfold cutR; rw [if_neg h40]
        have HH5 : Hid (Holds wr g2 51 (strA 16 fun j => if j < k + 1 then cutR (R j) else R j) ∧ Only g2 W3 wr) := ⟨by rw [← hS2 h40]; exact HH.out.1, HH.out.2⟩
        have hemp := emp_eq (R k)
        cases hb : (R k).size != 0 with
        | true =>
          have HM2 : Hid (manyR (fun i => cutR (R i)) (k + 1) = q + 1) := by rw [hM, hcn, hb]; rfl
          rw [hb] at hemp
          clear hM hcn hct hset hS2 hb
          go_wp2_with fail
          go_roundw
          case rel => exact ⟨k + 1, by go_num, by omega, by rw [HM2.out]; go_num, HH5.out⟩
          case measure => simp [intOf]; omega
        | false =>
          have HM2 : Hid (manyR (fun i => cutR (R i)) (k + 1) = q) := by rw [hM, hcn, hb]; rfl
          rw [hb] at hemp
          clear hM hcn hct hset hS2 hb
          go_wp2_with fail
          go_roundw
          case rel => exact ⟨k + 1, by go_num, by omega, by rw [HM2.out], HH5.out⟩
          case measure => simp [intOf]; omega
    · obtain rfl : k = 16 := by omega
      obtain ⟨S, hS⟩ : ∃ S : Nat → ByteArray, S = fun i => cutR (R i) := ⟨_, rfl⟩
      have h16 : Holds wr g2 51 (strA 16 S) := hh.congr (by rw [hS]; exact strA_congr fun i hi => if_pos hi)
      rw [← hS]
      have hqm := manyR_le S 16
      obtain ⟨q, hq⟩ : ∃ q, manyR S 16 = q := ⟨_, rfl⟩
      have HQ : Hid (manyR S 16 = q) := hq
      rw [hq] at hqm ⊢
      have hqi : (q : Int) ≤ 16 := by omega
      have HO : Hid (BrAt wr ga ⟨0, 0, 0, []⟩ ∧ BrAt wr gb ⟨0, 0, 0, []⟩ ∧ DbAt wr ∧ Below w.heap.size w wr) := ⟨⟨none, 0, 0, rfl, .nil _ _, hO.holds HA3.out.1 (by omega)⟩, ⟨none, 0, 0, rfl, .nil _ _, hO.holds HA3.out.2 (by omega)⟩, HT3.out.only hO (by have := H0.out.2.2; omega), Only.fresh HB3.out hO (by rw [HG2.out]; exact Nat.le_refl _)⟩
      clear hh hq hS hlt hO
      go_wp2_with fail
      go_loopw [10] (fun y wv => ∃ j : Nat, y = .int .i64 (j : Nat) ∧ j ≤ 16 ∧ Holds wv g2 51 (strA 16 S) ∧ BrAt wv ga (upB S (fun i => m.testBit i) j) ∧ BrAt wv gb (downB S (fun i => m.testBit i) j) ∧ DbAt wv ∧ Below w.heap.size w wv) (fun y _ => 16 - (intOf y).toNat)
      case atStart => exact ⟨0, rfl, by omega, h16, HO.out.1, HO.out.2.1, HO.out.2.2.1, HO.out.2.2.2⟩
      case round =>
        clear h16
        obtain ⟨j, rfl, hj, hh, ha, hb, hTv, hBv⟩ := hrel
        by_cases hlt : j < 16
        · have hji : (j : Int) < 16 := by omega
          have hj0 : (0 : Int) ≤ j := by omega
          have hfa := (upB_tells S (fun i => m.testBit i) j (by omega)).fits
          have hfb := (downB_tells S (fun i => m.testBit i) j (by omega)).fits
          have HU : Hid (withB (upB S (fun i => m.testBit i) j) j (m.testBit j) (S j) = upB S (fun i => m.testBit i) (j + 1)) := rfl
          have HD : Hid (withB (downB S (fun i => m.testBit i) j) (15 - j) (m.testBit (15 - j)) (S (15 - j)) = downB S (fun i => m.testBit i) (j + 1)) := rfl
          generalize upB S (fun i => m.testBit i) j = ba at ha hfa HU
          generalize downB S (fun i => m.testBit i) j = bb at hb hfb HD
          obtain ⟨d, hd⟩ : ∃ d, 15 - j = d := ⟨_, rfl⟩
          rw [hd] at HD
          have hdi : (15 : Int) - j = d := by omega
          have hd16 : d < 16 := by omega
          have hd0 : (0 : Int) ≤ d := by omega
          have hdl : (d : Int) < 16 := by omega
          have hdw : IntKind.i64.wrap (d : Int) = d := by rw [IntKind.wrap_i64]; omega
          have hcs := fun W (hW : Below wr.heap.size wr W) => (below_holds hW hh).cell j
          have hcd := fun W (hW : Below wr.heap.size wr W) => (below_holds hW hh).cell d
          rw [strA_get 16 S j hlt] at hcs
          rw [strA_get 16 S d hd16] at hcd
          have hbit := hasM_k m j hlt
          have hbid := hasM_k m d hd16
          obtain ⟨pa, na, ca, hna, hva, hha⟩ := ha
          obtain ⟨pb, nb, cb, hnb, hvb, hhb⟩ := hb
          have HB : Hid (Below w.heap.size w wr ∧ Holds wr g2 51 (strA 16 S) ∧ DbAt wr) := ⟨hBv, hh, hTv⟩
          have HVA : Hid (HashesAt wr (.slice pa na ca) ba.L ∧ Holds wr ga 25 (brC ba.s ba.t ba.h (.slice pa na ca))) := ⟨hva, hha⟩
          have HVB : Hid (BrAt wr gb bb) := ⟨pb, nb, cb, hnb, hvb, hhb⟩
          clear hBv hh hTv hva hha hvb hhb hna hnb
          go_wp2_with fail
          refine wp_region_planE (fun W => Below wr.heap.size wr W) 9 [.take 0, .take 1, .take 2, .take 3, .take 5, .take 6, .take 7, .one 4, .one 8, .one 9] mixedP (by kernel_rfl) rfl (by kernel_rfl) (by kernel_rfl) rfl (fun _ _ _ d _ h => by cases d <;> exact h) (Below.refl _ _).drew ?_
          refine planE_ld (some 39) rfl rfl rfl 25 _ rfl rfl (v := brV ba.s ba.t ba.h (.slice pa na ca)) (fun W hC => ldBr (below_holds hC HVA.out.2)) ?_
          go_frame
          refine planE_val (some 40) rfl rfl rfl (.int .i64 (j : Nat)) (fun W hC => by go_simp) ?_
          go_frame
          refine planE_val (some 41) rfl rfl rfl (.int .u16 (m : Nat)) (fun W hC => by go_simp) ?_
          go_frame
          refine planE_val (some 42) rfl rfl rfl (.int .i64 (j : Nat)) (fun W hC => by go_simp) ?_
          go_frame
          refine planE_val (some 44) rfl rfl rfl (.int .i64 (j : Nat)) (fun W hC => by go_simp) ?_
          go_frame
          refine planE_val (some 45) rfl rfl rfl (.pointer (some ⟨g2, j, none⟩)) (fun W hC => by go_simp) ?_
          go_frame
          refine planE_val (some 46) rfl rfl rfl (.string (S j)) (fun W hC => by have hcv := hcs W hC; go_simp) ?_
          go_frame
          refine planE_call (some 43) rfl rfl rfl (fn := 14) (vs := #[.int .u16 (m : Nat), .int .i64 (j : Nat)]) (by go_simp) ?_
          refine (mhas_any hm _ _).mono ?_
          rintro e w5 ⟨rfl, hB5⟩
          refine ⟨_, rfl, below_new ((Below.refl _ _).drew) hB5, ?_⟩
          rw [hbit]
          have hB5' : Below wr.heap.size wr w5 := below_new ((Below.refl _ _).drew) hB5
          go_frame
          refine planE_call (some 47) rfl rfl rfl (fn := 25) (vs := #[brV ba.s ba.t ba.h (.slice pa na ca), .int .i64 (j : Nat), .bool (m.testBit j), .string (S j)]) (by go_simp) ?_
          refine (mwith_any hfa hlt (HVA.out.1.below hB5') (m.testBit j) (S j) (HB.out.2.2.below hB5')).mono ?_
          rintro e w6 ⟨v6, rfl, hv6, hB6⟩
          have hB6' := below_new hB5' hB6
          refine ⟨_, rfl, hB6', ?_⟩
          go_frame
          rw [HU.out] at hv6 ⊢
          obtain ⟨p6, c6, rfl⟩ := hv6.shape
          refine planE_storeH none rfl rfl rfl 25 _ _ rfl ga _ rfl rfl 25 _ (below_holds hB6' HVA.out.2) infoBr rfl (by simp [Value.oneCell']) ?_
          intro w7 h7 hO7 hs7
          go_frame
          have hold := below_holds hB6' HVA.out.2
          have H7 : Hid (BrAt w7 ga (upB S (fun i => m.testBit i) (j + 1))) := ⟨p6, _, c6, rfl, hv6.only hO7 hold, h7⟩
          have hb7 : BrAt w7 gb bb := (HVB.out.below hB6').only hO7 (by omega) hold
          have hh7 : Holds w7 g2 51 (strA 16 S) := hO7.holds (below_holds hB6' HB.out.2.1) (by omega)
          have hT7 : DbAt w7 := (HB.out.2.2.below hB6').only hO7 (by have := H0.out.2.2; omega)
          have HB7 : Hid (Below w.heap.size w w7) := Only.fresh (below_new HB.out.1 hB6') hO7 (by rw [HG2.out]; omega)
          have hcd7 := fun W (hW : Below w7.heap.size w7 W) => (below_holds hW hh7).cell d
          rw [strA_get 16 S d hd16] at hcd7
          obtain ⟨pb, nb, cb, hnb, hvb, hhb⟩ := hb7
          have HVC : Hid (HashesAt w7 (.slice pb nb cb) bb.L ∧ Holds w7 gb 25 (brC bb.s bb.t bb.h (.slice pb nb cb))) := ⟨hvb, hhb⟩
          have HC7 : Hid (Holds w7 g2 51 (strA 16 S) ∧ DbAt w7) := ⟨hh7, hT7⟩
          clear hcs hcd hold h7 hO7 hs7 hv6 hB6 hB6' hB5 hB5' HVA HVB HB hh7 hT7 hnb hvb hhb
          refine planE_nil ?_
          refine then_normalD ?_
          go_at_K
          go_wp2_with fail
          refine wp_region_planE (fun W => Below w7.heap.size w7 W) 12 [.take 0, .take 1, .take 2, .take 3, .take 4, .take 5, .take 7, .take 8, .take 9, .take 10, .one 6, .one 11, .one 12] mixedP (by kernel_rfl) rfl (by kernel_rfl) (by kernel_rfl) rfl (fun _ _ _ d _ h => by cases d <;> exact h) (Below.refl _ _).drew ?_
          refine planE_ld (some 48) rfl rfl rfl 25 _ rfl rfl (v := brV bb.s bb.t bb.h (.slice pb nb cb)) (fun W hC => ldBr (below_holds hC HVC.out.2)) ?_
          go_frame
          refine planE_val (some 49) rfl rfl rfl (.int .i64 (j : Nat)) (fun W hC => by go_simp) ?_
          go_frame
          refine planE_val (some 50) rfl rfl rfl (.int .i64 (d : Nat)) (fun W hC => by go_simp) ?_
          go_frame
          refine planE_val (some 51) rfl rfl rfl (.int .u16 (m : Nat)) (fun W hC => by go_simp) ?_
          go_frame
          refine planE_val (some 52) rfl rfl rfl (.int .i64 (j : Nat)) (fun W hC => by go_simp) ?_
          go_frame
          refine planE_val (some 53) rfl rfl rfl (.int .i64 (d : Nat)) (fun W hC => by go_simp) ?_
          go_frame
          refine planE_val (some 55) rfl rfl rfl (.int .i64 (j : Nat)) (fun W hC => by go_simp) ?_
          go_frame
          refine planE_val (some 56) rfl rfl rfl (.int .i64 (d : Nat)) (fun W hC => by go_simp) ?_
          go_frame
          refine planE_val (some 57) rfl rfl rfl (.pointer (some ⟨g2, d, none⟩)) (fun W hC => by go_simp) ?_
          go_frame
          refine planE_val (some 58) rfl rfl rfl (.string (S d)) (fun W hC => by have hcv := hcd7 W hC; go_simp) ?_
          go_frame
          refine planE_call (some 54) rfl rfl rfl (fn := 14) (vs := #[.int .u16 (m : Nat), .int .i64 (d : Nat)]) (by go_simp) ?_
          refine (mhas_any hm _ _).mono ?_
          rintro e w8 ⟨rfl, hB8⟩
          have hB8' : Below w7.heap.size w7 w8 := below_new ((Below.refl _ _).drew) hB8
          refine ⟨_, rfl, hB8', ?_⟩
          rw [hbid]
          go_frame
          refine planE_call (some 59) rfl rfl rfl (fn := 25) (vs := #[brV bb.s bb.t bb.h (.slice pb nb cb), .int .i64 (d : Nat), .bool (m.testBit d), .string (S d)]) (by go_simp) ?_
          refine (mwith_any hfb hd16 (HVC.out.1.below hB8') (m.testBit d) (S d) (HC7.out.2.below hB8')).mono ?_
          rintro e w9 ⟨v9, rfl, hv9, hB9⟩
          have hB9' := below_new hB8' hB9
          refine ⟨_, rfl, hB9', ?_⟩
          go_frame
          rw [HD.out] at hv9 ⊢
          obtain ⟨p9, c9, rfl⟩ := hv9.shape
          refine planE_storeH none rfl rfl rfl 25 _ _ rfl gb _ rfl rfl 25 _ (below_holds hB9' HVC.out.2) infoBr rfl (by simp [Value.oneCell']) ?_
          intro w10 h10 hO10 hs10
          go_frame
          have hold := below_holds hB9' HVC.out.2
          have H10 : Hid (BrAt w10 gb (downB S (fun i => m.testBit i) (j + 1)) ∧ BrAt w10 ga (upB S (fun i => m.testBit i) (j + 1)) ∧ Holds w10 g2 51 (strA 16 S) ∧ DbAt w10 ∧ Below w.heap.size w w10) := ⟨⟨p9, _, c9, rfl, hv9.only hO10 hold, h10⟩, (H7.out.below hB9').only hO10 (by omega) hold, hO10.holds (below_holds hB9' HC7.out.1) (by omega), (HC7.out.2.below hB9').only hO10 (by have := H0.out.2.2; omega), Only.fresh (below_new HB7.out hB9') hO10 (by rw [HG2.out]; omega)⟩
          clear hcd7 hold h10 hO10 hs10 hv9 hB9 hB9' hB8 hB8' HVC HC7 HB7 H7
          refine planE_nil ?_
          refine block_normal ?_
          go_at_K
          go_wp2_with fail
          refine ⟨⟨j + 1, by go_num, by omega, H10.out.2.2.1, H10.out.2.1, H10.out.1, H10.out.2.2.2.1, H10.out.2.2.2.2⟩, by simp [intOf]; omega⟩
        · obtain rfl : j = 16 := by omega
          obtain ⟨hte, hud⟩ := up_down S (fun i => m.testBit i)
          rw [← hud] at hb
          have hfit := hte.fits
          have hch := hte.chk
          have hmy := hte.many
          rw [HQ.out] at hmy
          rw [hmy] at hch
          generalize upB S (fun i => m.testBit i) 16 = b at ha hb hfit hch hmy
          obtain ⟨pa, na, ca, hna, hva, hha⟩ := ha
          obtain ⟨pb, nb, cb, hnb, hvb, hhb⟩ := hb
          subst hna hnb
          have hL16 : b.L.length ≤ 16 := by rw [hfit.2.2.2]; exact cntM_le _
          have hsm := qsame_eq (s := b.s) (t := b.t) (h := b.h) hva hvb (by omega)
          have hmc := fun W (hW : DbAt W) => mcheck_any (w := W) (s := b.s) (t := b.t) (h := b.h) (p := pa) (n := b.L.length) (c := ca) hfit.1 hfit.2.1 hfit.2.2.1 (by omega) hW
          rw [hch] at hmc
          have hct := fun W (hW : DbAt W) => count_any hfit.1 (w := W) hW
          rw [hmy] at hct
          unfold brV at hsm hmc
          unfold brC at hha hhb
          generalize b.L.length = nl at hha hhb hsm hmc hL16
          have HB : Hid (Below w.heap.size w wr ∧ DbAt wr ∧ Holds wr ga 25 (brC b.s b.t b.h (.slice pa nl ca))) := ⟨hBv, hTv, hha⟩
          clear hva hvb hte hud hch hmy hBv hTv hh
          go_wp2_with (first
            | (refine wpList_loadH rfl 25 _ rfl _ rfl _ _ _ hha Tryd.underlying25 rfl infoBr ?_)
            | (refine wpList_loadH rfl 25 _ rfl _ rfl _ _ _ hhb Tryd.underlying25 rfl infoBr ?_))
          refine hsm.mono ?_
          rintro e w5 ⟨rfl, hB5⟩
          have h5 := below_holds hB5 HB.out.2.2
          have hmc5 := hmc w5 (HB.out.2.1.below hB5)
          unfold brC at h5
          clear hha hhb hsm
          go_wp2_with (refine wpList_loadH rfl 25 _ rfl _ rfl _ _ _ h5 Tryd.underlying25 rfl infoBr ?_)
          refine hmc5.mono ?_
          rintro e w6 ⟨rfl, hB6⟩
          have h6 := below_holds hB6 h5
          have hct6 := hct w6 ((HB.out.2.1.below hB5).below hB6)
          have c6 := h6.cell 0
          have HB6 : Hid (Below w.heap.size w w6) := below_new (below_new HB.out.1 hB5) hB6
          clear hmc hmc5 hct hB5 hB6 h5 h6
          by_cases hq2 : 2 ≤ q
          · have hqi2 : (2 : Int) ≤ q := by omega
            rw [if_pos hq2]
            go_wp2_with fail
            refine hct6.mono ?_
            rintro e w7 ⟨rfl, hB7⟩
            have HB7 : Hid (Below w.heap.size w w7) := below_new HB6.out hB7
            clear hct6 hB7
            go_wp2_with fail
            go_ret
            exact ⟨rfl, HB7.out⟩
          · have hqi2 : ¬ (2 : Int) ≤ q := by omega
            rw [if_neg hq2]
            go_wp2_with fail
            refine hct6.mono ?_
            rintro e w7 ⟨rfl, hB7⟩
            have HB7 : Hid (Below w.heap.size w w7) := below_new HB6.out hB7
            clear hct6 hB7
            go_wp2_with fail
            go_ret
            refine ⟨?_, HB7.out⟩
            show Ending.returned (.bool (!decide ((2 : Int) ≤ (q : Int)))) = _
            have hf : decide ((2 : Int) ≤ (q : Int)) = false := decide_eq_false (by omega)
            rw [hf]
            rfl
end Go.Proofs.YtbidoangdnmjfaaDoor
