/-
  What the document's things does.
-/
import Derived.Test.YtamijfdhaahalaaDoorRowW
import Derived.Test.YtamijfdhaahalaaDoorRefSplitW
namespace Go.Proofs.YtamijfdhaahalaaDoor
open Go Go.RowKit

set_option maxRecDepth 8000 in
set_option maxHeartbeats 4000000 in
theorem things_any (N : Nat) : ∀ (x0 : ByteArray) (most : Nat)  (w : World), x0.size < N → x0.size ≤ 1000000 → most ≤ 16 → 
    Calls Tryd.prog 69 #[.string x0, .int .i64 most] w fun e w' => RowAns w w' (things most x0.data.toList) e ∧ Below w.heap.size w w' := by
  induction N with
  | zero => intro x0 most w h; omega
  | succ N ih =>
    intro x0 most w hN hx0 hmost
    have he9 : True := trivial
    obtain ⟨i8, hi, hiz, his, hib⟩ := infoItem
    have HI : Hid (Tryd.prog.info? 45 = some i8 ∧ i8.zero = some (.agg #[.bool false, .string ⟨#[]⟩, .slice none 0 0]) ∧ i8.size = 3 ∧ i8.bytes = 48) := ⟨hi, hiz, his, hib⟩
    clear hi hiz his hib
    have IH : Hid (∀ (x0 : ByteArray) (most : Nat)  (w : World), x0.size < N → x0.size ≤ 1000000 → most ≤ 16 → 
      Calls Tryd.prog 69 #[.string x0, .int .i64 most] w fun e w' => RowAns w w' (things most x0.data.toList) e ∧ Below w.heap.size w w') := ih
    clear ih
    have hmax : (1000001 : Nat) ≤ maxLen := by decide
    obtain ⟨n, hn⟩ : ∃ n, n = w.heap.size := ⟨_, rfl⟩
    have HN : Hid (n = w.heap.size) := hn
    clear hn
    go_enter Tryd.func69, Tryd.ntmps69
    go_wp2_with fail
    go_loopw [0, 6] (fun sv ov wr => ∃ (x : ByteArray) (v : Value) (r : Row) (xs : List Value), sv = .string x ∧ ov = v ∧ r.len + x.size ≤ x0.size ∧ things most x0.data.toList = (things most x.data.toList).map r.app ∧ Below n w wr ∧ n ≤ wr.heap.size ∧ wr.ownsRow n 45 3 v r.len xs ∧ RCells wr (SRow n wr v) r xs) (fun sv _ _ => txtLen sv)
    case atStart => exact ⟨x0, _, .nil, [], rfl, rfl, by simp [Row.len], by cases things most x0.data.toList <;> rfl, Below.refl _ _, by have := HN.out; omega, World.ownsRow_nil _ _ _ _, rfl⟩
    case round =>
      obtain ⟨x, v, r, xs, rfl, hv, hrx, hth, hB, hnw, own, hrc⟩ := hrel
      have hv2 := hv.symm
      clear hv
      subst hv2
      have hxx : x.size < 4611686018427387904 := by omega
      have OWN : Hid (wr.ownsRow n 45 3 v r.len xs) := own
      have HRC : Hid (RCells wr (SRow n wr v) r xs) := hrc
      have HTH : Hid (things most x0.data.toList = (things most x.data.toList).map r.app) := hth
      have he7 : True := trivial
      clear own hrc hth
      by_cases h0 : 0 < x.size
      · have h0i : (0 : Int) < x.size := by omega
        have hne := neNil x (by omega)
        have he8 : True := trivial
        cases hsp : split x.data.toList with
        | none =>
          have HNO : Hid (things most x0.data.toList = none) := by have h1 := HTH.out; rw [things_none hne hsp] at h1; exact h1
          go_wp2_with (first
            | (go_at_call 85; refine (refSplit_any x _ hxx).mono ?_; rintro e w1 ⟨rfl, hB1⟩; rw [hsp]; unfold splitV)
            | fail)
          go_ret2
          refine ⟨?_, ?_⟩
          · rw [HNO.out]; rfl
          · have hB2 : Below n w _ := hB.trans (hB1.mono hnw)
            rw [← HN.out]; exact hB2
        | some q =>
          obtain ⟨p, l, t⟩ := q
          obtain ⟨a1, a2, a3⟩ := split_len hsp
          rw [sizeB] at a1 a2 a3
          by_cases hmz : most = 0
          ·
            have HNO : Hid (things most x0.data.toList = none) := by have h1 := HTH.out; rw [hmz] at h1 ⊢; rw [things_deep hne] at h1; exact h1
            have hdi : (most : Int) < 1 := by omega
            clear hmz
            go_wp2_with (first
              | (go_at_call 85; refine (refSplit_any x _ hxx).mono ?_; rintro e w1 ⟨rfl, hB1⟩; rw [hsp]; unfold splitV)
              | fail)
            go_ret2
            refine ⟨?_, ?_⟩
            · rw [HNO.out]; rfl
            · have hB2 : Below n w _ := hB.trans (hB1.mono hnw)
              rw [← HN.out]; exact hB2
          · obtain ⟨mo, hmo⟩ : ∃ mo, most = mo + 1 := ⟨most - 1, by omega⟩
            have hmi : (most : Int) - 1 = (mo : Int) := by omega
            have hmo16 : mo ≤ 16 := by omega
            have HMO : Hid (most = mo + 1) := hmo
            have hdi : ¬ (most : Int) < 1 := by omega
            clear hmo hmz
            cases l with
            | false =>
              have hT : things most x.data.toList = (things most t).map (Row.item false p .nil) := by rw [HMO.out]; exact things_text hne hsp
              have HT : Hid (things most x.data.toList = (things most t).map (Row.item false p .nil)) := hT
              clear hT
              go_wp2_with (first
                | (go_at_call 85; refine (refSplit_any x _ hxx).mono ?_; rintro e w1 ⟨rfl, hB1⟩; rw [hsp]; unfold splitV; have hs1 := hB1.size)
                | (refine wpList_append_own2 _ rfl _ _ 43 rfl n 45 i8 (.agg #[.bool false, .string ⟨#[]⟩, .slice none 0 0]) 3 48 underItems HI.out.1 HI.out.2.1 HI.out.2.2.1 HI.out.2.2.2 rfl (by omega) v r.len xs rfl (((ownsRow_below OWN.out hB1).alloc _).alloc _) ⟨w1.heap.size + 1, 0, none⟩ 1 1 [.bool false, .string ⟨p.toArray⟩, .slice none 0 0] rfl rfl (item_news2 w1 _ _ _ _) (by intro u hu; simp at hu; rcases hu with rfl | rfl | rfl <;> rfl) (by omega) (by omega) (by omega) (by rw [World.size_alloc, World.size_alloc]; omega) ?_
                   intro v2 w2 own2 gr2 wh2)
                | fail)
              have hB12 := two_allocs hB1 (.cells #[.bool false, .string ⟨p.toArray⟩, .slice none 0 0] 45) (.cells #[.bool false, .string ⟨p.toArray⟩, .slice none 0 0] 45)
              have hrc2 := rcells_append (rcells_below HRC.out hB12) gr2 wh2
              have hBB : Below n w w2 := below_grown (hB.trans (hB12.mono hnw)) gr2 (Nat.le_trans hnw hB12.size) (fun k hk => (OWN.out.lt k hk).1)
              have hsz2 : n ≤ w2.heap.size := Nat.le_trans (Nat.le_trans hnw hB12.size) gr2.size
              have HRL : Hid _ := And.intro hrc2 (And.intro hBB (And.intro hsz2 own2))
              clear hrc2 hBB hsz2 own2 gr2 wh2 hB12
              go_roundw
              case rel =>
                obtain ⟨hrc2, hBB, hsz2, own2⟩ := HRL.out
                refine ⟨⟨t.toArray⟩, v2, r.app (.item false p .nil .nil), _, rfl, rfl, ?_, ?_, hBB, hsz2, ?_, hrc2.snoc (c' := 0) (a' := none) (inner := .nil) (by omega) (by simp [Row.len]) trivial⟩
                · rw [Row.len_app]; show r.len + 1 + t.toArray.size ≤ _; simp; omega
                · rw [HTH.out, HT.out]; exact map_app _ _ _ _ _
                · rw [Row.len_app]; exact own2
              case measure => show t.toArray.size < x.size; simp; omega
            | true =>
              have ha3 := a3 rfl
              have hT : things most x.data.toList = match things mo p with
                | none => none
                | some q => (things most t).map (Row.item true [] q) := by rw [HMO.out]; exact things_list hne hsp
              cases hq : things mo p with
              | none =>
                rw [hq] at hT
                have HNO : Hid (things most x0.data.toList = none) := by have h1 := HTH.out; rw [hT] at h1; exact h1
                clear hT
                go_wp2_with (first
                  | (go_at_call 85; refine (refSplit_any x _ hxx).mono ?_; rintro e w1 ⟨rfl, hB1⟩; rw [hsp]; unfold splitV; have hs1 := hB1.size
                     have he6 : True := trivial)
                  | (go_at_call 69; refine (IH.out ⟨p.toArray⟩ mo _ (by show p.toArray.size < _; simp; omega) (by show p.toArray.size ≤ _; simp; omega) (by omega) ).mono ?_; rintro e w2 ⟨hans, hB2⟩; rw [show (⟨p.toArray⟩ : ByteArray).data.toList = p from rfl, hq] at hans; obtain rfl : e = _ := hans)
                  | fail)
                go_ret2
                refine ⟨?_, ?_⟩
                · rw [HNO.out]; rfl
                · have hB3 : Below n w w2 := (hB.trans (hB1.mono hnw)).trans ((one_alloc hB2).mono (Nat.le_trans hnw hs1))
                  rw [← HN.out]; exact hB3
              | some q =>
                rw [hq] at hT
                have HT : Hid (things most x.data.toList = (things most t).map (Row.item true [] q)) := hT
                have hql := things_len p.length p (Nat.le_refl _) q hq
                clear hT
                go_wp2_with (first
                  | (go_at_call 85; refine (refSplit_any x _ hxx).mono ?_; rintro e w1 ⟨rfl, hB1⟩; rw [hsp]; unfold splitV; have hs1 := hB1.size
                     have he6 : True := trivial)
                  | (go_at_call 69; refine (IH.out ⟨p.toArray⟩ mo _ (by show p.toArray.size < _; simp; omega) (by show p.toArray.size ≤ _; simp; omega) (by omega) ).mono ?_; rintro e w2 ⟨hans, hB2⟩; rw [show (⟨p.toArray⟩ : ByteArray).data.toList = p from rfl, hq] at hans; obtain ⟨aq, cq, rfl, hlq⟩ := hans
                     have hm : Holds w2 w1.heap.size 45 #[.bool false, .string ⟨p.toArray⟩, .slice none 0 0] := below_holds hB2 (Holds.new w1 _ _)
                     have hBr2 : Below wr.heap.size wr w2 := hB1.trans ((one_alloc hB2).mono hs1)
                     have hs2 : w1.heap.size + 1 ≤ w2.heap.size := by have h9 := hB2.size; rw [World.size_alloc] at h9; exact h9
                     rw [World.size_alloc] at hlq
                     have HLQ : Hid (Lies w2 (fun k => w1.heap.size + 1 ≤ k ∧ k < w2.heap.size) q aq) := hlq
                     clear hlq hB2)
                  | (refine wpList_storeH rfl 45 _ _ rfl w1.heap.size #[.bool true, .string ⟨#[]⟩, .slice aq q.len cq] rfl rfl 45 _ hm infoItem3 rfl (item_one _ _ _ _ _) ?_
                     intro w3 h3 o3 z3
                     have Z3 : Hid (w3.heap.size = w2.heap.size) := z3
                     clear hm z3)
                  | (refine wpList_loadH rfl 45 _ rfl w1.heap.size rfl 45 _ _ h3 Tryd.underlying45 rfl infoItem3 ?_)
                  | (refine wpList_append_own2 _ rfl _ _ 43 rfl n 45 i8 (.agg #[.bool false, .string ⟨#[]⟩, .slice none 0 0]) 3 48 underItems HI.out.1 HI.out.2.1 HI.out.2.2.1 HI.out.2.2.2 rfl (by omega) v r.len xs rfl ((ownsRow_only (ownsRow_below OWN.out hBr2) o3 (fun q9 => by have h8 := (OWN.out.lt _ q9).2; omega)).alloc _) ⟨w3.heap.size, 0, none⟩ 1 1 [.bool true, .string ⟨#[]⟩, .slice aq q.len cq] rfl rfl (item_news w3 _ _ _) (by intro u hu; simp at hu; rcases hu with rfl | rfl | rfl <;> rfl) (by omega) (by omega) (by omega) (by rw [World.size_alloc]; have h9 := hBr2.size; have h8 := Z3.out; omega) ?_
                     intro v4 w4 own4 gr4 wh4)
                  | fail)
                have hal : Below w3.heap.size w3 (w3.alloc (.cells #[.bool true, .string ⟨#[]⟩, .slice aq q.len cq] 45)) := (Below.refl _ _).alloc (Nat.le_refl _) _
                have hbs := hBr2.size
                have z3 := Z3.out
                have hrc3 : RCells w3 (SRow n w3 v) r xs := (HRC.out.kept fun i hi => (o3.block i (by have := hi.2.1; omega) (by have := hi.2.1; omega)).trans (hBr2.block i hi.2.1)).mono fun _ hi => ⟨hi.1, by have := hi.2.1; omega, hi.2.2⟩
                have hrc4 := rcells_append (rcells_below hrc3 hal) gr4 wh4
                have hlv : ∀ k, v.ownBlock = some k → n ≤ k ∧ k < wr.heap.size := fun k hk => OWN.out.lt k hk
                have hl4 : Lies w4 (SRow n w4 v4) q aq := by
                  have e1 := HLQ.out.kept (w' := w4) fun i hi => by
                    rw [gr4.block i (by rw [World.size_alloc]; omega) (fun q9 => by have := (hlv i q9.symm).2; omega), hal.block i (by omega), o3.block i hi.2 (by omega)]
                  refine e1.mono fun k hk => ⟨by omega, by have h9 := gr4.size; rw [World.size_alloc] at h9; omega, fun q9 => ?_⟩
                  rcases wh4 with q8 | q8
                  · rw [q8] at q9; have := (hlv k q9.symm).2; omega
                  · rw [q8, World.size_alloc] at q9; have h7 : k = w3.heap.size + 1 := by simpa using q9
                    omega
                have hB3 : Below n w w3 := Only.fresh' (hB.trans (hBr2.mono hnw)) o3 ⟨by omega, by omega⟩
                have hBB : Below n w w4 := below_grown (hB3.trans (hal.mono (by omega))) gr4 (by rw [World.size_alloc]; omega) (fun k hk => (hlv k hk).1)
                have hsz4 : n ≤ w4.heap.size := by have h9 := gr4.size; rw [World.size_alloc] at h9; omega
                have HRL : Hid _ := And.intro hrc4 (And.intro hBB (And.intro hsz4 (And.intro own4 hl4)))
                clear hrc3 hrc4 hBB hsz4 own4 gr4 wh4 hBr2 hal hl4 hB3 o3 h3
                go_roundw
                case rel =>
                  obtain ⟨hrc2, hBB, hsz2, own2, hl2⟩ := HRL.out
                  refine ⟨⟨t.toArray⟩, v4, r.app (.item true [] q .nil), _, rfl, rfl, ?_, ?_, hBB, hsz2, ?_, hrc2.snoc (c' := cq) (by simp) (by omega) hl2⟩
                  · rw [Row.len_app]; show r.len + 1 + t.toArray.size ≤ _; simp; omega
                  · rw [HTH.out, HT.out]; exact map_app _ _ _ _ _
                  · rw [Row.len_app]; exact own2
                case measure => show t.toArray.size < x.size; simp; omega
      · have h0i : ¬ (0 : Int) < x.size := by omega
        have hxz : x.size = 0 := by omega
        have hzi : (x.size : Int) = 0 := by omega
        have he8 : True := trivial
        have HF : Hid (things most x0.data.toList = some r) := by
          have h1 := HTH.out
          rw [show x.data.toList = [] from List.eq_nil_of_length_eq_zero (by rw [sizeB]; exact hxz), things_nil] at h1
          show things most x0.data.toList = some r
          rw [h1, Option.map_some, Row.app_nil]
        obtain ⟨ar, cr, hvr, hlr⟩ := lies_own OWN.out HRC.out rfl (S' := fun k => n ≤ k ∧ k < wr.heap.size) (fun k hk => ⟨hk.1, hk.2.1⟩) (fun k hk => OWN.out.lt k hk)
        have HL : Hid (v = .slice ar r.len cr ∧ Lies wr (fun k => n ≤ k ∧ k < wr.heap.size) r ar) := ⟨hvr, hlr⟩
        clear hvr hlr
        go_wp2_with fail
        go_ret2
        refine ⟨?_, ?_⟩
        · rw [HF.out]
          exact ⟨ar, cr, by rw [← HL.out.1]; rfl, by rw [← HN.out]; exact HL.out.2⟩
        · rw [← HN.out]; exact hB
end Go.Proofs.YtamijfdhaahalaaDoor
