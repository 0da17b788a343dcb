/-
  RlpWrites walked.
-/
import Derived.Test.YtikpmafmmjfioaaRefEncW
namespace Go.Proofs.Ytikpmafmmjfioaa
open Go Go.RowKit

theorem cat_bound : ∀ (qs : List ByteArray), (∀ q ∈ qs, q.size ≤ 1000) → (cat qs).length ≤ 1000 * qs.length
  | [], _ => by simp [cat]
  | q :: qs, h => by
    have h1 := cat_bound qs fun r hr => h r (by simp [hr])
    have h2 := h q (by simp)
    rw [cat_cons, List.length_append, List.length_cons, sizeB]; omega
theorem own_lt2 {w : World} {base size n : Nat} {e : TypeId} {v : Value} {xs : List Value} (h : w.ownsRow base e size v n xs) : ∀ g, v.ownBlock = some g → base ≤ g := fun g hg => (h.lt g hg).1
theorem cut5 (x : ByteArray) : (x.extract 0 5000).size ≤ 5000 := by
  rw [extract_str, ← sizeB]
  show (List.take _ (List.drop 0 x.data.toList)).length ≤ 5000
  rw [List.length_take]; omega

set_option maxRecDepth 8000 in
set_option maxHeartbeats 8000000 in
theorem rwrites_walk (b : Bool) (s : List UInt8) (i : Row) (a : Option Addr) (c : Nat) (x : ByteArray) (v : Value) (ps : List ByteArray) (w : World) (hs : s.length ≤ 9223372036854775807) (hi : i.len ≤ 9223372036854775807) (hl : LiesU w (fun k => k < w.heap.size) i a) (hx : Texts w v ps) :
    Calls Try.prog 3 #[.agg #[.bool b, .string ⟨s.toArray⟩, .slice a i.len c], .string x, v] w fun e w' => e = .returned (.bool true) ∧ Below w.heap.size w w' := by
  obtain ⟨i8, hi1, hiz, his, hib⟩ := infoStr
  have HI : Hid (Try.prog.info? 9 = some i8 ∧ i8.zero = some (.string ⟨#[]⟩) ∧ i8.size = 1 ∧ i8.bytes = 16) := ⟨hi1, hiz, his, hib⟩
  clear hi1 hiz his hib
  obtain ⟨base, cap, rfl, hc⟩ := hx
  have HC : Hid (∀ i (hi : i < ps.length), ∃ c o, base = some ⟨c, o, none⟩ ∧ c < w.heap.size ∧ w.cell? ⟨c, o + i, none⟩ = some (.string ps[i])) := hc
  obtain ⟨n, hn⟩ : ∃ n, n = w.heap.size := ⟨_, rfl⟩
  have HN : Hid (n = w.heap.size) := hn
  have hh : Holds (w.alloc (.cells #[.bool b, .string ⟨s.toArray⟩, .slice a i.len c] 24)) n 24 #[.bool b, .string ⟨s.toArray⟩, .slice a i.len c] := by rw [hn]; exact Holds.new _ _ _
  have hB0 : Below w.heap.size w (w.alloc (.cells #[.bool b, .string ⟨s.toArray⟩, .slice a i.len c] 24)) := (Below.refl _ _).alloc (Nat.le_refl _) _
  have H0 : Hid (Holds (w.alloc (.cells #[.bool b, .string ⟨s.toArray⟩, .slice a i.len c] 24)) n 24 #[.bool b, .string ⟨s.toArray⟩, .slice a i.len c] ∧ Below w.heap.size w (w.alloc (.cells #[.bool b, .string ⟨s.toArray⟩, .slice a i.len c] 24))) := ⟨hh, hB0⟩
  have HLU : Hid (LiesU w (fun k => k < w.heap.size) i a) := hl
  clear hn hh hB0 hl hc
  go_enter Try.func3, Try.ntmps3
  go_wp2_with fail
  refine (awake_any _).mono ?_
  rintro e v1 ⟨rfl, h1⟩
  have HB := H0.out.2.trans (h1.mono H0.out.2.size)
  have hh1 := below_holds h1 H0.out.1
  have c0 : v1.cell? ⟨n, 0, none⟩ = some (.bool b) := hh1.cell 0
  have c1 : v1.cell? ⟨n, 1, none⟩ = some (.string ⟨s.toArray⟩) := hh1.cell 1
  have c2 : v1.cell? ⟨n, 2, none⟩ = some (.slice a i.len c) := hh1.cell 2
  have HL1 : Hid (LiesU v1 (fun k => k < v1.heap.size) i a) := (HLU.out.kept fun j hj => HB.block j hj).mono fun j hj => by have := HB.size; omega
  rw [← HN.out]
  clear h1
  go_wp2_with fail
  refine (nodes_any (i.sz + 1) i b s a c 2000 v1 (Nat.lt_succ_self _) hs hi (Nat.le_refl _) HL1.out).mono ?_
  rintro e V ⟨⟨r, rfl, hr1, hr2⟩, h2⟩
  have hh2 := below_holds h2 hh1
  replace HB := HB.trans (h2.mono HB.size)
  clear c0 c1 c2 hh1
  by_cases hr : r ≤ 2000
  · have hri : ¬ (2000 : Int) < r := by omega
    have hwt := hr2 hr
    have HVH := hh2
    have HVB := HB
    have HVW : 1 + s.length / 64 + i.wt ≤ 100000 := by omega
    have HVL : Lies V (fun k => k < V.heap.size) i a := ((HLU.out.kept fun j hj => HB.block j hj).mono fun j hj => by have := HB.size; omega).lies (by omega)
    clear hr2 hwt h2 hh2 HB
    by_cases hx5 : 5000 < x.size
    · have hxi : (5000 : Int) < x.size := by omega
      have hx6 : (5000 : Int) ≤ x.size := by omega
      have hXs := cut5 x
      obtain ⟨X, hX⟩ : ∃ X, x.extract 0 5000 = X := ⟨_, rfl⟩
      rw [hX] at hXs
      go_wp2_with fail
      have HV : Hid (Holds V n 24 #[.bool b, .string ⟨s.toArray⟩, .slice a i.len c] ∧ Below w.heap.size w V ∧ Lies V (fun k => k < V.heap.size) i a ∧ 1 + s.length / 64 + i.wt ≤ 100000) := ⟨HVH, HVB, HVL, HVW⟩
      clear HVH HVB HVL HVW
      go_loopw [8, 9, 10] (fun z8 z9 z10 wr => ∃ (k : Nat) (A : ByteArray) (vl : Value) (qs : List ByteArray), k ≤ 50 ∧ qs.length ≤ k ∧ Hid (∀ q ∈ qs, q.size ≤ 1000) ∧ z8 = vl ∧ z9 = .string A ∧ z10 = .int .i64 k ∧ Hid (A.data.toList = cat qs) ∧ Below V.heap.size V wr ∧ Hid (wr.ownsRow V.heap.size 9 1 vl qs.length (strs qs))) (fun _ _ z10 _ => 50 - (intOf z10).toNat)
      case atStart => exact ⟨0, _, _, [], by omega, by simp, fun q hq => by simp at hq, rfl, rfl, rfl, rfl, Below.refl _ _, World.ownsRow_nil _ _ _ _⟩
      case round =>
        obtain ⟨k, A, vl, qs, hk50, hqk, HQ, hvl, rfl, rfl, HA, hB, OW⟩ := hrel
        have hvl2 := hvl.symm
        clear hvl
        subst hvl2
        have hAs : A.size ≤ 50000 := by have h1 := cat_bound qs HQ.out; rw [← sizeB, HA.out]; omega
        have hAi : (A.size : Int) ≤ 50000 := by omega
        by_cases hlt : k < ps.length ∧ k < 50
        · obtain ⟨hlt, hlt2⟩ := hlt
          have hli : (k : Int) < ps.length := by omega
          have hli2 : (k : Int) < 50 := by omega
          have hk0 : (0 : Int) ≤ k := by omega
          obtain ⟨cc, o, rfl, hcl, hcw⟩ := HC.out k hlt
          obtain ⟨p, hp⟩ : ∃ p, p = ps[k] := ⟨_, rfl⟩
          rw [← hp] at hcw
          have hcV : V.cell? ⟨cc, o + k, none⟩ = some (.string p) := by rw [HV.out.2.1.cell (p := ⟨cc, o + k, none⟩) hcl]; exact hcw
          have hcv : cc < V.heap.size := by have := HV.out.2.1.size; omega
          have hck : wr.cell? ⟨cc, o + k, none⟩ = some (.string p) := by rw [hB.cell (p := ⟨cc, o + k, none⟩) hcv]; exact hcV
          have HCK : Hid (cc < V.heap.size ∧ V.cell? ⟨cc, o + k, none⟩ = some (.string p)) := ⟨hcv, hcV⟩
          clear hp hcl hcw hcV hcv
          by_cases hsm : p.size ≤ 1000
          · have hsi : (p.size : Int) ≤ 1000 := by omega
            go_wp2_with (first
              | (refine wpList_append_own _ rfl _ _ 25 rfl V.heap.size 9 i8 (.string ⟨#[]⟩) 1 16 underStrings HI.out.1 HI.out.2.1 HI.out.2.2.1 HI.out.2.2.2 rfl (by omega) vl qs.length (strs qs) rfl (World.ownsRow.alloc OW.out _) ⟨wr.heap.size, 0, none⟩ 1 1 [.string p] rfl rfl (one_str wr _) (by intro u hu; simp at hu; subst hu; rfl) (by unfold maxLen; omega) (by omega) (by rw [World.size_alloc]; have := hB.size; omega) ?_
                 intro v5 w5 own5 gr5 _
                 have HB5 : Hid (Below V.heap.size V w5) := (hB.alloc hB.size _).grown gr5 (by rw [World.size_alloc]; have := hB.size; omega) (fun q hq => own_lt2 OW.out q hq)
                 have hck5 : w5.cell? ⟨cc, o + k, none⟩ = some (.string p) := by rw [HB5.out.cell (p := ⟨cc, o + k, none⟩) HCK.out.1]; exact HCK.out.2)
              | fail)
            refine ⟨⟨k + 1, A ++ p, v5, qs ++ [p], by omega, by rw [List.length_append, List.length_singleton]; omega, fun q hq => ?_, rfl, rfl, by congr 1, ?_, HB5.out, ?_⟩, ?_⟩
            · rcases List.mem_append.mp hq with r | r
              · exact HQ.out q r
              · simp at r; subst r; exact hsm
            · show (A ++ p).data.toList = _
              rw [cat_append, cat_one, ← HA.out]
              obtain ⟨l1, rfl⟩ := exists_list A
              obtain ⟨l2, rfl⟩ := exists_list p
              rw [ByteArray.mk_append_mk]
            · show w5.ownsRow _ _ _ _ _ _
              rw [strs_snoc, List.length_append, List.length_singleton]; exact own5
            · simp [intOf]; omega
          · have hsi : ¬ (p.size : Int) ≤ 1000 := by omega
            go_wp2_with fail
            go_roundw
            case rel => exact ⟨k + 1, A, vl, qs, by omega, by omega, HQ, rfl, rfl, rfl, HA, hB, OW⟩
            case measure => simp [intOf]; omega
        · rcases (show (¬ k < ps.length) ∨ (k < ps.length ∧ ¬ k < 50) by omega) with hx1 | ⟨hx1, hx2⟩
          · have hli : ¬ (k : Int) < ps.length := by omega
            have hw0 : Below w.heap.size w wr := HV.out.2.1.trans (hB.mono HV.out.2.1.size)
            have hhr : Holds wr n 24 #[.bool b, .string ⟨s.toArray⟩, .slice a i.len c] := below_holds hB HV.out.1
            have c0 : wr.cell? ⟨n, 0, none⟩ = some (.bool b) := hhr.cell 0
            have c1 : wr.cell? ⟨n, 1, none⟩ = some (.string ⟨s.toArray⟩) := hhr.cell 1
            have c2 : wr.cell? ⟨n, 2, none⟩ = some (.slice a i.len c) := hhr.cell 2
            have HLr : Hid (Lies wr (fun k => k < wr.heap.size) i a) := (HV.out.2.2.1.kept fun j hj => hB.block j hj).mono fun j hj => by have := hB.size; omega
            have hcat : (cat qs).length ≤ 100000000 := by have h1 := HA.out; rw [← h1, sizeB]; omega
            obtain ⟨o1, ho1⟩ : ∃ o1 : ByteArray, ⟨((encOne b s i 16).getD []).toArray⟩ = o1 := ⟨_, rfl⟩
            obtain ⟨o2, ho2⟩ : ∃ o2, encE (encOne b s i 16) = o2 := ⟨_, rfl⟩
            obtain ⟨o3, ho3⟩ : ∃ o3 : ByteArray, ⟨(bytesL X.data.toList).toArray⟩ = o3 := ⟨_, rfl⟩
            obtain ⟨o4, ho4⟩ : ∃ o4 : ByteArray, ⟨(listL (cat qs)).toArray⟩ = o4 := ⟨_, rfl⟩
            have HO : Hid ((⟨((encOne b s i 16).getD []).toArray⟩ : ByteArray) = o1 ∧ encE (encOne b s i 16) = o2 ∧ (⟨(bytesL X.data.toList).toArray⟩ : ByteArray) = o3 ∧ (⟨(listL (cat qs)).toArray⟩ : ByteArray) = o4) := ⟨ho1, ho2, ho3, ho4⟩
            clear ho1 ho2 ho3 ho4
            go_wp2_with fail
            refine (Encode_any i b s a c wr HV.out.2.2.2 HLr.out).mono ?_
            rintro e w5 ⟨rfl, h5⟩
            rw [HO.out.1, HO.out.2.1]
            have hh5 := below_holds h5 hhr
            have d0 : w5.cell? ⟨n, 0, none⟩ = some (.bool b) := hh5.cell 0
            have d1 : w5.cell? ⟨n, 1, none⟩ = some (.string ⟨s.toArray⟩) := hh5.cell 1
            have d2 : w5.cell? ⟨n, 2, none⟩ = some (.slice a i.len c) := hh5.cell 2
            clear c0 c1 c2
            go_wp2_with fail
            refine (refEncode_any i b s a c w5 HV.out.2.2.2 ((HLr.out.kept fun j hj => h5.block j hj).mono fun j hj => by have := h5.size; omega)).mono ?_
            rintro e w6 ⟨rfl, h6⟩
            rw [HO.out.1, HO.out.2.1]
            have hr6 := h5.trans (h6.mono h5.size)
            clear d0 d1 d2
            go_wp2_with fail
            refine (bytes_any X _ (by omega)).mono ?_
            rintro e w7 ⟨rfl, h7⟩
            rw [HO.out.2.2.1]
            have hr7 := hr6.trans (h7.mono hr6.size)
            go_wp2_with fail
            refine (refBytes_any X _ (by omega)).mono ?_
            rintro e w8 ⟨rfl, h8⟩
            rw [HO.out.2.2.1]
            have hr8 := hr7.trans (h8.mono hr7.size)
            go_wp2_with fail
            refine (list_owned (ownsRow_below OW.out hr8) (by omega) hcat).mono ?_
            rintro e w9 ⟨rfl, h9⟩
            rw [HO.out.2.2.2]
            have hr9 := hr8.trans (h9.mono hr8.size)
            go_wp2_with fail
            refine (refList_any A _ (by omega)).mono ?_
            rintro e w10 ⟨rfl, h10⟩
            rw [HA.out, HO.out.2.2.2]
            have hr10 := hr9.trans (h10.mono hr9.size)
            go_wp2_with fail
            go_ret
            exact ⟨rfl, hw0.trans (hr10.mono hw0.size)⟩
          · have hli : (k : Int) < ps.length := by omega
            have hli2 : ¬ (k : Int) < 50 := by omega
            have hw0 : Below w.heap.size w wr := HV.out.2.1.trans (hB.mono HV.out.2.1.size)
            have hhr : Holds wr n 24 #[.bool b, .string ⟨s.toArray⟩, .slice a i.len c] := below_holds hB HV.out.1
            have c0 : wr.cell? ⟨n, 0, none⟩ = some (.bool b) := hhr.cell 0
            have c1 : wr.cell? ⟨n, 1, none⟩ = some (.string ⟨s.toArray⟩) := hhr.cell 1
            have c2 : wr.cell? ⟨n, 2, none⟩ = some (.slice a i.len c) := hhr.cell 2
            have HLr : Hid (Lies wr (fun k => k < wr.heap.size) i a) := (HV.out.2.2.1.kept fun j hj => hB.block j hj).mono fun j hj => by have := hB.size; omega
            have hcat : (cat qs).length ≤ 100000000 := by have h1 := HA.out; rw [← h1, sizeB]; omega
            obtain ⟨o1, ho1⟩ : ∃ o1 : ByteArray, ⟨((encOne b s i 16).getD []).toArray⟩ = o1 := ⟨_, rfl⟩
            obtain ⟨o2, ho2⟩ : ∃ o2, encE (encOne b s i 16) = o2 := ⟨_, rfl⟩
            obtain ⟨o3, ho3⟩ : ∃ o3 : ByteArray, ⟨(bytesL X.data.toList).toArray⟩ = o3 := ⟨_, rfl⟩
            obtain ⟨o4, ho4⟩ : ∃ o4 : ByteArray, ⟨(listL (cat qs)).toArray⟩ = o4 := ⟨_, rfl⟩
            have HO : Hid ((⟨((encOne b s i 16).getD []).toArray⟩ : ByteArray) = o1 ∧ encE (encOne b s i 16) = o2 ∧ (⟨(bytesL X.data.toList).toArray⟩ : ByteArray) = o3 ∧ (⟨(listL (cat qs)).toArray⟩ : ByteArray) = o4) := ⟨ho1, ho2, ho3, ho4⟩
            clear ho1 ho2 ho3 ho4
            go_wp2_with fail
            refine (Encode_any i b s a c wr HV.out.2.2.2 HLr.out).mono ?_
            rintro e w5 ⟨rfl, h5⟩
            rw [HO.out.1, HO.out.2.1]
            have hh5 := below_holds h5 hhr
            have d0 : w5.cell? ⟨n, 0, none⟩ = some (.bool b) := hh5.cell 0
            have d1 : w5.cell? ⟨n, 1, none⟩ = some (.string ⟨s.toArray⟩) := hh5.cell 1
            have d2 : w5.cell? ⟨n, 2, none⟩ = some (.slice a i.len c) := hh5.cell 2
            clear c0 c1 c2
            go_wp2_with fail
            refine (refEncode_any i b s a c w5 HV.out.2.2.2 ((HLr.out.kept fun j hj => h5.block j hj).mono fun j hj => by have := h5.size; omega)).mono ?_
            rintro e w6 ⟨rfl, h6⟩
            rw [HO.out.1, HO.out.2.1]
            have hr6 := h5.trans (h6.mono h5.size)
            clear d0 d1 d2
            go_wp2_with fail
            refine (bytes_any X _ (by omega)).mono ?_
            rintro e w7 ⟨rfl, h7⟩
            rw [HO.out.2.2.1]
            have hr7 := hr6.trans (h7.mono hr6.size)
            go_wp2_with fail
            refine (refBytes_any X _ (by omega)).mono ?_
            rintro e w8 ⟨rfl, h8⟩
            rw [HO.out.2.2.1]
            have hr8 := hr7.trans (h8.mono hr7.size)
            go_wp2_with fail
            refine (list_owned (ownsRow_below OW.out hr8) (by omega) hcat).mono ?_
            rintro e w9 ⟨rfl, h9⟩
            rw [HO.out.2.2.2]
            have hr9 := hr8.trans (h9.mono hr8.size)
            go_wp2_with fail
            refine (refList_any A _ (by omega)).mono ?_
            rintro e w10 ⟨rfl, h10⟩
            rw [HA.out, HO.out.2.2.2]
            have hr10 := hr9.trans (h10.mono hr9.size)
            go_wp2_with fail
            go_ret
            exact ⟨rfl, hw0.trans (hr10.mono hw0.size)⟩
    · have hxi : ¬ (5000 : Int) < x.size := by omega
      obtain ⟨X, hX⟩ : ∃ X, X = x := ⟨_, rfl⟩
      have hXs : X.size ≤ 5000 := by rw [hX]; omega
      subst hX
      go_wp2_with fail
      have HV : Hid (Holds V n 24 #[.bool b, .string ⟨s.toArray⟩, .slice a i.len c] ∧ Below w.heap.size w V ∧ Lies V (fun k => k < V.heap.size) i a ∧ 1 + s.length / 64 + i.wt ≤ 100000) := ⟨HVH, HVB, HVL, HVW⟩
      clear HVH HVB HVL HVW
      go_loopw [8, 9, 10] (fun z8 z9 z10 wr => ∃ (k : Nat) (A : ByteArray) (vl : Value) (qs : List ByteArray), k ≤ 50 ∧ qs.length ≤ k ∧ Hid (∀ q ∈ qs, q.size ≤ 1000) ∧ z8 = vl ∧ z9 = .string A ∧ z10 = .int .i64 k ∧ Hid (A.data.toList = cat qs) ∧ Below V.heap.size V wr ∧ Hid (wr.ownsRow V.heap.size 9 1 vl qs.length (strs qs))) (fun _ _ z10 _ => 50 - (intOf z10).toNat)
      case atStart => exact ⟨0, _, _, [], by omega, by simp, fun q hq => by simp at hq, rfl, rfl, rfl, rfl, Below.refl _ _, World.ownsRow_nil _ _ _ _⟩
      case round =>
        obtain ⟨k, A, vl, qs, hk50, hqk, HQ, hvl, rfl, rfl, HA, hB, OW⟩ := hrel
        have hvl2 := hvl.symm
        clear hvl
        subst hvl2
        have hAs : A.size ≤ 50000 := by have h1 := cat_bound qs HQ.out; rw [← sizeB, HA.out]; omega
        have hAi : (A.size : Int) ≤ 50000 := by omega
        by_cases hlt : k < ps.length ∧ k < 50
        · obtain ⟨hlt, hlt2⟩ := hlt
          have hli : (k : Int) < ps.length := by omega
          have hli2 : (k : Int) < 50 := by omega
          have hk0 : (0 : Int) ≤ k := by omega
          obtain ⟨cc, o, rfl, hcl, hcw⟩ := HC.out k hlt
          obtain ⟨p, hp⟩ : ∃ p, p = ps[k] := ⟨_, rfl⟩
          rw [← hp] at hcw
          have hcV : V.cell? ⟨cc, o + k, none⟩ = some (.string p) := by rw [HV.out.2.1.cell (p := ⟨cc, o + k, none⟩) hcl]; exact hcw
          have hcv : cc < V.heap.size := by have := HV.out.2.1.size; omega
          have hck : wr.cell? ⟨cc, o + k, none⟩ = some (.string p) := by rw [hB.cell (p := ⟨cc, o + k, none⟩) hcv]; exact hcV
          have HCK : Hid (cc < V.heap.size ∧ V.cell? ⟨cc, o + k, none⟩ = some (.string p)) := ⟨hcv, hcV⟩
          clear hp hcl hcw hcV hcv
          by_cases hsm : p.size ≤ 1000
          · have hsi : (p.size : Int) ≤ 1000 := by omega
            go_wp2_with (first
              | (refine wpList_append_own _ rfl _ _ 25 rfl V.heap.size 9 i8 (.string ⟨#[]⟩) 1 16 underStrings HI.out.1 HI.out.2.1 HI.out.2.2.1 HI.out.2.2.2 rfl (by omega) vl qs.length (strs qs) rfl (World.ownsRow.alloc OW.out _) ⟨wr.heap.size, 0, none⟩ 1 1 [.string p] rfl rfl (one_str wr _) (by intro u hu; simp at hu; subst hu; rfl) (by unfold maxLen; omega) (by omega) (by rw [World.size_alloc]; have := hB.size; omega) ?_
                 intro v5 w5 own5 gr5 _
                 have HB5 : Hid (Below V.heap.size V w5) := (hB.alloc hB.size _).grown gr5 (by rw [World.size_alloc]; have := hB.size; omega) (fun q hq => own_lt2 OW.out q hq)
                 have hck5 : w5.cell? ⟨cc, o + k, none⟩ = some (.string p) := by rw [HB5.out.cell (p := ⟨cc, o + k, none⟩) HCK.out.1]; exact HCK.out.2)
              | fail)
            refine ⟨⟨k + 1, A ++ p, v5, qs ++ [p], by omega, by rw [List.length_append, List.length_singleton]; omega, fun q hq => ?_, rfl, rfl, by congr 1, ?_, HB5.out, ?_⟩, ?_⟩
            · rcases List.mem_append.mp hq with r | r
              · exact HQ.out q r
              · simp at r; subst r; exact hsm
            · show (A ++ p).data.toList = _
              rw [cat_append, cat_one, ← HA.out]
              obtain ⟨l1, rfl⟩ := exists_list A
              obtain ⟨l2, rfl⟩ := exists_list p
              rw [ByteArray.mk_append_mk]
            · show w5.ownsRow _ _ _ _ _ _
              rw [strs_snoc, List.length_append, List.length_singleton]; exact own5
            · simp [intOf]; omega
          · have hsi : ¬ (p.size : Int) ≤ 1000 := by omega
            go_wp2_with fail
            go_roundw
            case rel => exact ⟨k + 1, A, vl, qs, by omega, by omega, HQ, rfl, rfl, rfl, HA, hB, OW⟩
            case measure => simp [intOf]; omega
        · rcases (show (¬ k < ps.length) ∨ (k < ps.length ∧ ¬ k < 50) by omega) with hx1 | ⟨hx1, hx2⟩
          · have hli : ¬ (k : Int) < ps.length := by omega
            have hw0 : Below w.heap.size w wr := HV.out.2.1.trans (hB.mono HV.out.2.1.size)
            have hhr : Holds wr n 24 #[.bool b, .string ⟨s.toArray⟩, .slice a i.len c] := below_holds hB HV.out.1
            have c0 : wr.cell? ⟨n, 0, none⟩ = some (.bool b) := hhr.cell 0
            have c1 : wr.cell? ⟨n, 1, none⟩ = some (.string ⟨s.toArray⟩) := hhr.cell 1
            have c2 : wr.cell? ⟨n, 2, none⟩ = some (.slice a i.len c) := hhr.cell 2
            have HLr : Hid (Lies wr (fun k => k < wr.heap.size) i a) := (HV.out.2.2.1.kept fun j hj => hB.block j hj).mono fun j hj => by have := hB.size; omega
            have hcat : (cat qs).length ≤ 100000000 := by have h1 := HA.out; rw [← h1, sizeB]; omega
            obtain ⟨o1, ho1⟩ : ∃ o1 : ByteArray, ⟨((encOne b s i 16).getD []).toArray⟩ = o1 := ⟨_, rfl⟩
            obtain ⟨o2, ho2⟩ : ∃ o2, encE (encOne b s i 16) = o2 := ⟨_, rfl⟩
            obtain ⟨o3, ho3⟩ : ∃ o3 : ByteArray, ⟨(bytesL X.data.toList).toArray⟩ = o3 := ⟨_, rfl⟩
            obtain ⟨o4, ho4⟩ : ∃ o4 : ByteArray, ⟨(listL (cat qs)).toArray⟩ = o4 := ⟨_, rfl⟩
            have HO : Hid ((⟨((encOne b s i 16).getD []).toArray⟩ : ByteArray) = o1 ∧ encE (encOne b s i 16) = o2 ∧ (⟨(bytesL X.data.toList).toArray⟩ : ByteArray) = o3 ∧ (⟨(listL (cat qs)).toArray⟩ : ByteArray) = o4) := ⟨ho1, ho2, ho3, ho4⟩
            clear ho1 ho2 ho3 ho4
            go_wp2_with fail
            refine (Encode_any i b s a c wr HV.out.2.2.2 HLr.out).mono ?_
            rintro e w5 ⟨rfl, h5⟩
            rw [HO.out.1, HO.out.2.1]
            have hh5 := below_holds h5 hhr
            have d0 : w5.cell? ⟨n, 0, none⟩ = some (.bool b) := hh5.cell 0
            have d1 : w5.cell? ⟨n, 1, none⟩ = some (.string ⟨s.toArray⟩) := hh5.cell 1
            have d2 : w5.cell? ⟨n, 2, none⟩ = some (.slice a i.len c) := hh5.cell 2
            clear c0 c1 c2
            go_wp2_with fail
            refine (refEncode_any i b s a c w5 HV.out.2.2.2 ((HLr.out.kept fun j hj => h5.block j hj).mono fun j hj => by have := h5.size; omega)).mono ?_
            rintro e w6 ⟨rfl, h6⟩
            rw [HO.out.1, HO.out.2.1]
            have hr6 := h5.trans (h6.mono h5.size)
            clear d0 d1 d2
            go_wp2_with fail
            refine (bytes_any X _ (by omega)).mono ?_
            rintro e w7 ⟨rfl, h7⟩
            rw [HO.out.2.2.1]
            have hr7 := hr6.trans (h7.mono hr6.size)
            go_wp2_with fail
            refine (refBytes_any X _ (by omega)).mono ?_
            rintro e w8 ⟨rfl, h8⟩
            rw [HO.out.2.2.1]
            have hr8 := hr7.trans (h8.mono hr7.size)
            go_wp2_with fail
            refine (list_owned (ownsRow_below OW.out hr8) (by omega) hcat).mono ?_
            rintro e w9 ⟨rfl, h9⟩
            rw [HO.out.2.2.2]
            have hr9 := hr8.trans (h9.mono hr8.size)
            go_wp2_with fail
            refine (refList_any A _ (by omega)).mono ?_
            rintro e w10 ⟨rfl, h10⟩
            rw [HA.out, HO.out.2.2.2]
            have hr10 := hr9.trans (h10.mono hr9.size)
            go_wp2_with fail
            go_ret
            exact ⟨rfl, hw0.trans (hr10.mono hw0.size)⟩
          · have hli : (k : Int) < ps.length := by omega
            have hli2 : ¬ (k : Int) < 50 := by omega
            have hw0 : Below w.heap.size w wr := HV.out.2.1.trans (hB.mono HV.out.2.1.size)
            have hhr : Holds wr n 24 #[.bool b, .string ⟨s.toArray⟩, .slice a i.len c] := below_holds hB HV.out.1
            have c0 : wr.cell? ⟨n, 0, none⟩ = some (.bool b) := hhr.cell 0
            have c1 : wr.cell? ⟨n, 1, none⟩ = some (.string ⟨s.toArray⟩) := hhr.cell 1
            have c2 : wr.cell? ⟨n, 2, none⟩ = some (.slice a i.len c) := hhr.cell 2
            have HLr : Hid (Lies wr (fun k => k < wr.heap.size) i a) := (HV.out.2.2.1.kept fun j hj => hB.block j hj).mono fun j hj => by have := hB.size; omega
            have hcat : (cat qs).length ≤ 100000000 := by have h1 := HA.out; rw [← h1, sizeB]; omega
            obtain ⟨o1, ho1⟩ : ∃ o1 : ByteArray, ⟨((encOne b s i 16).getD []).toArray⟩ = o1 := ⟨_, rfl⟩
            obtain ⟨o2, ho2⟩ : ∃ o2, encE (encOne b s i 16) = o2 := ⟨_, rfl⟩
            obtain ⟨o3, ho3⟩ : ∃ o3 : ByteArray, ⟨(bytesL X.data.toList).toArray⟩ = o3 := ⟨_, rfl⟩
            obtain ⟨o4, ho4⟩ : ∃ o4 : ByteArray, ⟨(listL (cat qs)).toArray⟩ = o4 := ⟨_, rfl⟩
            have HO : Hid ((⟨((encOne b s i 16).getD []).toArray⟩ : ByteArray) = o1 ∧ encE (encOne b s i 16) = o2 ∧ (⟨(bytesL X.data.toList).toArray⟩ : ByteArray) = o3 ∧ (⟨(listL (cat qs)).toArray⟩ : ByteArray) = o4) := ⟨ho1, ho2, ho3, ho4⟩
            clear ho1 ho2 ho3 ho4
            go_wp2_with fail
            refine (Encode_any i b s a c wr HV.out.2.2.2 HLr.out).mono ?_
            rintro e w5 ⟨rfl, h5⟩
            rw [HO.out.1, HO.out.2.1]
            have hh5 := below_holds h5 hhr
            have d0 : w5.cell? ⟨n, 0, none⟩ = some (.bool b) := hh5.cell 0
            have d1 : w5.cell? ⟨n, 1, none⟩ = some (.string ⟨s.toArray⟩) := hh5.cell 1
            have d2 : w5.cell? ⟨n, 2, none⟩ = some (.slice a i.len c) := hh5.cell 2
            clear c0 c1 c2
            go_wp2_with fail
            refine (refEncode_any i b s a c w5 HV.out.2.2.2 ((HLr.out.kept fun j hj => h5.block j hj).mono fun j hj => by have := h5.size; omega)).mono ?_
            rintro e w6 ⟨rfl, h6⟩
            rw [HO.out.1, HO.out.2.1]
            have hr6 := h5.trans (h6.mono h5.size)
            clear d0 d1 d2
            go_wp2_with fail
            refine (bytes_any X _ (by omega)).mono ?_
            rintro e w7 ⟨rfl, h7⟩
            rw [HO.out.2.2.1]
            have hr7 := hr6.trans (h7.mono hr6.size)
            go_wp2_with fail
            refine (refBytes_any X _ (by omega)).mono ?_
            rintro e w8 ⟨rfl, h8⟩
            rw [HO.out.2.2.1]
            have hr8 := hr7.trans (h8.mono hr7.size)
            go_wp2_with fail
            refine (list_owned (ownsRow_below OW.out hr8) (by omega) hcat).mono ?_
            rintro e w9 ⟨rfl, h9⟩
            rw [HO.out.2.2.2]
            have hr9 := hr8.trans (h9.mono hr8.size)
            go_wp2_with fail
            refine (refList_any A _ (by omega)).mono ?_
            rintro e w10 ⟨rfl, h10⟩
            rw [HA.out, HO.out.2.2.2]
            have hr10 := hr9.trans (h10.mono hr9.size)
            go_wp2_with fail
            go_ret
            exact ⟨rfl, hw0.trans (hr10.mono hw0.size)⟩
  · have hri : (2000 : Int) < r := by omega
    clear hr2
    by_cases hx5 : 5000 < x.size
    · have hxi : (5000 : Int) < x.size := by omega
      have hx6 : (5000 : Int) ≤ x.size := by omega
      have hXs := cut5 x
      obtain ⟨X, hX⟩ : ∃ X, x.extract 0 5000 = X := ⟨_, rfl⟩
      rw [hX] at hXs
      go_wp2_with (first
        | (refine wpList_storeH rfl 24 _ _ rfl n #[.bool false, .string ⟨#[]⟩, .slice none 0 0] rfl rfl 24 _ hh2 infoItem3 rfl (item_one _ _ _ _ _) ?_
           intro V HVH o3 z3)
        | fail)
      have HVB : Below w.heap.size w V := Only.fresh HB o3 (by rw [HN.out]; exact Nat.le_refl _)
      have HVL : Lies V (fun k => k < V.heap.size) Row.nil none := trivial
      have HVW : 1 + ([] : List UInt8).length / 64 + Row.nil.wt ≤ 100000 := by simp [Row.wt]
      clear HB hh2 h2 o3 z3
      have HV : Hid (Holds V n 24 #[.bool false, .string ⟨#[]⟩, .slice none 0 0] ∧ Below w.heap.size w V ∧ Lies V (fun k => k < V.heap.size) Row.nil none ∧ 1 + ([] : List UInt8).length / 64 + Row.nil.wt ≤ 100000) := ⟨HVH, HVB, HVL, HVW⟩
      clear HVH HVB HVL HVW
      go_loopw [8, 9, 10] (fun z8 z9 z10 wr => ∃ (k : Nat) (A : ByteArray) (vl : Value) (qs : List ByteArray), k ≤ 50 ∧ qs.length ≤ k ∧ Hid (∀ q ∈ qs, q.size ≤ 1000) ∧ z8 = vl ∧ z9 = .string A ∧ z10 = .int .i64 k ∧ Hid (A.data.toList = cat qs) ∧ Below V.heap.size V wr ∧ Hid (wr.ownsRow V.heap.size 9 1 vl qs.length (strs qs))) (fun _ _ z10 _ => 50 - (intOf z10).toNat)
      case atStart => exact ⟨0, _, _, [], by omega, by simp, fun q hq => by simp at hq, rfl, rfl, rfl, rfl, Below.refl _ _, World.ownsRow_nil _ _ _ _⟩
      case round =>
        obtain ⟨k, A, vl, qs, hk50, hqk, HQ, hvl, rfl, rfl, HA, hB, OW⟩ := hrel
        have hvl2 := hvl.symm
        clear hvl
        subst hvl2
        have hAs : A.size ≤ 50000 := by have h1 := cat_bound qs HQ.out; rw [← sizeB, HA.out]; omega
        have hAi : (A.size : Int) ≤ 50000 := by omega
        by_cases hlt : k < ps.length ∧ k < 50
        · obtain ⟨hlt, hlt2⟩ := hlt
          have hli : (k : Int) < ps.length := by omega
          have hli2 : (k : Int) < 50 := by omega
          have hk0 : (0 : Int) ≤ k := by omega
          obtain ⟨cc, o, rfl, hcl, hcw⟩ := HC.out k hlt
          obtain ⟨p, hp⟩ : ∃ p, p = ps[k] := ⟨_, rfl⟩
          rw [← hp] at hcw
          have hcV : V.cell? ⟨cc, o + k, none⟩ = some (.string p) := by rw [HV.out.2.1.cell (p := ⟨cc, o + k, none⟩) hcl]; exact hcw
          have hcv : cc < V.heap.size := by have := HV.out.2.1.size; omega
          have hck : wr.cell? ⟨cc, o + k, none⟩ = some (.string p) := by rw [hB.cell (p := ⟨cc, o + k, none⟩) hcv]; exact hcV
          have HCK : Hid (cc < V.heap.size ∧ V.cell? ⟨cc, o + k, none⟩ = some (.string p)) := ⟨hcv, hcV⟩
          clear hp hcl hcw hcV hcv
          by_cases hsm : p.size ≤ 1000
          · have hsi : (p.size : Int) ≤ 1000 := by omega
            go_wp2_with (first
              | (refine wpList_append_own _ rfl _ _ 25 rfl V.heap.size 9 i8 (.string ⟨#[]⟩) 1 16 underStrings HI.out.1 HI.out.2.1 HI.out.2.2.1 HI.out.2.2.2 rfl (by omega) vl qs.length (strs qs) rfl (World.ownsRow.alloc OW.out _) ⟨wr.heap.size, 0, none⟩ 1 1 [.string p] rfl rfl (one_str wr _) (by intro u hu; simp at hu; subst hu; rfl) (by unfold maxLen; omega) (by omega) (by rw [World.size_alloc]; have := hB.size; omega) ?_
                 intro v5 w5 own5 gr5 _
                 have HB5 : Hid (Below V.heap.size V w5) := (hB.alloc hB.size _).grown gr5 (by rw [World.size_alloc]; have := hB.size; omega) (fun q hq => own_lt2 OW.out q hq)
                 have hck5 : w5.cell? ⟨cc, o + k, none⟩ = some (.string p) := by rw [HB5.out.cell (p := ⟨cc, o + k, none⟩) HCK.out.1]; exact HCK.out.2)
              | fail)
            refine ⟨⟨k + 1, A ++ p, v5, qs ++ [p], by omega, by rw [List.length_append, List.length_singleton]; omega, fun q hq => ?_, rfl, rfl, by congr 1, ?_, HB5.out, ?_⟩, ?_⟩
            · rcases List.mem_append.mp hq with r | r
              · exact HQ.out q r
              · simp at r; subst r; exact hsm
            · show (A ++ p).data.toList = _
              rw [cat_append, cat_one, ← HA.out]
              obtain ⟨l1, rfl⟩ := exists_list A
              obtain ⟨l2, rfl⟩ := exists_list p
              rw [ByteArray.mk_append_mk]
            · show w5.ownsRow _ _ _ _ _ _
              rw [strs_snoc, List.length_append, List.length_singleton]; exact own5
            · simp [intOf]; omega
          · have hsi : ¬ (p.size : Int) ≤ 1000 := by omega
            go_wp2_with fail
            go_roundw
            case rel => exact ⟨k + 1, A, vl, qs, by omega, by omega, HQ, rfl, rfl, rfl, HA, hB, OW⟩
            case measure => simp [intOf]; omega
        · rcases (show (¬ k < ps.length) ∨ (k < ps.length ∧ ¬ k < 50) by omega) with hx1 | ⟨hx1, hx2⟩
          · have hli : ¬ (k : Int) < ps.length := by omega
            have hw0 : Below w.heap.size w wr := HV.out.2.1.trans (hB.mono HV.out.2.1.size)
            have hhr : Holds wr n 24 #[.bool false, .string ⟨#[]⟩, .slice none 0 0] := below_holds hB HV.out.1
            have c0 : wr.cell? ⟨n, 0, none⟩ = some (.bool false) := hhr.cell 0
            have c1 : wr.cell? ⟨n, 1, none⟩ = some (.string ⟨#[]⟩) := hhr.cell 1
            have c2 : wr.cell? ⟨n, 2, none⟩ = some (.slice none 0 0) := hhr.cell 2
            have HLr : Hid (Lies wr (fun k => k < wr.heap.size) Row.nil none) := (HV.out.2.2.1.kept fun j hj => hB.block j hj).mono fun j hj => by have := hB.size; omega
            have hcat : (cat qs).length ≤ 100000000 := by have h1 := HA.out; rw [← h1, sizeB]; omega
            obtain ⟨o1, ho1⟩ : ∃ o1 : ByteArray, ⟨((encOne false [] .nil 16).getD []).toArray⟩ = o1 := ⟨_, rfl⟩
            obtain ⟨o2, ho2⟩ : ∃ o2, encE (encOne false [] .nil 16) = o2 := ⟨_, rfl⟩
            obtain ⟨o3, ho3⟩ : ∃ o3 : ByteArray, ⟨(bytesL X.data.toList).toArray⟩ = o3 := ⟨_, rfl⟩
            obtain ⟨o4, ho4⟩ : ∃ o4 : ByteArray, ⟨(listL (cat qs)).toArray⟩ = o4 := ⟨_, rfl⟩
            have HO : Hid ((⟨((encOne false [] .nil 16).getD []).toArray⟩ : ByteArray) = o1 ∧ encE (encOne false [] .nil 16) = o2 ∧ (⟨(bytesL X.data.toList).toArray⟩ : ByteArray) = o3 ∧ (⟨(listL (cat qs)).toArray⟩ : ByteArray) = o4) := ⟨ho1, ho2, ho3, ho4⟩
            clear ho1 ho2 ho3 ho4
            go_wp2_with fail
            refine (Encode_any .nil false [] none 0 wr HV.out.2.2.2 HLr.out).mono ?_
            rintro e w5 ⟨rfl, h5⟩
            rw [HO.out.1, HO.out.2.1]
            have hh5 := below_holds h5 hhr
            have d0 : w5.cell? ⟨n, 0, none⟩ = some (.bool false) := hh5.cell 0
            have d1 : w5.cell? ⟨n, 1, none⟩ = some (.string ⟨#[]⟩) := hh5.cell 1
            have d2 : w5.cell? ⟨n, 2, none⟩ = some (.slice none 0 0) := hh5.cell 2
            clear c0 c1 c2
            go_wp2_with fail
            refine (refEncode_any .nil false [] none 0 w5 HV.out.2.2.2 ((HLr.out.kept fun j hj => h5.block j hj).mono fun j hj => by have := h5.size; omega)).mono ?_
            rintro e w6 ⟨rfl, h6⟩
            rw [HO.out.1, HO.out.2.1]
            have hr6 := h5.trans (h6.mono h5.size)
            clear d0 d1 d2
            go_wp2_with fail
            refine (bytes_any X _ (by omega)).mono ?_
            rintro e w7 ⟨rfl, h7⟩
            rw [HO.out.2.2.1]
            have hr7 := hr6.trans (h7.mono hr6.size)
            go_wp2_with fail
            refine (refBytes_any X _ (by omega)).mono ?_
            rintro e w8 ⟨rfl, h8⟩
            rw [HO.out.2.2.1]
            have hr8 := hr7.trans (h8.mono hr7.size)
            go_wp2_with fail
            refine (list_owned (ownsRow_below OW.out hr8) (by omega) hcat).mono ?_
            rintro e w9 ⟨rfl, h9⟩
            rw [HO.out.2.2.2]
            have hr9 := hr8.trans (h9.mono hr8.size)
            go_wp2_with fail
            refine (refList_any A _ (by omega)).mono ?_
            rintro e w10 ⟨rfl, h10⟩
            rw [HA.out, HO.out.2.2.2]
            have hr10 := hr9.trans (h10.mono hr9.size)
            go_wp2_with fail
            go_ret
            exact ⟨rfl, hw0.trans (hr10.mono hw0.size)⟩
          · have hli : (k : Int) < ps.length := by omega
            have hli2 : ¬ (k : Int) < 50 := by omega
            have hw0 : Below w.heap.size w wr := HV.out.2.1.trans (hB.mono HV.out.2.1.size)
            have hhr : Holds wr n 24 #[.bool false, .string ⟨#[]⟩, .slice none 0 0] := below_holds hB HV.out.1
            have c0 : wr.cell? ⟨n, 0, none⟩ = some (.bool false) := hhr.cell 0
            have c1 : wr.cell? ⟨n, 1, none⟩ = some (.string ⟨#[]⟩) := hhr.cell 1
            have c2 : wr.cell? ⟨n, 2, none⟩ = some (.slice none 0 0) := hhr.cell 2
            have HLr : Hid (Lies wr (fun k => k < wr.heap.size) Row.nil none) := (HV.out.2.2.1.kept fun j hj => hB.block j hj).mono fun j hj => by have := hB.size; omega
            have hcat : (cat qs).length ≤ 100000000 := by have h1 := HA.out; rw [← h1, sizeB]; omega
            obtain ⟨o1, ho1⟩ : ∃ o1 : ByteArray, ⟨((encOne false [] .nil 16).getD []).toArray⟩ = o1 := ⟨_, rfl⟩
            obtain ⟨o2, ho2⟩ : ∃ o2, encE (encOne false [] .nil 16) = o2 := ⟨_, rfl⟩
            obtain ⟨o3, ho3⟩ : ∃ o3 : ByteArray, ⟨(bytesL X.data.toList).toArray⟩ = o3 := ⟨_, rfl⟩
            obtain ⟨o4, ho4⟩ : ∃ o4 : ByteArray, ⟨(listL (cat qs)).toArray⟩ = o4 := ⟨_, rfl⟩
            have HO : Hid ((⟨((encOne false [] .nil 16).getD []).toArray⟩ : ByteArray) = o1 ∧ encE (encOne false [] .nil 16) = o2 ∧ (⟨(bytesL X.data.toList).toArray⟩ : ByteArray) = o3 ∧ (⟨(listL (cat qs)).toArray⟩ : ByteArray) = o4) := ⟨ho1, ho2, ho3, ho4⟩
            clear ho1 ho2 ho3 ho4
            go_wp2_with fail
            refine (Encode_any .nil false [] none 0 wr HV.out.2.2.2 HLr.out).mono ?_
            rintro e w5 ⟨rfl, h5⟩
            rw [HO.out.1, HO.out.2.1]
            have hh5 := below_holds h5 hhr
            have d0 : w5.cell? ⟨n, 0, none⟩ = some (.bool false) := hh5.cell 0
            have d1 : w5.cell? ⟨n, 1, none⟩ = some (.string ⟨#[]⟩) := hh5.cell 1
            have d2 : w5.cell? ⟨n, 2, none⟩ = some (.slice none 0 0) := hh5.cell 2
            clear c0 c1 c2
            go_wp2_with fail
            refine (refEncode_any .nil false [] none 0 w5 HV.out.2.2.2 ((HLr.out.kept fun j hj => h5.block j hj).mono fun j hj => by have := h5.size; omega)).mono ?_
            rintro e w6 ⟨rfl, h6⟩
            rw [HO.out.1, HO.out.2.1]
            have hr6 := h5.trans (h6.mono h5.size)
            clear d0 d1 d2
            go_wp2_with fail
            refine (bytes_any X _ (by omega)).mono ?_
            rintro e w7 ⟨rfl, h7⟩
            rw [HO.out.2.2.1]
            have hr7 := hr6.trans (h7.mono hr6.size)
            go_wp2_with fail
            refine (refBytes_any X _ (by omega)).mono ?_
            rintro e w8 ⟨rfl, h8⟩
            rw [HO.out.2.2.1]
            have hr8 := hr7.trans (h8.mono hr7.size)
            go_wp2_with fail
            refine (list_owned (ownsRow_below OW.out hr8) (by omega) hcat).mono ?_
            rintro e w9 ⟨rfl, h9⟩
            rw [HO.out.2.2.2]
            have hr9 := hr8.trans (h9.mono hr8.size)
            go_wp2_with fail
            refine (refList_any A _ (by omega)).mono ?_
            rintro e w10 ⟨rfl, h10⟩
            rw [HA.out, HO.out.2.2.2]
            have hr10 := hr9.trans (h10.mono hr9.size)
            go_wp2_with fail
            go_ret
            exact ⟨rfl, hw0.trans (hr10.mono hw0.size)⟩
    · have hxi : ¬ (5000 : Int) < x.size := by omega
      obtain ⟨X, hX⟩ : ∃ X, X = x := ⟨_, rfl⟩
      have hXs : X.size ≤ 5000 := by rw [hX]; omega
      subst hX
      go_wp2_with (first
        | (refine wpList_storeH rfl 24 _ _ rfl n #[.bool false, .string ⟨#[]⟩, .slice none 0 0] rfl rfl 24 _ hh2 infoItem3 rfl (item_one _ _ _ _ _) ?_
           intro V HVH o3 z3)
        | fail)
      have HVB : Below w.heap.size w V := Only.fresh HB o3 (by rw [HN.out]; exact Nat.le_refl _)
      have HVL : Lies V (fun k => k < V.heap.size) Row.nil none := trivial
      have HVW : 1 + ([] : List UInt8).length / 64 + Row.nil.wt ≤ 100000 := by simp [Row.wt]
      clear HB hh2 h2 o3 z3
      have HV : Hid (Holds V n 24 #[.bool false, .string ⟨#[]⟩, .slice none 0 0] ∧ Below w.heap.size w V ∧ Lies V (fun k => k < V.heap.size) Row.nil none ∧ 1 + ([] : List UInt8).length / 64 + Row.nil.wt ≤ 100000) := ⟨HVH, HVB, HVL, HVW⟩
      clear HVH HVB HVL HVW
      go_loopw [8, 9, 10] (fun z8 z9 z10 wr => ∃ (k : Nat) (A : ByteArray) (vl : Value) (qs : List ByteArray), k ≤ 50 ∧ qs.length ≤ k ∧ Hid (∀ q ∈ qs, q.size ≤ 1000) ∧ z8 = vl ∧ z9 = .string A ∧ z10 = .int .i64 k ∧ Hid (A.data.toList = cat qs) ∧ Below V.heap.size V wr ∧ Hid (wr.ownsRow V.heap.size 9 1 vl qs.length (strs qs))) (fun _ _ z10 _ => 50 - (intOf z10).toNat)
      case atStart => exact ⟨0, _, _, [], by omega, by simp, fun q hq => by simp at hq, rfl, rfl, rfl, rfl, Below.refl _ _, World.ownsRow_nil _ _ _ _⟩
      case round =>
        obtain ⟨k, A, vl, qs, hk50, hqk, HQ, hvl, rfl, rfl, HA, hB, OW⟩ := hrel
        have hvl2 := hvl.symm
        clear hvl
        subst hvl2
        have hAs : A.size ≤ 50000 := by have h1 := cat_bound qs HQ.out; rw [← sizeB, HA.out]; omega
        have hAi : (A.size : Int) ≤ 50000 := by omega
        by_cases hlt : k < ps.length ∧ k < 50
        · obtain ⟨hlt, hlt2⟩ := hlt
          have hli : (k : Int) < ps.length := by omega
          have hli2 : (k : Int) < 50 := by omega
          have hk0 : (0 : Int) ≤ k := by omega
          obtain ⟨cc, o, rfl, hcl, hcw⟩ := HC.out k hlt
          obtain ⟨p, hp⟩ : ∃ p, p = ps[k] := ⟨_, rfl⟩
          rw [← hp] at hcw
          have hcV : V.cell? ⟨cc, o + k, none⟩ = some (.string p) := by rw [HV.out.2.1.cell (p := ⟨cc, o + k, none⟩) hcl]; exact hcw
          have hcv : cc < V.heap.size := by have := HV.out.2.1.size; omega
          have hck : wr.cell? ⟨cc, o + k, none⟩ = some (.string p) := by rw [hB.cell (p := ⟨cc, o + k, none⟩) hcv]; exact hcV
          have HCK : Hid (cc < V.heap.size ∧ V.cell? ⟨cc, o + k, none⟩ = some (.string p)) := ⟨hcv, hcV⟩
          clear hp hcl hcw hcV hcv
          by_cases hsm : p.size ≤ 1000
          · have hsi : (p.size : Int) ≤ 1000 := by omega
            go_wp2_with (first
              | (refine wpList_append_own _ rfl _ _ 25 rfl V.heap.size 9 i8 (.string ⟨#[]⟩) 1 16 underStrings HI.out.1 HI.out.2.1 HI.out.2.2.1 HI.out.2.2.2 rfl (by omega) vl qs.length (strs qs) rfl (World.ownsRow.alloc OW.out _) ⟨wr.heap.size, 0, none⟩ 1 1 [.string p] rfl rfl (one_str wr _) (by intro u hu; simp at hu; subst hu; rfl) (by unfold maxLen; omega) (by omega) (by rw [World.size_alloc]; have := hB.size; omega) ?_
                 intro v5 w5 own5 gr5 _
                 have HB5 : Hid (Below V.heap.size V w5) := (hB.alloc hB.size _).grown gr5 (by rw [World.size_alloc]; have := hB.size; omega) (fun q hq => own_lt2 OW.out q hq)
                 have hck5 : w5.cell? ⟨cc, o + k, none⟩ = some (.string p) := by rw [HB5.out.cell (p := ⟨cc, o + k, none⟩) HCK.out.1]; exact HCK.out.2)
              | fail)
            refine ⟨⟨k + 1, A ++ p, v5, qs ++ [p], by omega, by rw [List.length_append, List.length_singleton]; omega, fun q hq => ?_, rfl, rfl, by congr 1, ?_, HB5.out, ?_⟩, ?_⟩
            · rcases List.mem_append.mp hq with r | r
              · exact HQ.out q r
              · simp at r; subst r; exact hsm
            · show (A ++ p).data.toList = _
              rw [cat_append, cat_one, ← HA.out]
              obtain ⟨l1, rfl⟩ := exists_list A
              obtain ⟨l2, rfl⟩ := exists_list p
              rw [ByteArray.mk_append_mk]
            · show w5.ownsRow _ _ _ _ _ _
              rw [strs_snoc, List.length_append, List.length_singleton]; exact own5
            · simp [intOf]; omega
          · have hsi : ¬ (p.size : Int) ≤ 1000 := by omega
            go_wp2_with fail
            go_roundw
            case rel => exact ⟨k + 1, A, vl, qs, by omega, by omega, HQ, rfl, rfl, rfl, HA, hB, OW⟩
            case measure => simp [intOf]; omega
        · rcases (show (¬ k < ps.length) ∨ (k < ps.length ∧ ¬ k < 50) by omega) with hx1 | ⟨hx1, hx2⟩
          · have hli : ¬ (k : Int) < ps.length := by omega
            have hw0 : Below w.heap.size w wr := HV.out.2.1.trans (hB.mono HV.out.2.1.size)
            have hhr : Holds wr n 24 #[.bool false, .string ⟨#[]⟩, .slice none 0 0] := below_holds hB HV.out.1
            have c0 : wr.cell? ⟨n, 0, none⟩ = some (.bool false) := hhr.cell 0
            have c1 : wr.cell? ⟨n, 1, none⟩ = some (.string ⟨#[]⟩) := hhr.cell 1
            have c2 : wr.cell? ⟨n, 2, none⟩ = some (.slice none 0 0) := hhr.cell 2
            have HLr : Hid (Lies wr (fun k => k < wr.heap.size) Row.nil none) := (HV.out.2.2.1.kept fun j hj => hB.block j hj).mono fun j hj => by have := hB.size; omega
            have hcat : (cat qs).length ≤ 100000000 := by have h1 := HA.out; rw [← h1, sizeB]; omega
            obtain ⟨o1, ho1⟩ : ∃ o1 : ByteArray, ⟨((encOne false [] .nil 16).getD []).toArray⟩ = o1 := ⟨_, rfl⟩
            obtain ⟨o2, ho2⟩ : ∃ o2, encE (encOne false [] .nil 16) = o2 := ⟨_, rfl⟩
            obtain ⟨o3, ho3⟩ : ∃ o3 : ByteArray, ⟨(bytesL X.data.toList).toArray⟩ = o3 := ⟨_, rfl⟩
            obtain ⟨o4, ho4⟩ : ∃ o4 : ByteArray, ⟨(listL (cat qs)).toArray⟩ = o4 := ⟨_, rfl⟩
            have HO : Hid ((⟨((encOne false [] .nil 16).getD []).toArray⟩ : ByteArray) = o1 ∧ encE (encOne false [] .nil 16) = o2 ∧ (⟨(bytesL X.data.toList).toArray⟩ : ByteArray) = o3 ∧ (⟨(listL (cat qs)).toArray⟩ : ByteArray) = o4) := ⟨ho1, ho2, ho3, ho4⟩
            clear ho1 ho2 ho3 ho4
            go_wp2_with fail
            refine (Encode_any .nil false [] none 0 wr HV.out.2.2.2 HLr.out).mono ?_
            rintro e w5 ⟨rfl, h5⟩
            rw [HO.out.1, HO.out.2.1]
            have hh5 := below_holds h5 hhr
            have d0 : w5.cell? ⟨n, 0, none⟩ = some (.bool false) := hh5.cell 0
            have d1 : w5.cell? ⟨n, 1, none⟩ = some (.string ⟨#[]⟩) := hh5.cell 1
            have d2 : w5.cell? ⟨n, 2, none⟩ = some (.slice none 0 0) := hh5.cell 2
            clear c0 c1 c2
            go_wp2_with fail
            refine (refEncode_any .nil false [] none 0 w5 HV.out.2.2.2 ((HLr.out.kept fun j hj => h5.block j hj).mono fun j hj => by have := h5.size; omega)).mono ?_
            rintro e w6 ⟨rfl, h6⟩
            rw [HO.out.1, HO.out.2.1]
            have hr6 := h5.trans (h6.mono h5.size)
            clear d0 d1 d2
            go_wp2_with fail
            refine (bytes_any X _ (by omega)).mono ?_
            rintro e w7 ⟨rfl, h7⟩
            rw [HO.out.2.2.1]
            have hr7 := hr6.trans (h7.mono hr6.size)
            go_wp2_with fail
            refine (refBytes_any X _ (by omega)).mono ?_
            rintro e w8 ⟨rfl, h8⟩
            rw [HO.out.2.2.1]
            have hr8 := hr7.trans (h8.mono hr7.size)
            go_wp2_with fail
            refine (list_owned (ownsRow_below OW.out hr8) (by omega) hcat).mono ?_
            rintro e w9 ⟨rfl, h9⟩
            rw [HO.out.2.2.2]
            have hr9 := hr8.trans (h9.mono hr8.size)
            go_wp2_with fail
            refine (refList_any A _ (by omega)).mono ?_
            rintro e w10 ⟨rfl, h10⟩
            rw [HA.out, HO.out.2.2.2]
            have hr10 := hr9.trans (h10.mono hr9.size)
            go_wp2_with fail
            go_ret
            exact ⟨rfl, hw0.trans (hr10.mono hw0.size)⟩
          · have hli : (k : Int) < ps.length := by omega
            have hli2 : ¬ (k : Int) < 50 := by omega
            have hw0 : Below w.heap.size w wr := HV.out.2.1.trans (hB.mono HV.out.2.1.size)
            have hhr : Holds wr n 24 #[.bool false, .string ⟨#[]⟩, .slice none 0 0] := below_holds hB HV.out.1
            have c0 : wr.cell? ⟨n, 0, none⟩ = some (.bool false) := hhr.cell 0
            have c1 : wr.cell? ⟨n, 1, none⟩ = some (.string ⟨#[]⟩) := hhr.cell 1
            have c2 : wr.cell? ⟨n, 2, none⟩ = some (.slice none 0 0) := hhr.cell 2
            have HLr : Hid (Lies wr (fun k => k < wr.heap.size) Row.nil none) := (HV.out.2.2.1.kept fun j hj => hB.block j hj).mono fun j hj => by have := hB.size; omega
            have hcat : (cat qs).length ≤ 100000000 := by have h1 := HA.out; rw [← h1, sizeB]; omega
            obtain ⟨o1, ho1⟩ : ∃ o1 : ByteArray, ⟨((encOne false [] .nil 16).getD []).toArray⟩ = o1 := ⟨_, rfl⟩
            obtain ⟨o2, ho2⟩ : ∃ o2, encE (encOne false [] .nil 16) = o2 := ⟨_, rfl⟩
            obtain ⟨o3, ho3⟩ : ∃ o3 : ByteArray, ⟨(bytesL X.data.toList).toArray⟩ = o3 := ⟨_, rfl⟩
            obtain ⟨o4, ho4⟩ : ∃ o4 : ByteArray, ⟨(listL (cat qs)).toArray⟩ = o4 := ⟨_, rfl⟩
            have HO : Hid ((⟨((encOne false [] .nil 16).getD []).toArray⟩ : ByteArray) = o1 ∧ encE (encOne false [] .nil 16) = o2 ∧ (⟨(bytesL X.data.toList).toArray⟩ : ByteArray) = o3 ∧ (⟨(listL (cat qs)).toArray⟩ : ByteArray) = o4) := ⟨ho1, ho2, ho3, ho4⟩
            clear ho1 ho2 ho3 ho4
            go_wp2_with fail
            refine (Encode_any .nil false [] none 0 wr HV.out.2.2.2 HLr.out).mono ?_
            rintro e w5 ⟨rfl, h5⟩
            rw [HO.out.1, HO.out.2.1]
            have hh5 := below_holds h5 hhr
            have d0 : w5.cell? ⟨n, 0, none⟩ = some (.bool false) := hh5.cell 0
            have d1 : w5.cell? ⟨n, 1, none⟩ = some (.string ⟨#[]⟩) := hh5.cell 1
            have d2 : w5.cell? ⟨n, 2, none⟩ = some (.slice none 0 0) := hh5.cell 2
            clear c0 c1 c2
            go_wp2_with fail
            refine (refEncode_any .nil false [] none 0 w5 HV.out.2.2.2 ((HLr.out.kept fun j hj => h5.block j hj).mono fun j hj => by have := h5.size; omega)).mono ?_
            rintro e w6 ⟨rfl, h6⟩
            rw [HO.out.1, HO.out.2.1]
            have hr6 := h5.trans (h6.mono h5.size)
            clear d0 d1 d2
            go_wp2_with fail
            refine (bytes_any X _ (by omega)).mono ?_
            rintro e w7 ⟨rfl, h7⟩
            rw [HO.out.2.2.1]
            have hr7 := hr6.trans (h7.mono hr6.size)
            go_wp2_with fail
            refine (refBytes_any X _ (by omega)).mono ?_
            rintro e w8 ⟨rfl, h8⟩
            rw [HO.out.2.2.1]
            have hr8 := hr7.trans (h8.mono hr7.size)
            go_wp2_with fail
            refine (list_owned (ownsRow_below OW.out hr8) (by omega) hcat).mono ?_
            rintro e w9 ⟨rfl, h9⟩
            rw [HO.out.2.2.2]
            have hr9 := hr8.trans (h9.mono hr8.size)
            go_wp2_with fail
            refine (refList_any A _ (by omega)).mono ?_
            rintro e w10 ⟨rfl, h10⟩
            rw [HA.out, HO.out.2.2.2]
            have hr10 := hr9.trans (h10.mono hr9.size)
            go_wp2_with fail
            go_ret
            exact ⟨rfl, hw0.trans (hr10.mono hw0.size)⟩
end Go.Proofs.Ytikpmafmmjfioaa
