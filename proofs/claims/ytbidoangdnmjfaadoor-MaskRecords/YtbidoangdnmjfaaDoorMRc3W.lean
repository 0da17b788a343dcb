/-
  MaskRecords: the law's walk, two of its eight ways through the cuts.
-/
import Derived.Test.YtbidoangdnmjfaaDoorMRc0W
namespace Go.Proofs.YtbidoangdnmjfaaDoor
open Go Go.RowKit

set_option maxRecDepth 8000 in
set_option maxHeartbeats 32000000 in
theorem records_walk4 {w : World} {s t m : Nat} {u : Value} {L : List H32} {q3 : Option Addr} {nl c3 : Nat} {l : List Int} (r : ByteArray) (hs : s < 65536) (ht : t < 65536) (hm : m < 65536) (hv : HashesAt w u L) (hl : L.length ≤ 9223372036854775807) (hr : r.size ≤ 9223372036854775807)
    (hi : IntsM w (.slice q3 nl c3) l) (hnl : nl = l.length) (hnc : nl ≤ c3) (hc3 : c3 ≤ 9223372036854775807) (hT : DbAt w) (hcase : 40 < L.length ∧ ¬ 700 < r.size ∧ ¬ 40 < nl) :
    Calls Tryd.prog 3 #[brV s t m u, .string r, .slice q3 nl c3] w fun e w' => e = .returned (.bool true) ∧ Below w.heap.size w w' := by
  obtain ⟨p0, c0, rfl⟩ := hv.shape
  obtain ⟨n0, hn0⟩ : ∃ k, L.length = k := ⟨_, rfl⟩
  rw [hn0] at hv hl hcase ⊢
  obtain ⟨W0, g, hW0, hg, hB0, hb0, _, _, _, b3⟩ := box_br w s t m (.slice p0 n0 c0)
  have HG : Hid (w.heap.size = g) := hg
  have HB0 : Hid (Below w.heap.size w W0) := hB0
  have HH0 : Hid (Holds W0 g 25 (brC s t m (.slice p0 n0 c0))) := hb0
  have haw := awake_any (hT.below hB0)
  obtain ⟨hcH, hcS, hcI⟩ := hcase
  have hnc2 := hnc
  have hc32 := hc3
  clear hnc2 hc32
  clear hB0 hb0
  unfold brV
  have hHi : (40 : Int) < n0 := by omega
  have hSi : ¬ (700 : Int) < r.size := by omega
  have hIi : ¬ (40 : Int) < nl := by omega
  obtain ⟨hvc, hlc⟩ := hv.take40 hcH hn0
  have hcap : 40 ≤ c0 := by
    rcases hv with ⟨e, _⟩ | ⟨b, o, c2, e, h2, _⟩
    · rw [e] at hn0; simp at hn0; omega
    · injection e with e1 e2 e3; omega
  have hcapi : (40 : Int) ≤ c0 := by omega
  have hic := hi
  have hil := hnl.symm
  have HY : Hid (HashesAt w (.slice p0 40 c0) (L.take 40) ∧ (L.take 40).length = 40 ∧ IntsM w (.slice q3 nl c3) l ∧ l.length = nl) := ⟨hvc, hlc, hic, hil⟩
  clear hv hvc hlc hi hic hil hn0 hnl
  go_enter Tryd.func3, Tryd.ntmps3
  go_wp2_with fail
  refine haw.mono ?_
  rintro e w1 ⟨rfl, hB1⟩
  have b3 := keep_cellM hB1 b3
  have f3 := (below_holds hB1 HH0.out).frozen 3
  obtain ⟨hvc, hlc, hic, hil⟩ := HY.out
  obtain ⟨V, hVe⟩ : ∃ V, w1.setCell ⟨g, 3, none⟩ (.slice p0 40 c0) = V := ⟨_, rfl⟩
  have hO : Only g w1 V := by rw [← hVe]; exact (Only.refl g w1).set 3 _
  have hbV : Holds V g 25 (brC s t m (.slice p0 40 c0)) := by
    rw [← hVe]
    have := (below_holds hB1 HH0.out).set 3 (.slice p0 40 c0)
    simpa [brC] using this
  have HVB : Below w.heap.size w V := Only.fresh (below_new HB0.out hB1) hO (by have := HG.out; omega)
  have HV : Hid (Below w.heap.size w V ∧ Holds V g 25 (brC s t m (.slice p0 40 c0)) ∧ HashesAt V (.slice p0 40 c0) (L.take 40) ∧ IntsM V (.slice q3 nl c3) l ∧ DbAt V) := ⟨HVB, hbV, hvc.below HVB, hic.below HVB, hT.below HVB⟩
  have HN1 : Hid ((L.take 40).length = 40) := hlc
  have HN3 : Hid (nl = l.length ∧ nl ≤ 40) := ⟨hil.symm, by omega⟩
  have HL1 : Hid ((L.take 40).length ≤ 1000) := by show _ ≤ _; rw [hlc]; omega
  have HT : Hid (r.size ≤ 700) := by show _ ≤ _; omega
  clear hB1 haw hvc hic hlc hil hl hT HVB hbV hW0 HY hO 
  obtain ⟨RE, hRE⟩ : ∃ RE, recE s t m (L.take 40) = RE := ⟨_, rfl⟩
  obtain ⟨CE, hCE⟩ : ∃ CE, chkM s t m (L.take 40).length = CE := ⟨_, rfl⟩
  have HRE : Hid (recE s t m (L.take 40) = RE ∧ chkM s t m (L.take 40).length = CE) := ⟨hRE, hCE⟩
  obtain ⟨SS, hSS⟩ : ∃ SS : Nat, (if rdE r then rdS r else 0) = SS := ⟨_, rfl⟩
  obtain ⟨TT, hTT⟩ : ∃ TT : Nat, (if rdE r then rdT r else 0) = TT := ⟨_, rfl⟩
  obtain ⟨HH, hHH⟩ : ∃ HH : Nat, (if rdE r then rdH r else 0) = HH := ⟨_, rfl⟩
  obtain ⟨EE, hEE⟩ : ∃ EE : Int, (if rdE r then 0 else 10) = EE := ⟨_, rfl⟩
  obtain ⟨LL, hLL⟩ : ∃ LL, (if rdE r then rdL r else []) = LL := ⟨_, rfl⟩
  have HRR : Hid ((if rdE r then rdS r else 0) = SS ∧ (if rdE r then rdT r else 0) = TT ∧ (if rdE r then rdH r else 0) = HH ∧ (if rdE r then (0 : Int) else 10) = EE ∧ (if rdE r then rdL r else []) = LL) := ⟨hSS, hTT, hHH, hEE, hLL⟩
  have HLL : Hid (LL.length ≤ 1000) := by show _ ≤ _; rw [← hLL]; exact rdL_small _
  clear hRE hCE hSS hTT hHH hEE hLL
  have HREC : Hid (∀ W, Below V.heap.size V W → Calls Tryd.prog 9 #[.agg #[.int .u16 (s : Nat), .int .u16 (t : Nat), .int .u16 (m : Nat), .slice p0 40 c0]] W fun e w' => e = .returned (.tuple #[.string RE, .int .i64 CE]) ∧ Below W.heap.size W w') := by
    intro W hW
    have := mrecord_any (w := W) hs ht hm (HV.out.2.2.1.below hW) HL1.out (HV.out.2.2.2.2.below hW)
    rw [HRE.out.1, HRE.out.2] at this
    exact this
  have HQREC : Hid (∀ W, Below V.heap.size V W → Calls Tryd.prog 10 #[.agg #[.int .u16 (s : Nat), .int .u16 (t : Nat), .int .u16 (m : Nat), .slice p0 40 c0]] W fun e w' => e = .returned (.tuple #[.string RE, .int .i64 CE]) ∧ Below W.heap.size W w') := by
    intro W hW
    have := qrecord_any (w := W) hs ht hm (HV.out.2.2.1.below hW) HL1.out
    rw [HRE.out.1, HRE.out.2] at this
    exact this
  have HCK : Hid (∀ W, Below V.heap.size V W → Calls Tryd.prog 16 #[.agg #[.int .u16 (s : Nat), .int .u16 (t : Nat), .int .u16 (m : Nat), .slice p0 40 c0]] W fun e w' => e = .returned (.int .i64 CE) ∧ Below W.heap.size W w') := by
    intro W hW
    have := mcheck_any (w := W) (s := s) (t := t) (h := m) (n := 40) (c := c0) (p := p0) hs ht hm (by have := HL1.out; have := HN1.out; omega) (HV.out.2.2.2.2.below hW)
    rw [← HN1.out, HRE.out.2] at this
    rw [HN1.out] at this
    exact this
  have HQCK : Hid (∀ W, Below V.heap.size V W → Calls Tryd.prog 17 #[.agg #[.int .u16 (s : Nat), .int .u16 (t : Nat), .int .u16 (m : Nat), .slice p0 40 c0]] W fun e w' => e = .returned (.int .i64 CE) ∧ Below W.heap.size W w') := by
    intro W hW
    have := qcheck_any (w := W) (s := s) (t := t) (h := m) (n := 40) (c := c0) (p := p0) hs ht hm (by have := HL1.out; have := HN1.out; omega)
    rw [← HN1.out, HRE.out.2] at this
    rw [HN1.out] at this
    exact this
  have HOF : Hid (∀ W, Below V.heap.size V W → Calls Tryd.prog 18 #[.slice q3 nl c3] W fun e w' => e = .returned (.int .u16 (ofM l : Nat)) ∧ Below W.heap.size W w') := fun W hW => (of_any (HV.out.2.2.2.1.below hW) (by have := HN3.out; omega)).mono fun e w' h => ⟨h.1, by rw [h.2]; exact Below.refl _ _⟩
  have HQOF : Hid (∀ W, Below V.heap.size V W → Calls Tryd.prog 19 #[.slice q3 nl c3] W fun e w' => e = .returned (.int .u16 (ofM l : Nat)) ∧ Below W.heap.size W w') := fun W hW => (qof_any (HV.out.2.2.2.1.below hW) (by have := HN3.out; omega)).mono fun e w' h => ⟨h.1, by rw [h.2]; exact Below.refl _ _⟩
  have HCN : Hid (∀ W, Below V.heap.size V W → Calls Tryd.prog 20 #[.int .u16 (s : Nat)] W fun e w' => e = .returned (.int .i64 (cntM s : Nat)) ∧ Below W.heap.size W w') := fun W hW => count_any hs (HV.out.2.2.2.2.below hW)
  have HQCN : Hid (∀ W : World, Calls Tryd.prog 21 #[.int .u16 (s : Nat)] W fun e w' => e = .returned (.int .i64 (cntM s : Nat)) ∧ Below W.heap.size W w') := fun W => (qcount_any hs W).mono fun e w' h => ⟨h.1, by rw [h.2]; exact Below.refl _ _⟩
  have HRD : Hid (∀ W, Below V.heap.size V W → Calls Tryd.prog 11 #[.string r] W fun e w' => ∃ v, e = .returned (.tuple #[.agg #[.int .u16 (SS : Nat), .int .u16 (TT : Nat), .int .u16 (HH : Nat), v], .int .i64 EE]) ∧ HashesAt w' v LL ∧ Below W.heap.size W w') := by
    intro W hW
    refine (mread_any (w := W) r (by have := HT.out; omega) (HV.out.2.2.2.2.below hW)).mono fun e w' h => ?_
    have := h.all
    rw [HRR.out.1, HRR.out.2.1, HRR.out.2.2.1, HRR.out.2.2.2.1, HRR.out.2.2.2.2] at this
    exact this
  have HQRD : Hid (∀ W : World, Calls Tryd.prog 12 #[.string r] W fun e w' => ∃ v, e = .returned (.tuple #[.agg #[.int .u16 (SS : Nat), .int .u16 (TT : Nat), .int .u16 (HH : Nat), v], .int .i64 EE]) ∧ HashesAt w' v LL ∧ Below W.heap.size W w') := by
    intro W
    refine (qread_any (w := W) r (by have := HT.out; omega)).mono fun e w' h => ?_
    have := h.all
    rw [HRR.out.1, HRR.out.2.1, HRR.out.2.2.1, HRR.out.2.2.2.1, HRR.out.2.2.2.2] at this
    exact this
  have HSM : Hid (∀ W v v', HashesAt W v LL → HashesAt W v' LL → Calls Tryd.prog 13 #[.agg #[.int .u16 (SS : Nat), .int .u16 (TT : Nat), .int .u16 (HH : Nat), v], .agg #[.int .u16 (SS : Nat), .int .u16 (TT : Nat), .int .u16 (HH : Nat), v']] W fun e w' => e = .returned (.bool true) ∧ Below W.heap.size W w') := fun W v v' h h' => qsame_eq (s := SS) (t := TT) (h := HH) h h' HLL.out
  have hb := HV.out.2.1
  unfold brC at hb
  generalize cntM s = CN at *
  generalize ofM l = OF at *
  go_wp2_with (first
    | (refine wpList_loadH rfl 25 _ rfl _ rfl _ _ _ hb Tryd.underlying25 rfl infoBr ?_)
    | (refine wpList_loadH rfl 25 _ rfl _ rfl _ _ _ b1 Tryd.underlying25 rfl infoBr ?_)
    | (go_at_call 9; refine (HREC.out V (Below.refl _ _)).mono ?_; rintro e w3 ⟨rfl, hB3⟩; have b1 := below_holds hB3 HV.out.2.1; unfold brC at b1)
    | (go_at_call 10; refine (HQREC.out w3 hB3).mono ?_; rintro e w4 ⟨rfl, hB4⟩; have H4 := below_new hB3 hB4)
    | fail)
  refine (HRD.out w4 H4).mono ?_
  rintro e w5 ⟨v5, rfl, hv5, hB5⟩
  clear b3 f3 hVe hcap hcapi  hHi hSi hIi
  obtain ⟨pv5, cv5, rfl⟩ := hv5.shape
  obtain ⟨n5, hn5⟩ : ∃ k, LL.length = k := ⟨_, rfl⟩
  rw [hn5] at hv5 ⊢
  obtain ⟨W6, g12, hW6, hg12, hB6, hz6⟩ := box_zero w5
  have h36 := below_new H4 (below_new hB5 hB6)
  have hg12l : V.heap.size ≤ g12 := by rw [← hg12]; exact (below_new H4 hB5).size
  go_wp2_with (first
    | (refine wpList_storeH rfl 25 _ _ rfl _ _ rfl rfl _ _ hz6 infoBr rfl (by simp [brC, Value.oneCell']) ?_; intro W7 h12 hO7 hs7
       have H7 : Below V.heap.size V W7 := Only.fresh h36 hO7 hg12l
       have hv7 := (hv5.below hB6).only hO7 hz6)
    | fail)
  refine (HQRD.out _).mono ?_
  rintro e w8 ⟨v8, rfl, hv8, hB8⟩
  obtain ⟨pv8, cv8, rfl⟩ := hv8.shape
  rw [hn5] at hv8 ⊢
  obtain ⟨W9, g14, hW9, hg14, hB9, hz9⟩ := box_zero w8
  have h79 := below_new hB8 hB9
  have hg14l : W7.heap.size ≤ g14 := by rw [← hg14]; exact hB8.size
  have hne : g12 ≠ g14 := by have := h12.lt; omega
  clear hz6 hO7 hs7 hW6 hg12 hB5 hB6 h36 H4
  go_wp2_with (first
    | (refine wpList_storeH rfl 25 _ _ rfl _ _ rfl rfl _ _ hz9 infoBr rfl (by simp [brC, Value.oneCell']) ?_; intro W10 h14 hO10 hs10
       have hB10 : Below W7.heap.size W7 W10 := Only.fresh h79 hO10 hg14l
       have k12 := below_holds hB10 h12
       have hvA := hv7.below hB10
       have hvB := (hv8.below hB9).only hO10 hz9)
    | (refine wpList_loadH rfl 25 _ rfl _ rfl _ _ _ k12 Tryd.underlying25 rfl infoBr ?_)
    | (refine wpList_loadH rfl 25 _ rfl _ rfl _ _ _ h14 Tryd.underlying25 rfl infoBr ?_)
    | (go_at_call 13; refine (HSM.out _ _ _ hvA hvB).mono ?_; rintro e w11 ⟨rfl, hB11⟩)
    | fail)
  have HX : Hid (Below V.heap.size V w11) := below_new H7 (below_new hB10 hB11)
  clear hz9 hO10 hs10 hW9 hg14 hB8 hB9 h79 k12 hvA hvB h14 h12 hv7 hv5 hv8 H7 hB10 hB11 HSM HRD HQRD HREC HQREC hb
  go_loopw [17] (fun y wz => ∃ j : Nat, y = .int .i64 (j : Nat) ∧ j ≤ nl ∧ Below V.heap.size V wz) (fun y _ => nl - (intOf y).toNat)
  case atStart => exact ⟨0, rfl, Nat.zero_le _, HX.out⟩
  case round =>
    obtain ⟨j, rfl, hj, hBj⟩ := hrel
    by_cases hjn : j < nl
    · have hji : (j : Int) < nl := by omega
      obtain ⟨y, hy⟩ : ∃ y, l[j]? = some y := ⟨_, List.getElem?_eq_getElem (by have := HN3.out; omega)⟩
      obtain ⟨ib, io, hp3, -, hcy⟩ := (HV.out.2.2.2.1).at hy
      subst hp3
      have HCY : Hid (V.cell? ⟨ib, io + j, none⟩ = some (.int .i64 y)) := hcy
      have hc0 := HV.out.2.1.cell 0
      simp [brC] at hc0
      have HC0 : Hid (V.cell? ⟨g, 0, none⟩ = some (.int .u16 (s : Nat))) := hc0
      clear hcy hy hc0
      obtain ⟨qb, hqb⟩ : ∃ qb, hasM s y = qb := ⟨_, rfl⟩
      have HH1 : Hid (∀ W : World, Calls Tryd.prog 14 #[.int .u16 (s : Nat), .int .i64 y] W fun e w' => e = .returned (.bool qb) ∧ Below W.heap.size W w') := fun W => by have := mhas_any hs y W; rw [hqb] at this; exact this
      have HH2 : Hid (∀ W : World, Calls Tryd.prog 15 #[.int .u16 (s : Nat), .int .i64 y] W fun e w' => e = .returned (.bool qb) ∧ Below W.heap.size W w') := fun W => by have := qhas_any hs y W; rw [hqb] at this; exact this.mono fun e w' h => ⟨h.1, by rw [h.2]; exact Below.refl _ _⟩
      clear hqb
      go_wp2_with fail
      refine wp_region_class (fun W => Below V.heap.size V W) mixedP (by kernel_rfl) (below_drewR hBj) ?_
      go_big_quiet_step (exact fun _ => rfl)
      refine wpQ_ld  rfl _ _ rfl rfl (fun W hW => ldU16M (keep_cellM hW HC0.out)) ?_
      go_frame
      go_big_quiet_step (exact fun _ => rfl)
      go_big_quiet_step (exact fun _ => rfl)
      go_big_quiet_step (exact fun _ => rfl)
      refine wpQ_ld  rfl _ _ rfl rfl (fun W hW => ldIntM (keep_cellM hW HCY.out)) ?_
      go_frame
      refine wpQ_call rfl 14 #[.int .u16 (s : Nat), .int .i64 y] (fun _ => by go_simp) (.bool qb) (fun W hW => (HH1.out W).mono fun e w' h => ⟨h.1, below_new hW h.2⟩) ?_
      go_frame
      go_big_quiet_step (exact fun _ => rfl)
      refine wpQ_ld  rfl _ _ rfl rfl (fun W hW => ldU16M (keep_cellM hW HC0.out)) ?_
      go_frame
      go_big_quiet_step (exact fun _ => rfl)
      go_big_quiet_step (exact fun _ => rfl)
      go_big_quiet_step (exact fun _ => rfl)
      refine wpQ_ld  rfl _ _ rfl rfl (fun W hW => ldIntM (keep_cellM hW HCY.out)) ?_
      go_frame
      refine wpQ_call rfl 15 #[.int .u16 (s : Nat), .int .i64 y] (fun _ => by go_simp) (.bool qb) (fun W hW => (HH2.out W).mono fun e w' h => ⟨h.1, below_new hW h.2⟩) ?_
      go_frame
      refine wpQ_val rfl (.bool false) (fun w => by go_simp) ?_
      go_frame
      refine wpQuiet_nil ?_
      intro Y hY
      simp only [Exit.then]
      go_at_K
      go_wp2_with fail
      go_roundw
      case measure => simp [intOf]; omega
      exact ⟨j + 1, by go_num, by omega, hY⟩
    · have hji : ¬ (j : Int) < nl := by omega
      have HC0 := HV.out.2.1.cell 0
      simp [brC] at HC0
      have HC0 : Hid (V.cell? ⟨g, 0, none⟩ = some (.int .u16 (s : Nat))) := HC0
      go_wp2_with fail
      refine wp_region_class (fun W => Below V.heap.size V W) mixedP (by kernel_rfl) (below_drewR hBj) ?_
      go_big_quiet_step (exact fun _ => rfl)
      go_big_quiet_step (exact fun _ => rfl)
      go_big_quiet_step (exact fun _ => rfl)
      go_big_quiet_step (exact fun _ => rfl)
      refine wpQ_val rfl (.bool true) (fun w => by go_simp) ?_
      go_frame
      go_big_quiet_step (exact fun _ => rfl)
      go_big_quiet_step (exact fun _ => rfl)
      go_big_quiet_step (exact fun _ => rfl)
      go_big_quiet_step (exact fun _ => rfl)
      refine wpQ_val rfl (.bool true) (fun w => by go_simp) ?_
      go_frame
      go_big_quiet_step (exact fun _ => rfl)
      go_big_quiet_step (exact fun _ => rfl)
      go_big_quiet_step (exact fun _ => rfl)
      go_big_quiet_step (exact fun _ => rfl)
      go_big_quiet_step (exact fun _ => rfl)
      go_big_quiet_step (exact fun _ => rfl)
      go_big_quiet_step (exact fun _ => rfl)
      refine wpQ_val rfl (.bool true) (fun w => by go_simp) ?_
      go_frame
      go_big_quiet_step (exact fun _ => rfl)
      go_big_quiet_step (exact fun _ => rfl)
      refine wpQ_ld  rfl _ _ rfl rfl (fun W hW => ldBr (below_holds hW HV.out.2.1)) ?_
      go_frame
      refine wpQ_call rfl 16 #[.agg #[.int .u16 (s : Nat), .int .u16 (t : Nat), .int .u16 (m : Nat), .slice p0 40 c0]] (fun _ => by go_simp) (.int .i64 CE) (fun W hW => (HCK.out W hW).mono fun e w' h => ⟨h.1, below_new hW h.2⟩) ?_
      go_frame
      refine wpQ_ld  rfl _ _ rfl rfl (fun W hW => ldBr (below_holds hW HV.out.2.1)) ?_
      go_frame
      refine wpQ_call rfl 17 #[.agg #[.int .u16 (s : Nat), .int .u16 (t : Nat), .int .u16 (m : Nat), .slice p0 40 c0]] (fun _ => by go_simp) (.int .i64 CE) (fun W hW => (HQCK.out W hW).mono fun e w' h => ⟨h.1, below_new hW h.2⟩) ?_
      go_frame
      refine wpQ_val rfl (.bool true) (fun w => by go_simp) ?_
      go_frame
      go_big_quiet_step (exact fun _ => rfl)
      go_big_quiet_step (exact fun _ => rfl)
      go_big_quiet_step (exact fun _ => rfl)
      refine wpQ_call rfl 18 #[.slice q3 nl c3] (fun _ => by go_simp) (.int .u16 (OF : Nat)) (fun W hW => (HOF.out W hW).mono fun e w' h => ⟨h.1, below_new hW h.2⟩) ?_
      go_frame
      go_big_quiet_step (exact fun _ => rfl)
      refine wpQ_call rfl 19 #[.slice q3 nl c3] (fun _ => by go_simp) (.int .u16 (OF : Nat)) (fun W hW => (HQOF.out W hW).mono fun e w' h => ⟨h.1, below_new hW h.2⟩) ?_
      go_frame
      refine wpQ_val rfl (.bool true) (fun w => by go_simp) ?_
      go_frame
      go_big_quiet_step (exact fun _ => rfl)
      go_big_quiet_step (exact fun _ => rfl)
      go_big_quiet_step (exact fun _ => rfl)
      refine wpQ_ld  rfl _ _ rfl rfl (fun W hW => ldU16M (keep_cellM hW HC0.out)) ?_
      go_frame
      refine wpQ_call rfl 20 #[.int .u16 (s : Nat)] (fun _ => by go_simp) (.int .i64 (CN : Nat)) (fun W hW => (HCN.out W hW).mono fun e w' h => ⟨h.1, below_new hW h.2⟩) ?_
      go_frame
      go_big_quiet_step (exact fun _ => rfl)
      refine wpQ_ld  rfl _ _ rfl rfl (fun W hW => ldU16M (keep_cellM hW HC0.out)) ?_
      go_frame
      refine wpQ_call rfl 21 #[.int .u16 (s : Nat)] (fun _ => by go_simp) (.int .i64 (CN : Nat)) (fun W hW => (HQCN.out W).mono fun e w' h => ⟨h.1, below_new hW h.2⟩) ?_
      go_frame
      refine wpQ_val rfl (.bool true) (fun w => by go_simp) ?_
      go_frame
      go_big_quiet_step (exact fun _ => rfl)
      go_big_quiet_step (exact fun _ => rfl)
      refine wpQuiet_nil ?_
      intro Y hY
      refine then_normR ?_
      go_at_K
      go_wp2_with fail
      go_ret
      have HF := below_new HV.out.1 hY
      exact ⟨rfl, by first | exact HF | (rw [← HG.out]; exact HF)⟩
set_option maxRecDepth 8000 in
set_option maxHeartbeats 32000000 in
theorem records_walk5 {w : World} {s t m : Nat} {u : Value} {L : List H32} {q3 : Option Addr} {nl c3 : Nat} {l : List Int} (r : ByteArray) (hs : s < 65536) (ht : t < 65536) (hm : m < 65536) (hv : HashesAt w u L) (hl : L.length ≤ 9223372036854775807) (hr : r.size ≤ 9223372036854775807)
    (hi : IntsM w (.slice q3 nl c3) l) (hnl : nl = l.length) (hnc : nl ≤ c3) (hc3 : c3 ≤ 9223372036854775807) (hT : DbAt w) (hcase : 40 < L.length ∧ ¬ 700 < r.size ∧ 40 < nl) :
    Calls Tryd.prog 3 #[brV s t m u, .string r, .slice q3 nl c3] w fun e w' => e = .returned (.bool true) ∧ Below w.heap.size w w' := by
  obtain ⟨p0, c0, rfl⟩ := hv.shape
  obtain ⟨n0, hn0⟩ : ∃ k, L.length = k := ⟨_, rfl⟩
  rw [hn0] at hv hl hcase ⊢
  obtain ⟨W0, g, hW0, hg, hB0, hb0, _, _, _, b3⟩ := box_br w s t m (.slice p0 n0 c0)
  have HG : Hid (w.heap.size = g) := hg
  have HB0 : Hid (Below w.heap.size w W0) := hB0
  have HH0 : Hid (Holds W0 g 25 (brC s t m (.slice p0 n0 c0))) := hb0
  have haw := awake_any (hT.below hB0)
  obtain ⟨hcH, hcS, hcI⟩ := hcase
  have hnc2 := hnc
  have hc32 := hc3
  clear hnc2 hc32
  clear hB0 hb0
  unfold brV
  have hHi : (40 : Int) < n0 := by omega
  have hSi : ¬ (700 : Int) < r.size := by omega
  have hIi : (40 : Int) < nl := by omega
  obtain ⟨hvc, hlc⟩ := hv.take40 hcH hn0
  have hcap : 40 ≤ c0 := by
    rcases hv with ⟨e, _⟩ | ⟨b, o, c2, e, h2, _⟩
    · rw [e] at hn0; simp at hn0; omega
    · injection e with e1 e2 e3; omega
  have hcapi : (40 : Int) ≤ c0 := by omega
  obtain ⟨hic, hil⟩ := hi.take40 hcI hnl
  have hcapI : (40 : Int) ≤ c3 := by omega
  have HY : Hid (HashesAt w (.slice p0 40 c0) (L.take 40) ∧ (L.take 40).length = 40 ∧ IntsM w (.slice q3 40 c3) (l.take 40) ∧ (l.take 40).length = 40) := ⟨hvc, hlc, hic, hil⟩
  clear hv hvc hlc hi hic hil hn0 hnl
  go_enter Tryd.func3, Tryd.ntmps3
  go_wp2_with fail
  refine haw.mono ?_
  rintro e w1 ⟨rfl, hB1⟩
  have b3 := keep_cellM hB1 b3
  have f3 := (below_holds hB1 HH0.out).frozen 3
  obtain ⟨hvc, hlc, hic, hil⟩ := HY.out
  obtain ⟨V, hVe⟩ : ∃ V, w1.setCell ⟨g, 3, none⟩ (.slice p0 40 c0) = V := ⟨_, rfl⟩
  have hO : Only g w1 V := by rw [← hVe]; exact (Only.refl g w1).set 3 _
  have hbV : Holds V g 25 (brC s t m (.slice p0 40 c0)) := by
    rw [← hVe]
    have := (below_holds hB1 HH0.out).set 3 (.slice p0 40 c0)
    simpa [brC] using this
  have HVB : Below w.heap.size w V := Only.fresh (below_new HB0.out hB1) hO (by have := HG.out; omega)
  have HV : Hid (Below w.heap.size w V ∧ Holds V g 25 (brC s t m (.slice p0 40 c0)) ∧ HashesAt V (.slice p0 40 c0) (L.take 40) ∧ IntsM V (.slice q3 40 c3) (l.take 40) ∧ DbAt V) := ⟨HVB, hbV, hvc.below HVB, hic.below HVB, hT.below HVB⟩
  have HN1 : Hid ((L.take 40).length = 40) := hlc
  have HN3 : Hid (40 = (l.take 40).length ∧ 40 ≤ 40) := ⟨hil.symm, by omega⟩
  have HL1 : Hid ((L.take 40).length ≤ 1000) := by show _ ≤ _; rw [hlc]; omega
  have HT : Hid (r.size ≤ 700) := by show _ ≤ _; omega
  clear hB1 haw hvc hic hlc hil hl hT HVB hbV hW0 HY hO 
  obtain ⟨RE, hRE⟩ : ∃ RE, recE s t m (L.take 40) = RE := ⟨_, rfl⟩
  obtain ⟨CE, hCE⟩ : ∃ CE, chkM s t m (L.take 40).length = CE := ⟨_, rfl⟩
  have HRE : Hid (recE s t m (L.take 40) = RE ∧ chkM s t m (L.take 40).length = CE) := ⟨hRE, hCE⟩
  obtain ⟨SS, hSS⟩ : ∃ SS : Nat, (if rdE r then rdS r else 0) = SS := ⟨_, rfl⟩
  obtain ⟨TT, hTT⟩ : ∃ TT : Nat, (if rdE r then rdT r else 0) = TT := ⟨_, rfl⟩
  obtain ⟨HH, hHH⟩ : ∃ HH : Nat, (if rdE r then rdH r else 0) = HH := ⟨_, rfl⟩
  obtain ⟨EE, hEE⟩ : ∃ EE : Int, (if rdE r then 0 else 10) = EE := ⟨_, rfl⟩
  obtain ⟨LL, hLL⟩ : ∃ LL, (if rdE r then rdL r else []) = LL := ⟨_, rfl⟩
  have HRR : Hid ((if rdE r then rdS r else 0) = SS ∧ (if rdE r then rdT r else 0) = TT ∧ (if rdE r then rdH r else 0) = HH ∧ (if rdE r then (0 : Int) else 10) = EE ∧ (if rdE r then rdL r else []) = LL) := ⟨hSS, hTT, hHH, hEE, hLL⟩
  have HLL : Hid (LL.length ≤ 1000) := by show _ ≤ _; rw [← hLL]; exact rdL_small _
  clear hRE hCE hSS hTT hHH hEE hLL
  have HREC : Hid (∀ W, Below V.heap.size V W → Calls Tryd.prog 9 #[.agg #[.int .u16 (s : Nat), .int .u16 (t : Nat), .int .u16 (m : Nat), .slice p0 40 c0]] W fun e w' => e = .returned (.tuple #[.string RE, .int .i64 CE]) ∧ Below W.heap.size W w') := by
    intro W hW
    have := mrecord_any (w := W) hs ht hm (HV.out.2.2.1.below hW) HL1.out (HV.out.2.2.2.2.below hW)
    rw [HRE.out.1, HRE.out.2] at this
    exact this
  have HQREC : Hid (∀ W, Below V.heap.size V W → Calls Tryd.prog 10 #[.agg #[.int .u16 (s : Nat), .int .u16 (t : Nat), .int .u16 (m : Nat), .slice p0 40 c0]] W fun e w' => e = .returned (.tuple #[.string RE, .int .i64 CE]) ∧ Below W.heap.size W w') := by
    intro W hW
    have := qrecord_any (w := W) hs ht hm (HV.out.2.2.1.below hW) HL1.out
    rw [HRE.out.1, HRE.out.2] at this
    exact this
  have HCK : Hid (∀ W, Below V.heap.size V W → Calls Tryd.prog 16 #[.agg #[.int .u16 (s : Nat), .int .u16 (t : Nat), .int .u16 (m : Nat), .slice p0 40 c0]] W fun e w' => e = .returned (.int .i64 CE) ∧ Below W.heap.size W w') := by
    intro W hW
    have := mcheck_any (w := W) (s := s) (t := t) (h := m) (n := 40) (c := c0) (p := p0) hs ht hm (by have := HL1.out; have := HN1.out; omega) (HV.out.2.2.2.2.below hW)
    rw [← HN1.out, HRE.out.2] at this
    rw [HN1.out] at this
    exact this
  have HQCK : Hid (∀ W, Below V.heap.size V W → Calls Tryd.prog 17 #[.agg #[.int .u16 (s : Nat), .int .u16 (t : Nat), .int .u16 (m : Nat), .slice p0 40 c0]] W fun e w' => e = .returned (.int .i64 CE) ∧ Below W.heap.size W w') := by
    intro W hW
    have := qcheck_any (w := W) (s := s) (t := t) (h := m) (n := 40) (c := c0) (p := p0) hs ht hm (by have := HL1.out; have := HN1.out; omega)
    rw [← HN1.out, HRE.out.2] at this
    rw [HN1.out] at this
    exact this
  have HOF : Hid (∀ W, Below V.heap.size V W → Calls Tryd.prog 18 #[.slice q3 40 c3] W fun e w' => e = .returned (.int .u16 (ofM (l.take 40) : Nat)) ∧ Below W.heap.size W w') := fun W hW => (of_any (HV.out.2.2.2.1.below hW) (by have := HN3.out.1; omega)).mono fun e w' h => ⟨h.1, by rw [h.2]; exact Below.refl _ _⟩
  have HQOF : Hid (∀ W, Below V.heap.size V W → Calls Tryd.prog 19 #[.slice q3 40 c3] W fun e w' => e = .returned (.int .u16 (ofM (l.take 40) : Nat)) ∧ Below W.heap.size W w') := fun W hW => (qof_any (HV.out.2.2.2.1.below hW) (by have := HN3.out.1; omega)).mono fun e w' h => ⟨h.1, by rw [h.2]; exact Below.refl _ _⟩
  have HCN : Hid (∀ W, Below V.heap.size V W → Calls Tryd.prog 20 #[.int .u16 (s : Nat)] W fun e w' => e = .returned (.int .i64 (cntM s : Nat)) ∧ Below W.heap.size W w') := fun W hW => count_any hs (HV.out.2.2.2.2.below hW)
  have HQCN : Hid (∀ W : World, Calls Tryd.prog 21 #[.int .u16 (s : Nat)] W fun e w' => e = .returned (.int .i64 (cntM s : Nat)) ∧ Below W.heap.size W w') := fun W => (qcount_any hs W).mono fun e w' h => ⟨h.1, by rw [h.2]; exact Below.refl _ _⟩
  have HRD : Hid (∀ W, Below V.heap.size V W → Calls Tryd.prog 11 #[.string r] W fun e w' => ∃ v, e = .returned (.tuple #[.agg #[.int .u16 (SS : Nat), .int .u16 (TT : Nat), .int .u16 (HH : Nat), v], .int .i64 EE]) ∧ HashesAt w' v LL ∧ Below W.heap.size W w') := by
    intro W hW
    refine (mread_any (w := W) r (by have := HT.out; omega) (HV.out.2.2.2.2.below hW)).mono fun e w' h => ?_
    have := h.all
    rw [HRR.out.1, HRR.out.2.1, HRR.out.2.2.1, HRR.out.2.2.2.1, HRR.out.2.2.2.2] at this
    exact this
  have HQRD : Hid (∀ W : World, Calls Tryd.prog 12 #[.string r] W fun e w' => ∃ v, e = .returned (.tuple #[.agg #[.int .u16 (SS : Nat), .int .u16 (TT : Nat), .int .u16 (HH : Nat), v], .int .i64 EE]) ∧ HashesAt w' v LL ∧ Below W.heap.size W w') := by
    intro W
    refine (qread_any (w := W) r (by have := HT.out; omega)).mono fun e w' h => ?_
    have := h.all
    rw [HRR.out.1, HRR.out.2.1, HRR.out.2.2.1, HRR.out.2.2.2.1, HRR.out.2.2.2.2] at this
    exact this
  have HSM : Hid (∀ W v v', HashesAt W v LL → HashesAt W v' LL → Calls Tryd.prog 13 #[.agg #[.int .u16 (SS : Nat), .int .u16 (TT : Nat), .int .u16 (HH : Nat), v], .agg #[.int .u16 (SS : Nat), .int .u16 (TT : Nat), .int .u16 (HH : Nat), v']] W fun e w' => e = .returned (.bool true) ∧ Below W.heap.size W w') := fun W v v' h h' => qsame_eq (s := SS) (t := TT) (h := HH) h h' HLL.out
  have hb := HV.out.2.1
  unfold brC at hb
  generalize cntM s = CN at *
  generalize ofM (l.take 40) = OF at *
  go_wp2_with (first
    | (refine wpList_loadH rfl 25 _ rfl _ rfl _ _ _ hb Tryd.underlying25 rfl infoBr ?_)
    | (refine wpList_loadH rfl 25 _ rfl _ rfl _ _ _ b1 Tryd.underlying25 rfl infoBr ?_)
    | (go_at_call 9; refine (HREC.out V (Below.refl _ _)).mono ?_; rintro e w3 ⟨rfl, hB3⟩; have b1 := below_holds hB3 HV.out.2.1; unfold brC at b1)
    | (go_at_call 10; refine (HQREC.out w3 hB3).mono ?_; rintro e w4 ⟨rfl, hB4⟩; have H4 := below_new hB3 hB4)
    | fail)
  refine (HRD.out w4 H4).mono ?_
  rintro e w5 ⟨v5, rfl, hv5, hB5⟩
  clear b3 f3 hVe hcap hcapi hcapI  hHi hSi hIi
  obtain ⟨pv5, cv5, rfl⟩ := hv5.shape
  obtain ⟨n5, hn5⟩ : ∃ k, LL.length = k := ⟨_, rfl⟩
  rw [hn5] at hv5 ⊢
  obtain ⟨W6, g12, hW6, hg12, hB6, hz6⟩ := box_zero w5
  have h36 := below_new H4 (below_new hB5 hB6)
  have hg12l : V.heap.size ≤ g12 := by rw [← hg12]; exact (below_new H4 hB5).size
  go_wp2_with (first
    | (refine wpList_storeH rfl 25 _ _ rfl _ _ rfl rfl _ _ hz6 infoBr rfl (by simp [brC, Value.oneCell']) ?_; intro W7 h12 hO7 hs7
       have H7 : Below V.heap.size V W7 := Only.fresh h36 hO7 hg12l
       have hv7 := (hv5.below hB6).only hO7 hz6)
    | fail)
  refine (HQRD.out _).mono ?_
  rintro e w8 ⟨v8, rfl, hv8, hB8⟩
  obtain ⟨pv8, cv8, rfl⟩ := hv8.shape
  rw [hn5] at hv8 ⊢
  obtain ⟨W9, g14, hW9, hg14, hB9, hz9⟩ := box_zero w8
  have h79 := below_new hB8 hB9
  have hg14l : W7.heap.size ≤ g14 := by rw [← hg14]; exact hB8.size
  have hne : g12 ≠ g14 := by have := h12.lt; omega
  clear hz6 hO7 hs7 hW6 hg12 hB5 hB6 h36 H4
  go_wp2_with (first
    | (refine wpList_storeH rfl 25 _ _ rfl _ _ rfl rfl _ _ hz9 infoBr rfl (by simp [brC, Value.oneCell']) ?_; intro W10 h14 hO10 hs10
       have hB10 : Below W7.heap.size W7 W10 := Only.fresh h79 hO10 hg14l
       have k12 := below_holds hB10 h12
       have hvA := hv7.below hB10
       have hvB := (hv8.below hB9).only hO10 hz9)
    | (refine wpList_loadH rfl 25 _ rfl _ rfl _ _ _ k12 Tryd.underlying25 rfl infoBr ?_)
    | (refine wpList_loadH rfl 25 _ rfl _ rfl _ _ _ h14 Tryd.underlying25 rfl infoBr ?_)
    | (go_at_call 13; refine (HSM.out _ _ _ hvA hvB).mono ?_; rintro e w11 ⟨rfl, hB11⟩)
    | fail)
  have HX : Hid (Below V.heap.size V w11) := below_new H7 (below_new hB10 hB11)
  clear hz9 hO10 hs10 hW9 hg14 hB8 hB9 h79 k12 hvA hvB h14 h12 hv7 hv5 hv8 H7 hB10 hB11 HSM HRD HQRD HREC HQREC hb
  go_loopw [17] (fun y wz => ∃ j : Nat, y = .int .i64 (j : Nat) ∧ j ≤ 40 ∧ Below V.heap.size V wz) (fun y _ => 40 - (intOf y).toNat)
  case atStart => exact ⟨0, rfl, Nat.zero_le _, HX.out⟩
  case round =>
    obtain ⟨j, rfl, hj, hBj⟩ := hrel
    by_cases hjn : j < 40
    · have hji : (j : Int) < 40 := by omega
      obtain ⟨y, hy⟩ : ∃ y, (l.take 40)[j]? = some y := ⟨_, List.getElem?_eq_getElem (by have := HN3.out.1; omega)⟩
      obtain ⟨ib, io, hp3, -, hcy⟩ := (HV.out.2.2.2.1).at hy
      subst hp3
      have HCY : Hid (V.cell? ⟨ib, io + j, none⟩ = some (.int .i64 y)) := hcy
      have hc0 := HV.out.2.1.cell 0
      simp [brC] at hc0
      have HC0 : Hid (V.cell? ⟨g, 0, none⟩ = some (.int .u16 (s : Nat))) := hc0
      clear hcy hy hc0
      obtain ⟨qb, hqb⟩ : ∃ qb, hasM s y = qb := ⟨_, rfl⟩
      have HH1 : Hid (∀ W : World, Calls Tryd.prog 14 #[.int .u16 (s : Nat), .int .i64 y] W fun e w' => e = .returned (.bool qb) ∧ Below W.heap.size W w') := fun W => by have := mhas_any hs y W; rw [hqb] at this; exact this
      have HH2 : Hid (∀ W : World, Calls Tryd.prog 15 #[.int .u16 (s : Nat), .int .i64 y] W fun e w' => e = .returned (.bool qb) ∧ Below W.heap.size W w') := fun W => by have := qhas_any hs y W; rw [hqb] at this; exact this.mono fun e w' h => ⟨h.1, by rw [h.2]; exact Below.refl _ _⟩
      clear hqb
      go_wp2_with fail
      refine wp_region_class (fun W => Below V.heap.size V W) mixedP (by kernel_rfl) (below_drewR hBj) ?_
      go_big_quiet_step (exact fun _ => rfl)
      refine wpQ_ld  rfl _ _ rfl rfl (fun W hW => ldU16M (keep_cellM hW HC0.out)) ?_
      go_frame
      go_big_quiet_step (exact fun _ => rfl)
      go_big_quiet_step (exact fun _ => rfl)
      go_big_quiet_step (exact fun _ => rfl)
      refine wpQ_ld  rfl _ _ rfl rfl (fun W hW => ldIntM (keep_cellM hW HCY.out)) ?_
      go_frame
      refine wpQ_call rfl 14 #[.int .u16 (s : Nat), .int .i64 y] (fun _ => by go_simp) (.bool qb) (fun W hW => (HH1.out W).mono fun e w' h => ⟨h.1, below_new hW h.2⟩) ?_
      go_frame
      go_big_quiet_step (exact fun _ => rfl)
      refine wpQ_ld  rfl _ _ rfl rfl (fun W hW => ldU16M (keep_cellM hW HC0.out)) ?_
      go_frame
      go_big_quiet_step (exact fun _ => rfl)
      go_big_quiet_step (exact fun _ => rfl)
      go_big_quiet_step (exact fun _ => rfl)
      refine wpQ_ld  rfl _ _ rfl rfl (fun W hW => ldIntM (keep_cellM hW HCY.out)) ?_
      go_frame
      refine wpQ_call rfl 15 #[.int .u16 (s : Nat), .int .i64 y] (fun _ => by go_simp) (.bool qb) (fun W hW => (HH2.out W).mono fun e w' h => ⟨h.1, below_new hW h.2⟩) ?_
      go_frame
      refine wpQ_val rfl (.bool false) (fun w => by go_simp) ?_
      go_frame
      refine wpQuiet_nil ?_
      intro Y hY
      simp only [Exit.then]
      go_at_K
      go_wp2_with fail
      go_roundw
      case measure => simp [intOf]; omega
      exact ⟨j + 1, by go_num, by omega, hY⟩
    · have hji : ¬ (j : Int) < 40 := by omega
      have HC0 := HV.out.2.1.cell 0
      simp [brC] at HC0
      have HC0 : Hid (V.cell? ⟨g, 0, none⟩ = some (.int .u16 (s : Nat))) := HC0
      go_wp2_with fail
      refine wp_region_class (fun W => Below V.heap.size V W) mixedP (by kernel_rfl) (below_drewR hBj) ?_
      go_big_quiet_step (exact fun _ => rfl)
      go_big_quiet_step (exact fun _ => rfl)
      go_big_quiet_step (exact fun _ => rfl)
      go_big_quiet_step (exact fun _ => rfl)
      refine wpQ_val rfl (.bool true) (fun w => by go_simp) ?_
      go_frame
      go_big_quiet_step (exact fun _ => rfl)
      go_big_quiet_step (exact fun _ => rfl)
      go_big_quiet_step (exact fun _ => rfl)
      go_big_quiet_step (exact fun _ => rfl)
      refine wpQ_val rfl (.bool true) (fun w => by go_simp) ?_
      go_frame
      go_big_quiet_step (exact fun _ => rfl)
      go_big_quiet_step (exact fun _ => rfl)
      go_big_quiet_step (exact fun _ => rfl)
      go_big_quiet_step (exact fun _ => rfl)
      go_big_quiet_step (exact fun _ => rfl)
      go_big_quiet_step (exact fun _ => rfl)
      go_big_quiet_step (exact fun _ => rfl)
      refine wpQ_val rfl (.bool true) (fun w => by go_simp) ?_
      go_frame
      go_big_quiet_step (exact fun _ => rfl)
      go_big_quiet_step (exact fun _ => rfl)
      refine wpQ_ld  rfl _ _ rfl rfl (fun W hW => ldBr (below_holds hW HV.out.2.1)) ?_
      go_frame
      refine wpQ_call rfl 16 #[.agg #[.int .u16 (s : Nat), .int .u16 (t : Nat), .int .u16 (m : Nat), .slice p0 40 c0]] (fun _ => by go_simp) (.int .i64 CE) (fun W hW => (HCK.out W hW).mono fun e w' h => ⟨h.1, below_new hW h.2⟩) ?_
      go_frame
      refine wpQ_ld  rfl _ _ rfl rfl (fun W hW => ldBr (below_holds hW HV.out.2.1)) ?_
      go_frame
      refine wpQ_call rfl 17 #[.agg #[.int .u16 (s : Nat), .int .u16 (t : Nat), .int .u16 (m : Nat), .slice p0 40 c0]] (fun _ => by go_simp) (.int .i64 CE) (fun W hW => (HQCK.out W hW).mono fun e w' h => ⟨h.1, below_new hW h.2⟩) ?_
      go_frame
      refine wpQ_val rfl (.bool true) (fun w => by go_simp) ?_
      go_frame
      go_big_quiet_step (exact fun _ => rfl)
      go_big_quiet_step (exact fun _ => rfl)
      go_big_quiet_step (exact fun _ => rfl)
      refine wpQ_call rfl 18 #[.slice q3 40 c3] (fun _ => by go_simp) (.int .u16 (OF : Nat)) (fun W hW => (HOF.out W hW).mono fun e w' h => ⟨h.1, below_new hW h.2⟩) ?_
      go_frame
      go_big_quiet_step (exact fun _ => rfl)
      refine wpQ_call rfl 19 #[.slice q3 40 c3] (fun _ => by go_simp) (.int .u16 (OF : Nat)) (fun W hW => (HQOF.out W hW).mono fun e w' h => ⟨h.1, below_new hW h.2⟩) ?_
      go_frame
      refine wpQ_val rfl (.bool true) (fun w => by go_simp) ?_
      go_frame
      go_big_quiet_step (exact fun _ => rfl)
      go_big_quiet_step (exact fun _ => rfl)
      go_big_quiet_step (exact fun _ => rfl)
      refine wpQ_ld  rfl _ _ rfl rfl (fun W hW => ldU16M (keep_cellM hW HC0.out)) ?_
      go_frame
      refine wpQ_call rfl 20 #[.int .u16 (s : Nat)] (fun _ => by go_simp) (.int .i64 (CN : Nat)) (fun W hW => (HCN.out W hW).mono fun e w' h => ⟨h.1, below_new hW h.2⟩) ?_
      go_frame
      go_big_quiet_step (exact fun _ => rfl)
      refine wpQ_ld  rfl _ _ rfl rfl (fun W hW => ldU16M (keep_cellM hW HC0.out)) ?_
      go_frame
      refine wpQ_call rfl 21 #[.int .u16 (s : Nat)] (fun _ => by go_simp) (.int .i64 (CN : Nat)) (fun W hW => (HQCN.out W).mono fun e w' h => ⟨h.1, below_new hW h.2⟩) ?_
      go_frame
      refine wpQ_val rfl (.bool true) (fun w => by go_simp) ?_
      go_frame
      go_big_quiet_step (exact fun _ => rfl)
      go_big_quiet_step (exact fun _ => rfl)
      refine wpQuiet_nil ?_
      intro Y hY
      refine then_normR ?_
      go_at_K
      go_wp2_with fail
      go_ret
      have HF := below_new HV.out.1 hY
      exact ⟨rfl, by first | exact HF | (rw [← HG.out]; exact HF)⟩
end Go.Proofs.YtbidoangdnmjfaaDoor
