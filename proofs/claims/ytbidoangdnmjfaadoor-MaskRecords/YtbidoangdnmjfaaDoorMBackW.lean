/-
  MaskBack: the law's walk.
-/
import Derived.Test.YtbidoangdnmjfaaDoorMBackP
import Derived.Test.YtbidoangdnmjfaaDoorMPartsW
namespace Go.Proofs.YtbidoangdnmjfaaDoor
open Go Go.RowKit

theorem refT_succ (x : H32) {i : Nat} {c : UInt8} (h : i < x.1.length) (hc : x.1[i] = c) : refT x (i + 1) = refT x i ++ ⟨#[c]⟩ := by
  unfold refT
  apply ByteArray.ext
  apply Array.toList_inj.1
  rw [List.take_succ_eq_append_getElem h, hc]
  simp
theorem refT_len (x : H32) {i : Nat} (h : i ≤ 32) : (refT x i).size ≤ 33 := by
  show (160 :: x.1.take i).length ≤ 33
  rw [List.length_cons, List.length_take]
  omega
theorem convert_oneM (w : World) (c : UInt8) : (convert 48 9 (.slice (some ⟨w.heap.size, 0, none⟩) 1 1)).run Tryd.prog (w.alloc (.cells #[.int .u8 (c.toNat : Int)] 5)) = .ok (.string ⟨#[c]⟩) (w.alloc (.cells #[.int .u8 (c.toNat : Int)] 5)) :=
  run_convert_bytes_back (P := Tryd.prog) _ 48 9 5 ⟨w.heap.size, 0, none⟩ 1 [c] underBytes (by kernel_rfl) (by kernel_rfl) (fun j hj => by
    have hj0 : j = 0 := by simpa using hj
    subst hj0
    rw [add_plainH]
    exact (Holds.new w 5 #[.int .u8 (c.toNat : Int)]).cell 0)
theorem run_addM {op : Oper} (x y : Operand) {u v : ByteArray} (ρ : Operand → Value) (hx : ρ x = .string u) (hy : ρ y = .string v) (ho : op.op = .binOp .add 9 x y 9) (hs : u.size + v.size ≤ 9223372036854775807) (w : World) : (execOp ρ op).run Tryd.prog w = .ok (.value (.string (u ++ v))) w := by
  have h : ¬ (9223372036854775807 < u.size + v.size) := by omega
  unfold execOp
  simp [ho, hx, hy, go_sem, h]
section
variable {ops : Array Oper} {rest : List Oper} {op : Oper} {a : Act} {Q : Exit → Act → World → Prop} {w : World}
theorem wpList_addM (x y : Operand) (ho : op.op = .binOp .add 9 x y 9) {u v : ByteArray} (hx : a.eval x = .string u) (hy : a.eval y = .string v) (hs : u.size + v.size ≤ 9223372036854775807) (hw : Region.wanted op (yielded ops a.tmps) = true)
    (h : wpList Tryd.prog ops Q rest (a.put op.dst (.string (u ++ v))) w) : wpList Tryd.prog ops Q (op :: rest) a w :=
  wpList_step fun _ hK => by
    rw [if_pos hw]
    unfold Oper.wp
    have e := run_addM x y a.eval hx hy ho hs w
    rw [e]
    exact hK _ _ h
theorem wpList_neqG (hw : Region.wanted op (yielded ops a.tmps) = true) (ty : TypeId) (x y : Operand) (ho : op.op = .binOp .neq 43 x y ty) {u v : H32} (hx : a.eval x = hla u) (hy : a.eval y = hla v) {r : Bool} (hr : (!decide (u = v)) = r)
    (h : wpList Tryd.prog ops Q rest (a.put op.dst (.bool r)) w) : wpList Tryd.prog ops Q (op :: rest) a w :=
  wpList_step fun _ hK => by
    rw [if_pos hw]
    unfold Oper.wp
    rw [run_neqH ty x y u v a.eval hx hy ho w, hr]
    exact hK _ _ h
end
theorem neq_same (u : H32) : (!decide (u = u)) = false := by simp
set_option maxRecDepth 8000 in
set_option maxHeartbeats 16000000 in
theorem back_walk {w : World} {s t m : Nat} {u : Value} {L : List H32} {n : Int} (x : H32) (hs : s < 65536) (ht : t < 65536) (hm : m < 65536) (hv : HashesAt w u L) (hl : L.length ≤ 9223372036854775807) (hT : DbAt w) :
    Calls Tryd.prog 5 #[brV s t m u, .int .i64 n, hla x] w fun e w' => e = .returned (.bool true) ∧ Below w.heap.size w w' := by
  obtain ⟨p0, c0, rfl⟩ := hv.shape
  obtain ⟨n0, hn0⟩ : ∃ k, L.length = k := ⟨_, rfl⟩
  have HL : Hid (L.length ≤ 9223372036854775807) := hl
  rw [hn0] at hv ⊢
  clear hn0 hl
  obtain ⟨W0, g, hW0, hg, hB0, hb0, _, _, _, _⟩ := box_br w s t m (.slice p0 n0 c0)
  obtain ⟨W1, hW1⟩ : ∃ W1, World.alloc W0 (.cells (hcl x).toArray 43) = W1 := ⟨_, rfl⟩
  obtain ⟨gp, hgp⟩ : ∃ gp, W0.heap.size = gp := ⟨_, rfl⟩
  have hp1 : Holds W1 gp 43 (hcl x).toArray := by rw [← hW1, ← hgp]; exact Holds.new _ _ _
  have hB1 : Below W0.heap.size W0 W1 := by rw [← hW1]; exact below_new1 _ _
  have hgl : g < gp := by rw [← hgp]; exact hb0.lt
  have HG : Hid (w.heap.size = g ∧ g < gp) := ⟨hg, hgl⟩
  have HW : Hid (Below w.heap.size w W1 ∧ Holds W1 g 25 (brC s t m (.slice p0 n0 c0)) ∧ Holds W1 gp 43 (hcl x).toArray ∧ HashesAt W1 (.slice p0 n0 c0) L ∧ DbAt W1) := ⟨below_new hB0 hB1, below_holds hB1 hb0, hp1, (hv.below hB0).below hB1, (hT.below hB0).below hB1⟩
  have hLf := fitL_len L (cntM m)
  clear hB0 hb0 hB1 hp1 hv hT
  unfold brV hla
  go_enter Tryd.func5, Tryd.ntmps5
  go_wp2_with fail
  refine (awake_any HW.out.2.2.2.2).mono ?_
  rintro e w1 ⟨rfl, hB1⟩
  have hb1 := below_holds hB1 HW.out.2.1
  have hft := fit_any (s := s) (t := t) hm (HW.out.2.2.2.1.below hB1) HL.out
  unfold brC at hb1
  unfold brV at hft
  have H1 : Hid (Below w.heap.size w w1 ∧ Holds w1 gp 43 (hcl x).toArray ∧ DbAt w1) := ⟨below_new HW.out.1 hB1, below_holds hB1 HW.out.2.2.1, HW.out.2.2.2.2.below hB1⟩
  clear hB1 HW hW0 hW1 hg hgp
  go_wp2_with (refine wpList_loadH rfl 25 _ rfl _ rfl _ _ _ hb1 Tryd.underlying25 rfl infoBr ?_)
  refine hft.mono ?_
  rintro e w2 ⟨v2, rfl, hv2, hB2⟩
  generalize fitL L (cntM m) = Lf at hv2 hLf
  obtain ⟨p2, c2, rfl⟩ := hv2.shape
  obtain ⟨n2, hn2⟩ : ∃ k, Lf.length = k := ⟨_, rfl⟩
  have HLF : Hid (Lf.length = cntM m) := hLf
  have HL2 : Hid (Lf.length = n2) := hn2
  rw [hn2] at hv2 ⊢
  clear hn2 hLf
  obtain ⟨W3, g8, hW3, hg8, hB3, hz3⟩ := box_zero w2
  have hp2 := below_holds hB2 H1.out.2.1
  have hgl8 : gp < g8 := by rw [← hg8]; exact hp2.lt
  have H3 : Hid (Below w.heap.size w W3 ∧ Holds W3 gp 43 (hcl x).toArray ∧ DbAt W3 ∧ HashesAt W3 (.slice p2 n2 c2) Lf ∧ w.heap.size ≤ g8) := ⟨below_new (below_new H1.out.1 hB2) hB3, below_holds hB3 hp2, (H1.out.2.2.below hB2).below hB3, hv2.below hB3, by have := HG.out; omega⟩
  clear hft hB2 hB3 hb1 hp2 hv2 H1
  go_wp2_with (refine wpList_storeH rfl 25 _ _ rfl _ _ rfl rfl _ _ hz3 infoBr rfl (by simp [brC, Value.oneCell']) ?_; intro W4 h4 hO4 hs4; refine Hid.out ?_)
  unfold Hid
  have hp4 : Holds W4 gp 43 (hcl x).toArray := hO4.holds H3.out.2.1 (by omega)
  have HF4 : Hid (Below w.heap.size w W4 ∧ HashesAt W4 (.slice p2 n2 c2) Lf ∧ DbAt W4) := ⟨Only.fresh H3.out.1 hO4 H3.out.2.2.2.2, H3.out.2.2.2.1.only hO4 hz3, H3.out.2.2.1.only hO4 (by have := HG.out; show 0 ≠ _; omega)⟩
  have H4 : Hid (Below w.heap.size w W4 ∧ Holds W4 g8 25 (brC s t m (.slice p2 n2 c2)) ∧ HashesAt W4 (.slice p2 n2 c2) Lf ∧ DbAt W4 ∧ Holds W4 gp 43 (hcl x).toArray ∧ w.heap.size = g ∧ g < gp ∧ gp < g8) := ⟨HF4.out.1, h4, HF4.out.2.1, HF4.out.2.2, hp4, HG.out.1, HG.out.2, hgl8⟩
  clear hz3 hO4 hs4 H3 hW3 hg8 h4 hp4 HF4 hgl hgl8 HG
  have hb4 := H4.out.2.1
  unfold brC at hb4
  have hl16 : Lf.length ≤ 1000 := by rw [HLF.out]; exact Nat.le_trans (cntM_le m) (by decide)
  have hrec := mrecord_any (w := W4) hs ht hm H4.out.2.2.1 hl16 H4.out.2.2.2.1
  unfold brV at hrec
  have HFIT : Hid ((⟨s, t, m, Lf⟩ : Br).fits) := ⟨hs, ht, hm, HLF.out⟩
  rw [HL2.out] at hrec
  obtain ⟨E, hE⟩ : ∃ E, chkM s t m n2 = E := ⟨_, rfl⟩
  rw [hE] at hrec
  go_wp2_with (refine wpList_loadH rfl 25 _ rfl _ rfl _ _ _ hb4 Tryd.underlying25 rfl infoBr ?_)
  refine hrec.mono ?_
  rintro e w5 ⟨rfl, hB5⟩
  clear hrec hb4
  have h8 := below_holds hB5 H4.out.2.1
  by_cases h0 : E = 0
  · subst h0
    have hrE : recE s t m Lf = ⟨(recB s t m Lf).toArray⟩ := by unfold recE; rw [HL2.out, if_pos hE]
    have HRD : Hid (Calls Tryd.prog 11 #[.string ⟨(recB s t m Lf).toArray⟩] w5 fun e w' => ∃ v, e = .returned (.tuple #[.agg #[.int .u16 (s : Nat), .int .u16 (t : Nat), .int .u16 (m : Nat), v], .int .i64 0]) ∧ HashesAt w' v Lf ∧ Below w5.heap.size w5 w') := mread_rec hs ht hm (by rw [HL2.out]; exact hE) (H4.out.2.2.2.1.below hB5)
    rw [hrE]
    clear hrE
    generalize (⟨(recB s t m Lf).toArray⟩ : ByteArray) = R at *
    unfold brC at h8
    go_wp2_with fail
    refine HRD.out.mono ?_
    rintro e w6 ⟨v6, rfl, hv6, hB6⟩
    obtain ⟨p6, c6, rfl⟩ := hv6.shape
    obtain ⟨n6, hn6⟩ : ∃ k, Lf.length = k := ⟨_, rfl⟩
    rw [hn6] at hv6 ⊢
    have e62 : n2 = n6 := HL2.out.symm.trans hn6
    clear hn6
    subst e62
    obtain ⟨W7, g11, hW7, hg11, hB7, hz7⟩ := box_zero w6
    have hB57 := below_new hB6 hB7
    have h87 := below_holds hB57 h8
    have hv7 := hv6.below hB7
    have hv47 := ((H4.out.2.2.1.below hB5).below hB57)
    have hlt8 := h8.lt
    have hne8 : g8 ≠ g11 := by have h1 := hB6.size; omega
    by_cases hn : 0 ≤ n ∧ n < 16
    · obtain ⟨k, rfl⟩ : ∃ k : Nat, n = k := ⟨n.toNat, by omega⟩
      have hk : k < 16 := by omega
      have hki0 : ¬ (k : Int) < 0 := by omega
      have hki : ¬ (15 : Int) < k := by omega
      clear hn
      go_wp2_with (first
        | (refine wpList_storeH rfl 25 _ _ rfl _ _ rfl rfl _ _ hz7 infoBr rfl (by simp [brC, Value.oneCell']) ?_; intro W8 h11 hO8 hs8
           have hB8 : Below w5.heap.size w5 W8 := Only.fresh hB57 hO8 (by have h1 := hB6.size; omega)
           have h88 := hO8.holds h87 hne8
           have hsm := qsame_eq (s := s) (t := t) (h := m) (hv47.only hO8 hz7) (hv7.only hO8 hz7) hl16
           unfold brV at hsm)
        | (refine wpList_loadH rfl 25 _ rfl _ rfl _ _ _ h88 Tryd.underlying25 rfl infoBr ?_)
        | (refine wpList_loadH rfl 25 _ rfl _ rfl _ _ _ h11 Tryd.underlying25 rfl infoBr ?_)
        | (go_at_call 13; refine hsm.mono ?_; rintro e V ⟨rfl, hB9⟩)
        | fail)
      have hBV := below_new hB5 (below_new hB8 hB9)
      have HV : Hid (Below w.heap.size w V ∧ Holds V g8 25 (brC s t m (.slice p2 n2 c2)) ∧ HashesAt V (.slice p2 n2 c2) Lf ∧ DbAt V ∧ Holds V gp 43 (hcl x).toArray ∧ w.heap.size = g) := ⟨below_new H4.out.1 hBV, below_holds hBV H4.out.2.1, H4.out.2.2.1.below hBV, H4.out.2.2.2.1.below hBV, below_holds hBV H4.out.2.2.2.2.1, H4.out.2.2.2.2.2.1⟩
      clear h8 hBV H4
      go_loopw [14, 15] (fun z y wr => ∃ i : Nat, y = .int .i64 (i : Nat) ∧ z = .string (refT x i) ∧ i ≤ 32 ∧ Below V.heap.size V wr) (fun _ y _ => 32 - (intOf y).toNat)
      case atStart => exact ⟨0, rfl, rfl, Nat.zero_le _, Below.refl _ _⟩
      case round =>
        obtain ⟨i, rfl, rfl, hi, hBi⟩ := hrel
        have hpi := below_holds hBi HV.out.2.2.2.2.1
        by_cases hi32 : i < 32
        · have hii : (i : Int) < 32 := by omega
          have hlx : i < x.1.length := by rw [x.2]; exact hi32
          obtain ⟨c, hc⟩ : ∃ c, x.1[i] = c := ⟨_, rfl⟩
          have hci : wr.cell? ⟨gp, i, none⟩ = some (.int .u8 (c.toNat : Nat)) := by
            rw [hpi.cell i]
            simp [hcl, hlx, hc]
          have HS : Hid (refT x (i + 1) = refT x i ++ ⟨#[c]⟩) := refT_succ x hlx hc
          have HTL : Hid ((refT x i).size ≤ 33) := refT_len x hi
          generalize refT x i = T at *
          have hTs : T.size + (⟨#[c]⟩ : ByteArray).size ≤ 9223372036854775807 := by have h1 := HTL.out; show T.size + 1 ≤ _; omega
          have hcv := fun w => convert_oneM w c
          go_wp2_with (refine wpList_addM _ _ rfl rfl rfl hTs rfl ?_)
          go_roundw
          case measure => simp [intOf]; omega
          exact ⟨i + 1, by go_num, by rw [HS.out], by omega, below_new hBi (below_new1 _ _)⟩
        · have hii : ¬ (i : Int) < 32 := by omega
          obtain rfl : i = 32 := by omega
          have h8i := below_holds hBi HV.out.2.1
          have hT1 := HV.out.2.2.2.1.below hBi
          have hW1 := mwith_any (b := ⟨s, t, m, Lf⟩) HFIT.out hk (HV.out.2.2.1.below hBi) true (refT x 32) hT1
          have hok := back_ok HFIT.out hk x
          have hfd := withB_fits HFIT.out hk true (refT x 32)
          have hfo := withB_fits hfd hk false ⟨#[]⟩
          have hW2 := fun W v (h : HashesAt W v (withB ⟨s, t, m, Lf⟩ k true (refT x 32)).L) (hT : DbAt W) => mwith_any (w := W) hfd hk h false ⟨#[]⟩ hT
          generalize withB (withB ⟨s, t, m, Lf⟩ k true (refT x 32)) k false ⟨#[]⟩ = O at *
          generalize withB ⟨s, t, m, Lf⟩ k true (refT x 32) = D at *
          obtain ⟨ds, dt, dh, dL⟩ := D
          obtain ⟨os, ot, oh, oL⟩ := O
          have HOK : Hid (BackOk ⟨s, t, m, Lf⟩ ⟨ds, dt, dh, dL⟩ ⟨os, ot, oh, oL⟩ k x) := hok
          obtain ⟨hds, hdt, hdh, hdl⟩ := hfd
          obtain ⟨hos, hot, hoh, hol⟩ := hfo
          dsimp only at hds hdt hdh hdl hos hot hoh hol hW1 hW2
          generalize refT x 32 = T at *
          obtain ⟨nd, hnd⟩ : ∃ nd, dL.length = nd := ⟨_, rfl⟩
          obtain ⟨no, hno⟩ : ∃ no, oL.length = no := ⟨_, rfl⟩
          have HDL : Hid (dL.length = cntM dh ∧ oL.length = cntM oh) := ⟨hdl, hol⟩
          unfold brV at hW1 hW2
          unfold brC at h8i
          clear hok hdl hol hpi
          go_wp2_with (refine wpList_loadH rfl 25 _ rfl _ rfl _ _ _ h8i Tryd.underlying25 rfl infoBr ?_)
          refine hW1.mono ?_
          rintro e w6 ⟨v6, rfl, hv6, hB6⟩
          obtain ⟨pd, cd, rfl⟩ := hv6.shape
          rw [hnd] at hv6 ⊢
          obtain ⟨W7, g16, hW7, hg16, hB7, hz7⟩ := box_zero w6
          have hB67 := below_new hB6 hB7
          have hg16l : wr.heap.size ≤ g16 := by rw [← hg16]; exact hB6.size
          clear hW1
          go_wp2_with (first
            | (refine wpList_storeH rfl 25 _ _ rfl _ _ rfl rfl _ _ hz7 infoBr rfl (by simp [brC, Value.oneCell']) ?_; intro W8 h16 hO8 hs8
               have hB8 : Below wr.heap.size wr W8 := Only.fresh hB67 hO8 hg16l
               have hd8 := (hv6.below hB7).only hO8 hz7
               have hT8 := hT1.below hB8
               have hH8 := mhash_any (s := ds) (t := dt) hdh hd8 HDL.out.1 (k : Int) hT8
               rw [HOK.out.x, HOK.out.h] at hH8
               unfold brV at hH8)
            | (refine wpList_loadH rfl 25 _ rfl _ rfl _ _ _ h16 Tryd.underlying25 rfl infoBr ?_)
            | fail)
          refine hH8.mono ?_
          rintro e w9 ⟨rfl, hB9⟩
          have h16_9 := below_holds hB9 h16
          have hd9 := hd8.below hB9
          obtain ⟨W10, hW10⟩ : ∃ W, World.alloc w9 (.cells zero32 43) = W := ⟨_, rfl⟩
          obtain ⟨g17, hg17⟩ : ∃ gz, w9.heap.size = gz := ⟨_, rfl⟩
          have h10 : Holds W10 g17 43 (hcl zeroH).toArray := by rw [← hW10, ← hg17]; exact Holds.new _ _ _
          have hB10 : Below w9.heap.size w9 W10 := by rw [← hW10]; exact below_new1 _ _
          have hg17l : W8.heap.size ≤ g17 := by rw [← hg17]; exact hB9.size
          have hne17 : g16 ≠ g17 := by have := h16.lt; omega
          rw [zero32_eq] at hW10
          clear hz7 hO8 hs8 hW7 hg16
          go_wp2_with (first
            | (refine wpList_stH rfl _ _ rfl rfl rfl h10 ?_; intro W11 h17 hO11 hs11
               have hB11 : Below W8.heap.size W8 W11 := Only.fresh (below_new hB9 hB10) hO11 hg17l
               have h16b := below_holds hB11 h16)
            | (refine wpList_loadH rfl 25 _ rfl _ rfl _ _ _ h16b Tryd.underlying25 rfl infoBr ?_)
            | fail)
          refine (hW2 W11 _ (hd8.below hB11) (hT8.below hB11)).mono ?_
          rintro e w12 ⟨v12, rfl, hv12, hB12⟩
          obtain ⟨po, co, rfl⟩ := hv12.shape
          rw [hno] at hv12 ⊢
          obtain ⟨W13, g19, hW13, hg19, hB13, hz13⟩ := box_zero w12
          have hB1213 := below_new hB12 hB13
          have hg19l : W11.heap.size ≤ g19 := by rw [← hg19]; exact hB12.size
          clear hW2 hH8 hW10 hg17 h10 hO11 hs11 hB9 hB10
          have h16w := h16b
          go_wp2_with (first
            | (refine wpList_storeH rfl 25 _ _ rfl _ _ rfl rfl _ _ hz13 infoBr rfl (by simp [brC, Value.oneCell']) ?_; intro X0 h19 hO14 hs14; refine Hid.out ?_)
            | fail)
          unfold Hid
          have hBX : Below W11.heap.size W11 X0 := Only.fresh hB1213 hO14 hg19l
          have HX : Hid (Below wr.heap.size wr X0) := below_new hB8 (below_new hB11 hBX)
          have HVX : Hid (Below V.heap.size V X0) := below_new hBi HX.out
          have hne19 : g16 ≠ g19 := by have := h16b.lt; omega
          have HX0 : Hid (Holds X0 g8 25 (brC s t m (.slice p2 n2 c2)) ∧ Holds X0 g16 25 (brC ds dt dh (.slice pd nd cd)) ∧ Holds X0 g19 25 (brC os ot oh (.slice po no co)) ∧ HashesAt X0 (.slice p2 n2 c2) Lf ∧ HashesAt X0 (.slice pd nd cd) dL ∧ HashesAt X0 (.slice po no co) oL ∧ DbAt X0) :=
            ⟨below_holds HVX.out HV.out.2.1, below_holds hBX h16b, h19, HV.out.2.2.1.below HVX.out, (hd8.below hB11).below hBX, (hv12.below hB13).only hO14 hz13, HV.out.2.2.2.1.below HVX.out⟩
          have k17 := (below_holds hBX h17).hash
          have k5 := (below_holds HVX.out HV.out.2.2.2.2.1).hash
          have c0 := HX0.out.2.1.cell 0
          have c1 := HX0.out.2.1.cell 1
          have o0 := HX0.out.2.2.1.cell 0
          have o1 := HX0.out.2.2.1.cell 1
          have o2 := HX0.out.2.2.1.cell 2
          simp [brC] at c0 c1 o0 o1 o2
          have HA1 : Hid (∀ X : World, Calls Tryd.prog 14 #[.int .u16 (ds : Nat), .int .i64 (k : Nat)] X fun e w' => e = .returned (.bool true) ∧ Below X.heap.size X w') := fun X => by have := mhas_any hds (k : Int) X; rw [HOK.out.s] at this; exact this
          have HA2 : Hid (∀ X : World, Calls Tryd.prog 14 #[.int .u16 (dt : Nat), .int .i64 (k : Nat)] X fun e w' => e = .returned (.bool true) ∧ Below X.heap.size X w') := fun X => by have := mhas_any hdt (k : Int) X; rw [HOK.out.t] at this; exact this
          have HA3 : Hid (∀ X : World, Calls Tryd.prog 14 #[.int .u16 (os : Nat), .int .i64 (k : Nat)] X fun e w' => e = .returned (.bool false) ∧ Below X.heap.size X w') := fun X => by have := mhas_any hos (k : Int) X; rw [HOK.out.os] at this; exact this
          have HA4 : Hid (∀ X : World, Calls Tryd.prog 14 #[.int .u16 (oh : Nat), .int .i64 (k : Nat)] X fun e w' => e = .returned (.bool false) ∧ Below X.heap.size X w') := fun X => by have := mhas_any hoh (k : Int) X; rw [HOK.out.oh] at this; exact this
          have HA5 : Hid (∀ X : World, Calls Tryd.prog 14 #[.int .u16 (ot : Nat), .int .i64 (k : Nat)] X fun e w' => e = .returned (.bool false) ∧ Below X.heap.size X w') := fun X => by have := mhas_any hot (k : Int) X; rw [HOK.out.ot] at this; exact this
          clear hBX hB11 hB8 h16b h16w h16 h17 h19 hO14 hs14 hz13 hv12 hB12 hB13 hB1213 hd8 hd9 hv6 hB6 hB7 hB67 h16_9 hW13 hg19 hT8 hT1 h8i
          go_wp2_with (first
            | (refine wpList_ldG rfl _ rfl rfl k17 ?_)
            | (refine wpList_ldG rfl _ rfl rfl k5 ?_)
            | (refine wpList_neqG rfl _ _ _ rfl rfl rfl (neq_same x) ?_)
            | (go_at_call 14; refine (HA5.out X4).mono ?_; rintro e X5 ⟨rfl, hX5⟩; have HX5 : Hid (Below X0.heap.size X0 X5) := below_new hX1 (below_new hX2 (below_new hX3 (below_new hX4 hX5))))
            | (go_at_call 14; refine (HA4.out X3).mono ?_; rintro e X4 ⟨rfl, hX4⟩; have o1 := keep_cellM hX4 o1)
            | (go_at_call 14; refine (HA3.out X2).mono ?_; rintro e X3 ⟨rfl, hX3⟩; have o1 := keep_cellM hX3 o1; have o2 := keep_cellM hX3 o2)
            | (go_at_call 14; refine (HA2.out X1).mono ?_; rintro e X2 ⟨rfl, hX2⟩; have o0 := keep_cellM hX2 o0; have o1 := keep_cellM hX2 o1; have o2 := keep_cellM hX2 o2)
            | (go_at_call 14; refine (HA1.out X0).mono ?_; rintro e X1 ⟨rfl, hX1⟩; have c1 := keep_cellM hX1 c1; have o0 := keep_cellM hX1 o0; have o1 := keep_cellM hX1 o1; have o2 := keep_cellM hX1 o2)
            | fail)
          clear hX1 hX2 hX3 hX4 hX5 HA1 HA2 HA3 HA4 HA5 c0 c1 o0 o1 o2 k17 k5
          go_loopw [20] (fun y wz => ∃ j : Nat, y = .int .i64 (j : Nat) ∧ j ≤ 16 ∧ Below X0.heap.size X0 wz) (fun y _ => 16 - (intOf y).toNat)
          case atStart => exact ⟨0, rfl, Nat.zero_le _, HX5.out⟩
          case round =>
            obtain ⟨j, rfl, hj, hBj⟩ := hrel
            by_cases hj16 : j < 16
            · have hji : (j : Int) < 16 := by omega
              by_cases hjk : j = k
              · have hjki : (j : Int) = k := by omega
                go_wp2_with fail
                go_roundw
                case measure => simp [intOf]; omega
                exact ⟨j + 1, by go_num, by omega, hBj⟩
              · have hjki : ¬ (j : Int) = k := by omega
                obtain ⟨z, hz⟩ : ∃ z, hashX m Lf (j : Int) = z := ⟨_, rfl⟩
                obtain ⟨q, hq⟩ : ∃ q, hasM m (j : Int) = q := ⟨_, rfl⟩
                obtain ⟨q2, hq2⟩ : ∃ q2, hasM s (j : Int) = q2 := ⟨_, rfl⟩
                have HH1 : Hid (∀ X : World, Below X0.heap.size X0 X → Calls Tryd.prog 23 #[.agg #[.int .u16 (s : Nat), .int .u16 (t : Nat), .int .u16 (m : Nat), .slice p2 n2 c2], .int .i64 (j : Nat)] X fun e w' => e = .returned (.tuple #[hla z, .bool q]) ∧ Below X.heap.size X w') := fun X hX => by
                  have := mhash_any (w := X) (s := s) (t := t) hm (HX0.out.2.2.2.1.below hX) HLF.out (j : Int) (HX0.out.2.2.2.2.2.2.below hX)
                  rw [hz, hq] at this
                  exact this
                have HH2 : Hid (∀ X : World, Below X0.heap.size X0 X → Calls Tryd.prog 23 #[.agg #[.int .u16 (ds : Nat), .int .u16 (dt : Nat), .int .u16 (dh : Nat), .slice pd nd cd], .int .i64 (j : Nat)] X fun e w' => e = .returned (.tuple #[hla z, .bool q]) ∧ Below X.heap.size X w') := fun X hX => by
                  have := mhash_any (w := X) (s := ds) (t := dt) hdh (HX0.out.2.2.2.2.1.below hX) HDL.out.1 (j : Int) (HX0.out.2.2.2.2.2.2.below hX)
                  have e1 := HOK.out.dx j hj16 hjk
                  have e2 := HOK.out.dh j hj16 hjk
                  dsimp only at e1 e2
                  rw [e1, e2, hz, hq] at this
                  exact this
                have HH3 : Hid (∀ X : World, Below X0.heap.size X0 X → Calls Tryd.prog 23 #[.agg #[.int .u16 (os : Nat), .int .u16 (ot : Nat), .int .u16 (oh : Nat), .slice po no co], .int .i64 (j : Nat)] X fun e w' => e = .returned (.tuple #[hla z, .bool q]) ∧ Below X.heap.size X w') := fun X hX => by
                  have := mhash_any (w := X) (s := os) (t := ot) hoh (HX0.out.2.2.2.2.2.1.below hX) HDL.out.2 (j : Int) (HX0.out.2.2.2.2.2.2.below hX)
                  have e1 := HOK.out.ox j hj16 hjk
                  have e2 := HOK.out.ohi j hj16 hjk
                  dsimp only at e1 e2
                  rw [e1, e2, hz, hq] at this
                  exact this
                have HG1 : Hid (∀ X : World, Calls Tryd.prog 14 #[.int .u16 (s : Nat), .int .i64 (j : Nat)] X fun e w' => e = .returned (.bool q2) ∧ Below X.heap.size X w') := fun X => by have := mhas_any hs (j : Int) X; rw [hq2] at this; exact this
                have HG2 : Hid (∀ X : World, Calls Tryd.prog 14 #[.int .u16 (os : Nat), .int .i64 (j : Nat)] X fun e w' => e = .returned (.bool q2) ∧ Below X.heap.size X w') := fun X => by
                  have := mhas_any hos (j : Int) X
                  have e1 := HOK.out.osi j hj16 hjk
                  dsimp only at e1
                  rw [e1, hq2] at this
                  exact this
                clear hz hq hq2
                have y8 := below_holds hBj HX0.out.1
                unfold brC at y8
                go_wp2_with (refine wpList_loadH rfl 25 _ rfl _ rfl _ _ _ y8 Tryd.underlying25 rfl infoBr ?_)
                refine (HH1.out wr hBj).mono ?_
                rintro e Y1 ⟨rfl, hY1⟩
                obtain ⟨Y2, hYe2⟩ : ∃ W, World.alloc Y1 (.cells zero32 43) = W := ⟨_, rfl⟩
                obtain ⟨gz0, hgz0⟩ : ∃ gz, Y1.heap.size = gz := ⟨_, rfl⟩
                have hz0 : Holds Y2 gz0 43 (hcl zeroH).toArray := by rw [← hYe2, ← hgz0]; exact Holds.new _ _ _
                have hY2 : Below Y1.heap.size Y1 Y2 := by rw [← hYe2]; exact below_new1 _ _
                have hgl0 : wr.heap.size ≤ gz0 := by rw [← hgz0]; exact hY1.size
                rw [zero32_eq] at hYe2
                go_wp2_with (refine wpList_stH rfl _ _ rfl rfl rfl hz0 ?_; intro Y3 hk0 hOk0 hsk0; clear hsk0; refine Hid.out ?_)
                unfold Hid
                have hY3 : Below wr.heap.size wr Y3 := Only.fresh (below_new hY1 hY2) hOk0 hgl0
                have hb0 : Below X0.heap.size X0 Y3 := below_new hBj hY3
                clear hYe2 hgz0 hz0 hOk0 hgl0 hY1 hY2 y8
                have y16 := below_holds hb0 HX0.out.2.1
                unfold brC at y16
                go_wp2_with (refine wpList_loadH rfl 25 _ rfl _ rfl _ _ _ y16 Tryd.underlying25 rfl infoBr ?_)
                refine (HH2.out Y3 hb0).mono ?_
                rintro e Y4 ⟨rfl, hY4⟩
                obtain ⟨Y5, hYe5⟩ : ∃ W, World.alloc Y4 (.cells zero32 43) = W := ⟨_, rfl⟩
                obtain ⟨gz1, hgz1⟩ : ∃ gz, Y4.heap.size = gz := ⟨_, rfl⟩
                have hz1 : Holds Y5 gz1 43 (hcl zeroH).toArray := by rw [← hYe5, ← hgz1]; exact Holds.new _ _ _
                have hY5 : Below Y4.heap.size Y4 Y5 := by rw [← hYe5]; exact below_new1 _ _
                have hgl1 : Y3.heap.size ≤ gz1 := by rw [← hgz1]; exact hY4.size
                rw [zero32_eq] at hYe5
                go_wp2_with (refine wpList_stH rfl _ _ rfl rfl rfl hz1 ?_; intro Y6 hk1 hOk1 hsk1; clear hsk1; refine Hid.out ?_)
                unfold Hid
                have hY6 : Below Y3.heap.size Y3 Y6 := Only.fresh (below_new hY4 hY5) hOk1 hgl1
                have hb1 : Below X0.heap.size X0 Y6 := below_new hb0 hY6
                clear hYe5 hgz1 hz1 hOk1 hgl1 hY4 hY5 y16
                have y19 := below_holds hb1 HX0.out.2.2.1
                unfold brC at y19
                go_wp2_with (refine wpList_loadH rfl 25 _ rfl _ rfl _ _ _ y19 Tryd.underlying25 rfl infoBr ?_)
                refine (HH3.out Y6 hb1).mono ?_
                rintro e Y7 ⟨rfl, hY7⟩
                obtain ⟨Y8, hYe8⟩ : ∃ W, World.alloc Y7 (.cells zero32 43) = W := ⟨_, rfl⟩
                obtain ⟨gz2, hgz2⟩ : ∃ gz, Y7.heap.size = gz := ⟨_, rfl⟩
                have hz2 : Holds Y8 gz2 43 (hcl zeroH).toArray := by rw [← hYe8, ← hgz2]; exact Holds.new _ _ _
                have hY8 : Below Y7.heap.size Y7 Y8 := by rw [← hYe8]; exact below_new1 _ _
                have hgl2 : Y6.heap.size ≤ gz2 := by rw [← hgz2]; exact hY7.size
                rw [zero32_eq] at hYe8
                go_wp2_with (refine wpList_stH rfl _ _ rfl rfl rfl hz2 ?_; intro Y9 hk2 hOk2 hsk2; clear hsk2; refine Hid.out ?_)
                unfold Hid
                have hY9 : Below Y6.heap.size Y6 Y9 := Only.fresh (below_new hY7 hY8) hOk2 hgl2
                have hb2 : Below X0.heap.size X0 Y9 := below_new hb1 hY9
                clear hYe8 hgz2 hz2 hOk2 hgl2 hY7 hY8 y19
                have k21 := (below_holds (below_new hY6 hY9) hk0).hash
                have k23 := (below_holds hY9 hk1).hash
                have k25 := hk2.hash
                have e0 := (below_holds hb2 HX0.out.1).cell 0
                have f0 := (below_holds hb2 HX0.out.2.2.1).cell 0
                simp [brC] at e0 f0
                clear hY3 hY6 hY9 hk0 hk1 hk2 hb0 hb1 HH1 HH2 HH3
                go_wp2_with fail
                refine wp_region_class (fun W => Below Y9.heap.size Y9 W) mixedP (by kernel_rfl) (below_drewR (Below.refl _ _)) ?_
                refine wpQ_ld rfl _ _ rfl rfl (fun W hW => ldHash (k21.below hW)) ?_
                go_frame
                refine wpQ_ld rfl _ _ rfl rfl (fun W hW => ldHash (k23.below hW)) ?_
                go_frame
                refine wpQ_val rfl (.bool false) (fun w => by rw [run_neqH _ _ _ z z _ rfl rfl rfl w]; simp) ?_
                go_frame
                go_big_quiet_step (exact fun _ => rfl)
                go_big_quiet_step (exact fun _ => rfl)
                go_big_quiet_step (exact fun _ => rfl)
                refine wpQ_val rfl (.bool false) (fun w => by go_simp) ?_
                go_frame
                go_big_quiet_step (exact fun _ => rfl)
                go_big_quiet_step (exact fun _ => rfl)
                refine wpQ_ld rfl _ _ rfl rfl (fun W hW => ldHash (k21.below hW)) ?_
                go_frame
                refine wpQ_ld rfl _ _ rfl rfl (fun W hW => ldHash (k25.below hW)) ?_
                go_frame
                refine wpQ_val rfl (.bool false) (fun w => by rw [run_neqH _ _ _ z z _ rfl rfl rfl w]; simp) ?_
                go_frame
                go_big_quiet_step (exact fun _ => rfl)
                go_big_quiet_step (exact fun _ => rfl)
                go_big_quiet_step (exact fun _ => rfl)
                go_big_quiet_step (exact fun _ => rfl)
                refine wpQ_val rfl (.bool false) (fun w => by go_simp) ?_
                go_frame
                go_big_quiet_step (exact fun _ => rfl)
                go_big_quiet_step (exact fun _ => rfl)
                go_big_quiet_step (exact fun _ => rfl)
                refine wpQ_ld rfl _ _ rfl rfl (fun W hW => ldU16M (keep_cellM hW e0)) ?_
                go_frame
                go_big_quiet_step (exact fun _ => rfl)
                refine wpQ_call rfl 14 #[.int .u16 (s : Nat), .int .i64 (j : Nat)] (fun _ => by go_simp) (.bool q2) (fun W hW => (HG1.out W).mono fun e w' h => ⟨h.1, below_new hW h.2⟩) ?_
                go_frame
                go_big_quiet_step (exact fun _ => rfl)
                refine wpQ_ld rfl _ _ rfl rfl (fun W hW => ldU16M (keep_cellM hW f0)) ?_
                go_frame
                go_big_quiet_step (exact fun _ => rfl)
                refine wpQ_call rfl 14 #[.int .u16 (os : Nat), .int .i64 (j : Nat)] (fun _ => by go_simp) (.bool q2) (fun W hW => (HG2.out W).mono fun e w' h => ⟨h.1, below_new hW h.2⟩) ?_
                go_frame
                refine wpQ_val rfl (.bool false) (fun w => by go_simp) ?_
                go_frame
                go_big_quiet_step (exact fun _ => rfl)
                refine wpQuiet_nil ?_
                intro Y10 hY10
                simp only [Exit.then]
                go_at_K
                go_wp2_with fail
                go_roundw
                case measure => simp [intOf]; omega
                exact ⟨j + 1, by go_num, by omega, below_new hb2 hY10⟩
            · have hji : ¬ (j : Int) < 16 := by omega
              have HF : Hid (Below w.heap.size w wr) := below_new HV.out.1 (below_new HVX.out hBj)
              go_wp2_with fail
              go_ret
              exact ⟨rfl, by first | exact HF.out | (rw [← HV.out.2.2.2.2.2]; exact HF.out)⟩
    · go_wp2_with (first
        | (refine wpList_storeH rfl 25 _ _ rfl _ _ rfl rfl _ _ hz7 infoBr rfl (by simp [brC, Value.oneCell']) ?_; intro W8 h11 hO8 hs8
           have hB8 : Below w5.heap.size w5 W8 := Only.fresh hB57 hO8 (by have h1 := hB6.size; omega)
           have h88 := hO8.holds h87 hne8
           have hsm := qsame_eq (s := s) (t := t) (h := m) (hv47.only hO8 hz7) (hv7.only hO8 hz7) hl16
           unfold brV at hsm)
        | (refine wpList_loadH rfl 25 _ rfl _ rfl _ _ _ h88 Tryd.underlying25 rfl infoBr ?_)
        | (refine wpList_loadH rfl 25 _ rfl _ rfl _ _ _ h11 Tryd.underlying25 rfl infoBr ?_)
        | (go_at_call 13; refine hsm.mono ?_; rintro e V ⟨rfl, hB9⟩)
        | fail)
      all_goals (have hBV := below_new hB5 (below_new hB8 hB9))
      all_goals go_ret
      all_goals (
        have HF := below_new H4.out.1 hBV
        exact ⟨rfl, by first | exact HF | (rw [← H4.out.2.2.2.2.2.1]; exact HF)⟩)
  · have hEi : ¬ (E : Int) = 0 := h0
    obtain ⟨V, hVe⟩ : ∃ V, w5 = V := ⟨_, rfl⟩
    subst hVe
    have hBV := hB5
    unfold brC at h8
    by_cases hn : 0 ≤ n ∧ n < 16
    · obtain ⟨k, rfl⟩ : ∃ k : Nat, n = k := ⟨n.toNat, by omega⟩
      have hk : k < 16 := by omega
      have hki0 : ¬ (k : Int) < 0 := by omega
      have hki : ¬ (15 : Int) < k := by omega
      clear hn
      go_wp2_with fail
      have HV : Hid (Below w.heap.size w w5 ∧ Holds w5 g8 25 (brC s t m (.slice p2 n2 c2)) ∧ HashesAt w5 (.slice p2 n2 c2) Lf ∧ DbAt w5 ∧ Holds w5 gp 43 (hcl x).toArray ∧ w.heap.size = g) := ⟨below_new H4.out.1 hBV, below_holds hBV H4.out.2.1, H4.out.2.2.1.below hBV, H4.out.2.2.2.1.below hBV, below_holds hBV H4.out.2.2.2.2.1, H4.out.2.2.2.2.2.1⟩
      clear h8 hBV H4
      go_loopw [14, 15] (fun z y wr => ∃ i : Nat, y = .int .i64 (i : Nat) ∧ z = .string (refT x i) ∧ i ≤ 32 ∧ Below w5.heap.size w5 wr) (fun _ y _ => 32 - (intOf y).toNat)
      case atStart => exact ⟨0, rfl, rfl, Nat.zero_le _, Below.refl _ _⟩
      case round =>
        obtain ⟨i, rfl, rfl, hi, hBi⟩ := hrel
        have hpi := below_holds hBi HV.out.2.2.2.2.1
        by_cases hi32 : i < 32
        · have hii : (i : Int) < 32 := by omega
          have hlx : i < x.1.length := by rw [x.2]; exact hi32
          obtain ⟨c, hc⟩ : ∃ c, x.1[i] = c := ⟨_, rfl⟩
          have hci : wr.cell? ⟨gp, i, none⟩ = some (.int .u8 (c.toNat : Nat)) := by
            rw [hpi.cell i]
            simp [hcl, hlx, hc]
          have HS : Hid (refT x (i + 1) = refT x i ++ ⟨#[c]⟩) := refT_succ x hlx hc
          have HTL : Hid ((refT x i).size ≤ 33) := refT_len x hi
          generalize refT x i = T at *
          have hTs : T.size + (⟨#[c]⟩ : ByteArray).size ≤ 9223372036854775807 := by have h1 := HTL.out; show T.size + 1 ≤ _; omega
          have hcv := fun w => convert_oneM w c
          go_wp2_with (refine wpList_addM _ _ rfl rfl rfl hTs rfl ?_)
          go_roundw
          case measure => simp [intOf]; omega
          exact ⟨i + 1, by go_num, by rw [HS.out], by omega, below_new hBi (below_new1 _ _)⟩
        · have hii : ¬ (i : Int) < 32 := by omega
          obtain rfl : i = 32 := by omega
          have h8i := below_holds hBi HV.out.2.1
          have hT1 := HV.out.2.2.2.1.below hBi
          have hW1 := mwith_any (b := ⟨s, t, m, Lf⟩) HFIT.out hk (HV.out.2.2.1.below hBi) true (refT x 32) hT1
          have hok := back_ok HFIT.out hk x
          have hfd := withB_fits HFIT.out hk true (refT x 32)
          have hfo := withB_fits hfd hk false ⟨#[]⟩
          have hW2 := fun W v (h : HashesAt W v (withB ⟨s, t, m, Lf⟩ k true (refT x 32)).L) (hT : DbAt W) => mwith_any (w := W) hfd hk h false ⟨#[]⟩ hT
          generalize withB (withB ⟨s, t, m, Lf⟩ k true (refT x 32)) k false ⟨#[]⟩ = O at *
          generalize withB ⟨s, t, m, Lf⟩ k true (refT x 32) = D at *
          obtain ⟨ds, dt, dh, dL⟩ := D
          obtain ⟨os, ot, oh, oL⟩ := O
          have HOK : Hid (BackOk ⟨s, t, m, Lf⟩ ⟨ds, dt, dh, dL⟩ ⟨os, ot, oh, oL⟩ k x) := hok
          obtain ⟨hds, hdt, hdh, hdl⟩ := hfd
          obtain ⟨hos, hot, hoh, hol⟩ := hfo
          dsimp only at hds hdt hdh hdl hos hot hoh hol hW1 hW2
          generalize refT x 32 = T at *
          obtain ⟨nd, hnd⟩ : ∃ nd, dL.length = nd := ⟨_, rfl⟩
          obtain ⟨no, hno⟩ : ∃ no, oL.length = no := ⟨_, rfl⟩
          have HDL : Hid (dL.length = cntM dh ∧ oL.length = cntM oh) := ⟨hdl, hol⟩
          unfold brV at hW1 hW2
          unfold brC at h8i
          clear hok hdl hol hpi
          go_wp2_with (refine wpList_loadH rfl 25 _ rfl _ rfl _ _ _ h8i Tryd.underlying25 rfl infoBr ?_)
          refine hW1.mono ?_
          rintro e w6 ⟨v6, rfl, hv6, hB6⟩
          obtain ⟨pd, cd, rfl⟩ := hv6.shape
          rw [hnd] at hv6 ⊢
          obtain ⟨W7, g16, hW7, hg16, hB7, hz7⟩ := box_zero w6
          have hB67 := below_new hB6 hB7
          have hg16l : wr.heap.size ≤ g16 := by rw [← hg16]; exact hB6.size
          clear hW1
          go_wp2_with (first
            | (refine wpList_storeH rfl 25 _ _ rfl _ _ rfl rfl _ _ hz7 infoBr rfl (by simp [brC, Value.oneCell']) ?_; intro W8 h16 hO8 hs8
               have hB8 : Below wr.heap.size wr W8 := Only.fresh hB67 hO8 hg16l
               have hd8 := (hv6.below hB7).only hO8 hz7
               have hT8 := hT1.below hB8
               have hH8 := mhash_any (s := ds) (t := dt) hdh hd8 HDL.out.1 (k : Int) hT8
               rw [HOK.out.x, HOK.out.h] at hH8
               unfold brV at hH8)
            | (refine wpList_loadH rfl 25 _ rfl _ rfl _ _ _ h16 Tryd.underlying25 rfl infoBr ?_)
            | fail)
          refine hH8.mono ?_
          rintro e w9 ⟨rfl, hB9⟩
          have h16_9 := below_holds hB9 h16
          have hd9 := hd8.below hB9
          obtain ⟨W10, hW10⟩ : ∃ W, World.alloc w9 (.cells zero32 43) = W := ⟨_, rfl⟩
          obtain ⟨g17, hg17⟩ : ∃ gz, w9.heap.size = gz := ⟨_, rfl⟩
          have h10 : Holds W10 g17 43 (hcl zeroH).toArray := by rw [← hW10, ← hg17]; exact Holds.new _ _ _
          have hB10 : Below w9.heap.size w9 W10 := by rw [← hW10]; exact below_new1 _ _
          have hg17l : W8.heap.size ≤ g17 := by rw [← hg17]; exact hB9.size
          have hne17 : g16 ≠ g17 := by have := h16.lt; omega
          rw [zero32_eq] at hW10
          clear hz7 hO8 hs8 hW7 hg16
          go_wp2_with (first
            | (refine wpList_stH rfl _ _ rfl rfl rfl h10 ?_; intro W11 h17 hO11 hs11
               have hB11 : Below W8.heap.size W8 W11 := Only.fresh (below_new hB9 hB10) hO11 hg17l
               have h16b := below_holds hB11 h16)
            | (refine wpList_loadH rfl 25 _ rfl _ rfl _ _ _ h16b Tryd.underlying25 rfl infoBr ?_)
            | fail)
          refine (hW2 W11 _ (hd8.below hB11) (hT8.below hB11)).mono ?_
          rintro e w12 ⟨v12, rfl, hv12, hB12⟩
          obtain ⟨po, co, rfl⟩ := hv12.shape
          rw [hno] at hv12 ⊢
          obtain ⟨W13, g19, hW13, hg19, hB13, hz13⟩ := box_zero w12
          have hB1213 := below_new hB12 hB13
          have hg19l : W11.heap.size ≤ g19 := by rw [← hg19]; exact hB12.size
          clear hW2 hH8 hW10 hg17 h10 hO11 hs11 hB9 hB10
          have h16w := h16b
          go_wp2_with (first
            | (refine wpList_storeH rfl 25 _ _ rfl _ _ rfl rfl _ _ hz13 infoBr rfl (by simp [brC, Value.oneCell']) ?_; intro X0 h19 hO14 hs14; refine Hid.out ?_)
            | fail)
          unfold Hid
          have hBX : Below W11.heap.size W11 X0 := Only.fresh hB1213 hO14 hg19l
          have HX : Hid (Below wr.heap.size wr X0) := below_new hB8 (below_new hB11 hBX)
          have HVX : Hid (Below w5.heap.size w5 X0) := below_new hBi HX.out
          have hne19 : g16 ≠ g19 := by have := h16b.lt; omega
          have HX0 : Hid (Holds X0 g8 25 (brC s t m (.slice p2 n2 c2)) ∧ Holds X0 g16 25 (brC ds dt dh (.slice pd nd cd)) ∧ Holds X0 g19 25 (brC os ot oh (.slice po no co)) ∧ HashesAt X0 (.slice p2 n2 c2) Lf ∧ HashesAt X0 (.slice pd nd cd) dL ∧ HashesAt X0 (.slice po no co) oL ∧ DbAt X0) :=
            ⟨below_holds HVX.out HV.out.2.1, below_holds hBX h16b, h19, HV.out.2.2.1.below HVX.out, (hd8.below hB11).below hBX, (hv12.below hB13).only hO14 hz13, HV.out.2.2.2.1.below HVX.out⟩
          have k17 := (below_holds hBX h17).hash
          have k5 := (below_holds HVX.out HV.out.2.2.2.2.1).hash
          have c0 := HX0.out.2.1.cell 0
          have c1 := HX0.out.2.1.cell 1
          have o0 := HX0.out.2.2.1.cell 0
          have o1 := HX0.out.2.2.1.cell 1
          have o2 := HX0.out.2.2.1.cell 2
          simp [brC] at c0 c1 o0 o1 o2
          have HA1 : Hid (∀ X : World, Calls Tryd.prog 14 #[.int .u16 (ds : Nat), .int .i64 (k : Nat)] X fun e w' => e = .returned (.bool true) ∧ Below X.heap.size X w') := fun X => by have := mhas_any hds (k : Int) X; rw [HOK.out.s] at this; exact this
          have HA2 : Hid (∀ X : World, Calls Tryd.prog 14 #[.int .u16 (dt : Nat), .int .i64 (k : Nat)] X fun e w' => e = .returned (.bool true) ∧ Below X.heap.size X w') := fun X => by have := mhas_any hdt (k : Int) X; rw [HOK.out.t] at this; exact this
          have HA3 : Hid (∀ X : World, Calls Tryd.prog 14 #[.int .u16 (os : Nat), .int .i64 (k : Nat)] X fun e w' => e = .returned (.bool false) ∧ Below X.heap.size X w') := fun X => by have := mhas_any hos (k : Int) X; rw [HOK.out.os] at this; exact this
          have HA4 : Hid (∀ X : World, Calls Tryd.prog 14 #[.int .u16 (oh : Nat), .int .i64 (k : Nat)] X fun e w' => e = .returned (.bool false) ∧ Below X.heap.size X w') := fun X => by have := mhas_any hoh (k : Int) X; rw [HOK.out.oh] at this; exact this
          have HA5 : Hid (∀ X : World, Calls Tryd.prog 14 #[.int .u16 (ot : Nat), .int .i64 (k : Nat)] X fun e w' => e = .returned (.bool false) ∧ Below X.heap.size X w') := fun X => by have := mhas_any hot (k : Int) X; rw [HOK.out.ot] at this; exact this
          clear hBX hB11 hB8 h16b h16w h16 h17 h19 hO14 hs14 hz13 hv12 hB12 hB13 hB1213 hd8 hd9 hv6 hB6 hB7 hB67 h16_9 hW13 hg19 hT8 hT1 h8i
          go_wp2_with (first
            | (refine wpList_ldG rfl _ rfl rfl k17 ?_)
            | (refine wpList_ldG rfl _ rfl rfl k5 ?_)
            | (refine wpList_neqG rfl _ _ _ rfl rfl rfl (neq_same x) ?_)
            | (go_at_call 14; refine (HA5.out X4).mono ?_; rintro e X5 ⟨rfl, hX5⟩; have HX5 : Hid (Below X0.heap.size X0 X5) := below_new hX1 (below_new hX2 (below_new hX3 (below_new hX4 hX5))))
            | (go_at_call 14; refine (HA4.out X3).mono ?_; rintro e X4 ⟨rfl, hX4⟩; have o1 := keep_cellM hX4 o1)
            | (go_at_call 14; refine (HA3.out X2).mono ?_; rintro e X3 ⟨rfl, hX3⟩; have o1 := keep_cellM hX3 o1; have o2 := keep_cellM hX3 o2)
            | (go_at_call 14; refine (HA2.out X1).mono ?_; rintro e X2 ⟨rfl, hX2⟩; have o0 := keep_cellM hX2 o0; have o1 := keep_cellM hX2 o1; have o2 := keep_cellM hX2 o2)
            | (go_at_call 14; refine (HA1.out X0).mono ?_; rintro e X1 ⟨rfl, hX1⟩; have c1 := keep_cellM hX1 c1; have o0 := keep_cellM hX1 o0; have o1 := keep_cellM hX1 o1; have o2 := keep_cellM hX1 o2)
            | fail)
          clear hX1 hX2 hX3 hX4 hX5 HA1 HA2 HA3 HA4 HA5 c0 c1 o0 o1 o2 k17 k5
          go_loopw [20] (fun y wz => ∃ j : Nat, y = .int .i64 (j : Nat) ∧ j ≤ 16 ∧ Below X0.heap.size X0 wz) (fun y _ => 16 - (intOf y).toNat)
          case atStart => exact ⟨0, rfl, Nat.zero_le _, HX5.out⟩
          case round =>
            obtain ⟨j, rfl, hj, hBj⟩ := hrel
            by_cases hj16 : j < 16
            · have hji : (j : Int) < 16 := by omega
              by_cases hjk : j = k
              · have hjki : (j : Int) = k := by omega
                go_wp2_with fail
                go_roundw
                case measure => simp [intOf]; omega
                exact ⟨j + 1, by go_num, by omega, hBj⟩
              · have hjki : ¬ (j : Int) = k := by omega
                obtain ⟨z, hz⟩ : ∃ z, hashX m Lf (j : Int) = z := ⟨_, rfl⟩
                obtain ⟨q, hq⟩ : ∃ q, hasM m (j : Int) = q := ⟨_, rfl⟩
                obtain ⟨q2, hq2⟩ : ∃ q2, hasM s (j : Int) = q2 := ⟨_, rfl⟩
                have HH1 : Hid (∀ X : World, Below X0.heap.size X0 X → Calls Tryd.prog 23 #[.agg #[.int .u16 (s : Nat), .int .u16 (t : Nat), .int .u16 (m : Nat), .slice p2 n2 c2], .int .i64 (j : Nat)] X fun e w' => e = .returned (.tuple #[hla z, .bool q]) ∧ Below X.heap.size X w') := fun X hX => by
                  have := mhash_any (w := X) (s := s) (t := t) hm (HX0.out.2.2.2.1.below hX) HLF.out (j : Int) (HX0.out.2.2.2.2.2.2.below hX)
                  rw [hz, hq] at this
                  exact this
                have HH2 : Hid (∀ X : World, Below X0.heap.size X0 X → Calls Tryd.prog 23 #[.agg #[.int .u16 (ds : Nat), .int .u16 (dt : Nat), .int .u16 (dh : Nat), .slice pd nd cd], .int .i64 (j : Nat)] X fun e w' => e = .returned (.tuple #[hla z, .bool q]) ∧ Below X.heap.size X w') := fun X hX => by
                  have := mhash_any (w := X) (s := ds) (t := dt) hdh (HX0.out.2.2.2.2.1.below hX) HDL.out.1 (j : Int) (HX0.out.2.2.2.2.2.2.below hX)
                  have e1 := HOK.out.dx j hj16 hjk
                  have e2 := HOK.out.dh j hj16 hjk
                  dsimp only at e1 e2
                  rw [e1, e2, hz, hq] at this
                  exact this
                have HH3 : Hid (∀ X : World, Below X0.heap.size X0 X → Calls Tryd.prog 23 #[.agg #[.int .u16 (os : Nat), .int .u16 (ot : Nat), .int .u16 (oh : Nat), .slice po no co], .int .i64 (j : Nat)] X fun e w' => e = .returned (.tuple #[hla z, .bool q]) ∧ Below X.heap.size X w') := fun X hX => by
                  have := mhash_any (w := X) (s := os) (t := ot) hoh (HX0.out.2.2.2.2.2.1.below hX) HDL.out.2 (j : Int) (HX0.out.2.2.2.2.2.2.below hX)
                  have e1 := HOK.out.ox j hj16 hjk
                  have e2 := HOK.out.ohi j hj16 hjk
                  dsimp only at e1 e2
                  rw [e1, e2, hz, hq] at this
                  exact this
                have HG1 : Hid (∀ X : World, Calls Tryd.prog 14 #[.int .u16 (s : Nat), .int .i64 (j : Nat)] X fun e w' => e = .returned (.bool q2) ∧ Below X.heap.size X w') := fun X => by have := mhas_any hs (j : Int) X; rw [hq2] at this; exact this
                have HG2 : Hid (∀ X : World, Calls Tryd.prog 14 #[.int .u16 (os : Nat), .int .i64 (j : Nat)] X fun e w' => e = .returned (.bool q2) ∧ Below X.heap.size X w') := fun X => by
                  have := mhas_any hos (j : Int) X
                  have e1 := HOK.out.osi j hj16 hjk
                  dsimp only at e1
                  rw [e1, hq2] at this
                  exact this
                clear hz hq hq2
                have y8 := below_holds hBj HX0.out.1
                unfold brC at y8
                go_wp2_with (refine wpList_loadH rfl 25 _ rfl _ rfl _ _ _ y8 Tryd.underlying25 rfl infoBr ?_)
                refine (HH1.out wr hBj).mono ?_
                rintro e Y1 ⟨rfl, hY1⟩
                obtain ⟨Y2, hYe2⟩ : ∃ W, World.alloc Y1 (.cells zero32 43) = W := ⟨_, rfl⟩
                obtain ⟨gz0, hgz0⟩ : ∃ gz, Y1.heap.size = gz := ⟨_, rfl⟩
                have hz0 : Holds Y2 gz0 43 (hcl zeroH).toArray := by rw [← hYe2, ← hgz0]; exact Holds.new _ _ _
                have hY2 : Below Y1.heap.size Y1 Y2 := by rw [← hYe2]; exact below_new1 _ _
                have hgl0 : wr.heap.size ≤ gz0 := by rw [← hgz0]; exact hY1.size
                rw [zero32_eq] at hYe2
                go_wp2_with (refine wpList_stH rfl _ _ rfl rfl rfl hz0 ?_; intro Y3 hk0 hOk0 hsk0; clear hsk0; refine Hid.out ?_)
                unfold Hid
                have hY3 : Below wr.heap.size wr Y3 := Only.fresh (below_new hY1 hY2) hOk0 hgl0
                have hb0 : Below X0.heap.size X0 Y3 := below_new hBj hY3
                clear hYe2 hgz0 hz0 hOk0 hgl0 hY1 hY2 y8
                have y16 := below_holds hb0 HX0.out.2.1
                unfold brC at y16
                go_wp2_with (refine wpList_loadH rfl 25 _ rfl _ rfl _ _ _ y16 Tryd.underlying25 rfl infoBr ?_)
                refine (HH2.out Y3 hb0).mono ?_
                rintro e Y4 ⟨rfl, hY4⟩
                obtain ⟨Y5, hYe5⟩ : ∃ W, World.alloc Y4 (.cells zero32 43) = W := ⟨_, rfl⟩
                obtain ⟨gz1, hgz1⟩ : ∃ gz, Y4.heap.size = gz := ⟨_, rfl⟩
                have hz1 : Holds Y5 gz1 43 (hcl zeroH).toArray := by rw [← hYe5, ← hgz1]; exact Holds.new _ _ _
                have hY5 : Below Y4.heap.size Y4 Y5 := by rw [← hYe5]; exact below_new1 _ _
                have hgl1 : Y3.heap.size ≤ gz1 := by rw [← hgz1]; exact hY4.size
                rw [zero32_eq] at hYe5
                go_wp2_with (refine wpList_stH rfl _ _ rfl rfl rfl hz1 ?_; intro Y6 hk1 hOk1 hsk1; clear hsk1; refine Hid.out ?_)
                unfold Hid
                have hY6 : Below Y3.heap.size Y3 Y6 := Only.fresh (below_new hY4 hY5) hOk1 hgl1
                have hb1 : Below X0.heap.size X0 Y6 := below_new hb0 hY6
                clear hYe5 hgz1 hz1 hOk1 hgl1 hY4 hY5 y16
                have y19 := below_holds hb1 HX0.out.2.2.1
                unfold brC at y19
                go_wp2_with (refine wpList_loadH rfl 25 _ rfl _ rfl _ _ _ y19 Tryd.underlying25 rfl infoBr ?_)
                refine (HH3.out Y6 hb1).mono ?_
                rintro e Y7 ⟨rfl, hY7⟩
                obtain ⟨Y8, hYe8⟩ : ∃ W, World.alloc Y7 (.cells zero32 43) = W := ⟨_, rfl⟩
                obtain ⟨gz2, hgz2⟩ : ∃ gz, Y7.heap.size = gz := ⟨_, rfl⟩
                have hz2 : Holds Y8 gz2 43 (hcl zeroH).toArray := by rw [← hYe8, ← hgz2]; exact Holds.new _ _ _
                have hY8 : Below Y7.heap.size Y7 Y8 := by rw [← hYe8]; exact below_new1 _ _
                have hgl2 : Y6.heap.size ≤ gz2 := by rw [← hgz2]; exact hY7.size
                rw [zero32_eq] at hYe8
                go_wp2_with (refine wpList_stH rfl _ _ rfl rfl rfl hz2 ?_; intro Y9 hk2 hOk2 hsk2; clear hsk2; refine Hid.out ?_)
                unfold Hid
                have hY9 : Below Y6.heap.size Y6 Y9 := Only.fresh (below_new hY7 hY8) hOk2 hgl2
                have hb2 : Below X0.heap.size X0 Y9 := below_new hb1 hY9
                clear hYe8 hgz2 hz2 hOk2 hgl2 hY7 hY8 y19
                have k21 := (below_holds (below_new hY6 hY9) hk0).hash
                have k23 := (below_holds hY9 hk1).hash
                have k25 := hk2.hash
                have e0 := (below_holds hb2 HX0.out.1).cell 0
                have f0 := (below_holds hb2 HX0.out.2.2.1).cell 0
                simp [brC] at e0 f0
                clear hY3 hY6 hY9 hk0 hk1 hk2 hb0 hb1 HH1 HH2 HH3
                go_wp2_with fail
                refine wp_region_class (fun W => Below Y9.heap.size Y9 W) mixedP (by kernel_rfl) (below_drewR (Below.refl _ _)) ?_
                refine wpQ_ld rfl _ _ rfl rfl (fun W hW => ldHash (k21.below hW)) ?_
                go_frame
                refine wpQ_ld rfl _ _ rfl rfl (fun W hW => ldHash (k23.below hW)) ?_
                go_frame
                refine wpQ_val rfl (.bool false) (fun w => by rw [run_neqH _ _ _ z z _ rfl rfl rfl w]; simp) ?_
                go_frame
                go_big_quiet_step (exact fun _ => rfl)
                go_big_quiet_step (exact fun _ => rfl)
                go_big_quiet_step (exact fun _ => rfl)
                refine wpQ_val rfl (.bool false) (fun w => by go_simp) ?_
                go_frame
                go_big_quiet_step (exact fun _ => rfl)
                go_big_quiet_step (exact fun _ => rfl)
                refine wpQ_ld rfl _ _ rfl rfl (fun W hW => ldHash (k21.below hW)) ?_
                go_frame
                refine wpQ_ld rfl _ _ rfl rfl (fun W hW => ldHash (k25.below hW)) ?_
                go_frame
                refine wpQ_val rfl (.bool false) (fun w => by rw [run_neqH _ _ _ z z _ rfl rfl rfl w]; simp) ?_
                go_frame
                go_big_quiet_step (exact fun _ => rfl)
                go_big_quiet_step (exact fun _ => rfl)
                go_big_quiet_step (exact fun _ => rfl)
                go_big_quiet_step (exact fun _ => rfl)
                refine wpQ_val rfl (.bool false) (fun w => by go_simp) ?_
                go_frame
                go_big_quiet_step (exact fun _ => rfl)
                go_big_quiet_step (exact fun _ => rfl)
                go_big_quiet_step (exact fun _ => rfl)
                refine wpQ_ld rfl _ _ rfl rfl (fun W hW => ldU16M (keep_cellM hW e0)) ?_
                go_frame
                go_big_quiet_step (exact fun _ => rfl)
                refine wpQ_call rfl 14 #[.int .u16 (s : Nat), .int .i64 (j : Nat)] (fun _ => by go_simp) (.bool q2) (fun W hW => (HG1.out W).mono fun e w' h => ⟨h.1, below_new hW h.2⟩) ?_
                go_frame
                go_big_quiet_step (exact fun _ => rfl)
                refine wpQ_ld rfl _ _ rfl rfl (fun W hW => ldU16M (keep_cellM hW f0)) ?_
                go_frame
                go_big_quiet_step (exact fun _ => rfl)
                refine wpQ_call rfl 14 #[.int .u16 (os : Nat), .int .i64 (j : Nat)] (fun _ => by go_simp) (.bool q2) (fun W hW => (HG2.out W).mono fun e w' h => ⟨h.1, below_new hW h.2⟩) ?_
                go_frame
                refine wpQ_val rfl (.bool false) (fun w => by go_simp) ?_
                go_frame
                go_big_quiet_step (exact fun _ => rfl)
                refine wpQuiet_nil ?_
                intro Y10 hY10
                simp only [Exit.then]
                go_at_K
                go_wp2_with fail
                go_roundw
                case measure => simp [intOf]; omega
                exact ⟨j + 1, by go_num, by omega, below_new hb2 hY10⟩
            · have hji : ¬ (j : Int) < 16 := by omega
              have HF : Hid (Below w.heap.size w wr) := below_new HV.out.1 (below_new HVX.out hBj)
              go_wp2_with fail
              go_ret
              exact ⟨rfl, by first | exact HF.out | (rw [← HV.out.2.2.2.2.2]; exact HF.out)⟩
    · go_wp2_with fail
      all_goals go_ret
      all_goals (
        have HF := below_new H4.out.1 hBV
        exact ⟨rfl, by first | exact HF | (rw [← H4.out.2.2.2.2.2.1]; exact HF)⟩)
end Go.Proofs.YtbidoangdnmjfaaDoor
