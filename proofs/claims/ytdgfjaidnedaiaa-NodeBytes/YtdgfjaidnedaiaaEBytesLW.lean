/-
  NodeBytes' walk.
-/
import Derived.Test.YtdgfjaidnedaiaaEQReadW
import Derived.Test.YtdgfjaidnedaiaaEArgs
import Derived.Test.YtdgfjaidnedaiaaEBackW
namespace Go.Proofs.Ytdgfjaidnedaiaa
open Go Go.RowKit Go.Lib

open Classical in
/-- What is read of a text: its kind, its cells, the error. -/
noncomputable def rdR (leaf : Bool) (s : List UInt8) : Bool × List Cl × Int := if h : ∃ L, IsOf leaf s L then (leaf, h.choose, 0) else (false, [], 10)
theorem rdR_len (leaf : Bool) (s : List UInt8) : (rdR leaf s).2.1.length ≤ 1013 := by
  unfold rdR
  split
  · rename_i h
    exact ok_small h.choose_spec.2.1
  · simp
theorem ReadAns.shape {w w' : World} {leaf : Bool} {s : List UInt8} {e : Ending} (h : ReadAns w w' leaf s e) : ∃ v, e = .returned (.tuple #[nodeV (rdR leaf s).1 v, .int .i64 (rdR leaf s).2.2]) ∧ CellsAt w' v (rdR leaf s).2.1 := by
  rcases h with ⟨L, v, hIs, rfl, hown⟩ | ⟨hno, rfl⟩
  · have hex : ∃ L, IsOf leaf s L := ⟨L, hIs⟩
    have e1 : rdR leaf s = (leaf, L, 0) := by
      unfold rdR
      rw [dif_pos hex, hIs.uniq hex.choose_spec]
    rw [e1]
    exact ⟨v, rfl, hown.at⟩
  · have e1 : rdR leaf s = (false, [], 10) := by
      unfold rdR
      rw [dif_neg hno]
    rw [e1]
    exact ⟨_, rfl, .inl ⟨rfl, none, 0, rfl⟩⟩
theorem cut_txt (s : ByteArray) (h : 1100 < (s.size : Int)) : ∃ l : List UInt8, s.extract 0 1100 = txt l ∧ l.length ≤ 1100 := by
  refine ⟨(s.extract 0 1100).data.toList, (txt_toList _).symm, ?_⟩
  have : (s.extract 0 1100).size ≤ 1100 := by rw [ByteArray.size_extract]; omega
  simpa using this
theorem Short.step {m i : Nat} {L : List Cl} {x : Cl} (h : Short m (L.take i)) (hx : L[i]? = some x) (h1 : x.k.size ≤ m) (h2 : x.v.size ≤ m) : Short m (L.take (i + 1)) := fun c hc => by
  rw [List.take_add_one, hx] at hc
  rcases List.mem_append.1 hc with q | q
  · exact h c q
  · rw [List.mem_singleton.1 q]; exact ⟨h1, h2⟩
set_option maxRecDepth 8000 in
set_option maxHeartbeats 4000000 in
theorem bytes_walk {w : World} {leaf : Bool} {v : Value} {L0 : List Cl} (hv : CellsAt w v L0) (s : ByteArray) : Calls Try.prog 3 #[nodeV leaf v, .string s] w fun e w' => e = .returned (.bool true) ∧ Below w.heap.size w w' := by
  have hnot := run_notE
  obtain ⟨p0, n0, c0, rfl, hn0⟩ : ∃ p0 n0 c0, v = .slice p0 n0 c0 ∧ n0 = L0.length := by
    obtain ⟨p, c, rfl⟩ := hv.shape
    exact ⟨p, _, c, rfl, rfl⟩
  have hcap := hv.cap.2
  obtain ⟨W0, g2, hW0, hg2, hB0, hb0, a0, a1⟩ := box_node w leaf (.slice p0 n0 c0)
  have haw := awake_any W0
  have HG : Hid (w.heap.size = g2) := hg2
  have HN0 : Hid (n0 = L0.length) := hn0
  clear hn0
  unfold nodeV
  go_enter Try.func3, Try.ntmps3
  go_wp2_with fail
  refine haw.mono ?_
  rintro e W1 ⟨rfl, hB1⟩
  have hBw1 := below_new hB0 hB1
  have hA := below_holds hB1 hb0
  replace a0 := keep_cell hB1 a0
  replace a1 := keep_cell hB1 a1
  have af := hA.frozen 1
  clear haw hB0 hB1 hb0 hW0 hg2
  by_cases hlong : 200 < (n0 : Int)
  · obtain ⟨pa, ca, hsa, hca⟩ := sl_to p0 (n := n0) (c := c0) 200 (by omega) hcap
    replace hsa : ∀ w, (Instr.sliceAt 22 (.slice p0 n0 c0) none (some (.int .i64 200)) none).run Try.prog w = .ok (.slice pa 200 ca) w := hsa
    obtain ⟨V, hV⟩ : ∃ V, W1.setCell ⟨g2, 1, none⟩ (.slice pa 200 ca) = V := ⟨_, rfl⟩
    have hAV : Holds V g2 24 #[.bool leaf, .slice pa 200 ca] := by rw [← hV]; exact hA.set 1 _
    have hO : Only g2 W1 V := by rw [← hV]; exact (Only.refl g2 W1).set 1 _
    have hatV : CellsAt V (.slice pa 200 ca) (L0.take 200) := hca V L0 (cells_only hv hBw1 hO (Nat.le_of_eq HG.out))
    obtain ⟨n, hn⟩ : ∃ n, n = 200 := ⟨_, rfl⟩
    obtain ⟨L, hL⟩ : ∃ L, L0.take 200 = L := ⟨_, rfl⟩
    have HN : Hid (n = L.length) := by show _ = _; rw [hn, ← hL, List.length_take]; have := HN0.out; omega
    have hn200 : n ≤ 200 := by omega
    rw [hL] at hatV
    have HBV : Hid (Below w.heap.size w V) := Only.fresh hBw1 hO (Nat.le_of_eq HG.out)
    go_wp2_with fail
    rw [← hn] at hatV hAV
    clear hV hsa hca hL hlong hcap hv hA hO hBw1 a0 a1 af
    have a0 : V.cell? ⟨g2, 0, none⟩ = some (.bool leaf) := hAV.cell 0
    have a1 : V.cell? ⟨g2, 1, none⟩ = some (.slice pa n ca) := hAV.cell 1
    clear hn
    have hni : (n : Int) ≤ 200 := by omega
    have HV : Hid (CellsAt V (.slice pa n ca) L) := hatV
    clear hatV hAV
    go_loopw [6] (fun y wr => ∃ i : Nat, y = .int .i64 (i : Nat) ∧ i ≤ n ∧ wr = V ∧ Hid (Short 400 (L.take i))) (fun y _ => n - (intOf y).toNat)
    case atStart => exact ⟨0, rfl, Nat.zero_le _, rfl, fun c hc => by simp at hc⟩
    case round =>
      obtain ⟨i, rfl, hi, hwr, HS⟩ := hrel
      subst hwr
      by_cases hin : i < n
      · have hii : (i : Int) < n := by omega
        obtain ⟨x, hx⟩ : ∃ x, L[i]? = some x := ⟨_, List.getElem?_eq_getElem (by have := HN.out; omega)⟩
        obtain ⟨b, o, rfl, hnn, d0, d1, d2, d3⟩ := HV.out.at hx
        clear hnn
        obtain ⟨xk, xv, xp, xs⟩ := x
        dsimp only at d0 d1 d2 d3
        by_cases hk : 400 < (xk.size : Int)
        · clear hx
          go_wp2_with fail
          go_ret
          exact ⟨rfl, HBV.out⟩
        · by_cases hvv : 400 < (xv.size : Int)
          · clear hx
            go_wp2_with fail
            go_ret
            exact ⟨rfl, HBV.out⟩
          · have HS2 : Hid (Short 400 (L.take (i + 1))) := HS.out.step hx (by dsimp only; omega) (by dsimp only; omega)
            clear hx
            go_wp2_with fail
            exact ⟨⟨i + 1, by go_num, by omega, trivial, HS2⟩, by simp [intOf]; omega⟩
      · have hii : ¬ (i : Int) < n := by omega
        have HSh : Hid (Short 10000 L ∧ L.length ≤ 200) := by
          have h1 := HS.out
          rw [List.take_of_length_le (by have := HN.out; omega)] at h1
          exact ⟨h1.mono (by omega), by have := HN.out; omega⟩
        obtain ⟨l, hl⟩ : ∃ l : List UInt8, (if 1100 < (s.size : Int) then s.extract 0 1100 else s) = txt l ∧ l.length ≤ 1100 := by
          split
          · rename_i h; exact cut_txt s h
          · rename_i h
            refine ⟨s.data.toList, (txt_toList s).symm, ?_⟩
            have : s.data.toList.length = s.size := by simp
            omega
        have hby := bytes_any (leaf := leaf) HV.out (by have := HSh.out.2; omega) HSh.out.1
        have hqb := fun W (hW : Below wr.heap.size wr W) => qbytes9_any (leaf := leaf) (HV.out.below hW) (by have := HSh.out.2; omega) HSh.out.1
        obtain ⟨B, er, hbv⟩ := bytV_shape leaf L
        rw [hbv] at hby hqb
        have hck := fun W (hW : Below wr.heap.size wr W) => check_any (leaf := leaf) (HV.out.below hW) (by have := HSh.out.2; omega)
        have hqk := fun W (hW : Below wr.heap.size wr W) => qcheck_any (leaf := leaf) (HV.out.below hW) (by have := HSh.out.2; omega)
        have hsz := fun W (hW : Below wr.heap.size wr W) => size_any (leaf := leaf) (HV.out.below hW) (by have := HSh.out.2; omega) HSh.out.1
        have hqz := fun W (hW : Below wr.heap.size wr W) => qsize_any (leaf := leaf) (HV.out.below hW) (by have := HSh.out.2; omega) HSh.out.1
        have hft := fun W (hW : Below wr.heap.size wr W) => fits_any (leaf := leaf) (HV.out.below hW) (by have := HSh.out.2; omega) HSh.out.1
        obtain ⟨ck, hcke⟩ : ∃ ck, chkE leaf L = ck := ⟨_, rfl⟩
        obtain ⟨T, hT⟩ : ∃ T, sizeL leaf L = T := ⟨_, rfl⟩
        rw [hcke] at hck hqk
        rw [hT] at hsz hqz hft
        have hBB : (B.toList == B.toList) = true := by simp
        have here : (er != er) = false := by simp
        have hckk : (ck != ck) = false := by simp
        have hTT : ((T : Int) != (T : Int)) = false := by simp
        obtain ⟨F, hF⟩ : ∃ F, decide (T ≤ 1013) = F := ⟨_, rfl⟩
        have hFi : decide ((T : Int) ≤ 1013) = F := by rw [← hF]; exact decide_eq_decide.2 (by omega)
        rw [hF] at hft
        have hFF : (F != F) = false := by simp
        unfold nodeV at hby hqb
        clear hbv hcke hT hF HS
        by_cases hsl : 1100 < (s.size : Int)
        · rw [if_pos hsl] at hl
          obtain ⟨hl1, hl2⟩ := hl
          go_wp2_with fail
          refine hby.mono ?_
          rintro e X1 ⟨rfl, hX1⟩
          replace a0 := keep_cell hX1 a0
          replace a1 := keep_cell hX1 a1
          replace hqb := hqb X1 hX1
          have HX1 : Hid (Below wr.heap.size wr X1) := hX1
          clear hby hX1
          go_wp2_with fail
          refine hqb.mono ?_
          rintro e X2 ⟨rfl, hX2⟩
          replace a0 := keep_cell hX2 a0
          replace a1 := keep_cell hX2 a1
          have hX12 : Below wr.heap.size wr X2 := below_new HX1.out hX2
          clear hqb hX2 HX1
          replace hck := fun W (hW : Below X2.heap.size X2 W) => hck W (below_new hX12 hW)
          replace hqk := fun W (hW : Below X2.heap.size X2 W) => hqk W (below_new hX12 hW)
          replace hsz := fun W (hW : Below X2.heap.size X2 W) => hsz W (below_new hX12 hW)
          replace hqz := fun W (hW : Below X2.heap.size X2 W) => hqz W (below_new hX12 hW)
          replace hft := fun W (hW : Below X2.heap.size X2 W) => hft W (below_new hX12 hW)
          have HX2 : Hid (Below w.heap.size w X2) := below_new HBV.out hX12
          clear hX12
          go_wp2_with fail
          refine wp_region_class (fun W => Below X2.heap.size X2 W) mixedP (by kernel_rfl) (Below.refl _ _).drew ?_
          go_big_quiet_step (exact fun _ => rfl)
          go_big_quiet_step (exact fun _ => rfl)
          refine wpQ_val rfl (.bool false) (fun _ => by go_simp) ?_
          go_frame
          go_big_quiet_step (exact fun _ => rfl)
          go_big_quiet_step (exact fun _ => rfl)
          go_big_quiet_step (exact fun _ => rfl)
          refine wpQ_val rfl (.bool false) (fun _ => by go_simp) ?_
          go_frame
          refine wpQ_val rfl (.bool false) (fun _ => by go_simp) ?_
          go_frame
          go_big_quiet_step (exact fun _ => rfl)
          refine wpQ_ld rfl _ _ rfl rfl (fun W hW => ldNode (keep_cell hW a0) (keep_cell hW a1)) ?_
          go_frame
          refine wpQ_call rfl 12 #[nodeV leaf (.slice pa n ca)] (fun _ => by go_simp) (.int .i64 ck) (fun W hW => (hck W hW).mono fun e w' h => ⟨h.1, below_new hW h.2⟩) ?_
          go_frame
          refine wpQ_ld rfl _ _ rfl rfl (fun W hW => ldNode (keep_cell hW a0) (keep_cell hW a1)) ?_
          go_frame
          refine wpQ_call rfl 13 #[nodeV leaf (.slice pa n ca)] (fun _ => by go_simp) (.int .i64 ck) (fun W hW => (hqk W hW).mono fun e w' h => ⟨h.1, below_new hW h.2⟩) ?_
          go_frame
          refine wpQ_val rfl (.bool false) (fun _ => by go_simp) ?_
          go_frame
          refine wpQ_val rfl (.bool false) (fun _ => by go_simp) ?_
          go_frame
          go_big_quiet_step (exact fun _ => rfl)
          refine wpQ_ld rfl _ _ rfl rfl (fun W hW => ldNode (keep_cell hW a0) (keep_cell hW a1)) ?_
          go_frame
          refine wpQ_call rfl 14 #[nodeV leaf (.slice pa n ca)] (fun _ => by go_simp) (.int .i64 (T : Nat)) (fun W hW => (hsz W hW).mono fun e w' h => ⟨h.1, below_new hW h.2⟩) ?_
          go_frame
          refine wpQ_ld rfl _ _ rfl rfl (fun W hW => ldNode (keep_cell hW a0) (keep_cell hW a1)) ?_
          go_frame
          refine wpQ_call rfl 15 #[nodeV leaf (.slice pa n ca)] (fun _ => by go_simp) (.int .i64 (T : Nat)) (fun W hW => (hqz W hW).mono fun e w' h => ⟨h.1, below_new hW h.2⟩) ?_
          go_frame
          refine wpQ_val rfl (.bool false) (fun _ => by go_simp) ?_
          go_frame
          refine wpQ_val rfl (.bool false) (fun _ => by go_simp) ?_
          go_frame
          go_big_quiet_step (exact fun _ => rfl)
          refine wpQ_ld rfl _ _ rfl rfl (fun W hW => ldNode (keep_cell hW a0) (keep_cell hW a1)) ?_
          go_frame
          refine wpQ_call rfl 16 #[nodeV leaf (.slice pa n ca)] (fun _ => by go_simp) (.bool F) (fun W hW => (hft W hW).mono fun e w' h => ⟨h.1, below_new hW h.2⟩) ?_
          go_frame
          refine wpQ_ld rfl _ _ rfl rfl (fun W hW => ldNode (keep_cell hW a0) (keep_cell hW a1)) ?_
          go_frame
          refine wpQ_call rfl 15 #[nodeV leaf (.slice pa n ca)] (fun _ => by go_simp) (.int .i64 (T : Nat)) (fun W hW => (hqz W hW).mono fun e w' h => ⟨h.1, below_new hW h.2⟩) ?_
          go_frame
          refine wpQ_val rfl (.bool F) (fun _ => by go_simp) ?_
          go_frame
          refine wpQ_val rfl (.bool false) (fun _ => by go_simp) ?_
          go_frame
          refine wpQ_val rfl (.bool false) (fun _ => by go_simp) ?_
          go_frame
          refine wpQuiet_nil ?_
          intro W6 hB6
          show Exit.then _ _ Exit.normal _ _
          simp only [Exit.then]
          go_at_K
          have HX3 : Hid (Below w.heap.size w W6) := below_new HX2.out hB6
          clear hB6 hck hqk hsz hqz hft hBB here hckk hTT hFi hFF HX2
          go_wp2_with fail
          rename World => Wz
          go_loopw [11] (fun y wr => ∃ k : Nat, y = .int .i64 (k : Nat) ∧ k ≤ 2 ∧ Below w.heap.size w wr) (fun y _ => 2 - (intOf y).toNat)
          case atStart => exact ⟨0, rfl, by omega, HX3.out⟩
          case round =>
            obtain ⟨k, rfl, hk, hB⟩ := hrel
            have HBk : Hid (Below w.heap.size w wr) := hB
            clear hB
            by_cases hk2 : k < 2
            · have hki : (k : Int) < 2 := by omega
              obtain ⟨kb, hkb⟩ : ∃ kb, ((k : Int) == 1) = kb := ⟨_, rfl⟩
              have hrd := fun W => read_any kb l (by omega) W
              have hqr := fun W => qread9_any kb l (by omega) W
              have hrl := rdR_len kb l
              have hsh := fun w w' e (h : ReadAns w w' kb l e) => h.shape
              obtain ⟨⟨lf, L1, e1⟩, hR⟩ : ∃ R, rdR kb l = R := ⟨_, rfl⟩
              rw [hR] at hrl
              simp only [hR] at hsh
              dsimp only at hrl
              have hee : (e1 != e1) = false := by simp
              clear hR
              go_wp2_with fail
              refine (hrd _).mono ?_
              rintro e Y1 ⟨hans, hY1⟩
              obtain ⟨v1, rfl, hat1⟩ := hsh _ _ _ hans
              obtain ⟨p1, m1, c1, rfl, hm1⟩ : ∃ p1 m1 c1, v1 = .slice p1 m1 c1 ∧ m1 = L1.length := by
                obtain ⟨p, c, rfl⟩ := hat1.shape
                exact ⟨p, _, c, rfl, rfl⟩
              obtain ⟨Y2, g12, hY2, hg12, hB2, hh2, z0, z1⟩ := box_node Y1 lf (.slice p1 m1 c1)
              have hat2 := hat1.below hB2
              have HY2 : Hid (Below w.heap.size w Y2) := below_new HBk.out (below_new hY1 hB2)
              unfold nodeV
              clear hans hm1 hat1 hY1 hB2 hh2 hrd
              go_wp2_with fail
              refine (hqr _).mono ?_
              rintro e Y3 ⟨hans3, hY3⟩
              obtain ⟨v3, rfl, hat3⟩ := hsh _ _ _ hans3
              obtain ⟨p3, m3, c3, rfl, hm3⟩ : ∃ p1 m1 c1, v3 = .slice p1 m1 c1 ∧ m1 = L1.length := by
                obtain ⟨p, c, rfl⟩ := hat3.shape
                exact ⟨p, _, c, rfl, rfl⟩
              obtain ⟨Y4, g14, hY4, hg14, hB4, hh4, y0, y1⟩ := box_node Y3 lf (.slice p3 m3 c3)
              have hB24 := below_new hY3 hB4
              replace z0 := keep_cell hB24 z0
              replace z1 := keep_cell hB24 z1
              have hsm := qsame_eq (leaf := lf) (hat2.below hB24) (hat3.below hB4) (by omega)
              have HY4 : Hid (Below w.heap.size w Y4) := below_new HY2.out hB24
              unfold nodeV at hsm ⊢
              clear hans3 hm3 hat3 hat2 hY3 hB4 hh4 hqr hB24 hsh
              go_wp2_with fail
              refine hsm.mono ?_
              rintro e Y5 ⟨rfl, hY5⟩
              have HY5 : Hid (Below w.heap.size w Y5) := below_new HY4.out hY5
              clear hsm hY5
              go_wp2_with fail
              refine ⟨⟨_, _, _, _, _, _, _, _, _, _, _, _, _, _, _, _, _, _, _, _, _, _, _, _, _, _, _, _, _, _, _, _, _, _, _, ⟨k + 1, ?_, by omega, HY5.out⟩, rfl⟩, ?_⟩
              · go_num
              · show 2 - (intOf (.int .i64 ((k : Int) + 1))).toNat < 2 - (intOf (.int .i64 (k : Int))).toNat
                simp [intOf]
                omega
            · have hki : ¬ (k : Int) < 2 := by omega
              go_wp2_with fail
              go_ret
              exact ⟨rfl, HBk.out⟩
        · rw [if_neg hsl] at hl
          obtain ⟨hl1, hl2⟩ := hl
          subst hl1
          go_wp2_with fail
          refine hby.mono ?_
          rintro e X1 ⟨rfl, hX1⟩
          replace a0 := keep_cell hX1 a0
          replace a1 := keep_cell hX1 a1
          replace hqb := hqb X1 hX1
          have HX1 : Hid (Below wr.heap.size wr X1) := hX1
          clear hby hX1
          go_wp2_with fail
          refine hqb.mono ?_
          rintro e X2 ⟨rfl, hX2⟩
          replace a0 := keep_cell hX2 a0
          replace a1 := keep_cell hX2 a1
          have hX12 : Below wr.heap.size wr X2 := below_new HX1.out hX2
          clear hqb hX2 HX1
          replace hck := fun W (hW : Below X2.heap.size X2 W) => hck W (below_new hX12 hW)
          replace hqk := fun W (hW : Below X2.heap.size X2 W) => hqk W (below_new hX12 hW)
          replace hsz := fun W (hW : Below X2.heap.size X2 W) => hsz W (below_new hX12 hW)
          replace hqz := fun W (hW : Below X2.heap.size X2 W) => hqz W (below_new hX12 hW)
          replace hft := fun W (hW : Below X2.heap.size X2 W) => hft W (below_new hX12 hW)
          have HX2 : Hid (Below w.heap.size w X2) := below_new HBV.out hX12
          clear hX12
          go_wp2_with fail
          refine wp_region_class (fun W => Below X2.heap.size X2 W) mixedP (by kernel_rfl) (Below.refl _ _).drew ?_
          go_big_quiet_step (exact fun _ => rfl)
          go_big_quiet_step (exact fun _ => rfl)
          refine wpQ_val rfl (.bool false) (fun _ => by go_simp) ?_
          go_frame
          go_big_quiet_step (exact fun _ => rfl)
          go_big_quiet_step (exact fun _ => rfl)
          go_big_quiet_step (exact fun _ => rfl)
          refine wpQ_val rfl (.bool false) (fun _ => by go_simp) ?_
          go_frame
          refine wpQ_val rfl (.bool false) (fun _ => by go_simp) ?_
          go_frame
          go_big_quiet_step (exact fun _ => rfl)
          refine wpQ_ld rfl _ _ rfl rfl (fun W hW => ldNode (keep_cell hW a0) (keep_cell hW a1)) ?_
          go_frame
          refine wpQ_call rfl 12 #[nodeV leaf (.slice pa n ca)] (fun _ => by go_simp) (.int .i64 ck) (fun W hW => (hck W hW).mono fun e w' h => ⟨h.1, below_new hW h.2⟩) ?_
          go_frame
          refine wpQ_ld rfl _ _ rfl rfl (fun W hW => ldNode (keep_cell hW a0) (keep_cell hW a1)) ?_
          go_frame
          refine wpQ_call rfl 13 #[nodeV leaf (.slice pa n ca)] (fun _ => by go_simp) (.int .i64 ck) (fun W hW => (hqk W hW).mono fun e w' h => ⟨h.1, below_new hW h.2⟩) ?_
          go_frame
          refine wpQ_val rfl (.bool false) (fun _ => by go_simp) ?_
          go_frame
          refine wpQ_val rfl (.bool false) (fun _ => by go_simp) ?_
          go_frame
          go_big_quiet_step (exact fun _ => rfl)
          refine wpQ_ld rfl _ _ rfl rfl (fun W hW => ldNode (keep_cell hW a0) (keep_cell hW a1)) ?_
          go_frame
          refine wpQ_call rfl 14 #[nodeV leaf (.slice pa n ca)] (fun _ => by go_simp) (.int .i64 (T : Nat)) (fun W hW => (hsz W hW).mono fun e w' h => ⟨h.1, below_new hW h.2⟩) ?_
          go_frame
          refine wpQ_ld rfl _ _ rfl rfl (fun W hW => ldNode (keep_cell hW a0) (keep_cell hW a1)) ?_
          go_frame
          refine wpQ_call rfl 15 #[nodeV leaf (.slice pa n ca)] (fun _ => by go_simp) (.int .i64 (T : Nat)) (fun W hW => (hqz W hW).mono fun e w' h => ⟨h.1, below_new hW h.2⟩) ?_
          go_frame
          refine wpQ_val rfl (.bool false) (fun _ => by go_simp) ?_
          go_frame
          refine wpQ_val rfl (.bool false) (fun _ => by go_simp) ?_
          go_frame
          go_big_quiet_step (exact fun _ => rfl)
          refine wpQ_ld rfl _ _ rfl rfl (fun W hW => ldNode (keep_cell hW a0) (keep_cell hW a1)) ?_
          go_frame
          refine wpQ_call rfl 16 #[nodeV leaf (.slice pa n ca)] (fun _ => by go_simp) (.bool F) (fun W hW => (hft W hW).mono fun e w' h => ⟨h.1, below_new hW h.2⟩) ?_
          go_frame
          refine wpQ_ld rfl _ _ rfl rfl (fun W hW => ldNode (keep_cell hW a0) (keep_cell hW a1)) ?_
          go_frame
          refine wpQ_call rfl 15 #[nodeV leaf (.slice pa n ca)] (fun _ => by go_simp) (.int .i64 (T : Nat)) (fun W hW => (hqz W hW).mono fun e w' h => ⟨h.1, below_new hW h.2⟩) ?_
          go_frame
          refine wpQ_val rfl (.bool F) (fun _ => by go_simp) ?_
          go_frame
          refine wpQ_val rfl (.bool false) (fun _ => by go_simp) ?_
          go_frame
          refine wpQ_val rfl (.bool false) (fun _ => by go_simp) ?_
          go_frame
          refine wpQuiet_nil ?_
          intro W6 hB6
          show Exit.then _ _ Exit.normal _ _
          simp only [Exit.then]
          go_at_K
          have HX3 : Hid (Below w.heap.size w W6) := below_new HX2.out hB6
          clear hB6 hck hqk hsz hqz hft hBB here hckk hTT hFi hFF HX2
          go_wp2_with fail
          rename World => Wz
          go_loopw [11] (fun y wr => ∃ k : Nat, y = .int .i64 (k : Nat) ∧ k ≤ 2 ∧ Below w.heap.size w wr) (fun y _ => 2 - (intOf y).toNat)
          case atStart => exact ⟨0, rfl, by omega, HX3.out⟩
          case round =>
            obtain ⟨k, rfl, hk, hB⟩ := hrel
            have HBk : Hid (Below w.heap.size w wr) := hB
            clear hB
            by_cases hk2 : k < 2
            · have hki : (k : Int) < 2 := by omega
              obtain ⟨kb, hkb⟩ : ∃ kb, ((k : Int) == 1) = kb := ⟨_, rfl⟩
              have hrd := fun W => read_any kb l (by omega) W
              have hqr := fun W => qread9_any kb l (by omega) W
              have hrl := rdR_len kb l
              have hsh := fun w w' e (h : ReadAns w w' kb l e) => h.shape
              obtain ⟨⟨lf, L1, e1⟩, hR⟩ : ∃ R, rdR kb l = R := ⟨_, rfl⟩
              rw [hR] at hrl
              simp only [hR] at hsh
              dsimp only at hrl
              have hee : (e1 != e1) = false := by simp
              clear hR
              go_wp2_with fail
              refine (hrd _).mono ?_
              rintro e Y1 ⟨hans, hY1⟩
              obtain ⟨v1, rfl, hat1⟩ := hsh _ _ _ hans
              obtain ⟨p1, m1, c1, rfl, hm1⟩ : ∃ p1 m1 c1, v1 = .slice p1 m1 c1 ∧ m1 = L1.length := by
                obtain ⟨p, c, rfl⟩ := hat1.shape
                exact ⟨p, _, c, rfl, rfl⟩
              obtain ⟨Y2, g12, hY2, hg12, hB2, hh2, z0, z1⟩ := box_node Y1 lf (.slice p1 m1 c1)
              have hat2 := hat1.below hB2
              have HY2 : Hid (Below w.heap.size w Y2) := below_new HBk.out (below_new hY1 hB2)
              unfold nodeV
              clear hans hm1 hat1 hY1 hB2 hh2 hrd
              go_wp2_with fail
              refine (hqr _).mono ?_
              rintro e Y3 ⟨hans3, hY3⟩
              obtain ⟨v3, rfl, hat3⟩ := hsh _ _ _ hans3
              obtain ⟨p3, m3, c3, rfl, hm3⟩ : ∃ p1 m1 c1, v3 = .slice p1 m1 c1 ∧ m1 = L1.length := by
                obtain ⟨p, c, rfl⟩ := hat3.shape
                exact ⟨p, _, c, rfl, rfl⟩
              obtain ⟨Y4, g14, hY4, hg14, hB4, hh4, y0, y1⟩ := box_node Y3 lf (.slice p3 m3 c3)
              have hB24 := below_new hY3 hB4
              replace z0 := keep_cell hB24 z0
              replace z1 := keep_cell hB24 z1
              have hsm := qsame_eq (leaf := lf) (hat2.below hB24) (hat3.below hB4) (by omega)
              have HY4 : Hid (Below w.heap.size w Y4) := below_new HY2.out hB24
              unfold nodeV at hsm ⊢
              clear hans3 hm3 hat3 hat2 hY3 hB4 hh4 hqr hB24 hsh
              go_wp2_with fail
              refine hsm.mono ?_
              rintro e Y5 ⟨rfl, hY5⟩
              have HY5 : Hid (Below w.heap.size w Y5) := below_new HY4.out hY5
              clear hsm hY5
              go_wp2_with fail
              refine ⟨⟨_, _, _, _, _, _, _, _, _, _, _, _, _, _, _, _, _, _, _, _, _, _, _, _, _, _, _, _, _, _, _, _, _, _, _, ⟨k + 1, ?_, by omega, HY5.out⟩, rfl⟩, ?_⟩
              · go_num
              · show 2 - (intOf (.int .i64 ((k : Int) + 1))).toNat < 2 - (intOf (.int .i64 (k : Int))).toNat
                simp [intOf]
                omega
            · have hki : ¬ (k : Int) < 2 := by omega
              go_wp2_with fail
              go_ret
              exact ⟨rfl, HBk.out⟩
  · obtain ⟨V, hV⟩ : ∃ V, V = W1 := ⟨_, rfl⟩
    obtain ⟨pa, hpa⟩ : ∃ pa, pa = p0 := ⟨_, rfl⟩
    obtain ⟨ca, hcaa⟩ : ∃ ca, ca = c0 := ⟨_, rfl⟩
    obtain ⟨n, hn⟩ : ∃ n, n = n0 := ⟨_, rfl⟩
    obtain ⟨L, hL⟩ : ∃ L, L = L0 := ⟨_, rfl⟩
    subst hV hpa hcaa hn hL
    have HN : Hid (n = L.length) := HN0
    have hn200 : n ≤ 200 := by omega
    have hatV : CellsAt V (.slice pa n ca) L := hv.below hBw1
    have hAV := hA
    have HBV : Hid (Below w.heap.size w V) := hBw1
    go_wp2_with fail
    clear hlong hcap hv hA hBw1 af
    have hni : (n : Int) ≤ 200 := by omega
    have HV : Hid (CellsAt V (.slice pa n ca) L) := hatV
    clear hatV hAV
    go_loopw [6] (fun y wr => ∃ i : Nat, y = .int .i64 (i : Nat) ∧ i ≤ n ∧ wr = V ∧ Hid (Short 400 (L.take i))) (fun y _ => n - (intOf y).toNat)
    case atStart => exact ⟨0, rfl, Nat.zero_le _, rfl, fun c hc => by simp at hc⟩
    case round =>
      obtain ⟨i, rfl, hi, hwr, HS⟩ := hrel
      subst hwr
      by_cases hin : i < n
      · have hii : (i : Int) < n := by omega
        obtain ⟨x, hx⟩ : ∃ x, L[i]? = some x := ⟨_, List.getElem?_eq_getElem (by have := HN.out; omega)⟩
        obtain ⟨b, o, rfl, hnn, d0, d1, d2, d3⟩ := HV.out.at hx
        clear hnn
        obtain ⟨xk, xv, xp, xs⟩ := x
        dsimp only at d0 d1 d2 d3
        by_cases hk : 400 < (xk.size : Int)
        · clear hx
          go_wp2_with fail
          go_ret
          exact ⟨rfl, HBV.out⟩
        · by_cases hvv : 400 < (xv.size : Int)
          · clear hx
            go_wp2_with fail
            go_ret
            exact ⟨rfl, HBV.out⟩
          · have HS2 : Hid (Short 400 (L.take (i + 1))) := HS.out.step hx (by dsimp only; omega) (by dsimp only; omega)
            clear hx
            go_wp2_with fail
            exact ⟨⟨i + 1, by go_num, by omega, trivial, HS2⟩, by simp [intOf]; omega⟩
      · have hii : ¬ (i : Int) < n := by omega
        have HSh : Hid (Short 10000 L ∧ L.length ≤ 200) := by
          have h1 := HS.out
          rw [List.take_of_length_le (by have := HN.out; omega)] at h1
          exact ⟨h1.mono (by omega), by have := HN.out; omega⟩
        obtain ⟨l, hl⟩ : ∃ l : List UInt8, (if 1100 < (s.size : Int) then s.extract 0 1100 else s) = txt l ∧ l.length ≤ 1100 := by
          split
          · rename_i h; exact cut_txt s h
          · rename_i h
            refine ⟨s.data.toList, (txt_toList s).symm, ?_⟩
            have : s.data.toList.length = s.size := by simp
            omega
        have hby := bytes_any (leaf := leaf) HV.out (by have := HSh.out.2; omega) HSh.out.1
        have hqb := fun W (hW : Below wr.heap.size wr W) => qbytes9_any (leaf := leaf) (HV.out.below hW) (by have := HSh.out.2; omega) HSh.out.1
        obtain ⟨B, er, hbv⟩ := bytV_shape leaf L
        rw [hbv] at hby hqb
        have hck := fun W (hW : Below wr.heap.size wr W) => check_any (leaf := leaf) (HV.out.below hW) (by have := HSh.out.2; omega)
        have hqk := fun W (hW : Below wr.heap.size wr W) => qcheck_any (leaf := leaf) (HV.out.below hW) (by have := HSh.out.2; omega)
        have hsz := fun W (hW : Below wr.heap.size wr W) => size_any (leaf := leaf) (HV.out.below hW) (by have := HSh.out.2; omega) HSh.out.1
        have hqz := fun W (hW : Below wr.heap.size wr W) => qsize_any (leaf := leaf) (HV.out.below hW) (by have := HSh.out.2; omega) HSh.out.1
        have hft := fun W (hW : Below wr.heap.size wr W) => fits_any (leaf := leaf) (HV.out.below hW) (by have := HSh.out.2; omega) HSh.out.1
        obtain ⟨ck, hcke⟩ : ∃ ck, chkE leaf L = ck := ⟨_, rfl⟩
        obtain ⟨T, hT⟩ : ∃ T, sizeL leaf L = T := ⟨_, rfl⟩
        rw [hcke] at hck hqk
        rw [hT] at hsz hqz hft
        have hBB : (B.toList == B.toList) = true := by simp
        have here : (er != er) = false := by simp
        have hckk : (ck != ck) = false := by simp
        have hTT : ((T : Int) != (T : Int)) = false := by simp
        obtain ⟨F, hF⟩ : ∃ F, decide (T ≤ 1013) = F := ⟨_, rfl⟩
        have hFi : decide ((T : Int) ≤ 1013) = F := by rw [← hF]; exact decide_eq_decide.2 (by omega)
        rw [hF] at hft
        have hFF : (F != F) = false := by simp
        unfold nodeV at hby hqb
        clear hbv hcke hT hF HS
        by_cases hsl : 1100 < (s.size : Int)
        · rw [if_pos hsl] at hl
          obtain ⟨hl1, hl2⟩ := hl
          go_wp2_with fail
          refine hby.mono ?_
          rintro e X1 ⟨rfl, hX1⟩
          replace a0 := keep_cell hX1 a0
          replace a1 := keep_cell hX1 a1
          replace hqb := hqb X1 hX1
          have HX1 : Hid (Below wr.heap.size wr X1) := hX1
          clear hby hX1
          go_wp2_with fail
          refine hqb.mono ?_
          rintro e X2 ⟨rfl, hX2⟩
          replace a0 := keep_cell hX2 a0
          replace a1 := keep_cell hX2 a1
          have hX12 : Below wr.heap.size wr X2 := below_new HX1.out hX2
          clear hqb hX2 HX1
          replace hck := fun W (hW : Below X2.heap.size X2 W) => hck W (below_new hX12 hW)
          replace hqk := fun W (hW : Below X2.heap.size X2 W) => hqk W (below_new hX12 hW)
          replace hsz := fun W (hW : Below X2.heap.size X2 W) => hsz W (below_new hX12 hW)
          replace hqz := fun W (hW : Below X2.heap.size X2 W) => hqz W (below_new hX12 hW)
          replace hft := fun W (hW : Below X2.heap.size X2 W) => hft W (below_new hX12 hW)
          have HX2 : Hid (Below w.heap.size w X2) := below_new HBV.out hX12
          clear hX12
          go_wp2_with fail
          refine wp_region_class (fun W => Below X2.heap.size X2 W) mixedP (by kernel_rfl) (Below.refl _ _).drew ?_
          go_big_quiet_step (exact fun _ => rfl)
          go_big_quiet_step (exact fun _ => rfl)
          refine wpQ_val rfl (.bool false) (fun _ => by go_simp) ?_
          go_frame
          go_big_quiet_step (exact fun _ => rfl)
          go_big_quiet_step (exact fun _ => rfl)
          go_big_quiet_step (exact fun _ => rfl)
          refine wpQ_val rfl (.bool false) (fun _ => by go_simp) ?_
          go_frame
          refine wpQ_val rfl (.bool false) (fun _ => by go_simp) ?_
          go_frame
          go_big_quiet_step (exact fun _ => rfl)
          refine wpQ_ld rfl _ _ rfl rfl (fun W hW => ldNode (keep_cell hW a0) (keep_cell hW a1)) ?_
          go_frame
          refine wpQ_call rfl 12 #[nodeV leaf (.slice pa n ca)] (fun _ => by go_simp) (.int .i64 ck) (fun W hW => (hck W hW).mono fun e w' h => ⟨h.1, below_new hW h.2⟩) ?_
          go_frame
          refine wpQ_ld rfl _ _ rfl rfl (fun W hW => ldNode (keep_cell hW a0) (keep_cell hW a1)) ?_
          go_frame
          refine wpQ_call rfl 13 #[nodeV leaf (.slice pa n ca)] (fun _ => by go_simp) (.int .i64 ck) (fun W hW => (hqk W hW).mono fun e w' h => ⟨h.1, below_new hW h.2⟩) ?_
          go_frame
          refine wpQ_val rfl (.bool false) (fun _ => by go_simp) ?_
          go_frame
          refine wpQ_val rfl (.bool false) (fun _ => by go_simp) ?_
          go_frame
          go_big_quiet_step (exact fun _ => rfl)
          refine wpQ_ld rfl _ _ rfl rfl (fun W hW => ldNode (keep_cell hW a0) (keep_cell hW a1)) ?_
          go_frame
          refine wpQ_call rfl 14 #[nodeV leaf (.slice pa n ca)] (fun _ => by go_simp) (.int .i64 (T : Nat)) (fun W hW => (hsz W hW).mono fun e w' h => ⟨h.1, below_new hW h.2⟩) ?_
          go_frame
          refine wpQ_ld rfl _ _ rfl rfl (fun W hW => ldNode (keep_cell hW a0) (keep_cell hW a1)) ?_
          go_frame
          refine wpQ_call rfl 15 #[nodeV leaf (.slice pa n ca)] (fun _ => by go_simp) (.int .i64 (T : Nat)) (fun W hW => (hqz W hW).mono fun e w' h => ⟨h.1, below_new hW h.2⟩) ?_
          go_frame
          refine wpQ_val rfl (.bool false) (fun _ => by go_simp) ?_
          go_frame
          refine wpQ_val rfl (.bool false) (fun _ => by go_simp) ?_
          go_frame
          go_big_quiet_step (exact fun _ => rfl)
          refine wpQ_ld rfl _ _ rfl rfl (fun W hW => ldNode (keep_cell hW a0) (keep_cell hW a1)) ?_
          go_frame
          refine wpQ_call rfl 16 #[nodeV leaf (.slice pa n ca)] (fun _ => by go_simp) (.bool F) (fun W hW => (hft W hW).mono fun e w' h => ⟨h.1, below_new hW h.2⟩) ?_
          go_frame
          refine wpQ_ld rfl _ _ rfl rfl (fun W hW => ldNode (keep_cell hW a0) (keep_cell hW a1)) ?_
          go_frame
          refine wpQ_call rfl 15 #[nodeV leaf (.slice pa n ca)] (fun _ => by go_simp) (.int .i64 (T : Nat)) (fun W hW => (hqz W hW).mono fun e w' h => ⟨h.1, below_new hW h.2⟩) ?_
          go_frame
          refine wpQ_val rfl (.bool F) (fun _ => by go_simp) ?_
          go_frame
          refine wpQ_val rfl (.bool false) (fun _ => by go_simp) ?_
          go_frame
          refine wpQ_val rfl (.bool false) (fun _ => by go_simp) ?_
          go_frame
          refine wpQuiet_nil ?_
          intro W6 hB6
          show Exit.then _ _ Exit.normal _ _
          simp only [Exit.then]
          go_at_K
          have HX3 : Hid (Below w.heap.size w W6) := below_new HX2.out hB6
          clear hB6 hck hqk hsz hqz hft hBB here hckk hTT hFi hFF HX2
          go_wp2_with fail
          rename World => Wz
          go_loopw [11] (fun y wr => ∃ k : Nat, y = .int .i64 (k : Nat) ∧ k ≤ 2 ∧ Below w.heap.size w wr) (fun y _ => 2 - (intOf y).toNat)
          case atStart => exact ⟨0, rfl, by omega, HX3.out⟩
          case round =>
            obtain ⟨k, rfl, hk, hB⟩ := hrel
            have HBk : Hid (Below w.heap.size w wr) := hB
            clear hB
            by_cases hk2 : k < 2
            · have hki : (k : Int) < 2 := by omega
              obtain ⟨kb, hkb⟩ : ∃ kb, ((k : Int) == 1) = kb := ⟨_, rfl⟩
              have hrd := fun W => read_any kb l (by omega) W
              have hqr := fun W => qread9_any kb l (by omega) W
              have hrl := rdR_len kb l
              have hsh := fun w w' e (h : ReadAns w w' kb l e) => h.shape
              obtain ⟨⟨lf, L1, e1⟩, hR⟩ : ∃ R, rdR kb l = R := ⟨_, rfl⟩
              rw [hR] at hrl
              simp only [hR] at hsh
              dsimp only at hrl
              have hee : (e1 != e1) = false := by simp
              clear hR
              go_wp2_with fail
              refine (hrd _).mono ?_
              rintro e Y1 ⟨hans, hY1⟩
              obtain ⟨v1, rfl, hat1⟩ := hsh _ _ _ hans
              obtain ⟨p1, m1, c1, rfl, hm1⟩ : ∃ p1 m1 c1, v1 = .slice p1 m1 c1 ∧ m1 = L1.length := by
                obtain ⟨p, c, rfl⟩ := hat1.shape
                exact ⟨p, _, c, rfl, rfl⟩
              obtain ⟨Y2, g12, hY2, hg12, hB2, hh2, z0, z1⟩ := box_node Y1 lf (.slice p1 m1 c1)
              have hat2 := hat1.below hB2
              have HY2 : Hid (Below w.heap.size w Y2) := below_new HBk.out (below_new hY1 hB2)
              unfold nodeV
              clear hans hm1 hat1 hY1 hB2 hh2 hrd
              go_wp2_with fail
              refine (hqr _).mono ?_
              rintro e Y3 ⟨hans3, hY3⟩
              obtain ⟨v3, rfl, hat3⟩ := hsh _ _ _ hans3
              obtain ⟨p3, m3, c3, rfl, hm3⟩ : ∃ p1 m1 c1, v3 = .slice p1 m1 c1 ∧ m1 = L1.length := by
                obtain ⟨p, c, rfl⟩ := hat3.shape
                exact ⟨p, _, c, rfl, rfl⟩
              obtain ⟨Y4, g14, hY4, hg14, hB4, hh4, y0, y1⟩ := box_node Y3 lf (.slice p3 m3 c3)
              have hB24 := below_new hY3 hB4
              replace z0 := keep_cell hB24 z0
              replace z1 := keep_cell hB24 z1
              have hsm := qsame_eq (leaf := lf) (hat2.below hB24) (hat3.below hB4) (by omega)
              have HY4 : Hid (Below w.heap.size w Y4) := below_new HY2.out hB24
              unfold nodeV at hsm ⊢
              clear hans3 hm3 hat3 hat2 hY3 hB4 hh4 hqr hB24 hsh
              go_wp2_with fail
              refine hsm.mono ?_
              rintro e Y5 ⟨rfl, hY5⟩
              have HY5 : Hid (Below w.heap.size w Y5) := below_new HY4.out hY5
              clear hsm hY5
              go_wp2_with fail
              refine ⟨⟨_, _, _, _, _, _, _, _, _, _, _, _, _, _, _, _, _, _, _, _, _, _, _, _, _, _, _, _, _, _, _, _, _, _, _, ⟨k + 1, ?_, by omega, HY5.out⟩, rfl⟩, ?_⟩
              · go_num
              · show 2 - (intOf (.int .i64 ((k : Int) + 1))).toNat < 2 - (intOf (.int .i64 (k : Int))).toNat
                simp [intOf]
                omega
            · have hki : ¬ (k : Int) < 2 := by omega
              go_wp2_with fail
              go_ret
              exact ⟨rfl, HBk.out⟩
        · rw [if_neg hsl] at hl
          obtain ⟨hl1, hl2⟩ := hl
          subst hl1
          go_wp2_with fail
          refine hby.mono ?_
          rintro e X1 ⟨rfl, hX1⟩
          replace a0 := keep_cell hX1 a0
          replace a1 := keep_cell hX1 a1
          replace hqb := hqb X1 hX1
          have HX1 : Hid (Below wr.heap.size wr X1) := hX1
          clear hby hX1
          go_wp2_with fail
          refine hqb.mono ?_
          rintro e X2 ⟨rfl, hX2⟩
          replace a0 := keep_cell hX2 a0
          replace a1 := keep_cell hX2 a1
          have hX12 : Below wr.heap.size wr X2 := below_new HX1.out hX2
          clear hqb hX2 HX1
          replace hck := fun W (hW : Below X2.heap.size X2 W) => hck W (below_new hX12 hW)
          replace hqk := fun W (hW : Below X2.heap.size X2 W) => hqk W (below_new hX12 hW)
          replace hsz := fun W (hW : Below X2.heap.size X2 W) => hsz W (below_new hX12 hW)
          replace hqz := fun W (hW : Below X2.heap.size X2 W) => hqz W (below_new hX12 hW)
          replace hft := fun W (hW : Below X2.heap.size X2 W) => hft W (below_new hX12 hW)
          have HX2 : Hid (Below w.heap.size w X2) := below_new HBV.out hX12
          clear hX12
          go_wp2_with fail
          refine wp_region_class (fun W => Below X2.heap.size X2 W) mixedP (by kernel_rfl) (Below.refl _ _).drew ?_
          go_big_quiet_step (exact fun _ => rfl)
          go_big_quiet_step (exact fun _ => rfl)
          refine wpQ_val rfl (.bool false) (fun _ => by go_simp) ?_
          go_frame
          go_big_quiet_step (exact fun _ => rfl)
          go_big_quiet_step (exact fun _ => rfl)
          go_big_quiet_step (exact fun _ => rfl)
          refine wpQ_val rfl (.bool false) (fun _ => by go_simp) ?_
          go_frame
          refine wpQ_val rfl (.bool false) (fun _ => by go_simp) ?_
          go_frame
          go_big_quiet_step (exact fun _ => rfl)
          refine wpQ_ld rfl _ _ rfl rfl (fun W hW => ldNode (keep_cell hW a0) (keep_cell hW a1)) ?_
          go_frame
          refine wpQ_call rfl 12 #[nodeV leaf (.slice pa n ca)] (fun _ => by go_simp) (.int .i64 ck) (fun W hW => (hck W hW).mono fun e w' h => ⟨h.1, below_new hW h.2⟩) ?_
          go_frame
          refine wpQ_ld rfl _ _ rfl rfl (fun W hW => ldNode (keep_cell hW a0) (keep_cell hW a1)) ?_
          go_frame
          refine wpQ_call rfl 13 #[nodeV leaf (.slice pa n ca)] (fun _ => by go_simp) (.int .i64 ck) (fun W hW => (hqk W hW).mono fun e w' h => ⟨h.1, below_new hW h.2⟩) ?_
          go_frame
          refine wpQ_val rfl (.bool false) (fun _ => by go_simp) ?_
          go_frame
          refine wpQ_val rfl (.bool false) (fun _ => by go_simp) ?_
          go_frame
          go_big_quiet_step (exact fun _ => rfl)
          refine wpQ_ld rfl _ _ rfl rfl (fun W hW => ldNode (keep_cell hW a0) (keep_cell hW a1)) ?_
          go_frame
          refine wpQ_call rfl 14 #[nodeV leaf (.slice pa n ca)] (fun _ => by go_simp) (.int .i64 (T : Nat)) (fun W hW => (hsz W hW).mono fun e w' h => ⟨h.1, below_new hW h.2⟩) ?_
          go_frame
          refine wpQ_ld rfl _ _ rfl rfl (fun W hW => ldNode (keep_cell hW a0) (keep_cell hW a1)) ?_
          go_frame
          refine wpQ_call rfl 15 #[nodeV leaf (.slice pa n ca)] (fun _ => by go_simp) (.int .i64 (T : Nat)) (fun W hW => (hqz W hW).mono fun e w' h => ⟨h.1, below_new hW h.2⟩) ?_
          go_frame
          refine wpQ_val rfl (.bool false) (fun _ => by go_simp) ?_
          go_frame
          refine wpQ_val rfl (.bool false) (fun _ => by go_simp) ?_
          go_frame
          go_big_quiet_step (exact fun _ => rfl)
          refine wpQ_ld rfl _ _ rfl rfl (fun W hW => ldNode (keep_cell hW a0) (keep_cell hW a1)) ?_
          go_frame
          refine wpQ_call rfl 16 #[nodeV leaf (.slice pa n ca)] (fun _ => by go_simp) (.bool F) (fun W hW => (hft W hW).mono fun e w' h => ⟨h.1, below_new hW h.2⟩) ?_
          go_frame
          refine wpQ_ld rfl _ _ rfl rfl (fun W hW => ldNode (keep_cell hW a0) (keep_cell hW a1)) ?_
          go_frame
          refine wpQ_call rfl 15 #[nodeV leaf (.slice pa n ca)] (fun _ => by go_simp) (.int .i64 (T : Nat)) (fun W hW => (hqz W hW).mono fun e w' h => ⟨h.1, below_new hW h.2⟩) ?_
          go_frame
          refine wpQ_val rfl (.bool F) (fun _ => by go_simp) ?_
          go_frame
          refine wpQ_val rfl (.bool false) (fun _ => by go_simp) ?_
          go_frame
          refine wpQ_val rfl (.bool false) (fun _ => by go_simp) ?_
          go_frame
          refine wpQuiet_nil ?_
          intro W6 hB6
          show Exit.then _ _ Exit.normal _ _
          simp only [Exit.then]
          go_at_K
          have HX3 : Hid (Below w.heap.size w W6) := below_new HX2.out hB6
          clear hB6 hck hqk hsz hqz hft hBB here hckk hTT hFi hFF HX2
          go_wp2_with fail
          rename World => Wz
          go_loopw [11] (fun y wr => ∃ k : Nat, y = .int .i64 (k : Nat) ∧ k ≤ 2 ∧ Below w.heap.size w wr) (fun y _ => 2 - (intOf y).toNat)
          case atStart => exact ⟨0, rfl, by omega, HX3.out⟩
          case round =>
            obtain ⟨k, rfl, hk, hB⟩ := hrel
            have HBk : Hid (Below w.heap.size w wr) := hB
            clear hB
            by_cases hk2 : k < 2
            · have hki : (k : Int) < 2 := by omega
              obtain ⟨kb, hkb⟩ : ∃ kb, ((k : Int) == 1) = kb := ⟨_, rfl⟩
              have hrd := fun W => read_any kb l (by omega) W
              have hqr := fun W => qread9_any kb l (by omega) W
              have hrl := rdR_len kb l
              have hsh := fun w w' e (h : ReadAns w w' kb l e) => h.shape
              obtain ⟨⟨lf, L1, e1⟩, hR⟩ : ∃ R, rdR kb l = R := ⟨_, rfl⟩
              rw [hR] at hrl
              simp only [hR] at hsh
              dsimp only at hrl
              have hee : (e1 != e1) = false := by simp
              clear hR
              go_wp2_with fail
              refine (hrd _).mono ?_
              rintro e Y1 ⟨hans, hY1⟩
              obtain ⟨v1, rfl, hat1⟩ := hsh _ _ _ hans
              obtain ⟨p1, m1, c1, rfl, hm1⟩ : ∃ p1 m1 c1, v1 = .slice p1 m1 c1 ∧ m1 = L1.length := by
                obtain ⟨p, c, rfl⟩ := hat1.shape
                exact ⟨p, _, c, rfl, rfl⟩
              obtain ⟨Y2, g12, hY2, hg12, hB2, hh2, z0, z1⟩ := box_node Y1 lf (.slice p1 m1 c1)
              have hat2 := hat1.below hB2
              have HY2 : Hid (Below w.heap.size w Y2) := below_new HBk.out (below_new hY1 hB2)
              unfold nodeV
              clear hans hm1 hat1 hY1 hB2 hh2 hrd
              go_wp2_with fail
              refine (hqr _).mono ?_
              rintro e Y3 ⟨hans3, hY3⟩
              obtain ⟨v3, rfl, hat3⟩ := hsh _ _ _ hans3
              obtain ⟨p3, m3, c3, rfl, hm3⟩ : ∃ p1 m1 c1, v3 = .slice p1 m1 c1 ∧ m1 = L1.length := by
                obtain ⟨p, c, rfl⟩ := hat3.shape
                exact ⟨p, _, c, rfl, rfl⟩
              obtain ⟨Y4, g14, hY4, hg14, hB4, hh4, y0, y1⟩ := box_node Y3 lf (.slice p3 m3 c3)
              have hB24 := below_new hY3 hB4
              replace z0 := keep_cell hB24 z0
              replace z1 := keep_cell hB24 z1
              have hsm := qsame_eq (leaf := lf) (hat2.below hB24) (hat3.below hB4) (by omega)
              have HY4 : Hid (Below w.heap.size w Y4) := below_new HY2.out hB24
              unfold nodeV at hsm ⊢
              clear hans3 hm3 hat3 hat2 hY3 hB4 hh4 hqr hB24 hsh
              go_wp2_with fail
              refine hsm.mono ?_
              rintro e Y5 ⟨rfl, hY5⟩
              have HY5 : Hid (Below w.heap.size w Y5) := below_new HY4.out hY5
              clear hsm hY5
              go_wp2_with fail
              refine ⟨⟨_, _, _, _, _, _, _, _, _, _, _, _, _, _, _, _, _, _, _, _, _, _, _, _, _, _, _, _, _, _, _, _, _, _, _, ⟨k + 1, ?_, by omega, HY5.out⟩, rfl⟩, ?_⟩
              · go_num
              · show 2 - (intOf (.int .i64 ((k : Int) + 1))).toNat < 2 - (intOf (.int .i64 (k : Int))).toNat
                simp [intOf]
                omega
            · have hki : ¬ (k : Int) < 2 := by omega
              go_wp2_with fail
              go_ret
              exact ⟨rfl, HBk.out⟩
end Go.Proofs.Ytdgfjaidnedaiaa
