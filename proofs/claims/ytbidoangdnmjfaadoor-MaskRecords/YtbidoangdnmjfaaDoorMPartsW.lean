/-
  MaskParts: the law's walk.
-/
import Derived.Test.YtbidoangdnmjfaaDoorMQWithW
import Derived.Test.YtbidoangdnmjfaaDoorMNoW
import Derived.Test.YtbidoangdnmjfaaDoorMSameW
import Derived.Test.YtbidoangdnmjfaaDoorMAwake
namespace Go.Proofs.YtbidoangdnmjfaaDoor
open Go Go.RowKit

section
variable {ops : Array Oper} {rest : List Oper} {op : Oper} {a : Act} {Q : Exit → Act → World → Prop} {w : World}
theorem run_eqlH (ty : TypeId) (x y : Operand) (u v : H32) (ρ : Operand → Value) (hx : ρ x = hla u) (hy : ρ y = hla v) (ho : op.op = .binOp .eql 43 x y ty) (w : World) : (execOp ρ op).run Tryd.prog w = .ok (.value (.bool (decide (u = v)))) w := by
  unfold execOp
  have h1 := run_eqGuard_agg (P := Tryd.prog) w .eql 43 x y (hcl u).toArray (hcl v).toArray guardSumM
  have h2 := run_eql_struct (P := Tryd.prog) w 43 (hcl u).toArray (hcl v).toArray
  have h3 := eql_hash w u v
  unfold hla at h3 hx hy
  rw [h3] at h2
  simp only [ho, hx, hy, Sem.run_bind, Sem.run_pure, h1, h2, Result.andThen_ok]
theorem wpList_eqlG (hw : Region.wanted op (yielded ops a.tmps) = true) (ty : TypeId) (x y : Operand) (ho : op.op = .binOp .eql 43 x y ty) {u v : H32} (hx : a.eval x = hla u) (hy : a.eval y = hla v)
    (h : wpList Tryd.prog ops Q rest (a.put op.dst (.bool (decide (u = v)))) w) : wpList Tryd.prog ops Q (op :: rest) a w :=
  wpList_step fun _ hK => by
    rw [if_pos hw]
    unfold Oper.wp
    rw [run_eqlH ty x y u v a.eval hx hy ho w]
    exact hK _ _ h
theorem wpList_ldG (hw : Region.wanted op (yielded ops a.tmps) = true) (x : Operand) (ho : op.op = .load 43 x) {b o : Nat} (hx : a.eval x = .pointer (some ⟨b, o, none⟩)) {y : H32} (hh : HashAt w b o y)
    (h : wpList Tryd.prog ops Q rest (a.put op.dst (hla y)) w) : wpList Tryd.prog ops Q (op :: rest) a w :=
  wpList_step fun _ hK => by
    rw [if_pos hw]
    unfold Oper.wp execOp
    simp only [ho, hx, Instr.loadAt, Instr.sureAddr, Sem.run_bind, Sem.run_pure, Result.andThen_ok, ldHash hh]
    exact hK _ _ h
end
theorem v_valC {ops : Array Oper} {C : World → Prop} {Q : Exit → Act → World → Prop} {t : PlanV} {k : Nat} {op : Oper} {a : Act} {w : World} (d : Option Tmp) (hdd : op.dst = d) (hk : ops[k]?.getD default = op) (hw : Region.wanted op (yielded ops a.tmps) = true) (v : Value) (hv : ∀ w, C w → (execOp a.eval op).run Tryd.prog w = .ok (.value v) w) (h : wpV Tryd.prog ops C Q t (a.put d v) w) : wpV Tryd.prog ops C Q (.take k t) a w :=
  ⟨by rw [hk]; exact hw, v, fun w' hC => by rw [hk]; exact hv w' hC, by rw [hk, hdd]; exact h⟩
theorem HashAt.nePart {w : World} {b o g : Nat} {x : H32} {ty : TypeId} {q : Bool} {r : ByteArray} (hh : HashAt w b o x) (hg : Holds w g ty #[.bool q, .string r]) : b ≠ g := by
  rintro rfl
  have h0 := hh 0 (by decide)
  rw [Nat.add_zero, hg.cell o] at h0
  obtain ⟨z, hz⟩ : ∃ z, (hcl x)[0]? = some (.int .u8 z) := by
    have hl : 0 < x.1.length := by rw [x.2]; decide
    refine ⟨((x.1[0]'hl).toNat : Int), ?_⟩
    unfold hcl
    rw [List.getElem?_map, List.getElem?_eq_getElem hl]
    rfl
  rw [hz] at h0
  match o with
  | 0 => simp at h0
  | 1 => simp at h0
  | k + 2 => simp at h0
theorem HashesAt.part {w w' : World} {v : Value} {L : List H32} {g : Nat} {ty : TypeId} {q : Bool} {r : ByteArray} (hh : HashesAt w v L) (hO : Only g w w') (hg : Holds w g ty #[.bool q, .string r]) : HashesAt w' v L := by
  rcases hh with q | ⟨b, o, c', h1, h2, h3⟩
  · exact .inl q
  · refine .inr ⟨b, o, c', h1, h2, fun i x hx j hj => ?_⟩
    have ha := h3 i x hx
    have hne := ha.nePart hg
    have hb := hO.block b ha.lt hne
    have := ha j hj
    unfold World.cell? at this ⊢
    simp only [hb]
    exact this
/-- Both have the same. -/
theorem withs {s t m : Nat} {L : List H32} (hs : s < 65536) (ht : t < 65536) (hm : m < 65536) (hL : L.length = cntM m) (n : Int) (tree : Bool) (r : ByteArray) :
    ∃ (s2 t2 m2 : Nat) (L2 : List H32), L2.length ≤ 1000 ∧ (∀ W v, HashesAt W v L → DbAt W → Calls Tryd.prog 25 #[brV s t m v, .int .i64 n, .bool tree, .string r] W fun e w' => ∃ v', e = .returned (brV s2 t2 m2 v') ∧ HashesAt w' v' L2 ∧ Below W.heap.size W w') ∧
      (∀ W v, HashesAt W v L → Calls Tryd.prog 26 #[brV s t m v, .int .i64 n, .bool tree, .string r] W fun e w' => ∃ v', e = .returned (brV s2 t2 m2 v') ∧ HashesAt w' v' L2 ∧ Below W.heap.size W w') := by
  by_cases hn : 0 ≤ n ∧ n < 16
  · obtain ⟨k, rfl⟩ : ∃ k : Nat, n = k := ⟨n.toNat, by omega⟩
    have hk : k < 16 := by omega
    have hb : (⟨s, t, m, L⟩ : Br).fits := ⟨hs, ht, hm, hL⟩
    refine ⟨(withB ⟨s, t, m, L⟩ k tree r).s, (withB ⟨s, t, m, L⟩ k tree r).t, (withB ⟨s, t, m, L⟩ k tree r).h, (withB ⟨s, t, m, L⟩ k tree r).L, ?_, fun W v hv hT => mwith_any hb hk hv tree r hT, fun W v hv => qwith_any hb hk hv tree r⟩
    have h1 := (withB_fits hb hk tree r).2.2.2
    rw [h1]
    exact Nat.le_trans (cntM_le _) (by decide)
  · have hl : L.length ≤ 16 := by rw [hL]; exact cntM_le m
    refine ⟨s, t, m, L, by omega, fun W v hv _ => mwith_no n hn hv (by omega) tree r, fun W v hv => ?_⟩
    refine (qwith_no (w := W) n hn hv tree r).mono ?_
    rintro e w' ⟨rfl, h1, h2⟩
    exact ⟨v, rfl, h1, h2⟩
set_option maxRecDepth 8000 in
set_option maxHeartbeats 4000000 in
theorem parts_walk {w : World} {s t m : Nat} {u : Value} {L : List H32} {n : Int} (tree : Bool) (ref : ByteArray) (hs : s < 65536) (ht : t < 65536) (hm : m < 65536) (hv : HashesAt w u L) (hl : L.length ≤ 9223372036854775807) (hr : ref.size ≤ 9223372036854775807) (hT : DbAt w) :
    Calls Tryd.prog 4 #[brV s t m u, .int .i64 n, .agg #[.bool tree, .string ref]] w fun e w' => e = .returned (.bool true) ∧ Below w.heap.size w w' := by
  obtain ⟨p0, c0, rfl⟩ := hv.shape
  obtain ⟨n0, hn0⟩ : ∃ k, L.length = k := ⟨_, rfl⟩
  have HL : Hid (L.length ≤ 9223372036854775807) := hl
  rw [hn0] at hv ⊢
  clear hn0 hl
  obtain ⟨W0, g, hW0, hg, hB0, hb0, _, _, _, _⟩ := box_br w s t m (.slice p0 n0 c0)
  obtain ⟨W1, hW1⟩ : ∃ W1, World.alloc W0 (.cells #[.bool tree, .string ref] 41) = W1 := ⟨_, rfl⟩
  obtain ⟨gp, hgp⟩ : ∃ gp, W0.heap.size = gp := ⟨_, rfl⟩
  have hp1 : Holds W1 gp 41 #[.bool tree, .string ref] := by rw [← hW1, ← hgp]; exact Holds.new _ _ _
  have hB1 : Below W0.heap.size W0 W1 := by rw [← hW1]; exact below_new1 _ _
  have hgl : g < gp := by rw [← hgp]; exact hb0.lt
  have HG : Hid (w.heap.size = g ∧ g < gp) := ⟨hg, hgl⟩
  have HW : Hid (Below w.heap.size w W1 ∧ Holds W1 g 25 (brC s t m (.slice p0 n0 c0)) ∧ Holds W1 gp 41 #[.bool tree, .string ref] ∧ HashesAt W1 (.slice p0 n0 c0) L ∧ DbAt W1) := ⟨below_new hB0 hB1, below_holds hB1 hb0, hp1, (hv.below hB0).below hB1, (hT.below hB0).below hB1⟩
  have hLf := fitL_len L (cntM m)
  clear hB0 hb0 hB1 hp1 hv hT
  unfold brV
  go_enter Tryd.func4, Tryd.ntmps4
  go_wp2_with fail
  refine (awake_any HW.out.2.2.2.2).mono ?_
  rintro e w1 ⟨rfl, hB1⟩
  have hb1 := below_holds hB1 HW.out.2.1
  have hft := fit_any (s := s) (t := t) hm (HW.out.2.2.2.1.below hB1) HL.out
  unfold brC at hb1
  unfold brV at hft
  have H1 : Hid (Below w.heap.size w w1 ∧ Holds w1 gp 41 #[.bool tree, .string ref] ∧ DbAt w1) := ⟨below_new HW.out.1 hB1, below_holds hB1 HW.out.2.2.1, HW.out.2.2.2.2.below hB1⟩
  clear hB1 HW hW0 hW1 hg hgp
  go_wp2_with (refine wpList_loadH rfl 25 _ rfl _ rfl _ _ _ hb1 Tryd.underlying25 rfl infoBr ?_)
  refine hft.mono ?_
  rintro e w2 ⟨v2, rfl, hv2, hB2⟩
  generalize fitL L (cntM m) = Lf at hv2 hLf
  obtain ⟨p2, c2, rfl⟩ := hv2.shape
  obtain ⟨n2, hn2⟩ : ∃ k, Lf.length = k := ⟨_, rfl⟩
  have HLF : Hid (Lf.length = cntM m) := hLf
  rw [hn2] at hv2 ⊢
  clear hn2 hLf
  obtain ⟨W3, g8, hW3, hg8, hB3, hz3⟩ := box_zero w2
  have hp2 := below_holds hB2 H1.out.2.1
  have hgl8 : gp < g8 := by rw [← hg8]; exact hp2.lt
  have H3 : Hid (Below w.heap.size w W3 ∧ Holds W3 gp 41 #[.bool tree, .string ref] ∧ DbAt W3 ∧ HashesAt W3 (.slice p2 n2 c2) Lf ∧ w.heap.size ≤ g8) := ⟨below_new (below_new H1.out.1 hB2) hB3, below_holds hB3 hp2, (H1.out.2.2.below hB2).below hB3, hv2.below hB3, by have := HG.out; omega⟩
  clear hft hB2 hB3 hb1 hp2 hv2 H1
  go_wp2_with (refine wpList_storeH rfl 25 _ _ rfl _ _ rfl rfl _ _ hz3 infoBr rfl (by simp [brC, Value.oneCell']) ?_; intro W4 h4 hO4 hs4; refine Hid.out ?_)
  unfold Hid
  have hp4 : Holds W4 gp 41 #[.bool tree, .string ref] := hO4.holds H3.out.2.1 (by omega)
  have HF4 : Hid (Below w.heap.size w W4 ∧ HashesAt W4 (.slice p2 n2 c2) Lf ∧ DbAt W4) := ⟨Only.fresh H3.out.1 hO4 H3.out.2.2.2.2, H3.out.2.2.2.1.only hO4 hz3, H3.out.2.2.1.only hO4 (by have := HG.out; show 0 ≠ _; omega)⟩
  have c41 := hp4.cell 1
  have f41 := hp4.frozen 1
  have H4 : Hid (Holds W4 g8 25 (brC s t m (.slice p2 n2 c2))) := h4
  clear hz3 hO4 hs4 H3 hW3 hg8 h4
  by_cases h40 : 40 < ref.size
  · have h40i : (40 : Int) < ref.size := by omega
    obtain ⟨r, hr'⟩ : ∃ r, ref.extract 0 40 = r := ⟨_, rfl⟩
    obtain ⟨W5, hW5⟩ : ∃ W5, W4.setCell ⟨gp, 1, none⟩ (.string r) = W5 := ⟨_, rfl⟩
    have hp5 : Holds W5 gp 41 #[.bool tree, .string r] := by rw [← hW5]; exact (hp4.set 1 _).congr rfl
    have hO5 : Only gp W4 W5 := by rw [← hW5]; exact (Only.refl gp W4).set 1 _
    have H5 : Hid (Below w.heap.size w W5 ∧ Holds W5 g8 25 (brC s t m (.slice p2 n2 c2)) ∧ Holds W5 gp 41 #[.bool tree, .string r] ∧ HashesAt W5 (.slice p2 n2 c2) Lf ∧ DbAt W5) :=
      ⟨Only.fresh HF4.out.1 hO5 (by have := HG.out; omega), hO5.holds H4.out (by omega), hp5, HF4.out.2.1.part hO5 hp4, HF4.out.2.2.only hO5 (by have := HG.out; show 0 ≠ _; omega)⟩
    have hb5 := H5.out.2.1
    unfold brC at hb5
    clear hp4 hp5 hO5 HF4 H4
    go_wp2_with (refine wpList_loadH rfl 25 _ rfl _ rfl _ _ _ hb5 Tryd.underlying25 rfl infoBr ?_)
    have hmh := mhash_any (s := s) (t := t) hm H5.out.2.2.2.1 HLF.out n H5.out.2.2.2.2
    have hqh0 := fun W (hW : HashesAt W (.slice p2 n2 c2) Lf) => qhash_any (s := s) (t := t) hm hW HLF.out n
    obtain ⟨x, hx⟩ : ∃ x, hashX m Lf n = x := ⟨_, rfl⟩
    obtain ⟨bh, hbh⟩ : ∃ bh, hasM m n = bh := ⟨_, rfl⟩
    rw [hx, hbh] at hmh
    simp only [hx, hbh] at hqh0
    unfold brV at hmh hqh0
    clear hx hbh hb5
    refine hmh.mono ?_
    rintro e w6 ⟨rfl, hB6⟩
    obtain ⟨W7, hW7⟩ : ∃ W, World.alloc w6 (.cells zero32 43) = W := ⟨_, rfl⟩
    obtain ⟨g9, hg9⟩ : ∃ gz, w6.heap.size = gz := ⟨_, rfl⟩
    have h7 : Holds W7 g9 43 (hcl zeroH).toArray := by rw [← hW7, ← hg9]; exact Holds.new _ _ _
    have hB7 : Below W5.heap.size W5 W7 := below_new hB6 (by rw [← hW7]; exact below_new1 _ _)
    have HG9 : Hid (W5.heap.size ≤ g9) := by show _ ≤ _; rw [← hg9]; exact hB6.size
    rw [zero32_eq] at hW7
    clear hmh hB6
    go_wp2_with (refine wpList_stH rfl _ _ rfl rfl rfl h7 ?_; intro W8 h8 hO8 hs8; clear hs8; refine Hid.out ?_)
    unfold Hid
    have hB8 : Below W5.heap.size W5 W8 := Only.fresh hB7 hO8 HG9.out
    have hb8 := below_holds hB8 H5.out.2.1
    unfold brC at hb8
    have hqh := hqh0 W8 (H5.out.2.2.2.1.below hB8)
    have H8 : Hid (Below W5.heap.size W5 W8 ∧ Holds W8 g9 43 (hcl x).toArray) := ⟨hB8, h8⟩
    clear hB8 h8 hO8 hB7 h7 hW7 hg9 hqh0
    go_wp2_with (refine wpList_loadH rfl 25 _ rfl _ rfl _ _ _ hb8 Tryd.underlying25 rfl infoBr ?_)
    refine hqh.mono ?_
    rintro e w9 ⟨rfl, hB9⟩
    obtain ⟨W10, hW10⟩ : ∃ W, World.alloc w9 (.cells zero32 43) = W := ⟨_, rfl⟩
    obtain ⟨g11, hg11⟩ : ∃ gz, w9.heap.size = gz := ⟨_, rfl⟩
    have h10 : Holds W10 g11 43 (hcl zeroH).toArray := by rw [← hW10, ← hg11]; exact Holds.new _ _ _
    have hB10 : Below W8.heap.size W8 W10 := below_new hB9 (by rw [← hW10]; exact below_new1 _ _)
    have HG11 : Hid (W8.heap.size ≤ g11) := by show _ ≤ _; rw [← hg11]; exact hB9.size
    rw [zero32_eq] at hW10
    clear hqh hB9 hb8
    go_wp2_with (refine wpList_stH rfl _ _ rfl rfl rfl h10 ?_; intro W11 h11 hO11 hs11; clear hs11; refine Hid.out ?_)
    unfold Hid
    have hB11 : Below W8.heap.size W8 W11 := Only.fresh hB10 hO11 HG11.out
    have hBB : Below W5.heap.size W5 W11 := below_new H8.out.1 hB11
    have H11 : Hid (Below w.heap.size w W11 ∧ Holds W11 g8 25 (brC s t m (.slice p2 n2 c2)) ∧ Holds W11 gp 41 #[.bool tree, .string r] ∧ HashesAt W11 (.slice p2 n2 c2) Lf ∧ DbAt W11 ∧ Holds W11 g9 43 (hcl x).toArray ∧ Holds W11 g11 43 (hcl x).toArray) :=
      ⟨below_new H5.out.1 hBB, below_holds hBB H5.out.2.1, below_holds hBB H5.out.2.2.1, H5.out.2.2.2.1.below hBB, H5.out.2.2.2.2.below hBB, below_holds hB11 H8.out.2, h11⟩
    clear hB11 hBB h11 hO11 hB10 h10 hW10 hg11 H8 H5
    obtain ⟨s2, t2, m2, L2, hL2, hMW, hQW⟩ := withs hs ht hm HLF.out n tree r
    unfold brV at hMW hQW
    go_wp2_with fail
    refine wp_region_v (fun W => Below W11.heap.size W11 W) (.take 0 (.take 1 (.take 2 (.take 3 (.take 4 (.take 5 (.take 7 (.take 8 (.take 9 (.take 10 (.take 11 (.take 12 (.one 6 (.one 13 (.one 14 (.one 15 .nil)))))))))))))))) mixedP (by kernel_rfl) rfl (by kernel_rfl) (fun _ _ _ d _ h => by cases d <;> exact h) (below_drewR (Below.refl _ _)) ?_
    refine v_ld (some 37) rfl rfl rfl _ _ rfl rfl (fun W hW => ldBr (below_holds hW H11.out.2.1)) ?_
    go_frame
    refine v_val (some 38) rfl rfl rfl (.int .i64 n) (fun _ => by go_simp) ?_
    go_frame
    refine v_val (some 39) rfl rfl rfl (.pointer (some ⟨gp, 0, none⟩)) (fun _ => by go_simp) ?_
    go_frame
    refine v_valC (some 40) rfl rfl rfl (.bool tree) (fun W hC => by have hcv := (below_holds hC H11.out.2.2.1).cell 0; go_simp) ?_
    go_frame
    refine v_val (some 41) rfl rfl rfl (.pointer (some ⟨gp, 1, none⟩)) (fun _ => by go_simp) ?_
    go_frame
    refine v_valC (some 42) rfl rfl rfl (.string r) (fun W hC => by have hcv := (below_holds hC H11.out.2.2.1).cell 1; go_simp) ?_
    go_frame
    refine v_ld (some 44) rfl rfl rfl _ _ rfl rfl (fun W hW => ldBr (below_holds hW H11.out.2.1)) ?_
    go_frame
    refine v_val (some 45) rfl rfl rfl (.int .i64 n) (fun _ => by go_simp) ?_
    go_frame
    refine v_val (some 46) rfl rfl rfl (.pointer (some ⟨gp, 0, none⟩)) (fun _ => by go_simp) ?_
    go_frame
    refine v_valC (some 47) rfl rfl rfl (.bool tree) (fun W hC => by have hcv := (below_holds hC H11.out.2.2.1).cell 0; go_simp) ?_
    go_frame
    refine v_val (some 48) rfl rfl rfl (.pointer (some ⟨gp, 1, none⟩)) (fun _ => by go_simp) ?_
    go_frame
    refine v_valC (some 49) rfl rfl rfl (.string r) (fun W hC => by have hcv := (below_holds hC H11.out.2.2.1).cell 1; go_simp) ?_
    go_frame
    have hBd : Below W11.heap.size W11 W11.drew := below_drewR (Below.refl _ _)
    refine op_call (some 43) rfl rfl rfl (f := 25) (vs := #[.agg #[.int .u16 (s : Nat), .int .u16 (t : Nat), .int .u16 (m : Nat), .slice p2 n2 c2], .int .i64 n, .bool tree, .string r]) (by go_simp) ?_
    refine (hMW W11.drew _ (H11.out.2.2.2.1.below hBd) (H11.out.2.2.2.2.1.below hBd)).mono ?_
    rintro e wA ⟨vA, rfl, hvA, hBA⟩
    have hA := below_new hBd hBA
    refine ⟨_, rfl, hA, ?_⟩
    go_frame
    refine op_call (some 50) rfl rfl rfl (f := 26) (vs := #[.agg #[.int .u16 (s : Nat), .int .u16 (t : Nat), .int .u16 (m : Nat), .slice p2 n2 c2], .int .i64 n, .bool tree, .string r]) (by go_simp) ?_
    refine (hQW wA _ (H11.out.2.2.2.1.below hA)).mono ?_
    rintro e wB ⟨vB, rfl, hvB, hBB⟩
    have hB := below_new hA hBB
    refine ⟨_, rfl, hB, ?_⟩
    go_frame
    have hsm := qsame_eq (s := s2) (t := t2) (h := m2) (hvA.below hBB) hvB hL2
    unfold brV at hsm
    refine op_call (some 51) rfl rfl rfl (f := 13) (vs := #[.agg #[.int .u16 (s2 : Nat), .int .u16 (t2 : Nat), .int .u16 (m2 : Nat), vA], .agg #[.int .u16 (s2 : Nat), .int .u16 (t2 : Nat), .int .u16 (m2 : Nat), vB]]) (by go_simp) ?_
    refine hsm.mono ?_
    rintro e wC ⟨rfl, hBC⟩
    have hC := below_new hB hBC
    refine ⟨_, rfl, hC, ?_⟩
    go_frame
    refine op_val (some 13) rfl rfl rfl (v := .bool true) (w' := wC) (by go_simp) ?_
    refine ⟨hC, ?_⟩
    go_frame
    have h9c := (below_holds hC H11.out.2.2.2.2.2.1).hash
    have h11c := (below_holds hC H11.out.2.2.2.2.2.2).hash
    have HFIN : Hid (Below w.heap.size w wC) := below_new H11.out.1 hC
    clear hsm hMW hQW hvA hBA hA hvB hBB hB hBC hC hBd H11
    refine then_normM ?_
    go_at_K
    go_wp2_with (first
      | (refine wpList_ldG rfl _ rfl rfl h9c ?_)
      | (refine wpList_ldG rfl _ rfl rfl h11c ?_)
      | (refine wpList_eqlG rfl _ _ _ rfl rfl rfl ?_))
    go_ret
    exact ⟨by simp, HFIN.out⟩
  · have h40i : ¬ (40 : Int) < ref.size := by omega
    obtain ⟨r, hr'⟩ : ∃ r, ref = r := ⟨_, rfl⟩
    obtain ⟨W5, hW5⟩ : ∃ W5, W4 = W5 := ⟨_, rfl⟩
    subst hr' hW5
    have H5 : Hid (Below w.heap.size w W4 ∧ Holds W4 g8 25 (brC s t m (.slice p2 n2 c2)) ∧ Holds W4 gp 41 #[.bool tree, .string ref] ∧ HashesAt W4 (.slice p2 n2 c2) Lf ∧ DbAt W4) := ⟨HF4.out.1, H4.out, hp4, HF4.out.2.1, HF4.out.2.2⟩
    have hb5 := H5.out.2.1
    unfold brC at hb5
    clear hp4 HF4 H4
    go_wp2_with (refine wpList_loadH rfl 25 _ rfl _ rfl _ _ _ hb5 Tryd.underlying25 rfl infoBr ?_)
    have hmh := mhash_any (s := s) (t := t) hm H5.out.2.2.2.1 HLF.out n H5.out.2.2.2.2
    have hqh0 := fun W (hW : HashesAt W (.slice p2 n2 c2) Lf) => qhash_any (s := s) (t := t) hm hW HLF.out n
    obtain ⟨x, hx⟩ : ∃ x, hashX m Lf n = x := ⟨_, rfl⟩
    obtain ⟨bh, hbh⟩ : ∃ bh, hasM m n = bh := ⟨_, rfl⟩
    rw [hx, hbh] at hmh
    simp only [hx, hbh] at hqh0
    unfold brV at hmh hqh0
    clear hx hbh hb5
    refine hmh.mono ?_
    rintro e w6 ⟨rfl, hB6⟩
    obtain ⟨W7, hW7⟩ : ∃ W, World.alloc w6 (.cells zero32 43) = W := ⟨_, rfl⟩
    obtain ⟨g9, hg9⟩ : ∃ gz, w6.heap.size = gz := ⟨_, rfl⟩
    have h7 : Holds W7 g9 43 (hcl zeroH).toArray := by rw [← hW7, ← hg9]; exact Holds.new _ _ _
    have hB7 : Below W4.heap.size W4 W7 := below_new hB6 (by rw [← hW7]; exact below_new1 _ _)
    have HG9 : Hid (W4.heap.size ≤ g9) := by show _ ≤ _; rw [← hg9]; exact hB6.size
    rw [zero32_eq] at hW7
    clear hmh hB6
    go_wp2_with (refine wpList_stH rfl _ _ rfl rfl rfl h7 ?_; intro W8 h8 hO8 hs8; clear hs8; refine Hid.out ?_)
    unfold Hid
    have hB8 : Below W4.heap.size W4 W8 := Only.fresh hB7 hO8 HG9.out
    have hb8 := below_holds hB8 H5.out.2.1
    unfold brC at hb8
    have hqh := hqh0 W8 (H5.out.2.2.2.1.below hB8)
    have H8 : Hid (Below W4.heap.size W4 W8 ∧ Holds W8 g9 43 (hcl x).toArray) := ⟨hB8, h8⟩
    clear hB8 h8 hO8 hB7 h7 hW7 hg9 hqh0
    go_wp2_with (refine wpList_loadH rfl 25 _ rfl _ rfl _ _ _ hb8 Tryd.underlying25 rfl infoBr ?_)
    refine hqh.mono ?_
    rintro e w9 ⟨rfl, hB9⟩
    obtain ⟨W10, hW10⟩ : ∃ W, World.alloc w9 (.cells zero32 43) = W := ⟨_, rfl⟩
    obtain ⟨g11, hg11⟩ : ∃ gz, w9.heap.size = gz := ⟨_, rfl⟩
    have h10 : Holds W10 g11 43 (hcl zeroH).toArray := by rw [← hW10, ← hg11]; exact Holds.new _ _ _
    have hB10 : Below W8.heap.size W8 W10 := below_new hB9 (by rw [← hW10]; exact below_new1 _ _)
    have HG11 : Hid (W8.heap.size ≤ g11) := by show _ ≤ _; rw [← hg11]; exact hB9.size
    rw [zero32_eq] at hW10
    clear hqh hB9 hb8
    go_wp2_with (refine wpList_stH rfl _ _ rfl rfl rfl h10 ?_; intro W11 h11 hO11 hs11; clear hs11; refine Hid.out ?_)
    unfold Hid
    have hB11 : Below W8.heap.size W8 W11 := Only.fresh hB10 hO11 HG11.out
    have hBB : Below W4.heap.size W4 W11 := below_new H8.out.1 hB11
    have H11 : Hid (Below w.heap.size w W11 ∧ Holds W11 g8 25 (brC s t m (.slice p2 n2 c2)) ∧ Holds W11 gp 41 #[.bool tree, .string ref] ∧ HashesAt W11 (.slice p2 n2 c2) Lf ∧ DbAt W11 ∧ Holds W11 g9 43 (hcl x).toArray ∧ Holds W11 g11 43 (hcl x).toArray) :=
      ⟨below_new H5.out.1 hBB, below_holds hBB H5.out.2.1, below_holds hBB H5.out.2.2.1, H5.out.2.2.2.1.below hBB, H5.out.2.2.2.2.below hBB, below_holds hB11 H8.out.2, h11⟩
    clear hB11 hBB h11 hO11 hB10 h10 hW10 hg11 H8 H5
    obtain ⟨s2, t2, m2, L2, hL2, hMW, hQW⟩ := withs hs ht hm HLF.out n tree ref
    unfold brV at hMW hQW
    go_wp2_with fail
    refine wp_region_v (fun W => Below W11.heap.size W11 W) (.take 0 (.take 1 (.take 2 (.take 3 (.take 4 (.take 5 (.take 7 (.take 8 (.take 9 (.take 10 (.take 11 (.take 12 (.one 6 (.one 13 (.one 14 (.one 15 .nil)))))))))))))))) mixedP (by kernel_rfl) rfl (by kernel_rfl) (fun _ _ _ d _ h => by cases d <;> exact h) (below_drewR (Below.refl _ _)) ?_
    refine v_ld (some 37) rfl rfl rfl _ _ rfl rfl (fun W hW => ldBr (below_holds hW H11.out.2.1)) ?_
    go_frame
    refine v_val (some 38) rfl rfl rfl (.int .i64 n) (fun _ => by go_simp) ?_
    go_frame
    refine v_val (some 39) rfl rfl rfl (.pointer (some ⟨gp, 0, none⟩)) (fun _ => by go_simp) ?_
    go_frame
    refine v_valC (some 40) rfl rfl rfl (.bool tree) (fun W hC => by have hcv := (below_holds hC H11.out.2.2.1).cell 0; go_simp) ?_
    go_frame
    refine v_val (some 41) rfl rfl rfl (.pointer (some ⟨gp, 1, none⟩)) (fun _ => by go_simp) ?_
    go_frame
    refine v_valC (some 42) rfl rfl rfl (.string ref) (fun W hC => by have hcv := (below_holds hC H11.out.2.2.1).cell 1; go_simp) ?_
    go_frame
    refine v_ld (some 44) rfl rfl rfl _ _ rfl rfl (fun W hW => ldBr (below_holds hW H11.out.2.1)) ?_
    go_frame
    refine v_val (some 45) rfl rfl rfl (.int .i64 n) (fun _ => by go_simp) ?_
    go_frame
    refine v_val (some 46) rfl rfl rfl (.pointer (some ⟨gp, 0, none⟩)) (fun _ => by go_simp) ?_
    go_frame
    refine v_valC (some 47) rfl rfl rfl (.bool tree) (fun W hC => by have hcv := (below_holds hC H11.out.2.2.1).cell 0; go_simp) ?_
    go_frame
    refine v_val (some 48) rfl rfl rfl (.pointer (some ⟨gp, 1, none⟩)) (fun _ => by go_simp) ?_
    go_frame
    refine v_valC (some 49) rfl rfl rfl (.string ref) (fun W hC => by have hcv := (below_holds hC H11.out.2.2.1).cell 1; go_simp) ?_
    go_frame
    have hBd : Below W11.heap.size W11 W11.drew := below_drewR (Below.refl _ _)
    refine op_call (some 43) rfl rfl rfl (f := 25) (vs := #[.agg #[.int .u16 (s : Nat), .int .u16 (t : Nat), .int .u16 (m : Nat), .slice p2 n2 c2], .int .i64 n, .bool tree, .string ref]) (by go_simp) ?_
    refine (hMW W11.drew _ (H11.out.2.2.2.1.below hBd) (H11.out.2.2.2.2.1.below hBd)).mono ?_
    rintro e wA ⟨vA, rfl, hvA, hBA⟩
    have hA := below_new hBd hBA
    refine ⟨_, rfl, hA, ?_⟩
    go_frame
    refine op_call (some 50) rfl rfl rfl (f := 26) (vs := #[.agg #[.int .u16 (s : Nat), .int .u16 (t : Nat), .int .u16 (m : Nat), .slice p2 n2 c2], .int .i64 n, .bool tree, .string ref]) (by go_simp) ?_
    refine (hQW wA _ (H11.out.2.2.2.1.below hA)).mono ?_
    rintro e wB ⟨vB, rfl, hvB, hBB⟩
    have hB := below_new hA hBB
    refine ⟨_, rfl, hB, ?_⟩
    go_frame
    have hsm := qsame_eq (s := s2) (t := t2) (h := m2) (hvA.below hBB) hvB hL2
    unfold brV at hsm
    refine op_call (some 51) rfl rfl rfl (f := 13) (vs := #[.agg #[.int .u16 (s2 : Nat), .int .u16 (t2 : Nat), .int .u16 (m2 : Nat), vA], .agg #[.int .u16 (s2 : Nat), .int .u16 (t2 : Nat), .int .u16 (m2 : Nat), vB]]) (by go_simp) ?_
    refine hsm.mono ?_
    rintro e wC ⟨rfl, hBC⟩
    have hC := below_new hB hBC
    refine ⟨_, rfl, hC, ?_⟩
    go_frame
    refine op_val (some 13) rfl rfl rfl (v := .bool true) (w' := wC) (by go_simp) ?_
    refine ⟨hC, ?_⟩
    go_frame
    have h9c := (below_holds hC H11.out.2.2.2.2.2.1).hash
    have h11c := (below_holds hC H11.out.2.2.2.2.2.2).hash
    have HFIN : Hid (Below w.heap.size w wC) := below_new H11.out.1 hC
    clear hsm hMW hQW hvA hBA hA hvB hBB hB hBC hC hBd H11
    refine then_normM ?_
    go_at_K
    go_wp2_with (first
      | (refine wpList_ldG rfl _ rfl rfl h9c ?_)
      | (refine wpList_ldG rfl _ rfl rfl h11c ?_)
      | (refine wpList_eqlG rfl _ _ _ rfl rfl rfl ?_))
    go_ret
    exact ⟨by simp, HFIN.out⟩
end Go.Proofs.YtbidoangdnmjfaaDoor
