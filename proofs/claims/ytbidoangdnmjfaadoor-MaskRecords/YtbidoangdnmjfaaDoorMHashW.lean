/-
  The program's place and Hash, of branches with as many hashes as their masks say.
-/
import Derived.Test.YtbidoangdnmjfaaDoorMSameW
import Derived.Test.YtbidoangdnmjfaaDoorMRoundW
namespace Go.Proofs.YtbidoangdnmjfaaDoor
open Go Go.RowKit

section
variable {ops : Array Oper} {C : World → Prop} {Q : Exit → Act → World → Prop} {t : PlanU} {k : Nat} {op : Oper} {a : Act} {w : World}
theorem u_val (d : Option Tmp) (hdd : op.dst = d) (hk : ops[k]?.getD default = op) (hw : Region.wanted op (yielded ops a.tmps) = true) (v : Value) (hv : ∀ w, (execOp a.eval op).run Tryd.prog w = .ok (.value v) w) (h : wpU Tryd.prog ops C Q t (a.put d v) w) : wpU Tryd.prog ops C Q (.take k t) a w :=
  tk_val d hdd hk hw v hv (tk_nil h)
theorem u_ld (d : Option Tmp) (hdd : op.dst = d) (hk : ops[k]?.getD default = op) (hw : Region.wanted op (yielded ops a.tmps) = true) (ty : TypeId) (x : Operand) (ho : op.op = .load ty x) {ad : Addr} (hx : a.eval x = .pointer (some ad)) {v : Value} (hh : ∀ w, C w → (loadVar ty ad).run Tryd.prog w = .ok v w)
    (h : wpU Tryd.prog ops C Q t (a.put d v) w) : wpU Tryd.prog ops C Q (.take k t) a w :=
  tk_ld d hdd hk hw ty x ho hx hh (tk_nil h)
theorem op_ld {K : Act → World → Prop} (d : Option Tmp) (hdd : op.dst = d) (hk : ops[k]? = some op) (hw : Region.wanted op (yielded ops a.tmps) = true) (ty : TypeId) (x : Operand) (ho : op.op = .load ty x) {ad : Addr} (hx : a.eval x = .pointer (some ad)) {v : Value} (hh : (loadVar ty ad).run Tryd.prog w = .ok v w)
    (h : K (a.put d v) w) : wpOp Tryd.prog ops Q k K a w :=
  op_val d hdd hk hw (v := v) (w' := w) (by
    unfold execOp
    simp only [ho, hx, Instr.loadAt, Instr.sureAddr, Sem.run_bind, Sem.run_pure, Result.andThen_ok, hh]) h
/-- A hash is stored, in a region that draws its order. -/
theorem op_stH {K : Act → World → Prop} (d : Option Tmp) (hdd : op.dst = d) (hk : ops[k]? = some op) (hw : Region.wanted op (yielded ops a.tmps) = true) (x y : Operand) (ho : op.op = .store 43 x y) {b : Nat} {z z' : H32} (hx : a.eval x = .pointer (some ⟨b, 0, none⟩)) (hy : a.eval y = hla z) {ty : TypeId} (hh : Holds w b ty (hcl z').toArray)
    (h : ∀ w', Holds w' b ty (hcl z).toArray → Only b w w' → w'.heap.size = w.heap.size → K (a.put d undef) w') : wpOp Tryd.prog ops Q k K a w :=
  op_storeH d hdd hk hw 43 x y ho b _ hx hy ty _ hh (by rw [infoSum2]; simp [hcl_len]) (by simp [hcl_len]) (by
    rw [← Array.all_toList, List.all_eq_true]
    intro u hu
    exact hcl_one z u (by simpa using hu)) h
end
theorem infoBr : (Tryd.prog.info? 25).map (·.size) = some 4 := by kernel_rfl
theorem ldBr {w : World} {b : Nat} {t : TypeId} {x0 x1 x2 x3 : Value} (h : Holds w b t #[x0, x1, x2, x3]) : (loadVar 25 ⟨b, 0, none⟩).run Tryd.prog w = .ok (.agg #[x0, x1, x2, x3]) w :=
  run_loadVar_row w b t 25 _ (0, 0) _ h Tryd.underlying25 (by rfl) infoBr
theorem results_cellM {P : Program} {fn : Func} {p u : Tmp} {ty : TypeId} (h : fn.results = #[.cell p ty, .tmp u]) (tmps : Array Value) (w : World) (b : Nat) (t : TypeId) (cs : Array Value) (d : TypeDesc)
    (hp : tmps.getD p undef = .pointer (some ⟨b, 0, none⟩)) (hh : Holds w b t cs)
    (hu : P.underlying ty = some d) (hd : d.isRow = true) (hi : (P.info? ty).map (·.size) = some cs.size) : (results fn tmps).run P w = .ok (.tuple #[.agg cs, tmps.getD u undef]) w := by
  have hr := run_loadVar_row w b t ty cs (0, 0) d hh hu (by cases d <;> simp_all) hi
  rw [results_cell_tmp h, hp]
  simp [asAddr, hr]
theorem below_drewR {B : Nat} {a w : World} (h : Below B a w) : Below B a w.drew := ⟨h.os, h.tape, h.output, h.size, h.block⟩
theorem infoHcl (z : H32) : (Tryd.prog.info? 43).map (·.size) = some (hcl z).toArray.size := by rw [infoSum2]; simp [hcl_len]
theorem zeroLit : (.agg #[.int .u8 0, .int .u8 0, .int .u8 0, .int .u8 0, .int .u8 0, .int .u8 0, .int .u8 0, .int .u8 0, .int .u8 0, .int .u8 0, .int .u8 0, .int .u8 0, .int .u8 0, .int .u8 0, .int .u8 0, .int .u8 0, .int .u8 0, .int .u8 0, .int .u8 0, .int .u8 0, .int .u8 0, .int .u8 0, .int .u8 0, .int .u8 0, .int .u8 0, .int .u8 0, .int .u8 0, .int .u8 0, .int .u8 0, .int .u8 0, .int .u8 0, .int .u8 0] : Value) = hla zeroH := by
  unfold hla
  rw [← zero32_eq]
  rfl
/-- Where a nibble's hash stands. -/
theorem pow_mask {h k : Nat} (hh : h < 65536) (hk : k < 16) : bits BinOp.and IntKind.u16 (h : Int) (((2 ^ k - 1 : Nat) : Nat) : Int) = ((h &&& (2 ^ k - 1) : Nat) : Int) := and_u16 _ _ hh (by have := pow_lt16 hk; omega)
set_option maxRecDepth 8000 in
set_option maxHeartbeats 1000000 in
theorem place_any {w : World} {s t h n c k : Nat} {p : Option Addr} (hh : h < 65536) (hk : k < 16) (hT : DbAt w) : Calls Tryd.prog 30 #[brV s t h (.slice p n c), .int .i64 (k : Nat)] w fun e w' => e = .returned (.int .i64 (cntTo h k : Nat)) ∧ Below w.heap.size w w' := by
  unfold brV
  obtain ⟨W0, g, hW0, hg, hB0, hb0, c0, c1, c2, c3⟩ := box_br w s t h (.slice p n c)
  have HWH : Hid (Below w.heap.size w W0) := hB0
  have HT : Hid (DbAt W0) := hT.below hB0
  have HO : Hid (ofM [(k : Int)] = 2 ^ k) := by
    show ofM _ = _
    rw [ofM_one (by omega) (by omega), Int.toNat_natCast]
  have HC : Hid (cntM (h &&& (2 ^ k - 1)) = cntTo h k) := below_cnt h hk
  have hpm := pow_mask hh hk
  have HL : Hid (h &&& (2 ^ k - 1) < 65536) := and_lt16 _ _ hh
  have hp2 := pow_lt16 hk
  have hp1 : 1 ≤ 2 ^ k := Nat.one_le_two_pow
  have hki : (k : Int) < 16 := by omega
  generalize h &&& (2 ^ k - 1) = m at hpm HC HL
  generalize 2 ^ k = q at HO hpm hp2 hp1
  have hwr : IntKind.u16.wrap ((q : Int) - 1) = (q : Int) - 1 := by rw [wrap_u16]; omega
  have hsub : (q : Int) - 1 = ((q - 1 : Nat) : Int) := by omega
  rw [← hsub] at hpm
  clear hsub hB0 hb0 hT
  go_enter Tryd.func30, Tryd.ntmps30
  go_wp2_with fail
  refine wp_region_u (fun W => Below W0.heap.size W0 W) (.take 0 (.take 1 (.take 2 (.one 3 (.one 4 (.take 5 (.take 6 (.one 7 (.take 8 .nil))))))))) mixedP (by kernel_rfl) rfl (by kernel_rfl) (fun _ _ _ d _ h => by cases d <;> exact h) (Below.refl _ _).drew ?_
  refine u_val (some 5) rfl rfl rfl (.pointer (some ⟨g, 2, none⟩)) (fun _ => by go_simp) ?_
  go_frame
  refine u_ld (some 6) rfl rfl rfl _ _ rfl rfl (fun W hW => ldU16M (keep_cellM hW c2)) ?_
  go_frame
  refine u_val (some 7) rfl rfl rfl (.int .i64 (k : Nat)) (fun _ => by go_simp) ?_
  go_frame
  refine op_val (some 8) rfl rfl rfl (v := .slice (some ⟨W0.drew.heap.size, 0, none⟩) 1 1) (w' := W0.drew.alloc (.cells #[.int .i64 (k : Int)] 3)) (by go_simp) ?_
  have hB1 : Below W0.heap.size W0 (W0.drew.alloc (.cells #[.int .i64 (k : Int)] 3)) := (Below.refl _ _).drew.alloc (Nat.le_refl _) _
  refine ⟨hB1, ?_⟩
  go_frame
  have ho := of_any (IntsM.one (Holds.new W0.drew 3 #[.int .i64 (k : Int)])) (by simp)
  rw [HO.out] at ho
  refine op_call (some 9) rfl rfl rfl (f := 18) (vs := #[.slice (some ⟨W0.drew.heap.size, 0, none⟩) 1 1]) (by go_simp) ?_
  refine ho.mono ?_
  rintro e w2 ⟨rfl, hw2⟩
  have hB2 : Below W0.heap.size W0 w2 := by rw [hw2]; exact hB1
  refine ⟨_, rfl, hB2, ?_⟩
  go_frame
  refine u_val (some 10) rfl rfl rfl (.int .u16 ((q : Int) - 1)) (fun _ => by go_simp) ?_
  go_frame
  refine u_val (some 11) rfl rfl rfl (.int .u16 (m : Nat)) (fun _ => by go_simp) ?_
  go_frame
  have hc := count_any HL.out (HT.out.below hB2)
  rw [HC.out] at hc
  refine op_call (some 12) rfl rfl rfl (f := 20) (vs := #[.int .u16 (m : Nat)]) (by go_simp) ?_
  refine hc.mono ?_
  rintro e w3 ⟨rfl, hB3⟩
  have hB4 := below_new hB2 hB3
  refine ⟨_, rfl, hB4, ?_⟩
  go_frame
  refine u_val (some 4) rfl rfl rfl (.int .i64 (cntTo h k : Nat)) (fun _ => by go_simp) ?_
  go_frame
  have HB4 : Hid (Below w.heap.size w w3) := below_new HWH.out hB4
  clear hB1 hB2 hB3 hB4 hw2 hc ho
  show Exit.then _ _ Exit.normal _ _
  simp only [Exit.then]
  go_at_K
  go_wp2_with fail
  go_ret
  exact ⟨rfl, HB4.out⟩
/-- The hash that stands for a nibble. -/
def hashX (h : Nat) (L : List H32) (n : Int) : H32 := if hasM h n then L.getD (cntTo h n.toNat) zeroH else zeroH
theorem hashX_no {h : Nat} {L : List H32} {n : Int} (hb : hasM h n = false) : hashX h L n = zeroH := by unfold hashX; rw [hb]; rfl
theorem hasM_true {h : Nat} {n : Int} (hb : hasM h n = true) : ∃ k : Nat, n = k ∧ k < 16 ∧ h.testBit k = true := by
  unfold hasM at hb
  simp only [Bool.and_eq_true, decide_eq_true_eq] at hb
  exact ⟨n.toNat, by omega, by omega, hb.2⟩
theorem hashX_yes {h k : Nat} {L : List H32} (hk : k < 16) (hb : h.testBit k = true) (hL : L.length = cntM h) : L[cntTo h k]? = some (hashX h L (k : Int)) := by
  have hlt := cntTo_lt hk hb
  unfold hashX
  rw [hasM_nat h k hk, hb, if_pos rfl, Int.toNat_natCast, List.getD_eq_getElem?_getD, List.getElem?_eq_getElem (by omega)]
  rfl
set_option maxRecDepth 8000 in
set_option maxHeartbeats 1000000 in
theorem mhash_any {w : World} {s t h : Nat} {v : Value} {L : List H32} (hh : h < 65536) (hv : HashesAt w v L) (hL : L.length = cntM h) (n : Int) (hT : DbAt w) : Calls Tryd.prog 23 #[brV s t h v, .int .i64 n] w fun e w' => e = .returned (.tuple #[hla (hashX h L n), .bool (hasM h n)]) ∧ Below w.heap.size w w' := by
  unfold brV
  obtain ⟨p, c, rfl⟩ := hv.shape
  obtain ⟨m, hm⟩ : ∃ m, L.length = m := ⟨_, rfl⟩
  have HM : Hid (L.length = m) := hm
  rw [hm] at hv hL ⊢
  clear hm
  have hm16 : m ≤ 16 := by rw [hL]; exact cntM_le h
  have hmi : (m : Int) ≤ 16 := by omega
  have HL : Hid (m = cntM h) := hL
  clear hL
  obtain ⟨W0, g, hW0, hg, hB0, hb0, _, _, _, _⟩ := box_br w s t h (.slice p m c)
  obtain ⟨W1, hW1⟩ : ∃ W1, World.alloc W0 (.cells zero32 43) = W1 := ⟨_, rfl⟩
  have hz : Holds W1 W0.heap.size 43 (hcl zeroH).toArray := by rw [← hW1]; exact Holds.new _ _ _
  have hB1 : Below W0.heap.size W0 W1 := by rw [← hW1]; exact below_new1 _ _
  rw [zero32_eq] at hW1
  have hb1 := below_holds hB1 hb0
  have c2 : W1.cell? ⟨g, 2, none⟩ = some (.int .u16 (h : Nat)) := hb1.cell 2
  have c3 : W1.cell? ⟨g, 3, none⟩ = some (.slice p m c) := hb1.cell 3
  have HW : Hid (Below w.heap.size w W0 ∧ Below w.heap.size w W1 ∧ DbAt W1 ∧ Holds W0 g 25 (brC s t h (.slice p m c)) ∧ Below W0.heap.size W0 W1) := ⟨hB0, below_new hB0 hB1, (hT.below hB0).below hB1, hb0, hB1⟩
  have HV : Hid (HashesAt w (.slice p m c) L) := hv
  have hha := fun W => mhas_any hh n W
  clear hb0 hB0 hB1 hb1 hT hv
  cases hb : hasM h n with
  | false =>
    rw [hashX_no hb]
    rw [hb] at hha
    clear hb
    go_enter Tryd.func23, Tryd.ntmps23
    go_wp2_with fail
    refine wp_region_class (fun W => Below W1.heap.size W1 W) mixedP (by kernel_rfl) (Below.refl _ _).drew ?_
    go_big_quiet_step (exact fun _ => rfl)
    refine wpQ_ld rfl _ _ rfl rfl (fun W hW => ldU16M (keep_cellM hW c2)) ?_
    go_frame
    go_big_quiet_step (exact fun _ => rfl)
    refine wpQ_call rfl 14 #[.int .u16 (h : Nat), .int .i64 n] (fun _ => by go_simp) (.bool false) (fun W hW => (hha W).mono fun e w' h => ⟨h.1, below_new hW h.2⟩) ?_
    go_frame
    go_big_quiet_step (exact fun _ => rfl)
    go_big_quiet_step (exact fun _ => rfl)
    go_big_quiet_step (fail)
    go_big_quiet_step (fail)
    go_big_quiet_step (fail)
    go_big_quiet_step (fail)
    go_big_quiet_step (fail)
    go_big_quiet_step (fail)
    go_big_quiet_step (fail)
    go_big_quiet_step (exact fun _ => rfl)
    refine wpQuiet_nil ?_
    intro W6 hB6
    show Exit.then _ _ Exit.normal _ _
    simp only [Exit.then]
    go_at_K
    have hz6 := below_holds hB6 hz
    have HB6 : Hid (Below w.heap.size w W6) := below_new HW.out.2.1 hB6
    have hgl : w.heap.size ≤ W0.heap.size := HW.out.1.size
    clear hB6 hz
    go_wp2_with (refine wpList_stH rfl _ _ rfl rfl zeroLit hz6 ?_; intro W7 h7 hO7 hs7)
    refine bodyPost_ret (results_cellM rfl _ _ _ _ _ _ rfl h7 underSumM rfl (infoHcl zeroH)) rfl ?_
    exact ⟨rfl, Only.fresh HB6.out hO7 hgl⟩
  | true =>
    obtain ⟨k, rfl, hk, hbk⟩ := hasM_true hb
    have hx := hashX_yes hk hbk (HM.out.trans HL.out)
    have hlt := cntTo_lt hk hbk
    rw [← HL.out] at hlt
    have hpl := fun W (hW : DbAt W) => place_any (s := s) (t := t) (n := m) (c := c) (p := p) hh hk hW
    unfold brV at hpl
    have hct := fun W (hW : DbAt W) => count_any hh hW
    rw [← HL.out] at hct
    rw [hb] at hha
    generalize hashX h L (k : Int) = x at hx ⊢
    generalize cntTo h k = j at hx hlt hpl
    obtain ⟨b, o, rfl, hnn, hd⟩ := HV.out.at hx
    clear hnn
    have HD : Hid (HashAt W1 b (o + j * 32) x) := hd.below HW.out.2.1
    have hji : (j : Int) < m := by omega
    clear hb hbk hx hd
    go_enter Tryd.func23, Tryd.ntmps23
    go_wp2_with fail
    refine wp_region_class (fun W => Below W1.heap.size W1 W) mixedP (by kernel_rfl) (Below.refl _ _).drew ?_
    go_big_quiet_step (exact fun _ => rfl)
    refine wpQ_ld rfl _ _ rfl rfl (fun W hW => ldU16M (keep_cellM hW c2)) ?_
    go_frame
    go_big_quiet_step (exact fun _ => rfl)
    refine wpQ_call rfl 14 #[.int .u16 (h : Nat), .int .i64 (k : Nat)] (fun _ => by go_simp) (.bool true) (fun W hW => (hha W).mono fun e w' h => ⟨h.1, below_new hW h.2⟩) ?_
    go_frame
    go_big_quiet_step (exact fun _ => rfl)
    go_big_quiet_step (exact fun _ => rfl)
    go_big_quiet_step (exact fun _ => rfl)
    refine wpQ_ld rfl _ _ rfl rfl (fun W hW => ldRowM (keep_cellM hW c3)) ?_
    go_frame
    go_big_quiet_step (exact fun _ => rfl)
    go_big_quiet_step (exact fun _ => rfl)
    refine wpQ_ld rfl _ _ rfl rfl (fun W hW => ldU16M (keep_cellM hW c2)) ?_
    go_frame
    refine wpQ_call rfl 20 #[.int .u16 (h : Nat)] (fun _ => by go_simp) (.int .i64 (m : Nat)) (fun W hW => (hct W (HW.out.2.2.1.below hW)).mono fun e w' h => ⟨h.1, below_new hW h.2⟩) ?_
    go_frame
    refine wpQ_val rfl (.bool false) (fun _ => by go_simp) ?_
    go_frame
    go_big_quiet_step (exact fun _ => rfl)
    refine wpQuiet_nil ?_
    intro W6 hB6
    show Exit.then _ _ Exit.normal _ _
    simp only [Exit.then]
    go_at_K
    have HB6 : Hid (Below W1.heap.size W1 W6) := hB6
    clear hB6
    go_wp2_with fail
    have hz6 := below_holds HB6.out hz
    have hC6 : Below W0.heap.size W0 W6.drew := below_drewR (below_new HW.out.2.2.2.2 HB6.out)
    refine wp_region_u (fun W => Below W0.heap.size W0 W) (.take 0 (.take 1 (.take 2 (.take 3 (.one 4 (.take 5 (.one 6 (.one 7 (.one 8 .nil))))))))) mixedP (by kernel_rfl) rfl (by kernel_rfl) (fun _ _ _ d _ h => by cases d <;> exact h) hC6 ?_
    have HC3 : Hid (Holds W0 g 25 (brC s t h (.slice (some ⟨b, o, none⟩) m c))) := HW.out.2.2.2.1
    refine u_val (some 21) rfl rfl rfl (.pointer (some ⟨g, 3, none⟩)) (fun _ => by go_simp) ?_
    go_frame
    refine u_ld (some 22) rfl rfl rfl _ _ rfl rfl (fun W hW => ldRowM ((below_holds hW HC3.out).cell 3)) ?_
    go_frame
    refine u_ld (some 23) rfl rfl rfl _ _ rfl rfl (fun W hW => ldBr (below_holds hW HC3.out)) ?_
    go_frame
    refine u_val (some 24) rfl rfl rfl (.int .i64 (k : Nat)) (fun _ => by go_simp) ?_
    go_frame
    refine op_call (some 25) rfl rfl rfl (f := 30) (vs := #[.agg #[.int .u16 (s : Nat), .int .u16 (t : Nat), .int .u16 (h : Nat), .slice (some ⟨b, o, none⟩) m c], .int .i64 (k : Nat)]) (by go_simp) ?_
    refine (hpl W6.drew (HW.out.2.2.1.below (below_drewR HB6.out))).mono ?_
    rintro e w2 ⟨rfl, hB2⟩
    have hB62 : Below W1.heap.size W1 w2 := below_new (below_drewR HB6.out) hB2
    have hC2 : Below W0.heap.size W0 w2 := below_new HW.out.2.2.2.2 hB62
    refine ⟨_, rfl, hC2, ?_⟩
    go_frame
    refine u_val (some 26) rfl rfl rfl (.pointer (some ⟨b, o + j * 32, none⟩)) (fun _ => by go_simp) ?_
    go_frame
    refine op_ld (some 27) rfl rfl rfl _ _ rfl rfl (ldHash (HD.out.below hB62)) ?_
    refine ⟨hC2, ?_⟩
    go_frame
    have hz2 := below_holds hB62 hz
    refine op_stH none rfl rfl rfl _ _ rfl rfl rfl hz2 ?_
    intro w7 h7 hO7 hs7
    have hC7 : Below W0.heap.size W0 w7 := Only.fresh hC2 hO7 (Nat.le_refl _)
    refine ⟨hC7, ?_⟩
    go_frame
    refine op_val (some 5) rfl rfl rfl (v := .bool true) (w' := w7) (by go_simp) ?_
    refine ⟨hC7, ?_⟩
    go_frame
    have HC7 : Hid (Below w.heap.size w w7) := below_new HW.out.1 hC7
    clear hB2 hB62 hC2 hz2 hC7 hO7 hC6 hz6
    show Exit.then _ _ Exit.normal _ _
    simp only [Exit.then]
    go_at_K
    go_wp2_with fail
    refine bodyPost_ret (results_cellM rfl _ _ _ _ _ _ rfl h7 underSumM rfl (infoHcl x)) rfl ?_
    exact ⟨rfl, HC7.out⟩
end Go.Proofs.YtbidoangdnmjfaaDoor
