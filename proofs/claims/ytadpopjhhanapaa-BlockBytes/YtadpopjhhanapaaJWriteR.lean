/-
  What writeOf's closure makes of a list of six things.
-/
import Derived.Test.YtadpopjhhanapaaJSlotR
namespace Go.Proofs.Ytadpopjhhanapaa
open Go Go.RowKit

theorem OwnSl.own {w : World} {base : Nat} {v : Value} {L : List Sl} (h : OwnSl w base v L) : SlotsAt w v L ∧ ∀ b, v.ownBlock = some b → base ≤ b ∧ b < w.heap.size := ⟨h.at, h.lt⟩
theorem ldSls {w : World} {ad : Addr} {p : Option Addr} {n c : Nat} (h : w.cell? ad = some (.slice p n c)) : (loadVar 52 ad).run Try.prog w = .ok (.slice p n c) w := by simp [go_sem, h]
section
variable {ops : Array Oper} {rest : List Oper} {op : Oper} {a : Act} {C : World → Prop} {Q : Act → Prop} {w : World}
theorem run_eqlJ (ty : TypeId) (x y : Operand) {u v : ByteArray} (ρ : Operand → Value) (hx : ρ x = .string u) (hy : ρ y = .string v) (ho : op.op = .binOp .eql 9 x y ty) (w : World) : (execOp ρ op).run Try.prog w = .ok (.value (.bool (decide (u = v)))) w := by
  have h1 : (u.toList == v.toList) = decide (u = v) := beqD u v
  unfold execOp
  simp [ho, hx, hy, go_sem]
  exact h1
theorem wpQ_eqlJ (hw : Region.wanted op (yielded ops a.tmps) = true) (ty : TypeId) (x y : Operand) (ho : op.op = .binOp .eql 9 x y ty) {u v : ByteArray} (hx : a.eval x = .string u) (hy : a.eval y = .string v)
    (h : wpQuiet Try.prog ops C Q rest (a.put op.dst (.bool (decide (u = v))))) : wpQuiet Try.prog ops C Q (op :: rest) a :=
  wpQ_val hw _ (fun w => run_eqlJ ty x y a.eval hx hy ho w) h
end
theorem keepO {w w' : World} {g b i : Nat} {v : Value} (h : Only g w w') (hc : w.cell? ⟨b, i, none⟩ = some v) (hb : b ≠ g) : w'.cell? ⟨b, i, none⟩ = some v := by
  have hl : b < w.heap.size := World.block_lt_of_cell? w _ hc
  rw [World.cell?_of_block (h.block b hl hb)]; exact hc
/-- What a call that makes a write answers. -/
def WPost (w w' : World) (i : Row) (e : Ending) : Prop := ∃ v', e = .returned (wra (writeR i v')) ∧ SlotsAt w' v' (writeR i v').L ∧ ∀ b, v'.ownBlock = some b → w.heap.size ≤ b ∧ b < w'.heap.size
theorem writeR_six {i : Row} (h : i.len = 6) (v : Value) : writeR i v = ⟨txtAt i 0, decide (txtAt i 1 = ⟨#[1]⟩), decide (txtAt i 1 = ⟨#[2]⟩), uintV (txtAt i 2).data.toList, txtAt i 3, txtAt i 4, v, slotsR (rowAt i 5)⟩ := by unfold writeR; rw [if_pos h]
set_option maxRecDepth 8000 in
set_option maxHeartbeats 4000000 in
theorem writeof1_any {w : World} {i : Row} {a : Option Addr} {c : Nat} (hl : LiesB w i a) (h6 : i.len = 6) (hs : (rowAt i 5).len ≤ 1000000) (hsz : (txtAt i 2).size ≤ 1000000) : Calls Try.prog 68 #[.slice a i.len c] w fun e w' => WPost w w' i e ∧ Below w.heap.size w w' := by
  unfold WPost
  simp only [writeR_six h6]
  rw [h6]
  obtain ⟨b, o, a0, c0, rfl, p00, p01, p02, _⟩ := hl.nth 0 (by omega)
  obtain ⟨b', o', a1, c1, hbo, p10, p11, p12, _⟩ := hl.nth 1 (by omega)
  injection hbo with hbo
  injection hbo with e1 e2
  subst e1 e2
  obtain ⟨b', o', a2, c2, hbo, p20, p21, p22, _⟩ := hl.nth 2 (by omega)
  injection hbo with hbo
  injection hbo with e1 e2
  subst e1 e2
  obtain ⟨b', o', a3, c3, hbo, p30, p31, p32, _⟩ := hl.nth 3 (by omega)
  injection hbo with hbo
  injection hbo with e1 e2
  subst e1 e2
  obtain ⟨b', o', a4, c4, hbo, p40, p41, p42, _⟩ := hl.nth 4 (by omega)
  injection hbo with hbo
  injection hbo with e1 e2
  subst e1 e2
  obtain ⟨b', o', a5, c5, hbo, p50, p51, p52, _, hl5⟩ := hl.nth 5 (by omega)
  injection hbo with hbo
  injection hbo with e1 e2
  subst e1 e2
  have heach := fun W (hW : Below w.heap.size w W) => eachsl_any (c := c5) (hl5.below hW) hs
  have hui := fun W => uint_any (txtAt i 2) W (by omega)
  clear hl p00 p02 p10 p12 p20 p22 p30 p32 p40 p42 p50 p51 hl5 hs h6
  unfold txtAt rowAt at *
  simp only [Nat.zero_mul, Nat.add_zero, Nat.one_mul] at p01 p11
  generalize (⟨(i.nth 0).2.1.toArray⟩ : ByteArray) = x0 at *
  generalize (⟨(i.nth 1).2.1.toArray⟩ : ByteArray) = x1 at *
  generalize (⟨(i.nth 2).2.1.toArray⟩ : ByteArray) = x2 at *
  generalize (⟨(i.nth 3).2.1.toArray⟩ : ByteArray) = x3 at *
  generalize (⟨(i.nth 4).2.1.toArray⟩ : ByteArray) = x4 at *
  generalize slotsR (i.nth 5).2.2 = K at *
  generalize (i.nth 5).2.2.len = n5 at *
  obtain ⟨W0, g, hW0, hg, hB0, hz⟩ := box_z w 38 #[.string ⟨#[]⟩, .bool false, .bool false, .int .u64 0, .string ⟨#[]⟩, .string ⟨#[]⟩, .slice none 0 0]
  have q0 := keep_cell hB0 p01
  have q1 := keep_cell hB0 p11
  have q2 := keep_cell hB0 p21
  have q3 := keep_cell hB0 p31
  have q4 := keep_cell hB0 p41
  have q5 := keep_cell hB0 p52
  have HB : Hid (Below w.heap.size w W0) := hB0
  have HH : Hid (Holds W0 g 38 #[.string ⟨#[]⟩, .bool false, .bool false, .int .u64 0, .string ⟨#[]⟩, .string ⟨#[]⟩, .slice none 0 0]) := hz
  have HG : Hid (w.heap.size = g) := hg
  have HBG : Hid (b ≠ g) := by have := World.block_lt_of_cell? w _ p01; show b ≠ g; have h2 : b < w.heap.size := this; omega
  have HEACH : Hid (∀ W, Below w.heap.size w W → Calls Try.prog 69 #[.slice a5 n5 c5, .func (.func 70) #[] #[]] W fun e w' => ∃ v', e = .returned v' ∧ OwnSl w' W.heap.size v' K ∧ Below W.heap.size W w') := heach
  have HUI : Hid (∀ W, Calls Try.prog 46 #[.string x2] W fun e w' => e = .returned (.tuple #[.int .u64 (uintV x2.data.toList), .bool (uintB x2.data.toList)]) ∧ w' = W) := hui
  clear hB0 hz p01 p11 p21 p31 p41 p52 heach hui
  generalize uintV x2.data.toList = ux at *
  generalize uintB x2.data.toList = ub at *
  obtain ⟨y1, hy1⟩ : ∃ y1, decide (x1 = ⟨#[1]⟩) = y1 := ⟨_, rfl⟩
  obtain ⟨y2, hy2⟩ : ∃ y2, decide (x1 = ⟨#[2]⟩) = y2 := ⟨_, rfl⟩
  rw [hy1, hy2]
  have HY1 : Hid (decide (x1 = ⟨#[1]⟩) = y1) := hy1
  have HY2 : Hid (decide (x1 = ⟨#[2]⟩) = y2) := hy2
  clear hy1 hy2
  go_enter Try.func68, Try.ntmps68
  go_wp2_with fail
  refine wp_region_class (fun W => Below W0.heap.size W0 W) mixedP (by kernel_rfl) (Below.refl _ _).drew ?_
  go_big_quiet_step (exact fun _ => rfl)
  go_big_quiet_step (exact fun _ => rfl)
  go_big_quiet_step (exact fun _ => rfl)
  refine wpQ_ld rfl _ _ rfl rfl (fun W hW => ldTxt (keep_cell hW q1)) ?_
  go_frame
  go_big_quiet_step (exact fun _ => rfl)
  go_big_quiet_step (exact fun _ => rfl)
  go_big_quiet_step (exact fun _ => rfl)
  refine wpQ_ld rfl _ _ rfl rfl (fun W hW => ldTxt (keep_cell hW q3)) ?_
  go_frame
  go_big_quiet_step (exact fun _ => rfl)
  go_big_quiet_step (exact fun _ => rfl)
  go_big_quiet_step (exact fun _ => rfl)
  refine wpQ_ld rfl _ _ rfl rfl (fun W hW => ldTxt (keep_cell hW q4)) ?_
  go_frame
  go_big_quiet_step (exact fun _ => rfl)
  go_big_quiet_step (exact fun _ => rfl)
  go_big_quiet_step (exact fun _ => rfl)
  refine wpQuiet_nil ?_
  intro W1 hB1
  refine then_normalJ ?_
  have q2 := keep_cell hB1 q2
  have H1 : Hid (Below W0.heap.size W0 W1) := hB1
  have r0 := keep_cell hB1 q0
  have r5 := keep_cell hB1 q5
  clear q0 q1 q3 q4 q5 hB1
  go_wp2_with (go_at_call 46; refine (HUI.out _).mono ?_; rintro e w2 ⟨rfl, rfl⟩)
  refine Dt.wp_region_tree (fun W => Only g w2 W) [0, 1, 2, 3, 4, 5, 6, 7, 8, 9, 10, 11, 12, 13, 14] (.one 15 (.one 16 (.one 17 .nil))) mixedP (by kernel_rfl) rfl (by kernel_rfl) (fun _ _ _ d _ h => by cases d <;> exact h) (Only.refl _ _).drew ?_
  refine Dt.tk_val (some 28) rfl rfl rfl (.slice (some ⟨b, o, none⟩) 6 c) (fun _ => by go_simp) ?_
  go_frame
  refine Dt.tk_val (some 29) rfl rfl rfl (.pointer (some ⟨b, o, none⟩)) (fun _ => by go_simp) ?_
  go_frame
  refine Dt.tk_val (some 30) rfl rfl rfl (.pointer (some ⟨b, o + 1, none⟩)) (fun _ => by go_simp) ?_
  go_frame
  refine Dt.tk_ld (some 31) rfl rfl rfl _ _ rfl rfl (fun W hW => ldTxt (keepO hW r0 HBG.out)) ?_
  go_frame
  refine Dt.tk_val (some 32) rfl rfl rfl (.string x1) (fun _ => by go_simp) ?_
  go_frame
  refine Dt.tk_val (some 33) rfl rfl rfl (.bool y1) (fun w => by rw [run_eqlJ (u := x1) (v := ⟨#[1]⟩) _ _ _ _ rfl rfl rfl w, HY1.out]) ?_
  go_frame
  refine Dt.tk_val (some 34) rfl rfl rfl (.string x1) (fun _ => by go_simp) ?_
  go_frame
  refine Dt.tk_val (some 35) rfl rfl rfl (.bool y2) (fun w => by rw [run_eqlJ (u := x1) (v := ⟨#[2]⟩) _ _ _ _ rfl rfl rfl w, HY2.out]) ?_
  go_frame
  refine Dt.tk_val (some 36) rfl rfl rfl (.int .u64 (ux : Nat)) (fun _ => by go_simp) ?_
  go_frame
  refine Dt.tk_val (some 37) rfl rfl rfl (.string x3) (fun _ => by go_simp) ?_
  go_frame
  refine Dt.tk_val (some 38) rfl rfl rfl (.string x4) (fun _ => by go_simp) ?_
  go_frame
  refine Dt.tk_val (some 39) rfl rfl rfl (.slice (some ⟨b, o, none⟩) 6 c) (fun _ => by go_simp) ?_
  go_frame
  refine Dt.tk_val (some 40) rfl rfl rfl (.pointer (some ⟨b, o + 5 * 3, none⟩)) (fun _ => by go_simp) ?_
  go_frame
  refine Dt.tk_val (some 41) rfl rfl rfl (.pointer (some ⟨b, o + 5 * 3 + 2, none⟩)) (fun _ => by go_simp) ?_
  go_frame
  refine Dt.tk_ld (some 42) rfl rfl rfl _ _ rfl rfl (fun W hW => ldSls (keepO hW r5 HBG.out)) ?_
  go_frame
  refine Dt.tk_nil ?_
  have hC0 : Below w2.heap.size w2 w2.drew := (Below.refl _ _).drew
  have hC3 := below_new HB.out (below_new H1.out hC0)
  refine Dt.op_call (some 43) rfl rfl rfl (f := 69) (vs := #[.slice a5 n5 c5, .func (.func 70) #[] #[]]) (by go_simp) ((HEACH.out _ hC3).mono ?_)
  rintro e w4 ⟨v4, rfl, hv4, hB4⟩
  obtain ⟨hat4, hlt4⟩ := hv4.own
  obtain ⟨p4, k4, rfl⟩ := hat4.shape
  have hC4 := below_new hC0 hB4
  have hh4 := below_holds (below_new H1.out hC4) HH.out
  have hO4 : Only g w2 w4 := (Only.refl g w2).below hC4
  refine ⟨_, rfl, hO4, ?_⟩
  go_frame
  refine Dt.op_val (some 44) rfl rfl rfl (v := .agg #[.string x0, .bool y1, .bool y2, .int .u64 (ux : Nat), .string x3, .string x4, .slice p4 K.length k4]) (w' := w4) (by go_simp) ?_
  refine ⟨hO4, ?_⟩
  go_frame
  refine Dt.op_storeH none rfl rfl rfl 38 _ _ rfl g _ rfl rfl 38 _ hh4 infoWrite2 rfl (by simp [Value.oneCell']) ?_
  intro w5 h5 o5 z5
  have o5 : Only g w4 w5 := ⟨o5.os, o5.tape, o5.output, o5.size, o5.block⟩
  have h5 : Holds w5 g 38 _ := h5
  refine ⟨hO4.trans o5, ?_⟩
  go_frame
  refine then_normalJ ?_
  go_wp2_with fail
  refine bodyPost_ret (results_cellH (p := 2) rfl _ w5 g 38 _ _ rfl h5 Try.underlying38 rfl infoWrite2) rfl ⟨⟨_, rfl, ?_, ?_⟩, Only.fresh (below_new hC3 hB4) o5 (by have := HG.out; omega)⟩
  · refine hat4.kept fun b hb => ?_
    have h1 := hlt4 b hb
    have h2 := hC3.size
    have h3 := HG.out
    have h4 := HH.out.lt
    have h5 := H1.out.size
    have h6 : w2.drew.heap.size = w2.heap.size := rfl
    exact o5.block b h1.2 (by omega)
  · intro b hb
    have h1 := hlt4 b hb
    have h2 := hC3.size
    rw [z5]
    omega
end Go.Proofs.Ytadpopjhhanapaa
