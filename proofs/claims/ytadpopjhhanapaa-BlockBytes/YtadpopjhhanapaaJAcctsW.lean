/-
  BlockAccounts: the law's walk.
-/
import Derived.Test.YtadpopjhhanapaaJQAcctW
namespace Go.Proofs.Ytadpopjhhanapaa
open Go Go.RowKit

theorem acctOf_form (x : Wr) (hz : Int) (was : Bool) (n : Int) : ∃ (N : Nat) (B C : ByteArray) (Z : Int), acctOf x hz was n = .tuple #[.agg #[.int .u64 (N : Nat), .string B, .string C, .int .i64 Z], .bool (!x.g)] := by
  unfold acctOf
  cases h : x.g with
  | true => exact ⟨0, ⟨#[]⟩, ⟨#[]⟩, 0, rfl⟩
  | false => exact ⟨x.n, x.b, x.c, _, rfl⟩
theorem ldStrs {w : World} {ad : Addr} {p : Option Addr} {n c : Nat} (h : w.cell? ad = some (.slice p n c)) : (loadVar 43 ad).run Try.prog w = .ok (.slice p n c) w := by simp [go_sem, h]
section
variable {ops : Array Oper} {rest : List Oper} {op : Oper} {a : Act} {w : World} {Q : Exit → Act → World → Prop}
theorem wpList_neqA {N : Nat} {B C : ByteArray} {Z : Int} (x y : Operand) (ho : op.op = .binOp .neq 40 x y 40) (hx : a.eval x = .agg #[.int .u64 (N : Nat), .string B, .string C, .int .i64 Z]) (hy : a.eval y = .agg #[.int .u64 (N : Nat), .string B, .string C, .int .i64 Z]) (hw : Region.wanted op (yielded ops a.tmps) = true)
    (h : wpList Try.prog ops Q rest (a.put op.dst (.bool false)) w) : wpList Try.prog ops Q (op :: rest) a w :=
  wpList_neqS hw _ _ x y ho _ _ hx hy true guardAcct (eql_acct_self w N B C Z) h
end
section
variable {ops : Array Oper} {rest : List Oper} {op : Oper} {a : Act} {C : World → Prop} {Q : Act → Prop}
theorem wpQ_neqJ (hw : Region.wanted op (yielded ops a.tmps) = true) (ty : TypeId) (x y : Operand) (ho : op.op = .binOp .neq 9 x y ty) {u v : ByteArray} (hx : a.eval x = .string u) (hy : a.eval y = .string v) {r : Bool} (hr : (!decide (u = v)) = r)
    (h : wpQuiet Try.prog ops C Q rest (a.put op.dst (.bool r))) : wpQuiet Try.prog ops C Q (op :: rest) a :=
  wpQ_val hw _ (fun w => by rw [run_neqJ ty x y a.eval hx hy ho w, hr]) h
end
set_option maxRecDepth 8000 in
set_option maxHeartbeats 16000000 in
theorem accts_walk {w : World} {x : Wr} (hx : WrOk w x) (hn : Nat) (hb hc : ByteArray) (hz : Int) {n : Int} {v : Value} {L : List Wr} (hv : WritesAt w v L) (hl : L.length ≤ 4000000000000) :
    Calls Try.prog 5 #[wra x, .agg (acct hn hb hc hz), .agg #[.int .i64 n, v]] w fun e w' => e = .returned (.bool true) ∧ Below w.heap.size w w' := by
  obtain ⟨px, nx, cx, hsx⟩ := hx.1.shape3
  obtain ⟨p, c, rfl⟩ := hv.shape
  obtain ⟨W0, g, hW0, hg, hB0, hh⟩ := box_write w x
  obtain ⟨W1, g1, hW1, hg1, hB1, ha⟩ := box_z W0 40 #[.int .u64 (hn : Nat), .string hb, .string hc, .int .i64 hz]
  obtain ⟨W2, g2, hW2, hg2, hB2, hk⟩ := box_z W1 24 #[.int .i64 n, .slice p L.length c]
  have HB : Hid (Below w.heap.size w W2) := below_new (below_new hB0 hB1) hB2
  have HG : Hid (w.heap.size = g) := hg
  have HAC : Hid (∀ W was, Calls Try.prog 18 #[wra x, .agg #[.int .u64 (hn : Nat), .string hb, .string hc, .int .i64 hz], .bool was, .int .i64 n] W fun e w' => e = .returned (acctOf x hz was n) ∧ Below W.heap.size W w') := fun W was => kacct_any ⟨px, nx, cx, hsx⟩ hn hb hc hz was n
  have HQC : Hid (∀ W was, Calls Try.prog 19 #[wra x, .agg #[.int .u64 (hn : Nat), .string hb, .string hc, .int .i64 hz], .bool was, .int .i64 n] W fun e w' => e = .returned (acctOf x hz was n) ∧ Below W.heap.size W w') := fun W was => qacct_any ⟨px, nx, cx, hsx⟩ hn hb hc hz was n
  have HTO : Hid (∀ W, Below W2.heap.size W2 W → Calls Try.prog 20 #[.agg #[.int .i64 n, .slice p L.length c]] W fun e w' => ∃ v', e = .returned v' ∧ StrsAt w' v' (L.map Wr.a) ∧ Below W.heap.size W w') := fun W hW => touched_any (((hv.below hB0).below hB1).below hB2 |>.below hW) hl
  have HV : Hid (WritesAt W2 (.slice p L.length c) L) := ((hv.below hB0).below hB1).below hB2
  obtain ⟨N1, B1, C1, Z1, hf1⟩ := acctOf_form x hz true n
  obtain ⟨N0, BB0, C0, Z0, hf0⟩ := acctOf_form x hz false n
  have hhx := (hh.below hB1).below hB2
  have hax := below_holds hB2 ha
  have HAW := awake_any W2
  clear hB0 hB1 hB2 hh ha hx hv
  have hlN : L.length ≤ 4000000000000 := hl
  obtain ⟨N, hN⟩ : ∃ N, L.length = N := ⟨_, rfl⟩
  have HN : Hid (L.length = N) := hN
  rw [hN] at hlN hk hW2 HTO HV ⊢
  clear hN hl
  obtain ⟨xa, xg, xr, xn, xb, xc, xs, xL⟩ := x
  unfold wra wrC at *
  unfold acct
  dsimp only at *
  subst hsx
  have HA1 : Hid (∀ W, Calls Try.prog 18 #[.agg #[.string xa, .bool xg, .bool xr, .int .u64 (xn : Nat), .string xb, .string xc, .slice px nx cx], .agg #[.int .u64 (hn : Nat), .string hb, .string hc, .int .i64 hz], .bool true, .int .i64 n] W fun e w' => e = .returned (.tuple #[.agg #[.int .u64 (N1 : Nat), .string B1, .string C1, .int .i64 Z1], .bool (!xg)]) ∧ Below W.heap.size W w') := fun W => by
    have := HAC.out W true
    rw [hf1] at this
    exact this
  have HA0 : Hid (∀ W, Calls Try.prog 18 #[.agg #[.string xa, .bool xg, .bool xr, .int .u64 (xn : Nat), .string xb, .string xc, .slice px nx cx], .agg #[.int .u64 (hn : Nat), .string hb, .string hc, .int .i64 hz], .bool false, .int .i64 n] W fun e w' => e = .returned (.tuple #[.agg #[.int .u64 (N0 : Nat), .string BB0, .string C0, .int .i64 Z0], .bool (!xg)]) ∧ Below W.heap.size W w') := fun W => by
    have := HAC.out W false
    rw [hf0] at this
    exact this
  have HQ1 : Hid (∀ W, Calls Try.prog 19 #[.agg #[.string xa, .bool xg, .bool xr, .int .u64 (xn : Nat), .string xb, .string xc, .slice px nx cx], .agg #[.int .u64 (hn : Nat), .string hb, .string hc, .int .i64 hz], .bool true, .int .i64 n] W fun e w' => e = .returned (.tuple #[.agg #[.int .u64 (N1 : Nat), .string B1, .string C1, .int .i64 Z1], .bool (!xg)]) ∧ Below W.heap.size W w') := fun W => by
    have := HQC.out W true
    rw [hf1] at this
    exact this
  have HQ0 : Hid (∀ W, Calls Try.prog 19 #[.agg #[.string xa, .bool xg, .bool xr, .int .u64 (xn : Nat), .string xb, .string xc, .slice px nx cx], .agg #[.int .u64 (hn : Nat), .string hb, .string hc, .int .i64 hz], .bool false, .int .i64 n] W fun e w' => e = .returned (.tuple #[.agg #[.int .u64 (N0 : Nat), .string BB0, .string C0, .int .i64 Z0], .bool (!xg)]) ∧ Below W.heap.size W w') := fun W => by
    have := HQC.out W false
    rw [hf0] at this
    exact this
  clear HAC HQC hf0 hf1
  go_enter Try.func5, Try.ntmps5
  go_wp2_with (go_at_call 9; refine HAW.mono ?_; rintro e w1 ⟨rfl, hB1⟩)
  have H1 : Hid (Below W2.heap.size W2 w1) := hB1
  have HX1 : Hid (WriteAt w1 g 0 ⟨xa, xg, xr, xn, xb, xc, .slice px nx cx, xL⟩ ∧ Holds w1 g1 40 #[.int .u64 (hn : Nat), .string hb, .string hc, .int .i64 hz] ∧ Holds w1 g2 24 #[.int .i64 n, .slice p N c]) := ⟨hhx.below hB1, below_holds hB1 hax, below_holds hB1 hk⟩
  clear hB1 hhx hax hk HAW
  go_loopw [8] (fun y wr => ∃ k : Nat, y = .int .i64 (k : Nat) ∧ k ≤ 2 ∧ Below w1.heap.size w1 wr) (fun y _ => 2 - (intOf y).toNat)
  case atStart => exact ⟨0, rfl, by omega, Below.refl _ _⟩
  case round =>
    obtain ⟨k, rfl, hk2, hB⟩ := hrel
    have X2 := HX1.out.1.below hB
    have A2 := below_holds hB HX1.out.2.1
    have K2 := below_holds hB HX1.out.2.2
    have K20 := K2.cell 0
    simp at K20
    rcases (by omega : k = 0 ∨ k = 1 ∨ k = 2) with rfl | rfl | rfl
    · cases xg with
      | true =>
        simp only [Bool.not_true] at HA1 HA0 HQ1 HQ0
        go_wp2_with (first
          | (refine wpList_ldA r9 _ rfl rfl rfl ?_)
          | (refine wpList_ldW X3 _ rfl rfl rfl ?_)
          | (refine wpList_ldA A3 _ rfl rfl rfl ?_)
          | (refine wpList_ldW X2 _ rfl rfl rfl ?_)
          | (refine wpList_ldA A2 _ rfl rfl rfl ?_)
          | (refine wpList_neqA (N := N0) (B := BB0) (C := C0) (Z := Z0) _ _ rfl rfl rfl rfl ?_)
          | (go_at_call 18; refine (HA0.out _).mono ?_; rintro e w3 ⟨rfl, hB3⟩
             have X3 := (X2.below hB3).below (below_new1 _ (.cells #[.int .u64 (N0 : Nat), .string BB0, .string C0, .int .i64 Z0] 40))
             have A3 := (below_holds hB3 A2).alloc (.cells #[.int .u64 (N0 : Nat), .string BB0, .string C0, .int .i64 Z0] 40)
             have K30 := ((below_holds hB3 K2).alloc (.cells #[.int .u64 (N0 : Nat), .string BB0, .string C0, .int .i64 Z0] 40)).cell 0
             simp at K30
             have H3 := below_new hB (below_new hB3 (below_new1 _ (.cells #[.int .u64 (N0 : Nat), .string BB0, .string C0, .int .i64 Z0] 40))))
          | (go_at_call 19; refine (HQ0.out _).mono ?_; rintro e w4 ⟨rfl, hB4⟩
             have r9 := (below_holds hB4 (Holds.new w3 40 #[.int .u64 (N0 : Nat), .string BB0, .string C0, .int .i64 Z0])).alloc (.cells #[.int .u64 (N0 : Nat), .string BB0, .string C0, .int .i64 Z0] 40)
             have X41 := ((X3.below hB4).below (below_new1 _ (.cells #[.int .u64 (N0 : Nat), .string BB0, .string C0, .int .i64 Z0] 40))).c1
             have H4 := below_new H3 (below_new hB4 (below_new1 _ (.cells #[.int .u64 (N0 : Nat), .string BB0, .string C0, .int .i64 Z0] 40))))
          | fail)
        exact ⟨⟨1, by go_num, by omega, H4⟩, by simp [intOf]⟩
      | false =>
        simp only [Bool.not_false] at HA1 HA0 HQ1 HQ0
        go_wp2_with (first
          | (refine wpList_ldA r9 _ rfl rfl rfl ?_)
          | (refine wpList_ldW X3 _ rfl rfl rfl ?_)
          | (refine wpList_ldA A3 _ rfl rfl rfl ?_)
          | (refine wpList_ldW X2 _ rfl rfl rfl ?_)
          | (refine wpList_ldA A2 _ rfl rfl rfl ?_)
          | (refine wpList_neqA (N := N0) (B := BB0) (C := C0) (Z := Z0) _ _ rfl rfl rfl rfl ?_)
          | (go_at_call 18; refine (HA0.out _).mono ?_; rintro e w3 ⟨rfl, hB3⟩
             have X3 := (X2.below hB3).below (below_new1 _ (.cells #[.int .u64 (N0 : Nat), .string BB0, .string C0, .int .i64 Z0] 40))
             have A3 := (below_holds hB3 A2).alloc (.cells #[.int .u64 (N0 : Nat), .string BB0, .string C0, .int .i64 Z0] 40)
             have K30 := ((below_holds hB3 K2).alloc (.cells #[.int .u64 (N0 : Nat), .string BB0, .string C0, .int .i64 Z0] 40)).cell 0
             simp at K30
             have H3 := below_new hB (below_new hB3 (below_new1 _ (.cells #[.int .u64 (N0 : Nat), .string BB0, .string C0, .int .i64 Z0] 40))))
          | (go_at_call 19; refine (HQ0.out _).mono ?_; rintro e w4 ⟨rfl, hB4⟩
             have r9 := (below_holds hB4 (Holds.new w3 40 #[.int .u64 (N0 : Nat), .string BB0, .string C0, .int .i64 Z0])).alloc (.cells #[.int .u64 (N0 : Nat), .string BB0, .string C0, .int .i64 Z0] 40)
             have X41 := ((X3.below hB4).below (below_new1 _ (.cells #[.int .u64 (N0 : Nat), .string BB0, .string C0, .int .i64 Z0] 40))).c1
             have H4 := below_new H3 (below_new hB4 (below_new1 _ (.cells #[.int .u64 (N0 : Nat), .string BB0, .string C0, .int .i64 Z0] 40))))
          | fail)
        exact ⟨⟨1, by go_num, by omega, H4⟩, by simp [intOf]⟩
    · cases xg with
      | true =>
        simp only [Bool.not_true] at HA1 HA0 HQ1 HQ0
        go_wp2_with (first
          | (refine wpList_ldA r9 _ rfl rfl rfl ?_)
          | (refine wpList_ldW X3 _ rfl rfl rfl ?_)
          | (refine wpList_ldA A3 _ rfl rfl rfl ?_)
          | (refine wpList_ldW X2 _ rfl rfl rfl ?_)
          | (refine wpList_ldA A2 _ rfl rfl rfl ?_)
          | (refine wpList_neqA (N := N1) (B := B1) (C := C1) (Z := Z1) _ _ rfl rfl rfl rfl ?_)
          | (go_at_call 18; refine (HA1.out _).mono ?_; rintro e w3 ⟨rfl, hB3⟩
             have X3 := (X2.below hB3).below (below_new1 _ (.cells #[.int .u64 (N1 : Nat), .string B1, .string C1, .int .i64 Z1] 40))
             have A3 := (below_holds hB3 A2).alloc (.cells #[.int .u64 (N1 : Nat), .string B1, .string C1, .int .i64 Z1] 40)
             have K30 := ((below_holds hB3 K2).alloc (.cells #[.int .u64 (N1 : Nat), .string B1, .string C1, .int .i64 Z1] 40)).cell 0
             simp at K30
             have H3 := below_new hB (below_new hB3 (below_new1 _ (.cells #[.int .u64 (N1 : Nat), .string B1, .string C1, .int .i64 Z1] 40))))
          | (go_at_call 19; refine (HQ1.out _).mono ?_; rintro e w4 ⟨rfl, hB4⟩
             have r9 := (below_holds hB4 (Holds.new w3 40 #[.int .u64 (N1 : Nat), .string B1, .string C1, .int .i64 Z1])).alloc (.cells #[.int .u64 (N1 : Nat), .string B1, .string C1, .int .i64 Z1] 40)
             have X41 := ((X3.below hB4).below (below_new1 _ (.cells #[.int .u64 (N1 : Nat), .string B1, .string C1, .int .i64 Z1] 40))).c1
             have H4 := below_new H3 (below_new hB4 (below_new1 _ (.cells #[.int .u64 (N1 : Nat), .string B1, .string C1, .int .i64 Z1] 40))))
          | fail)
        exact ⟨⟨2, by go_num, by omega, H4⟩, by simp [intOf]⟩
      | false =>
        simp only [Bool.not_false] at HA1 HA0 HQ1 HQ0
        go_wp2_with (first
          | (refine wpList_ldA r9 _ rfl rfl rfl ?_)
          | (refine wpList_ldW X3 _ rfl rfl rfl ?_)
          | (refine wpList_ldA A3 _ rfl rfl rfl ?_)
          | (refine wpList_ldW X2 _ rfl rfl rfl ?_)
          | (refine wpList_ldA A2 _ rfl rfl rfl ?_)
          | (refine wpList_neqA (N := N1) (B := B1) (C := C1) (Z := Z1) _ _ rfl rfl rfl rfl ?_)
          | (go_at_call 18; refine (HA1.out _).mono ?_; rintro e w3 ⟨rfl, hB3⟩
             have X3 := (X2.below hB3).below (below_new1 _ (.cells #[.int .u64 (N1 : Nat), .string B1, .string C1, .int .i64 Z1] 40))
             have A3 := (below_holds hB3 A2).alloc (.cells #[.int .u64 (N1 : Nat), .string B1, .string C1, .int .i64 Z1] 40)
             have K30 := ((below_holds hB3 K2).alloc (.cells #[.int .u64 (N1 : Nat), .string B1, .string C1, .int .i64 Z1] 40)).cell 0
             simp at K30
             have H3 := below_new hB (below_new hB3 (below_new1 _ (.cells #[.int .u64 (N1 : Nat), .string B1, .string C1, .int .i64 Z1] 40))))
          | (go_at_call 19; refine (HQ1.out _).mono ?_; rintro e w4 ⟨rfl, hB4⟩
             have r9 := (below_holds hB4 (Holds.new w3 40 #[.int .u64 (N1 : Nat), .string B1, .string C1, .int .i64 Z1])).alloc (.cells #[.int .u64 (N1 : Nat), .string B1, .string C1, .int .i64 Z1] 40)
             have X41 := ((X3.below hB4).below (below_new1 _ (.cells #[.int .u64 (N1 : Nat), .string B1, .string C1, .int .i64 Z1] 40))).c1
             have H4 := below_new H3 (below_new hB4 (below_new1 _ (.cells #[.int .u64 (N1 : Nat), .string B1, .string C1, .int .i64 Z1] 40))))
          | fail)
        exact ⟨⟨2, by go_num, by omega, H4⟩, by simp [intOf]⟩
    · clear HA0 HA1 HQ0 HQ1
      go_wp2_with (first
        | (refine wpList_loadK _ rfl _ rfl K2 rfl ?_)
        | (go_at_call 20; refine (HTO.out _ (below_new H1.out hB)).mono ?_; rintro e w5 ⟨v5, rfl, hv5, hB5⟩
           obtain ⟨p5, c5, rfl⟩ := hv5.shape
           rw [List.length_map, HN.out]
           rw [List.length_map, HN.out] at hv5
           have K5 := (below_holds hB5 K2).cell 1
           simp at K5)
        | fail)
      have H5 : Hid (Below w1.heap.size w1 w5) := below_new hB hB5
      have hni : (N : Int) ≤ 4000000000000 := by omega
      clear hB5 hB X2 A2 K2 K20
      have K51 : Hid (w5.cell? ⟨g2, 1, none⟩ = some (.slice p N c)) := K5
      clear K5
      go_loopw [14] (fun y wr2 => ∃ j : Nat, y = .int .i64 (j : Nat) ∧ j ≤ N ∧ Below w5.heap.size w5 wr2) (fun y _ => N - (intOf y).toNat)
      case atStart => exact ⟨0, rfl, Nat.zero_le _, Below.refl _ _⟩
      case round =>
        obtain ⟨j, rfl, hj, hB6⟩ := hrel
        by_cases hjn : j < N
        · have hji : (j : Int) < N := by omega
          obtain ⟨y, hy⟩ : ∃ y, L[j]? = some y := ⟨_, List.getElem?_eq_getElem (by have := HN.out; omega)⟩
          obtain ⟨b1, o1, rfl, _, f1⟩ := (hv5.below hB6).at (i := j) (x := y.a) (by rw [List.getElem?_map, hy]; rfl)
          have hvx := HV.out.below (below_new H1.out (below_new H5.out hB6))
          obtain ⟨b2, o2, rfl, _, q0, _⟩ := hvx.at hy
          have K6 := keep_cell hB6 K51.out
          clear hvx hv5
          go_wp2_with fail
          refine wp_region_class (fun W => Below wr.heap.size wr W) mixedP (by kernel_rfl) (Below.refl _ _).drew ?_
          go_big_quiet_step (exact fun _ => rfl)
          go_big_quiet_step (exact fun _ => rfl)
          go_big_quiet_step (exact fun _ => rfl)
          refine wpQ_ld rfl _ _ rfl rfl (fun W hW => ldTxt (keep_cell hW f1)) ?_
          go_frame
          go_big_quiet_step (exact fun _ => rfl)
          refine wpQ_ld rfl _ _ rfl rfl (fun W hW => ldWs (keep_cell hW K6)) ?_
          go_frame
          go_big_quiet_step (exact fun _ => rfl)
          go_big_quiet_step (exact fun _ => rfl)
          go_big_quiet_step (exact fun _ => rfl)
          refine wpQ_ld rfl _ _ rfl rfl (fun W hW => ldTxt (keep_cell hW q0)) ?_
          go_frame
          refine wpQ_neqJ rfl _ _ _ rfl rfl rfl (r := false) (by simp) ?_
          go_frame
          refine wpQuiet_nil ?_
          intro w7 hB7
          refine then_normalJ ?_
          have H7 := below_new hB6 hB7
          clear hB6 hB7
          go_wp2_with fail
          exact ⟨⟨j + 1, by go_num, by omega, H7⟩, by simp [intOf]; omega⟩
        · have hji : ¬ (j : Int) < N := by omega
          obtain rfl : j = N := by omega
          have HFIN : Hid (Below w.heap.size w wr) := below_new HB.out (below_new H1.out (below_new H5.out hB6))
          go_wp2_with fail
          go_ret
          exact ⟨rfl, by first | exact HFIN.out | (rw [← HG.out]; exact HFIN.out)⟩
end Go.Proofs.Ytadpopjhhanapaa
