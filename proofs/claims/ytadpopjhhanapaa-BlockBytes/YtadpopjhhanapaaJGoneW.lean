/-
  BlockGone: the law's walk.
-/
import Derived.Test.YtadpopjhhanapaaJAwake
import Derived.Test.YtadpopjhhanapaaSEqLaws
import Derived.Laws.StructEq
namespace Go.Proofs.Ytadpopjhhanapaa
open Go Go.RowKit

theorem guardAcct : Try.prog.eqGuardType Try.prog.depth 40 = false := by kernel_rfl
theorem eql_acct (w : World) (n m : Nat) (b c b' c' : ByteArray) (z z' : Int) : (Op.equalIn 10000 40 (.agg (acct n b c z)) (.agg (acct m b' c' z'))).run Try.prog w = .ok (((n : Int) == m) && (b.toList == b'.toList) && (c.toList == c'.toList) && (z == z')) w := by
  rw [run_equalIn_struct w 9999 40 _ _ (by kernel_rfl) (by kernel_rfl)]
  unfold acct
  go_simp
  by_cases h1 : (n : Int) = m <;> by_cases h2 : b.toList = b'.toList <;> by_cases h3 : c.toList = c'.toList <;> by_cases h4 : z = z' <;> simp [h1, h2, h3, h4]
theorem eql_acct_self (w : World) (n : Nat) (b c : ByteArray) (z : Int) : (Op.equalIn 10000 40 (.agg (acct n b c z)) (.agg (acct n b c z))).run Try.prog w = .ok true w := by
  rw [eql_acct]; simp
theorem eql_zero (w : World) : (Op.equalIn 10000 40 (.agg #[.int .u64 0, .string ⟨#[]⟩, .string ⟨#[]⟩, .int .i64 0]) (.agg #[.int .u64 0, .string ⟨#[]⟩, .string ⟨#[]⟩, .int .i64 0])).run Try.prog w = .ok true w := eql_acct_self w 0 ⟨#[]⟩ ⟨#[]⟩ 0
section
variable {ops : Array Oper} {rest : List Oper} {op : Oper} {a : Act} {w : World} {Q : Exit → Act → World → Prop}
theorem wpList_ldW {b o : Nat} {xa xb xc : ByteArray} {xg xr : Bool} {xn : Nat} {xs : Value} {xL : List Sl} (hh : WriteAt w b o ⟨xa, xg, xr, xn, xb, xc, xs, xL⟩) (x : Operand) (ho : op.op = .load 38 x) (hx : a.eval x = .pointer (some ⟨b, o, none⟩)) (hw : Region.wanted op (yielded ops a.tmps) = true)
    (h : wpList Try.prog ops Q rest (a.put op.dst (.agg #[.string xa, .bool xg, .bool xr, .int .u64 (xn : Nat), .string xb, .string xc, xs])) w) : wpList Try.prog ops Q (op :: rest) a w :=
  wpList_ldJ hw _ x ho hx (ldWrite hh) h
theorem wpList_ldA {b : Nat} {n : Int} {bb cc : ByteArray} {z : Int} (hh : Holds w b 40 #[.int .u64 n, .string bb, .string cc, .int .i64 z]) (x : Operand) (ho : op.op = .load 40 x) (hx : a.eval x = .pointer (some ⟨b, 0, none⟩)) (hw : Region.wanted op (yielded ops a.tmps) = true)
    (h : wpList Try.prog ops Q rest (a.put op.dst (.agg #[.int .u64 n, .string bb, .string cc, .int .i64 z])) w) : wpList Try.prog ops Q (op :: rest) a w :=
  wpList_loadG hw _ x ho b hx _ _ _ hh Try.underlying40 rfl infoAcctJ h
theorem wpList_eqlZ (x y : Operand) (ho : op.op = .binOp .eql 40 x y 40) (hx : a.eval x = .agg #[.int .u64 0, .string ⟨#[]⟩, .string ⟨#[]⟩, .int .i64 0]) (hy : a.eval y = .agg #[.int .u64 0, .string ⟨#[]⟩, .string ⟨#[]⟩, .int .i64 0]) (hw : Region.wanted op (yielded ops a.tmps) = true)
    (h : wpList Try.prog ops Q rest (a.put op.dst (.bool true)) w) : wpList Try.prog ops Q (op :: rest) a w :=
  wpList_eqlS hw _ _ x y ho _ _ hx hy true guardAcct (eql_zero w) h
end
set_option maxRecDepth 8000 in
set_option maxHeartbeats 8000000 in
theorem gone_walk {w : World} {x : Wr} (hx : WrOk w x) (hn : Nat) (hb hc : ByteArray) (hz : Int) (n : Int) : Calls Try.prog 7 #[wra x, .agg (acct hn hb hc hz), .int .i64 n] w fun e w' => e = .returned (.bool true) ∧ Below w.heap.size w w' := by
  obtain ⟨p, m, c, hs⟩ := hx.1.shape3
  obtain ⟨W0, g, hW0, hg, hB0, hh⟩ := box_write w x
  obtain ⟨W1, g1, hW1, hg1, hB1, ha⟩ := box_z W0 40 #[.int .u64 (hn : Nat), .string hb, .string hc, .int .i64 hz]
  have hh1 := hh.below hB1
  have HB : Hid (Below w.heap.size w W1) := below_new hB0 hB1
  have HAC : Hid (∀ W was, Calls Try.prog 18 #[wra x, .agg #[.int .u64 (hn : Nat), .string hb, .string hc, .int .i64 hz], .bool was, .int .i64 n] W fun e w' => e = .returned (acctOf x hz was n) ∧ Below W.heap.size W w') := fun W was => kacct_any ⟨p, m, c, hs⟩ hn hb hc hz was n
  clear hB0 hB1 hh hx
  obtain ⟨xa, xg, xr, xn, xb, xc, xs, xL⟩ := x
  unfold wra wrC at *
  unfold acct
  dsimp only at *
  subst hs
  have HAW := awake_any W1
  cases xg with
  | true =>
    have HA2 : Hid (∀ W was, Calls Try.prog 18 #[.agg #[.string xa, .bool true, .bool xr, .int .u64 (xn : Nat), .string xb, .string xc, .slice p m c], .agg #[.int .u64 (hn : Nat), .string hb, .string hc, .int .i64 hz], .bool was, .int .i64 n] W fun e w' => e = .returned (.tuple #[.agg #[.int .u64 0, .string ⟨#[]⟩, .string ⟨#[]⟩, .int .i64 0], .bool false]) ∧ Below W.heap.size W w') := fun W was => HAC.out W was
    clear HAC
    go_enter Try.func7, Try.ntmps7
    go_wp2_with (first
      | (refine wpList_ldA hr3D _ rfl rfl rfl ?_)
      | (refine wpList_ldA hr4 _ rfl rfl rfl ?_)
      | (refine wpList_eqlZ _ _ rfl rfl rfl rfl ?_)
      | (refine wpList_ldW hhC _ rfl rfl rfl ?_)
      | (refine wpList_ldA haC _ rfl rfl rfl ?_)
      | (refine wpList_ldW hhB _ rfl rfl rfl ?_)
      | (refine wpList_ldA haB _ rfl rfl rfl ?_)
      | (go_at_call 9; refine HAW.mono ?_; rintro e w2 ⟨rfl, hB2⟩; have hhB := hh1.below hB2; have haB := below_holds hB2 ha)
      | (go_at_call 18; have hr3' := hr3; refine (HA2.out _ false).mono ?_; rintro e w4 ⟨rfl, hB4⟩
         have hhD := (hhC.below hB4).below (below_new1 _ (.cells #[.int .u64 0, .string ⟨#[]⟩, .string ⟨#[]⟩, .int .i64 0] 40))
         have haD := (below_holds hB4 haC).alloc (.cells #[.int .u64 0, .string ⟨#[]⟩, .string ⟨#[]⟩, .int .i64 0] 40)
         have hr3D := (below_holds hB4 hr3).alloc (.cells #[.int .u64 0, .string ⟨#[]⟩, .string ⟨#[]⟩, .int .i64 0] 40)
         have hr4 := Holds.new w4 40 #[.int .u64 0, .string ⟨#[]⟩, .string ⟨#[]⟩, .int .i64 0]
         have cD1 := hhD.c1)
      | (go_at_call 18; refine (HA2.out _ true).mono ?_; rintro e w3 ⟨rfl, hB3⟩
         have hhC := (hhB.below hB3).below (below_new1 _ (.cells #[.int .u64 0, .string ⟨#[]⟩, .string ⟨#[]⟩, .int .i64 0] 40))
         have haC := (below_holds hB3 haB).alloc (.cells #[.int .u64 0, .string ⟨#[]⟩, .string ⟨#[]⟩, .int .i64 0] 40)
         have hr3 := Holds.new w3 40 #[.int .u64 0, .string ⟨#[]⟩, .string ⟨#[]⟩, .int .i64 0])
      | fail)
    go_ret
    exact ⟨rfl, below_new HB.out (below_new hB2 (below_new hB3 (below_new (below_new1 _ (.cells #[.int .u64 0, .string ⟨#[]⟩, .string ⟨#[]⟩, .int .i64 0] 40)) (below_new hB4 (below_new1 _ _)))))⟩
  | false =>
    cases xr with
    | true =>
      have HA1 : Hid (∀ W, Calls Try.prog 18 #[.agg #[.string xa, .bool false, .bool true, .int .u64 (xn : Nat), .string xb, .string xc, .slice p m c], .agg #[.int .u64 (hn : Nat), .string hb, .string hc, .int .i64 hz], .bool true, .int .i64 n] W fun e w' => e = .returned (.tuple #[.agg #[.int .u64 (xn : Nat), .string xb, .string xc, .int .i64 n], .bool true]) ∧ Below W.heap.size W w') := fun W => HAC.out W true
      have HA2 : Hid (∀ W, Calls Try.prog 18 #[.agg #[.string xa, .bool false, .bool true, .int .u64 (xn : Nat), .string xb, .string xc, .slice p m c], .agg #[.int .u64 (hn : Nat), .string hb, .string hc, .int .i64 hz], .bool false, .int .i64 n] W fun e w' => e = .returned (.tuple #[.agg #[.int .u64 (xn : Nat), .string xb, .string xc, .int .i64 n], .bool true]) ∧ Below W.heap.size W w') := fun W => HAC.out W false
      clear HAC
      go_enter Try.func7, Try.ntmps7
      go_wp2_with (first
        | (refine wpList_ldW hhC _ rfl rfl rfl ?_)
        | (refine wpList_ldA haC _ rfl rfl rfl ?_)
        | (refine wpList_ldW hhB _ rfl rfl rfl ?_)
        | (refine wpList_ldA haB _ rfl rfl rfl ?_)
        | (go_at_call 9; refine HAW.mono ?_; rintro e w2 ⟨rfl, hB2⟩; have hhB := hh1.below hB2; have haB := below_holds hB2 ha)
        | (go_at_call 18; have hr3' := hr3; refine (HA2.out _).mono ?_; rintro e w4 ⟨rfl, hB4⟩
           have hhD := (hhC.below hB4).below (below_new1 _ (.cells #[.int .u64 (xn : Nat), .string xb, .string xc, .int .i64 n] 40))
           have haD := (below_holds hB4 haC).alloc (.cells #[.int .u64 (xn : Nat), .string xb, .string xc, .int .i64 n] 40)
           have hr3D := (below_holds hB4 hr3).alloc (.cells #[.int .u64 (xn : Nat), .string xb, .string xc, .int .i64 n] 40)
           have hr4 := Holds.new w4 40 #[.int .u64 (xn : Nat), .string xb, .string xc, .int .i64 n]
           have cD1 := hhD.c1
           have cD2 := hhD.c2
           have cD3 := hhD.c3
           have cD4 := hhD.c4
           have cD5 := hhD.c5
           have a3 := haD.cell 3
           have r30 := hr3D.cell 0
           have r31 := hr3D.cell 1
           have r32 := hr3D.cell 2
           have r33 := hr3D.cell 3
           have r40 := hr4.cell 0
           have r43 := hr4.cell 3
           simp at a3 r30 r31 r32 r33 r40 r43)
        | (go_at_call 18; refine (HA1.out _).mono ?_; rintro e w3 ⟨rfl, hB3⟩
           have hhC := (hhB.below hB3).below (below_new1 _ (.cells #[.int .u64 (xn : Nat), .string xb, .string xc, .int .i64 n] 40))
           have haC := (below_holds hB3 haB).alloc (.cells #[.int .u64 (xn : Nat), .string xb, .string xc, .int .i64 n] 40)
           have hr3 := Holds.new w3 40 #[.int .u64 (xn : Nat), .string xb, .string xc, .int .i64 n])
        | fail)
      go_ret
      exact ⟨rfl, below_new HB.out (below_new hB2 (below_new hB3 (below_new (below_new1 _ (.cells #[.int .u64 (xn : Nat), .string xb, .string xc, .int .i64 n] 40)) (below_new hB4 (below_new1 _ _)))))⟩
    | false =>
      have HA1 : Hid (∀ W, Calls Try.prog 18 #[.agg #[.string xa, .bool false, .bool false, .int .u64 (xn : Nat), .string xb, .string xc, .slice p m c], .agg #[.int .u64 (hn : Nat), .string hb, .string hc, .int .i64 hz], .bool true, .int .i64 n] W fun e w' => e = .returned (.tuple #[.agg #[.int .u64 (xn : Nat), .string xb, .string xc, .int .i64 hz], .bool true]) ∧ Below W.heap.size W w') := fun W => HAC.out W true
      have HA2 : Hid (∀ W, Calls Try.prog 18 #[.agg #[.string xa, .bool false, .bool false, .int .u64 (xn : Nat), .string xb, .string xc, .slice p m c], .agg #[.int .u64 (hn : Nat), .string hb, .string hc, .int .i64 hz], .bool false, .int .i64 n] W fun e w' => e = .returned (.tuple #[.agg #[.int .u64 (xn : Nat), .string xb, .string xc, .int .i64 n], .bool true]) ∧ Below W.heap.size W w') := fun W => HAC.out W false
      clear HAC
      go_enter Try.func7, Try.ntmps7
      go_wp2_with (first
        | (refine wpList_ldW hhC _ rfl rfl rfl ?_)
        | (refine wpList_ldA haC _ rfl rfl rfl ?_)
        | (refine wpList_ldW hhB _ rfl rfl rfl ?_)
        | (refine wpList_ldA haB _ rfl rfl rfl ?_)
        | (go_at_call 9; refine HAW.mono ?_; rintro e w2 ⟨rfl, hB2⟩; have hhB := hh1.below hB2; have haB := below_holds hB2 ha)
        | (go_at_call 18; have hr3' := hr3; refine (HA2.out _).mono ?_; rintro e w4 ⟨rfl, hB4⟩
           have hhD := (hhC.below hB4).below (below_new1 _ (.cells #[.int .u64 (xn : Nat), .string xb, .string xc, .int .i64 n] 40))
           have haD := (below_holds hB4 haC).alloc (.cells #[.int .u64 (xn : Nat), .string xb, .string xc, .int .i64 n] 40)
           have hr3D := (below_holds hB4 hr3).alloc (.cells #[.int .u64 (xn : Nat), .string xb, .string xc, .int .i64 n] 40)
           have hr4 := Holds.new w4 40 #[.int .u64 (xn : Nat), .string xb, .string xc, .int .i64 n]
           have cD1 := hhD.c1
           have cD2 := hhD.c2
           have cD3 := hhD.c3
           have cD4 := hhD.c4
           have cD5 := hhD.c5
           have a3 := haD.cell 3
           have r30 := hr3D.cell 0
           have r31 := hr3D.cell 1
           have r32 := hr3D.cell 2
           have r33 := hr3D.cell 3
           have r40 := hr4.cell 0
           have r43 := hr4.cell 3
           simp at a3 r30 r31 r32 r33 r40 r43)
        | (go_at_call 18; refine (HA1.out _).mono ?_; rintro e w3 ⟨rfl, hB3⟩
           have hhC := (hhB.below hB3).below (below_new1 _ (.cells #[.int .u64 (xn : Nat), .string xb, .string xc, .int .i64 hz] 40))
           have haC := (below_holds hB3 haB).alloc (.cells #[.int .u64 (xn : Nat), .string xb, .string xc, .int .i64 hz] 40)
           have hr3 := Holds.new w3 40 #[.int .u64 (xn : Nat), .string xb, .string xc, .int .i64 hz])
        | fail)
      go_ret
      exact ⟨rfl, below_new HB.out (below_new hB2 (below_new hB3 (below_new (below_new1 _ (.cells #[.int .u64 (xn : Nat), .string xb, .string xc, .int .i64 hz] 40)) (below_new hB4 (below_new1 _ _)))))⟩
end Go.Proofs.Ytadpopjhhanapaa
