/-
  The document's Account.
-/
import Derived.Test.YtadpopjhhanapaaJGoneW
namespace Go.Proofs.Ytadpopjhhanapaa
open Go Go.RowKit

set_option maxRecDepth 8000 in
set_option maxHeartbeats 4000000 in
theorem qacct_any {w : World} {x : Wr} (hs : ∃ p n c, x.s = .slice p n c) (hn : Nat) (hb hc : ByteArray) (hz : Int) (was : Bool) (n : Int) :
    Calls Try.prog 19 #[wra x, .agg (acct hn hb hc hz), .bool was, .int .i64 n] w fun e w' => e = .returned (acctOf x hz was n) ∧ Below w.heap.size w w' := by
  obtain ⟨p, m, c, hs⟩ := hs
  obtain ⟨W0, g, hW0, hg, hB0, hh⟩ := box_write w x
  obtain ⟨W1, g1, hW1, hg1, hB1, ha1⟩ := box_z W0 40 #[.int .u64 (hn : Nat), .string hb, .string hc, .int .i64 hz]
  obtain ⟨W2, g2, hW2, hg2, hB2, ha2⟩ := box_z W1 40 #[.int .u64 0, .string ⟨#[]⟩, .string ⟨#[]⟩, .int .i64 0]
  have hh2 := (hh.below hB1).below hB2
  have c1 := hh2.c1
  have c2 := hh2.c2
  have c3 := hh2.c3
  have c4 := hh2.c4
  have c5 := hh2.c5
  have a3 := (below_holds hB2 ha1).cell 3
  simp at a3
  have e2 := (hh2.below (below_new1 _ (.cells #[.int .u64 (x.n : Nat), .string x.b, .string x.c, .int .i64 n] 40))).c2
  have e3 := ((below_holds hB2 ha1).alloc (.cells #[.int .u64 (x.n : Nat), .string x.b, .string x.c, .int .i64 n] 40)).cell 3
  simp at e3
  have HG : Hid (w.heap.size = g) := hg
  have HB : Hid (Below w.heap.size w W2) := below_new (below_new hB0 hB1) hB2
  have HGE : Hid (w.heap.size ≤ g2) := by show _ ≤ _; rw [← hg2]; exact Nat.le_trans hB0.size hB1.size
  have HZ : Hid (Holds W2 g2 40 #[.int .u64 0, .string ⟨#[]⟩, .string ⟨#[]⟩, .int .i64 0]) := ha2
  clear hB0 hB1 hB2 ha1 ha2 hh hh2
  obtain ⟨xa, xg, xr, xn, xb, xc, xs, xL⟩ := x
  unfold acctOf acct wra wrC
  dsimp only at *
  subst hs
  cases xg with
  | true =>
    go_enter Try.func19, Try.ntmps19
    go_wp2_with (refine wpList_storeH rfl 40 _ _ rfl g2 #[.int .u64 0, .string ⟨#[]⟩, .string ⟨#[]⟩, .int .i64 0] rfl rfl 40 _ HZ.out infoAcctJ rfl (by simp [Value.oneCell']) ?_; intro w3 h3 o3 z3)
    refine bodyPost_ret (results_cellH2 (p := 8) (u := 9) rfl _ w3 g2 40 _ _ rfl h3 Try.underlying40 rfl infoAcctJ) rfl ⟨rfl, ?_⟩
    first | exact Only.fresh HB.out o3 HGE.out | (rw [← HG.out]; exact Only.fresh HB.out o3 HGE.out)
  | false =>
    have hw3 : ∀ cs, Below w.heap.size w (W2.alloc (.cells cs 40)) := fun cs => below_new HB.out (below_new1 _ _)
    have hz3 : ∀ cs, Holds (W2.alloc (.cells cs 40)) g2 40 #[.int .u64 0, .string ⟨#[]⟩, .string ⟨#[]⟩, .int .i64 0] := fun cs => HZ.out.alloc _
    have HW3 : Hid (∀ cs, Below w.heap.size w (W2.alloc (.cells cs 40))) := hw3
    have HZ3 : Hid (∀ cs, Holds (W2.alloc (.cells cs 40)) g2 40 #[.int .u64 0, .string ⟨#[]⟩, .string ⟨#[]⟩, .int .i64 0]) := hz3
    clear hw3 hz3
    cases was with
    | false =>
      go_enter Try.func19, Try.ntmps19
      go_wp2_with (refine wpList_storeH rfl 40 _ _ rfl g2 #[.int .u64 (xn : Nat), .string xb, .string xc, .int .i64 n] rfl rfl 40 _ (HZ3.out _) infoAcctJ rfl (by simp [Value.oneCell']) ?_; intro w3 h3 o3 z3)
      refine bodyPost_ret (results_cellH2 (p := 8) (u := 9) rfl _ w3 g2 40 _ _ rfl h3 Try.underlying40 rfl infoAcctJ) rfl ⟨rfl, ?_⟩
      first | exact Only.fresh (HW3.out _) o3 HGE.out | (rw [← HG.out]; exact Only.fresh (HW3.out _) o3 HGE.out)
    | true =>
      cases xr with
      | true =>
        go_enter Try.func19, Try.ntmps19
        go_wp2_with (refine wpList_storeH rfl 40 _ _ rfl g2 #[.int .u64 (xn : Nat), .string xb, .string xc, .int .i64 n] rfl rfl 40 _ (HZ3.out _) infoAcctJ rfl (by simp [Value.oneCell']) ?_; intro w3 h3 o3 z3)
        refine bodyPost_ret (results_cellH2 (p := 8) (u := 9) rfl _ w3 g2 40 _ _ rfl h3 Try.underlying40 rfl infoAcctJ) rfl ⟨rfl, ?_⟩
        first | exact Only.fresh (HW3.out _) o3 HGE.out | (rw [← HG.out]; exact Only.fresh (HW3.out _) o3 HGE.out)
      | false =>
        go_enter Try.func19, Try.ntmps19
        go_wp2_with (refine wpList_storeH rfl 40 _ _ rfl g2 #[.int .u64 (xn : Nat), .string xb, .string xc, .int .i64 hz] rfl rfl 40 _ (HZ3.out _) infoAcctJ rfl (by simp [Value.oneCell']) ?_; intro w3 h3 o3 z3)
        refine bodyPost_ret (results_cellH2 (p := 8) (u := 9) rfl _ w3 g2 40 _ _ rfl h3 Try.underlying40 rfl infoAcctJ) rfl ⟨rfl, ?_⟩
        first | exact Only.fresh (HW3.out _) o3 HGE.out | (rw [← HG.out]; exact Only.fresh (HW3.out _) o3 HGE.out)
end Go.Proofs.Ytadpopjhhanapaa
