/-
  Account and Touched.
-/
import Derived.Test.YtadpopjhhanapaaJByt2W
import Derived.Test.YtadpopjhhanapaaDecodeW
namespace Go.Proofs.Ytadpopjhhanapaa
open Go Go.RowKit

theorem infoAcctJ : (Try.prog.info? 40).map (·.size) = some 4 := by kernel_rfl
def acctOf (x : Wr) (hz : Int) (was : Bool) (n : Int) : Value :=
  if x.g = true then .tuple #[.agg #[.int .u64 0, .string ⟨#[]⟩, .string ⟨#[]⟩, .int .i64 0], .bool false]
  else .tuple #[.agg #[.int .u64 (x.n : Nat), .string x.b, .string x.c, .int .i64 (if (was && !x.r) = true then hz else n)], .bool true]
set_option maxRecDepth 8000 in
set_option maxHeartbeats 4000000 in
theorem kacct_any {w : World} {x : Wr} (hs : ∃ p n c, x.s = .slice p n c) (hn : Nat) (hb hc : ByteArray) (hz : Int) (was : Bool) (n : Int) :
    Calls Try.prog 18 #[wra x, .agg (acct hn hb hc hz), .bool was, .int .i64 n] w fun e w' => e = .returned (acctOf x hz was n) ∧ Below w.heap.size w w' := by
  obtain ⟨p, m, c, hs⟩ := hs
  obtain ⟨W0, g, hW0, hg, hB0, hh⟩ := box_write w x
  obtain ⟨W1, hW1⟩ : ∃ W1, World.alloc W0 (.cells #[.int .u64 (hn : Nat), .string hb, .string hc, .int .i64 hz] 40) = W1 := ⟨_, rfl⟩
  obtain ⟨g1, hg1⟩ : ∃ g1, W0.heap.size = g1 := ⟨_, rfl⟩
  obtain ⟨W2, hW2⟩ : ∃ W2, World.alloc W1 (.cells #[.int .u64 0, .string ⟨#[]⟩, .string ⟨#[]⟩, .int .i64 0] 40) = W2 := ⟨_, rfl⟩
  obtain ⟨g2, hg2⟩ : ∃ g2, W1.heap.size = g2 := ⟨_, rfl⟩
  have hB1 : Below W0.heap.size W0 W1 := by rw [← hW1]; exact below_new1 _ _
  have hB2 : Below W1.heap.size W1 W2 := by rw [← hW2]; exact below_new1 _ _
  have ha1 : Holds W1 g1 40 #[.int .u64 (hn : Nat), .string hb, .string hc, .int .i64 hz] := by rw [← hW1, ← hg1]; exact Holds.new _ _ _
  have ha2 : Holds W2 g2 40 #[.int .u64 0, .string ⟨#[]⟩, .string ⟨#[]⟩, .int .i64 0] := by rw [← hW2, ← hg2]; exact Holds.new _ _ _
  have hh2 := (hh.below hB1).below hB2
  have c1 := hh2.c1
  have c2 := hh2.c2
  have c3 := hh2.c3
  have c4 := hh2.c4
  have c5 := hh2.c5
  have a3 := (below_holds hB2 ha1).cell 3
  simp at a3
  have HB : Hid (Below w.heap.size w W2) := below_new (below_new hB0 hB1) hB2
  have HG : Hid (w.heap.size = g) := hg
  have HF : Hid (∀ W, Only g2 W2 W → Below w.heap.size w W) := fun W hW => Only.fresh HB.out hW (by rw [← hg2]; exact Nat.le_trans hB0.size hB1.size)
  have HZ : Hid (Holds W2 g2 40 #[.int .u64 0, .string ⟨#[]⟩, .string ⟨#[]⟩, .int .i64 0]) := ha2
  clear hB0 hB1 hB2 ha1 ha2 hh hh2
  obtain ⟨xa, xg, xr, xn, xb, xc, xs, xL⟩ := x
  unfold acctOf acct wra wrC
  dsimp only at *
  subst hs
  cases xg with
  | true =>
    go_enter Try.func18, Try.ntmps18
    go_wp2_with (refine wpList_storeH rfl 40 _ _ rfl g2 #[.int .u64 0, .string ⟨#[]⟩, .string ⟨#[]⟩, .int .i64 0] rfl rfl 40 _ HZ.out infoAcctJ rfl (by simp [Value.oneCell']) ?_; intro w3 h3 o3 z3)
    refine bodyPost_ret (results_cellH2 (p := 8) (u := 9) rfl _ w3 g2 40 _ _ rfl h3 Try.underlying40 rfl infoAcctJ) rfl ⟨rfl, by first | exact HF.out _ o3 | (rw [← HG.out]; exact HF.out _ o3)⟩
  | false =>
    cases was with
    | false =>
      go_enter Try.func18, Try.ntmps18
      go_wp2_with (refine wpList_storeH rfl 40 _ _ rfl g2 #[.int .u64 (xn : Nat), .string xb, .string xc, .int .i64 n] rfl rfl 40 _ HZ.out infoAcctJ rfl (by simp [Value.oneCell']) ?_; intro w3 h3 o3 z3)
      refine bodyPost_ret (results_cellH2 (p := 8) (u := 9) rfl _ w3 g2 40 _ _ rfl h3 Try.underlying40 rfl infoAcctJ) rfl ⟨rfl, by first | exact HF.out _ o3 | (rw [← HG.out]; exact HF.out _ o3)⟩
    | true =>
      cases xr with
      | false =>
        go_enter Try.func18, Try.ntmps18
        go_wp2_with (refine wpList_storeH rfl 40 _ _ rfl g2 #[.int .u64 (xn : Nat), .string xb, .string xc, .int .i64 hz] rfl rfl 40 _ HZ.out infoAcctJ rfl (by simp [Value.oneCell']) ?_; intro w3 h3 o3 z3)
        refine bodyPost_ret (results_cellH2 (p := 8) (u := 9) rfl _ w3 g2 40 _ _ rfl h3 Try.underlying40 rfl infoAcctJ) rfl ⟨rfl, by first | exact HF.out _ o3 | (rw [← HG.out]; exact HF.out _ o3)⟩
      | true =>
        go_enter Try.func18, Try.ntmps18
        go_wp2_with (refine wpList_storeH rfl 40 _ _ rfl g2 #[.int .u64 (xn : Nat), .string xb, .string xc, .int .i64 n] rfl rfl 40 _ HZ.out infoAcctJ rfl (by simp [Value.oneCell']) ?_; intro w3 h3 o3 z3)
        refine bodyPost_ret (results_cellH2 (p := 8) (u := 9) rfl _ w3 g2 40 _ _ rfl h3 Try.underlying40 rfl infoAcctJ) rfl ⟨rfl, by first | exact HF.out _ o3 | (rw [← HG.out]; exact HF.out _ o3)⟩
theorem touched1_any {w : World} (x : Wr) : Calls Try.prog 31 #[wra x] w fun e w' => e = .returned (.string x.a) ∧ Below w.heap.size w w' := by
  obtain ⟨W0, g, hW0, hg, hB0, hh⟩ := box_write w x
  have HB : Hid (Below w.heap.size w W0) := hB0
  have c0 := hh.c0
  clear hB0 hh
  obtain ⟨xa, xg, xr, xn, xb, xc, xs, xL⟩ := x
  unfold wra wrC
  dsimp only at *
  go_enter Try.func31, Try.ntmps31
  go_wp2_with fail
  go_ret
  exact ⟨rfl, HB.out⟩
theorem touched_any {w : World} {n : Int} {v : Value} {L : List Wr} (hv : WritesAt w v L) (hl : L.length ≤ 4000000000000) : Calls Try.prog 20 #[blkV n v] w fun e w' => ∃ v', e = .returned v' ∧ StrsAt w' v' (L.map Wr.a) ∧ Below w.heap.size w w' := by
  obtain ⟨p, c, rfl⟩ := hv.shape
  obtain ⟨W0, g, hW0, hg, hB0, hb0, h0, h1⟩ := box_block w n (.slice p L.length c)
  have HB : Hid (Below w.heap.size w W0) := hB0
  have HE : Hid (Calls Try.prog 30 #[.slice p L.length c, .func (.func 31) #[] #[]] W0 fun e w' => ∃ v', e = .returned v' ∧ OwnS w' W0.heap.size v' (L.map Wr.a) ∧ Below W0.heap.size W0 w') := eachWT_any (hv.below hB0) hl Wr.a (fun x _ W _ => touched1_any x)
  generalize L.length = m at *
  clear hB0 hb0 hv
  unfold blkV
  go_enter Try.func20, Try.ntmps20
  go_wp2_with (go_at_call 30; refine HE.out.mono ?_; rintro e w1 ⟨v1, rfl, hv1, hB1⟩)
  go_ret
  exact ⟨_, rfl, hv1.at, below_new HB.out hB1⟩
end Go.Proofs.Ytadpopjhhanapaa
