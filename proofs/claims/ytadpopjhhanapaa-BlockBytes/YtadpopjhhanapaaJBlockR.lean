/-
  blockOf.
-/
import Derived.Test.YtadpopjhhanapaaKB
namespace Go.Proofs.Ytadpopjhhanapaa
open Go Go.RowKit

def numR (i : Row) : Int := wrap64 ((uintV (txtAt i 0).data.toList : Nat) : Int)
def blkR (i : Row) : Int × List Wr := if i.len = 2 then (numR i, writesR (rowAt i 1)) else (0, [])
/-- What a call that makes a block answers. -/
def BPost (w w' : World) (i : Row) (e : Ending) : Prop := ∃ v' K, e = .returned (blkV (blkR i).1 v') ∧ OwnWr w' w.heap.size v' K ∧ K.map Wr.bare = (blkR i).2
theorem OwnWr.shape3 {w : World} {base : Nat} {v : Value} {L : List Wr} (h : OwnWr w base v L) : ∃ p n c, v = .slice p n c := by
  obtain ⟨p, c, h⟩ := h.at.shape
  exact ⟨p, _, c, h⟩
theorem BPost.stored {w w1 w2 w3 : World} {i : Row} {v' : Value} {K : List Wr} {g : Nat} (hat : OwnWr w2 w1.heap.size v' K) (hK : K.map Wr.bare = (blkR i).2) (ho : Only g w2 w3) (hg : g < w1.heap.size) (hw : w.heap.size ≤ w1.heap.size) :
    BPost w w3 i (.returned (blkV (blkR i).1 v')) :=
  ⟨v', K, rfl, (hat.kept0 (fun b h1 h2 => ho.block b h2 (by omega)) ho.size).mono hw, hK⟩
set_option maxRecDepth 8000 in
set_option maxHeartbeats 2000000 in
theorem blockof1_any {w : World} {i : Row} {a : Option Addr} {c : Nat} (hl : LiesB w i a) (h2 : i.len = 2) (hs : i.small 1000000) : Calls Try.prog 45 #[.slice a i.len c] w fun e w' => BPost w w' i e ∧ Below w.heap.size w w' := by
  have hb : blkR i = (numR i, writesR (rowAt i 1)) := by unfold blkR; rw [if_pos h2]
  unfold BPost
  rw [hb, h2]
  obtain ⟨b, o, a0, c0, rfl, p00, p01, p02, _⟩ := hl.nth 0 (by omega)
  obtain ⟨b', o', a1, c1, hbo, p10, p11, p12, _, hl1⟩ := hl.nth 1 (by omega)
  injection hbo with hbo
  injection hbo with e1 e2
  subst e1 e2
  have heach := fun W (hW : Below w.heap.size w W) => eachwr_any (c := c1) (hl1.below hW) (Row.small_nth hs 1).2.1 (Row.small_nth hs 1).2.2
  have hui := fun W => uint_any (txtAt i 0) W (by have := (Row.small_nth hs 0).1; omega)
  unfold numR
  clear hl p00 p02 p10 p11 hl1 hs h2 hb
  unfold txtAt rowAt at *
  simp only [Nat.zero_mul, Nat.add_zero, Nat.one_mul] at p01 p12
  generalize (⟨(i.nth 0).2.1.toArray⟩ : ByteArray) = x0 at *
  generalize writesR (i.nth 1).2.2 = KK at *
  generalize (i.nth 1).2.2.len = n1 at *
  obtain ⟨W0, g, hW0, hg, hB0, hz⟩ := box_z w 24 #[.int .i64 0, .slice none 0 0]
  have q0 := keep_cell hB0 p01
  have q1 := keep_cell hB0 p12
  have HB : Hid (Below w.heap.size w W0) := hB0
  have HH : Hid (Holds W0 g 24 #[.int .i64 0, .slice none 0 0]) := hz
  have HG : Hid (w.heap.size = g) := hg
  have HEACH : Hid (∀ W, Below w.heap.size w W → Calls Try.prog 47 #[.slice a1 n1 c1, .func (.func 48) #[] #[]] W fun e w' => ∃ v' K, e = .returned v' ∧ OwnWr w' W.heap.size v' K ∧ K.map Wr.bare = KK ∧ Below W.heap.size W w') := heach
  have HUI : Hid (∀ W, Calls Try.prog 46 #[.string x0] W fun e w' => e = .returned (.tuple #[.int .u64 (uintV x0.data.toList), .bool (uintB x0.data.toList)]) ∧ w' = W) := hui
  clear hB0 hz p01 p12 heach hui
  generalize uintV x0.data.toList = ux at *
  generalize uintB x0.data.toList = ub at *
  obtain ⟨z, hz⟩ : ∃ z, wrap64 ((ux : Nat) : Int) = z := ⟨_, rfl⟩
  rw [hz]
  have HZ : Hid (wrap64 ((ux : Nat) : Int) = z) := hz
  clear hz
  go_enter Try.func45, Try.ntmps45
  go_wp2_with (first
    | (go_at_call 46; refine (HUI.out _).mono ?_; rintro e w1 ⟨rfl, rfl⟩)
    | (go_at_call 47; rw [HZ.out]; refine (HEACH.out _ HB.out).mono ?_; rintro e w2 ⟨v2, K2, rfl, hat, hK, hB2⟩; obtain ⟨p2, n2, k2, rfl⟩ := hat.shape3)
    | (refine wpList_storeH rfl 24 _ _ rfl g #[.int .i64 z, .slice p2 n2 k2] rfl rfl 24 _ (below_holds hB2 HH.out) infoBlk2 rfl (by simp [Value.oneCell']) ?_; intro w3 h3 o3 z3)
    | fail)
  refine bodyPost_ret (results_cellH (p := 2) rfl _ w3 g 24 _ _ rfl h3 Try.underlying24 rfl infoBlk2) rfl ⟨⟨.slice p2 n2 k2, K2, rfl, ?_, hK⟩, Only.fresh (below_new HB.out hB2) o3 (by have := HG.out; omega)⟩
  exact (hat.kept0 (fun b h1 h2 => o3.block b h2 (by have := HH.out.lt; omega)) o3.size).mono HB.out.size
set_option maxRecDepth 8000 in
set_option maxHeartbeats 2000000 in
theorem madeb_any {w : World} {i : Row} {a : Option Addr} {c : Nat} (b : Bool) (s : ByteArray) (hl : LiesB w i a) (hi : i.small 1000000) : Calls Try.prog 44 #[.agg #[.bool b, .string s, .slice a i.len c], .int .i64 2, .func (.func 45) #[] #[]] w fun e w' => BPost w w' i e ∧ Below w.heap.size w w' := by
  obtain ⟨W0, g, hW0, hg, hB0, c0, c1, c2⟩ := box_item w b s (.slice a i.len c)
  obtain ⟨W1, g1, hW1, hg1, hB1, hz⟩ := box_z W0 24 #[.int .i64 0, .slice none 0 0]
  have d2 := keep_cell hB1 c2
  have HB : Hid (Below w.heap.size w W1) := below_new hB0 hB1
  have HG : Hid (w.heap.size ≤ g1) := by show _ ≤ _; rw [← hg1]; exact hB0.size
  have HS : Hid (i.len = 2 → Calls Try.prog 45 #[.slice a i.len c] W1 fun e w' => BPost W1 w' i e ∧ Below W1.heap.size W1 w') := fun h => blockof1_any ((hl.below hB0).below hB1) h hi
  have HZ : Hid (¬ i.len = 2 → blkR i = (0, [])) := fun h => by unfold blkR; rw [if_neg h]
  have HH : Hid (Holds W1 g1 24 #[.int .i64 0, .slice none 0 0]) := hz
  clear hB0 hB1 c0 c1 c2 hz hl hi
  by_cases h2 : i.len = 2
  · have HS2 : Hid (Calls Try.prog 45 #[.slice a 2 c] W1 fun e w' => BPost W1 w' i e ∧ Below W1.heap.size W1 w') := by have := HS.out h2; rw [h2] at this; exact this
    rw [h2] at d2 hW0 ⊢
    clear HS HZ h2
    go_enter Try.func44, Try.ntmps44
    go_wp2_with (first
      | (go_at_call 45; refine HS2.out.mono ?_; rintro e w2 ⟨⟨v2, K2, rfl, hat, hK⟩, hB2⟩
         obtain ⟨p2, n2, k2, rfl⟩ := hat.shape3)
      | (refine wpList_storeH rfl 24 _ _ rfl g1 #[.int .i64 (blkR i).1, .slice p2 n2 k2] rfl rfl 24 _ (below_holds hB2 HH.out) infoBlk2 rfl (by simp [Value.oneCell']) ?_; intro w3 h3 o3 z3)
      | fail)
    exact bodyPost_ret (results_cellH (p := 6) rfl _ w3 g1 24 _ _ rfl h3 Try.underlying24 rfl infoBlk2) rfl ⟨BPost.stored hat hK o3 HH.out.lt HB.out.size, Only.fresh (below_new HB.out hB2) o3 HG.out⟩
  · have hni : ¬ (i.len : Int) = 2 := by omega
    have hx := HZ.out h2
    have HP : Hid (∀ w', BPost w w' i (.returned (.agg #[.int .i64 0, .slice none 0 0]))) := fun w' => ⟨.slice none 0 0, [], by rw [hx]; rfl, OwnWr.nil _ _, by rw [hx]; rfl⟩
    clear HS HZ h2 hx
    generalize i.len = n at *
    obtain ⟨W2, g2, hW2, hg2, hB2, hz2⟩ := box_z W1 24 #[.int .i64 0, .slice none 0 0]
    have H2 : Hid (Below W1.heap.size W1 W2) := hB2
    have HZ2 : Hid (Holds W2 g2 24 #[.int .i64 0, .slice none 0 0]) := hz2
    clear hB2 hz2
    go_enter Try.func44, Try.ntmps44
    go_wp2_with (first
      | (refine wpList_loadH rfl 24 _ rfl _ rfl _ _ _ HZ2.out Try.underlying24 rfl infoBlk2 ?_)
      | (refine wpList_storeH rfl 24 _ _ rfl g1 #[.int .i64 0, .slice none 0 0] rfl rfl 24 _ (below_holds H2.out HH.out) infoBlk2 rfl (by simp [Value.oneCell']) ?_; intro w3 h3 o3 z3)
      | fail)
    exact bodyPost_ret (results_cellH (p := 6) rfl _ w3 g1 24 _ _ rfl h3 Try.underlying24 rfl infoBlk2) rfl ⟨HP.out _, Only.fresh (below_new HB.out H2.out) o3 HG.out⟩
set_option maxRecDepth 8000 in
set_option maxHeartbeats 2000000 in
theorem blockof_any {w : World} {i : Row} {a : Option Addr} {c : Nat} (b : Bool) (s : ByteArray) (hl : LiesB w i a) (hi : i.small 1000000) : Calls Try.prog 25 #[.agg #[.bool b, .string s, .slice a i.len c]] w fun e w' => BPost w w' i e ∧ Below w.heap.size w w' := by
  obtain ⟨W0, g, hW0, hg, hB0, c0, c1, c2⟩ := box_item w b s (.slice a i.len c)
  obtain ⟨W1, g1, hW1, hg1, hB1, hz⟩ := box_z W0 24 #[.int .i64 0, .slice none 0 0]
  have d0 := keep_cell hB1 c0
  have d1 := keep_cell hB1 c1
  have d2 := keep_cell hB1 c2
  have HB : Hid (Below w.heap.size w W1) := below_new hB0 hB1
  have HG : Hid (w.heap.size ≤ g1) := by show _ ≤ _; rw [← hg1]; exact hB0.size
  have HS : Hid (Calls Try.prog 44 #[.agg #[.bool b, .string s, .slice a i.len c], .int .i64 2, .func (.func 45) #[] #[]] W1 fun e w' => BPost W1 w' i e ∧ Below W1.heap.size W1 w') := madeb_any b s ((hl.below hB0).below hB1) hi
  have HH : Hid (Holds W1 g1 24 #[.int .i64 0, .slice none 0 0]) := hz
  clear hB0 hB1 c0 c1 c2 hz hl hi
  generalize i.len = n at *
  go_enter Try.func25, Try.ntmps25
  go_wp2_with (first
    | (go_at_call 44; refine HS.out.mono ?_; rintro e w2 ⟨⟨v2, K2, rfl, hat, hK⟩, hB2⟩
       obtain ⟨p2, n2, k2, rfl⟩ := hat.shape3)
    | (refine wpList_storeH rfl 24 _ _ rfl g1 #[.int .i64 (blkR i).1, .slice p2 n2 k2] rfl rfl 24 _ (below_holds hB2 HH.out) infoBlk2 rfl (by simp [Value.oneCell']) ?_; intro w3 h3 o3 z3)
    | fail)
  exact bodyPost_ret (results_cellH (p := 2) rfl _ w3 g1 24 _ _ rfl h3 Try.underlying24 rfl infoBlk2) rfl ⟨BPost.stored hat hK o3 HH.out.lt HB.out.size, Only.fresh (below_new HB.out hB2) o3 HG.out⟩
end Go.Proofs.Ytadpopjhhanapaa
