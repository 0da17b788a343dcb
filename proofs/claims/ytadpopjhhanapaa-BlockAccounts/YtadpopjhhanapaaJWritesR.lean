/-
  writeOf, and each over things that makes writes.
-/
import Derived.Test.YtadpopjhhanapaaJSmall
namespace Go.Proofs.Ytadpopjhhanapaa
open Go Go.RowKit

theorem SlotsAt.shape3 {w : World} {v : Value} {L : List Sl} (h : SlotsAt w v L) : ∃ p n c, v = .slice p n c := by
  obtain ⟨p, c, h⟩ := h.shape
  exact ⟨p, _, c, h⟩
theorem writeR_with (i : Row) (v v' : Value) : ({ writeR i v with s := v' } : Wr) = writeR i v' := by
  unfold writeR
  split <;> rfl
theorem writeR_lt (i : Row) (v : Value) : (writeR i v).n < 18446744073709551616 := by
  unfold writeR
  split
  · exact uintV_lt _
  · exact (by decide : 0 < 18446744073709551616)
theorem writeR_no {i : Row} (h : ¬ i.len = 6) (v : Value) : writeR i v = { wr0 with s := v } := by unfold writeR; rw [if_neg h]
theorem writeR_s (i : Row) (v : Value) : (writeR i v).s = v := by unfold writeR; split <;> rfl
/-- Stored elsewhere, it stays what it is. -/
theorem WPost.stored {w w1 w2 w3 : World} {i : Row} {v' : Value} {g : Nat} (hat : SlotsAt w2 v' (writeR i v').L) (hlt : ∀ b, v'.ownBlock = some b → w1.heap.size ≤ b ∧ b < w2.heap.size) (ho : Only g w2 w3) (hg : g < w1.heap.size) (hw : w.heap.size ≤ w1.heap.size) :
    WPost w w3 i (.returned (wra (writeR i v'))) := by
  refine ⟨v', rfl, hat.kept fun b hb => ho.block b (hlt b hb).2 (by have := (hlt b hb).1; omega), fun b hb => ⟨by have := (hlt b hb).1; omega, Nat.lt_of_lt_of_le (hlt b hb).2 ho.size⟩⟩
set_option maxRecDepth 8000 in
set_option maxHeartbeats 2000000 in
theorem madew_any {w : World} {i : Row} {a : Option Addr} {c : Nat} (b : Bool) (s : ByteArray) (hl : LiesB w i a) (hi : i.small 1000000) : Calls Try.prog 67 #[.agg #[.bool b, .string s, .slice a i.len c], .int .i64 6, .func (.func 68) #[] #[]] w fun e w' => WPost w w' i e ∧ Below w.heap.size w w' := by
  obtain ⟨W0, g, hW0, hg, hB0, c0, c1, c2⟩ := box_item w b s (.slice a i.len c)
  obtain ⟨W1, g1, hW1, hg1, hB1, hz⟩ := box_z W0 38 #[.string ⟨#[]⟩, .bool false, .bool false, .int .u64 0, .string ⟨#[]⟩, .string ⟨#[]⟩, .slice none 0 0]
  have d2 := keep_cell hB1 c2
  have HB : Hid (Below w.heap.size w W1) := below_new hB0 hB1
  have HG : Hid (w.heap.size ≤ g1) := by show _ ≤ _; rw [← hg1]; exact hB0.size
  have HS : Hid (i.len = 6 → Calls Try.prog 68 #[.slice a i.len c] W1 fun e w' => WPost W1 w' i e ∧ Below W1.heap.size W1 w') := fun h => writeof1_any ((hl.below hB0).below hB1) h (Row.small_nth hi 5).2.1 (Row.small_nth hi 2).1
  have HZ : Hid (¬ i.len = 6 → ∀ v, writeR i v = { wr0 with s := v }) := fun h => writeR_no h
  have HH : Hid (Holds W1 g1 38 #[.string ⟨#[]⟩, .bool false, .bool false, .int .u64 0, .string ⟨#[]⟩, .string ⟨#[]⟩, .slice none 0 0]) := hz
  clear hB0 hB1 c0 c1 c2 hz hl hi
  by_cases h6 : i.len = 6
  · have HS2 : Hid (Calls Try.prog 68 #[.slice a 6 c] W1 fun e w' => WPost W1 w' i e ∧ Below W1.heap.size W1 w') := by have := HS.out h6; rw [h6] at this; exact this
    rw [h6] at d2 hW0 ⊢
    clear HS HZ h6
    go_enter Try.func67, Try.ntmps67
    go_wp2_with (first
      | (go_at_call 68; refine HS2.out.mono ?_; rintro e w2 ⟨⟨v2, rfl, hat, hlt⟩, hB2⟩
         obtain ⟨p2, n2, k2, rfl⟩ := hat.shape3)
      | (refine wpList_storeH rfl 38 _ _ rfl g1 (wrC (writeR i (.slice p2 n2 k2))) rfl rfl 38 _ (below_holds hB2 HH.out) infoWrite2 rfl (by simp [wrC, writeR_s, Value.oneCell']) ?_; intro w3 h3 o3 z3)
      | fail)
    exact bodyPost_ret (results_cellH (p := 6) rfl _ w3 g1 38 _ _ rfl h3 Try.underlying38 rfl infoWrite2) rfl ⟨WPost.stored hat hlt o3 HH.out.lt HB.out.size, Only.fresh (below_new HB.out hB2) o3 HG.out⟩
  · have hni : ¬ (i.len : Int) = 6 := by omega
    have hx := HZ.out h6
    have hP : ∀ w', WPost w w' i (.returned (wra (writeR i (.slice none 0 0)))) := fun w' => ⟨_, rfl, by rw [hx]; exact SlotsAt.nil _ _ _, by intro b hb; cases hb⟩
    rw [hx] at hP
    have HP : Hid (∀ w', WPost w w' i (.returned (.agg #[.string ⟨#[]⟩, .bool false, .bool false, .int .u64 0, .string ⟨#[]⟩, .string ⟨#[]⟩, .slice none 0 0]))) := hP
    clear HS HZ h6 hx hP
    generalize i.len = n at *
    obtain ⟨W2, g2, hW2, hg2, hB2, hz2⟩ := box_z W1 38 #[.string ⟨#[]⟩, .bool false, .bool false, .int .u64 0, .string ⟨#[]⟩, .string ⟨#[]⟩, .slice none 0 0]
    have H2 : Hid (Below W1.heap.size W1 W2) := hB2
    have HZ2 : Hid (Holds W2 g2 38 #[.string ⟨#[]⟩, .bool false, .bool false, .int .u64 0, .string ⟨#[]⟩, .string ⟨#[]⟩, .slice none 0 0]) := hz2
    clear hB2 hz2
    go_enter Try.func67, Try.ntmps67
    go_wp2_with (first
      | (refine wpList_loadH rfl 38 _ rfl _ rfl _ _ _ HZ2.out Try.underlying38 rfl infoWrite2 ?_)
      | (refine wpList_storeH rfl 38 _ _ rfl g1 #[.string ⟨#[]⟩, .bool false, .bool false, .int .u64 0, .string ⟨#[]⟩, .string ⟨#[]⟩, .slice none 0 0] rfl rfl 38 _ (below_holds H2.out HH.out) infoWrite2 rfl (by simp [Value.oneCell']) ?_; intro w3 h3 o3 z3)
      | fail)
    exact bodyPost_ret (results_cellH (p := 6) rfl _ w3 g1 38 _ _ rfl h3 Try.underlying38 rfl infoWrite2) rfl ⟨HP.out _, Only.fresh (below_new HB.out H2.out) o3 HG.out⟩
set_option maxRecDepth 8000 in
set_option maxHeartbeats 2000000 in
theorem writeof_any {w : World} {i : Row} {a : Option Addr} {c : Nat} (b : Bool) (s : ByteArray) (hl : LiesB w i a) (hi : i.small 1000000) : Calls Try.prog 48 #[.agg #[.bool b, .string s, .slice a i.len c]] w fun e w' => WPost w w' i e ∧ Below w.heap.size w w' := by
  obtain ⟨W0, g, hW0, hg, hB0, c0, c1, c2⟩ := box_item w b s (.slice a i.len c)
  obtain ⟨W1, g1, hW1, hg1, hB1, hz⟩ := box_z W0 38 #[.string ⟨#[]⟩, .bool false, .bool false, .int .u64 0, .string ⟨#[]⟩, .string ⟨#[]⟩, .slice none 0 0]
  have d0 := keep_cell hB1 c0
  have d1 := keep_cell hB1 c1
  have d2 := keep_cell hB1 c2
  have HB : Hid (Below w.heap.size w W1) := below_new hB0 hB1
  have HG : Hid (w.heap.size ≤ g1) := by show _ ≤ _; rw [← hg1]; exact hB0.size
  have HS : Hid (Calls Try.prog 67 #[.agg #[.bool b, .string s, .slice a i.len c], .int .i64 6, .func (.func 68) #[] #[]] W1 fun e w' => WPost W1 w' i e ∧ Below W1.heap.size W1 w') := madew_any b s ((hl.below hB0).below hB1) hi
  have HH : Hid (Holds W1 g1 38 #[.string ⟨#[]⟩, .bool false, .bool false, .int .u64 0, .string ⟨#[]⟩, .string ⟨#[]⟩, .slice none 0 0]) := hz
  clear hB0 hB1 c0 c1 c2 hz hl hi
  generalize i.len = n at *
  go_enter Try.func48, Try.ntmps48
  go_wp2_with (first
    | (go_at_call 67; refine HS.out.mono ?_; rintro e w2 ⟨⟨v2, rfl, hat, hlt⟩, hB2⟩
       obtain ⟨p2, n2, k2, rfl⟩ := hat.shape3)
    | (refine wpList_storeH rfl 38 _ _ rfl g1 (wrC (writeR i (.slice p2 n2 k2))) rfl rfl 38 _ (below_holds hB2 HH.out) infoWrite2 rfl (by simp [wrC, writeR_s, Value.oneCell']) ?_; intro w3 h3 o3 z3)
    | fail)
  exact bodyPost_ret (results_cellH (p := 2) rfl _ w3 g1 38 _ _ rfl h3 Try.underlying38 rfl infoWrite2) rfl ⟨WPost.stored hat hlt o3 HH.out.lt HB.out.size, Only.fresh (below_new HB.out hB2) o3 HG.out⟩
end Go.Proofs.Ytadpopjhhanapaa
