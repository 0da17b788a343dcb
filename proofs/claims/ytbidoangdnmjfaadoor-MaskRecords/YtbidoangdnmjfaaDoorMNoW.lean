/-
  With of what is no nibble, the program's and the document's.
-/
import Derived.Test.YtbidoangdnmjfaaDoorMWithW
namespace Go.Proofs.YtbidoangdnmjfaaDoor
open Go Go.RowKit

set_option maxRecDepth 8000 in
set_option maxHeartbeats 1000000 in
theorem qwith_no {w : World} {s t h : Nat} {v : Value} {L : List H32} (n : Int) (hn : ¬ (0 ≤ n ∧ n < 16)) (hv : HashesAt w v L) (tree : Bool) (r : ByteArray) :
    Calls Tryd.prog 26 #[brV s t h v, .int .i64 n, .bool tree, .string r] w fun e w' => e = .returned (brV s t h v) ∧ HashesAt w' v L ∧ Below w.heap.size w w' := by
  obtain ⟨p, c, rfl⟩ := hv.shape
  obtain ⟨m, hm⟩ : ∃ m, L.length = m := ⟨_, rfl⟩
  rw [hm] at hv ⊢
  clear hm
  obtain ⟨W0, g, hW0, hg, hB0, hb0, _, _, _, _⟩ := box_br w s t h (.slice p m c)
  obtain ⟨W1, g1, hW1, hg1, hB1, hb1⟩ := box_zero W0
  have h0 : Holds W1 g 25 (brC s t h (.slice p m c)) := below_holds hB1 hb0
  have HW : Hid (Below w.heap.size w W1 ∧ HashesAt W1 (.slice p m c) L ∧ w.heap.size ≤ g1) := ⟨below_new hB0 hB1, (hv.below hB0).below hB1, by rw [← hg1]; exact hB0.size⟩
  unfold brC at h0 hb1
  have HG : Hid (w.heap.size = g) := hg
  clear hB0 hB1 hb0 hv
  unfold brV
  by_cases h1 : n < 0
  · clear hn
    go_enter Tryd.func26, Tryd.ntmps26
    go_wp2_with (first
      | (refine wpList_loadH rfl 25 _ rfl _ rfl _ _ _ h0 Tryd.underlying25 rfl infoBr ?_)
      | (refine wpList_storeH rfl 25 _ _ rfl _ _ rfl rfl _ _ hb1 infoBr rfl (by simp [Value.oneCell']) ?_; intro W9 h9 hO9 hs9))
    refine bodyPost_ret (results_cellH rfl _ _ _ _ _ _ rfl h9 Tryd.underlying25 rfl infoBr) rfl ?_
    refine ⟨rfl, HW.out.2.1.only hO9 hb1, ?_⟩
    have hq := Only.fresh HW.out.1 hO9 HW.out.2.2
    first | exact hq | (rw [HG.out] at hq; exact hq)
  · have h2 : (15 : Int) < n := by omega
    clear hn
    go_enter Tryd.func26, Tryd.ntmps26
    go_wp2_with (first
      | (refine wpList_loadH rfl 25 _ rfl _ rfl _ _ _ h0 Tryd.underlying25 rfl infoBr ?_)
      | (refine wpList_storeH rfl 25 _ _ rfl _ _ rfl rfl _ _ hb1 infoBr rfl (by simp [Value.oneCell']) ?_; intro W9 h9 hO9 hs9))
    refine bodyPost_ret (results_cellH rfl _ _ _ _ _ _ rfl h9 Tryd.underlying25 rfl infoBr) rfl ?_
    refine ⟨rfl, HW.out.2.1.only hO9 hb1, ?_⟩
    have hq := Only.fresh HW.out.1 hO9 HW.out.2.2
    first | exact hq | (rw [HG.out] at hq; exact hq)
set_option maxRecDepth 8000 in
set_option maxHeartbeats 1000000 in
theorem mwith_no {w : World} {s t h : Nat} {v : Value} {L : List H32} (n : Int) (hn : ¬ (0 ≤ n ∧ n < 16)) (hv : HashesAt w v L) (hl : L.length ≤ 1000000000) (tree : Bool) (r : ByteArray) :
    Calls Tryd.prog 25 #[brV s t h v, .int .i64 n, .bool tree, .string r] w fun e w' => ∃ v', e = .returned (brV s t h v') ∧ HashesAt w' v' L ∧ Below w.heap.size w w' := by
  obtain ⟨p, c, rfl⟩ := hv.shape
  obtain ⟨m, hm⟩ : ∃ m, L.length = m := ⟨_, rfl⟩
  have HM : Hid (L.length ≤ 1000000000) := hl
  rw [hm] at hv ⊢
  clear hm hl
  obtain ⟨W0, g, hW0, hg, hB0, hb0, _, _, _, _⟩ := box_br w s t h (.slice p m c)
  obtain ⟨W1, g1, hW1, hg1, hB1, hb1⟩ := box_zero W0
  have hgl : g < g1 := by rw [← hg1]; exact hb0.lt
  have HG : Hid (w.heap.size = g ∧ g < g1) := ⟨hg, hgl⟩
  have HW : Hid (Below w.heap.size w W1 ∧ HashesAt W1 (.slice p m c) L ∧ Holds W1 g 25 (brC s t h (.slice p m c)) ∧ Holds W1 g1 25 (brC 0 0 0 (.slice none 0 0))) := ⟨below_new hB0 hB1, (hv.below hB0).below hB1, below_holds hB1 hb0, hb1⟩
  have HO : Hid (ofM [n] = 0) := ofM_none hn
  clear hB0 hB1 hb0 hb1 hv hn
  unfold brV
  go_enter Tryd.func25, Tryd.ntmps25
  go_wp2_with fail
  have ho := of_any (IntsM.one (Holds.new W1 3 #[.int .i64 n])) (by simp)
  rw [HO.out] at ho
  refine ho.mono ?_
  rintro e w2 ⟨rfl, hw2⟩
  have hB2 : Below W1.heap.size W1 w2 := by rw [hw2]; exact below_new1 _ _
  have H2 : Hid (Below w.heap.size w w2 ∧ HashesAt w2 (.slice p m c) L ∧ Holds w2 g 25 (brC s t h (.slice p m c)) ∧ Holds w2 g1 25 (brC 0 0 0 (.slice none 0 0))) := ⟨below_new HW.out.1 hB2, HW.out.2.1.below hB2, below_holds hB2 HW.out.2.2.1, below_holds hB2 HW.out.2.2.2⟩
  have c3 : w2.cell? ⟨g, 3, none⟩ = some (.slice p m c) := H2.out.2.2.1.cell 3
  clear ho hw2 hB2 HW HO hW0 hW1
  go_wp2_with fail
  have hcl := clone_any H2.out.2.1 HM.out
  refine hcl.mono ?_
  rintro e w3 ⟨v3, rfl, hv3, hB3⟩
  have h3 := below_holds hB3 H2.out.2.2.1
  have hz3 := below_holds hB3 H2.out.2.2.2
  have c3' := h3.cell 3
  have f3 := h3.frozen 3
  unfold brC at c3'
  obtain ⟨W4, hW4⟩ : ∃ W, w3.setCell ⟨g, 3, none⟩ v3 = W := ⟨_, rfl⟩
  have h4 : Holds W4 g 25 (brC s t h v3) := by rw [← hW4]; exact h3.set 3 _
  have hO4 : Only g w3 W4 := by rw [← hW4]; exact (Only.refl g w3).set 3 _
  have hz4 : Holds W4 g1 25 (brC 0 0 0 (.slice none 0 0)) := hO4.holds hz3 (by have := HG.out; omega)
  have H4 : Hid (HashesAt W4 v3 L ∧ Below w.heap.size w W4) := ⟨hv3.only hO4 h3, Only.fresh (below_new H2.out.1 hB3) hO4 (by rw [HG.out.1]; exact Nat.le_refl _)⟩
  obtain ⟨p3, c3s, rfl⟩ := hv3.shape
  unfold brC at h4
  have HZ4 : Hid (Holds W4 g1 25 (brC 0 0 0 (.slice none 0 0))) := hz4
  unfold brC at hz4
  clear hcl hB3 h3 hz3 hO4 hv3 c3
  go_wp2_with (first
    | (refine wpList_loadH rfl 25 _ rfl _ rfl _ _ _ h4 Tryd.underlying25 rfl infoBr ?_)
    | (refine wpList_storeH rfl 25 _ _ rfl _ _ rfl rfl _ _ hz4 infoBr rfl (by simp [Value.oneCell']) ?_; intro W9 h9 hO9 hs9))
  refine bodyPost_ret (results_cellH rfl _ _ _ _ _ _ rfl h9 Tryd.underlying25 rfl infoBr) rfl ?_
  refine ⟨_, rfl, H4.out.1.only hO9 HZ4.out, ?_⟩
  have hq := Only.fresh H4.out.2 hO9 (by have := HG.out; omega)
  first | exact hq | (rw [HG.out.1] at hq; exact hq)
end Go.Proofs.YtbidoangdnmjfaaDoor
