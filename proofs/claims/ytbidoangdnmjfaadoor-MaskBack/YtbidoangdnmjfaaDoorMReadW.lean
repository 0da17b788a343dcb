/-
  mask.Read of bytes of a length that no record has.
-/
import Derived.Test.YtbidoangdnmjfaaDoorMReadP
import Derived.Test.YtbidoangdnmjfaaDoorMWithW
import Derived.Test.YtbidoangdnmjfaaDoorMRoundW
import Derived.Test.YtbidoangdnmjfaaDoorMFitW
namespace Go.Proofs.YtbidoangdnmjfaaDoor
open Go Go.RowKit

theorem then_normR {K : Act → World → Prop} {Q : Exit → Act → World → Prop} {a : Act} {w : World} (h : K a w) : Exit.then K Q .normal a w := h
theorem share2 {G : Prop} {P : Nat → World → Prop} {K : Act → World → Prop} {A : Nat → Act} (h1 : (∀ g w, P g w → K (A g) w) → G) (h2 : ∀ g w, P g w → K (A g) w) : G := h1 h2
/-- What is read. -/
def rdS (r : ByteArray) : Nat := maskL r.data.toList
def rdT (r : ByteArray) : Nat := maskL (r.data.toList.drop 2)
def rdH (r : ByteArray) : Nat := maskL (r.data.toList.drop 4)
def rdL (r : ByteArray) : List H32 := hsL (r.data.toList.drop 6) (cntM (rdH r))
def rdE (r : ByteArray) : Bool := decide (6 ≤ r.size) && decide (r.size = 6 + 32 * cntM (rdH r)) && decide (chkM (rdS r) (rdT r) (rdH r) (cntM (rdH r)) = 0)
theorem ext_list (r : ByteArray) (k : Nat) : (r.extract k r.size).data.toList = r.data.toList.drop k := by
  simp
  rw [List.take_of_length_le]
  simp
/-- What Read tells. -/
def RdPost (r : ByteArray) (w : World) (e : Ending) (w' : World) : Prop := ∃ (s t h : Nat) (v : Value) (L : List H32), e = .returned (.tuple #[brV s t h v, .int .i64 (if rdE r then 0 else 10)]) ∧ HashesAt w' v L ∧ Below w.heap.size w w' ∧ s = (if rdE r then rdS r else 0) ∧ t = (if rdE r then rdT r else 0) ∧ h = (if rdE r then rdH r else 0) ∧ L = (if rdE r then rdL r else [])
set_option maxRecDepth 8000 in
set_option maxHeartbeats 4000000 in
theorem mread_bad {w : World} (r : ByteArray) (hr : r.size ≤ 9223372036854775807) (hbad : ¬ (6 ≤ r.size ∧ r.size = 6 + 32 * cntM (rdH r))) (hT : DbAt w) :
    Calls Tryd.prog 11 #[.string r] w fun e w' => e = .returned (.tuple #[brV 0 0 0 (.slice none 0 0), .int .i64 10]) ∧ Below w.heap.size w w' := by
  obtain ⟨W0, g, hW0, hg, hB0, hb0⟩ := box_zero w
  have HW : Hid (Below w.heap.size w W0 ∧ Holds W0 g 25 (brC 0 0 0 (.slice none 0 0)) ∧ DbAt W0 ∧ w.heap.size = g) := ⟨hB0, hb0, hT.below hB0, hg⟩
  by_cases h6 : 6 ≤ r.size
  · have h6i : ¬ (r.size : Int) < 6 := by omega
    have h2i : ¬ (r.size : Int) < 2 := by omega
    have h4i : ¬ (r.size : Int) < 4 := by omega
    have m0 := fun W => maskOf_any (w := W) r (by omega)
    have m2 := fun W => maskOf_any (w := W) (r.extract 2 r.size) (by rw [ByteArray.size_extract]; omega)
    have m4 := fun W => maskOf_any (w := W) (r.extract 4 r.size) (by rw [ByteArray.size_extract]; omega)
    rw [ext_list] at m2 m4
    have hsl := maskL_lt r.data.toList
    have htl := maskL_lt (r.data.toList.drop 2)
    have hhl := maskL_lt (r.data.toList.drop 4)
    obtain ⟨s, hs⟩ : ∃ s, maskL r.data.toList = s := ⟨_, rfl⟩
    obtain ⟨t, ht⟩ : ∃ t, maskL (r.data.toList.drop 2) = t := ⟨_, rfl⟩
    obtain ⟨h, hh⟩ : ∃ h, maskL (r.data.toList.drop 4) = h := ⟨_, rfl⟩
    rw [hs] at m0 hsl
    rw [ht] at m2 htl
    rw [hh] at m4 hhl
    have HD : Hid (rdS r = s ∧ rdT r = t ∧ rdH r = h) := ⟨hs, ht, hh⟩
    clear hs ht hh hT hB0 hb0
    go_enter Tryd.func11, Tryd.ntmps11
    go_wp2_with fail
    rename_i K4 hK4
    apply share2 (K := K4) (P := fun g4 w7 => Holds w7 g4 25 (brC s t h (.slice none 0 0)) ∧ Below W0.heap.size W0 w7 ∧ W0.heap.size ≤ g4)
    case h1 =>
      intro HREST
      have hC0 : Below W0.heap.size W0 W0.drew := below_drewR (Below.refl _ _)
      refine wp_region_u (fun W => Below W0.heap.size W0 W) (.take 0 (.take 2 (.take 3 (.take 5 (.take 6 (.two 1 (.two 4 (.two 7 (.take 8 (.one 9 (.one 10 .nil))) 9 (.one 7 (.take 8 (.one 10 .nil)))) 9 (.one 4 (.one 7 (.take 8 (.one 10 .nil))))) 9 (.one 1 (.one 4 (.one 7 (.take 8 (.one 10 .nil))))))))))) mixedP (by kernel_rfl) rfl (by kernel_rfl) (fun _ _ _ d _ h => by cases d <;> exact h) hC0 ?_
      refine u_val (some 10) rfl rfl rfl (.string r) (fun _ => by go_simp) ?_
      go_frame
      refine u_val (some 12) rfl rfl rfl (.string r) (fun _ => by go_simp) ?_
      go_frame
      refine u_val (some 13) rfl rfl rfl (.string (r.extract 2 r.size)) (fun _ => by go_simp) ?_
      go_frame
      refine u_val (some 15) rfl rfl rfl (.string r) (fun _ => by go_simp) ?_
      go_frame
      refine u_val (some 16) rfl rfl rfl (.string (r.extract 4 r.size)) (fun _ => by go_simp) ?_
      go_frame
      refine ⟨?_, ?_⟩
      · refine op_call (some 11) rfl rfl rfl (f := 27) (vs := #[.string r]) (by go_simp) ((m0 W0.drew).mono ?_)
        rintro e wa1 ⟨rfl, hBa1⟩
        have hCa1 := below_new hC0 hBa1
        refine ⟨_, rfl, hCa1, ?_⟩
        go_frame
        refine ⟨?_, ?_⟩
        · refine op_call (some 14) rfl rfl rfl (f := 27) (vs := #[.string (r.extract 2 r.size)]) (by go_simp) ((m2 wa1).mono ?_)
          rintro e wa2 ⟨rfl, hBa2⟩
          have hCa2 := below_new hCa1 hBa2
          refine ⟨_, rfl, hCa2, ?_⟩
          go_frame
          refine ⟨?_, ?_⟩
          · refine op_call (some 17) rfl rfl rfl (f := 27) (vs := #[.string (r.extract 4 r.size)]) (by go_simp) ((m4 wa2).mono ?_)
            rintro e wa3 ⟨rfl, hBa3⟩
            have hCa3 := below_new hCa2 hBa3
            refine ⟨_, rfl, hCa3, ?_⟩
            go_frame
            refine u_val (some 18) rfl rfl rfl (.agg #[.int .u16 (s : Nat), .int .u16 (t : Nat), .int .u16 (h : Nat), .slice none 0 0]) (fun _ => by go_simp) ?_
            go_frame
            obtain ⟨Wg, g4, hWg, hg4, hBg, hqg⟩ := box_zero wa3
            have hCg := below_new hCa3 hBg
            have hl4 : W0.heap.size ≤ g4 := by rw [← hg4]; exact (hCa3).size
            refine op_val (some 4) rfl rfl rfl (v := .pointer (some ⟨g4, 0, none⟩)) (w' := Wg) (by go_simp) ?_
            refine ⟨hCg, ?_⟩
            go_frame
            refine op_storeH none rfl rfl rfl 25 _ _ rfl g4 _ rfl rfl 25 _ hqg infoBr rfl (by simp [Value.oneCell']) ?_
            intro w7 h7 hO7 hs7
            have hC7 := Only.fresh hCg hO7 hl4
            refine ⟨hC7, ?_⟩
            go_frame
            refine then_normR ?_
            exact HREST g4 w7 ⟨h7, hC7, hl4⟩
          · obtain ⟨Wg, g4, hWg, hg4, hBg, hqg⟩ := box_zero wa2
            have hCg := below_new hCa2 hBg
            have hl4 : W0.heap.size ≤ g4 := by rw [← hg4]; exact (hCa2).size
            refine op_val (some 4) rfl rfl rfl (v := .pointer (some ⟨g4, 0, none⟩)) (w' := Wg) (by go_simp) ?_
            refine ⟨hCg, ?_⟩
            go_frame
            refine op_call (some 17) rfl rfl rfl (f := 27) (vs := #[.string (r.extract 4 r.size)]) (by go_simp) ((m4 Wg).mono ?_)
            rintro e wa3 ⟨rfl, hBa3⟩
            have hCa3 := below_new hCg hBa3
            have hqa3 := below_holds hBa3 hqg
            refine ⟨_, rfl, hCa3, ?_⟩
            go_frame
            refine u_val (some 18) rfl rfl rfl (.agg #[.int .u16 (s : Nat), .int .u16 (t : Nat), .int .u16 (h : Nat), .slice none 0 0]) (fun _ => by go_simp) ?_
            go_frame
            refine op_storeH none rfl rfl rfl 25 _ _ rfl g4 _ rfl rfl 25 _ hqa3 infoBr rfl (by simp [Value.oneCell']) ?_
            intro w7 h7 hO7 hs7
            have hC7 := Only.fresh hCa3 hO7 hl4
            refine ⟨hC7, ?_⟩
            go_frame
            refine then_normR ?_
            exact HREST g4 w7 ⟨h7, hC7, hl4⟩
        · obtain ⟨Wg, g4, hWg, hg4, hBg, hqg⟩ := box_zero wa1
          have hCg := below_new hCa1 hBg
          have hl4 : W0.heap.size ≤ g4 := by rw [← hg4]; exact (hCa1).size
          refine op_val (some 4) rfl rfl rfl (v := .pointer (some ⟨g4, 0, none⟩)) (w' := Wg) (by go_simp) ?_
          refine ⟨hCg, ?_⟩
          go_frame
          refine op_call (some 14) rfl rfl rfl (f := 27) (vs := #[.string (r.extract 2 r.size)]) (by go_simp) ((m2 Wg).mono ?_)
          rintro e wa2 ⟨rfl, hBa2⟩
          have hCa2 := below_new hCg hBa2
          have hqa2 := below_holds hBa2 hqg
          refine ⟨_, rfl, hCa2, ?_⟩
          go_frame
          refine op_call (some 17) rfl rfl rfl (f := 27) (vs := #[.string (r.extract 4 r.size)]) (by go_simp) ((m4 wa2).mono ?_)
          rintro e wa3 ⟨rfl, hBa3⟩
          have hCa3 := below_new hCa2 hBa3
          have hqa3 := below_holds hBa3 hqa2
          refine ⟨_, rfl, hCa3, ?_⟩
          go_frame
          refine u_val (some 18) rfl rfl rfl (.agg #[.int .u16 (s : Nat), .int .u16 (t : Nat), .int .u16 (h : Nat), .slice none 0 0]) (fun _ => by go_simp) ?_
          go_frame
          refine op_storeH none rfl rfl rfl 25 _ _ rfl g4 _ rfl rfl 25 _ hqa3 infoBr rfl (by simp [Value.oneCell']) ?_
          intro w7 h7 hO7 hs7
          have hC7 := Only.fresh hCa3 hO7 hl4
          refine ⟨hC7, ?_⟩
          go_frame
          refine then_normR ?_
          exact HREST g4 w7 ⟨h7, hC7, hl4⟩
      · obtain ⟨Wg, g4, hWg, hg4, hBg, hqg⟩ := box_zero W0.drew
        have hCg := below_new hC0 hBg
        have hl4 : W0.heap.size ≤ g4 := by rw [← hg4]; exact (hC0).size
        refine op_val (some 4) rfl rfl rfl (v := .pointer (some ⟨g4, 0, none⟩)) (w' := Wg) (by go_simp) ?_
        refine ⟨hCg, ?_⟩
        go_frame
        refine op_call (some 11) rfl rfl rfl (f := 27) (vs := #[.string r]) (by go_simp) ((m0 Wg).mono ?_)
        rintro e wa1 ⟨rfl, hBa1⟩
        have hCa1 := below_new hCg hBa1
        have hqa1 := below_holds hBa1 hqg
        refine ⟨_, rfl, hCa1, ?_⟩
        go_frame
        refine op_call (some 14) rfl rfl rfl (f := 27) (vs := #[.string (r.extract 2 r.size)]) (by go_simp) ((m2 wa1).mono ?_)
        rintro e wa2 ⟨rfl, hBa2⟩
        have hCa2 := below_new hCa1 hBa2
        have hqa2 := below_holds hBa2 hqa1
        refine ⟨_, rfl, hCa2, ?_⟩
        go_frame
        refine op_call (some 17) rfl rfl rfl (f := 27) (vs := #[.string (r.extract 4 r.size)]) (by go_simp) ((m4 wa2).mono ?_)
        rintro e wa3 ⟨rfl, hBa3⟩
        have hCa3 := below_new hCa2 hBa3
        have hqa3 := below_holds hBa3 hqa2
        refine ⟨_, rfl, hCa3, ?_⟩
        go_frame
        refine u_val (some 18) rfl rfl rfl (.agg #[.int .u16 (s : Nat), .int .u16 (t : Nat), .int .u16 (h : Nat), .slice none 0 0]) (fun _ => by go_simp) ?_
        go_frame
        refine op_storeH none rfl rfl rfl 25 _ _ rfl g4 _ rfl rfl 25 _ hqa3 infoBr rfl (by simp [Value.oneCell']) ?_
        intro w7 h7 hO7 hs7
        have hC7 := Only.fresh hCa3 hO7 hl4
        refine ⟨hC7, ?_⟩
        go_frame
        refine then_normR ?_
        exact HREST g4 w7 ⟨h7, hC7, hl4⟩
    case h2 =>
      intro g4 w7 h7
      obtain ⟨h7, hB7, hl4⟩ := h7
      obtain ⟨W8, hW8⟩ : ∃ W, World.alloc w7 (.cells #[.string ⟨#[]⟩] 9) = W := ⟨_, rfl⟩
      obtain ⟨g5, hg5⟩ : ∃ g, w7.heap.size = g := ⟨_, rfl⟩
      have h8 : Holds W8 g5 9 #[.string ⟨#[]⟩] := by rw [← hW8, ← hg5]; exact Holds.new _ _ _
      have hB8 : Below w7.heap.size w7 W8 := by rw [← hW8]; exact below_new1 _ _
      obtain ⟨r6, hr6⟩ : ∃ x, r.extract 6 r.size = x := ⟨_, rfl⟩
      obtain ⟨W9, hW9⟩ : ∃ W, W8.setCell ⟨g5, 0, none⟩ (.string r6) = W := ⟨_, rfl⟩
      have h9 : Holds W9 g5 9 #[.string r6] := by rw [← hW9]; exact (h8.set 0 _).congr rfl
      have hO9 : Only g5 W8 W9 := by rw [← hW9]; exact (Only.refl g5 W8).set 0 _
      have hB9 : Below w7.heap.size w7 W9 := Only.fresh hB8 hO9 (by rw [hg5]; exact Nat.le_refl _)
      have c8 := h8.cell 0
      have f8 := h8.frozen 0
      have h6s : Hid (r6.size = r.size - 6) := by show _ = _; rw [← hr6, ByteArray.size_extract]; omega
      have H9 : Hid (Below W0.heap.size W0 W9 ∧ Holds W9 g4 25 (brC s t h (.slice none 0 0)) ∧ Holds W9 g5 9 #[.string r6] ∧ W0.heap.size ≤ g4 ∧ g4 < g5) := ⟨below_new hB7 hB9, below_holds hB9 h7, h9, hl4, by rw [← hg5]; exact h7.lt⟩
      have HR6 : Hid (r.extract 6 r.size = r6) := hr6
      clear hB9 hO9 h9 hB8 h8 hB7 h7 m0 m2 m4
      have hct := fun W (hW : DbAt W) => count_any hhl (w := W) hW
      obtain ⟨n, hn⟩ : ∃ n, cntM h = n := ⟨_, rfl⟩
      have hn16 : n ≤ 16 := by rw [← hn]; exact cntM_le h
      rw [hn] at hct
      have HN : Hid (cntM h = n) := hn
      clear hn
      go_at_K
      go_wp2_with fail
      have c5 := H9.out.2.2.1.cell 0
      have c42 := H9.out.2.1.cell 2
      unfold brC at c42
      have hwn : IntKind.i64.wrap ((32 : Int) * n) = 32 * n := by rw [IntKind.wrap_i64]; omega
      have HT9 : Hid (DbAt W9) := HW.out.2.2.1.below H9.out.1
      clear c8 f8
      have hlen : ¬ r6.size = 32 * n := fun q => hbad ⟨h6, by rw [HD.out.2.2, HN.out]; have := h6s.out; omega⟩
      have hli : ¬ (r6.size : Int) = 32 * n := by omega
      refine wp_region_class (fun W => Below W9.heap.size W9 W) mixedP (by kernel_rfl) (below_drewR (Below.refl _ _)) ?_
      refine wpQ_ld rfl _ _ rfl rfl (fun W hW => ldStrM (keep_cellM hW c5)) ?_
      go_frame
      go_big_quiet_step (exact fun _ => rfl)
      go_big_quiet_step (exact fun _ => rfl)
      refine wpQ_ld rfl _ _ rfl rfl (fun W hW => ldU16M (keep_cellM hW c42)) ?_
      go_frame
      refine wpQ_call rfl 20 #[.int .u16 (h : Nat)] (fun _ => by go_simp) (.int .i64 (n : Nat)) (fun W hW => (hct W (HT9.out.below hW)).mono fun e w' h => ⟨h.1, below_new hW h.2⟩) ?_
      go_frame
      go_big_quiet_step (exact fun _ => rfl)
      go_big_quiet_step (exact fun _ => rfl)
      refine wpQuiet_nil ?_
      intro W6 hB6
      show Exit.then _ _ Exit.normal _ _
      simp only [Exit.then]
      go_at_K
      have hz6 := below_holds (below_new H9.out.1 hB6) HW.out.2.1
      have HF : Hid (Below w.heap.size w W6) := below_new HW.out.1 (below_new H9.out.1 hB6)
      unfold brC at hz6
      go_wp2_with (refine wpList_storeH rfl 25 _ _ rfl _ _ rfl rfl _ _ hz6 infoBr rfl (by simp [Value.oneCell']) ?_; intro W10 h10 hO10 hs10)
      refine bodyPost_ret (results_cellM rfl _ _ _ _ _ _ rfl h10 Tryd.underlying25 rfl infoBr) rfl ?_
      have hq := Only.fresh HF.out hO10 (by have := HW.out.2.2.2; omega)
      first | exact ⟨rfl, hq⟩ | (rw [HW.out.2.2.2] at hq; exact ⟨rfl, hq⟩)
  · have h6i : (r.size : Int) < 6 := by omega
    have hz := HW.out.2.1
    unfold brC at hz
    clear hT hB0 hb0
    go_enter Tryd.func11, Tryd.ntmps11
    go_wp2_with (refine wpList_storeH rfl 25 _ _ rfl _ _ rfl rfl _ _ hz infoBr rfl (by simp [Value.oneCell']) ?_; intro W10 h10 hO10 hs10)
    refine bodyPost_ret (results_cellM rfl _ _ _ _ _ _ rfl h10 Tryd.underlying25 rfl infoBr) rfl ?_
    have hq := Only.fresh HW.out.1 hO10 (by have := HW.out.2.2.2; omega)
    first | exact ⟨rfl, hq⟩ | (rw [HW.out.2.2.2] at hq; exact ⟨rfl, hq⟩)
end Go.Proofs.YtbidoangdnmjfaaDoor
