/-
  mask.Read of bytes of the right length.
-/
import Derived.Test.YtbidoangdnmjfaaDoorKA
namespace Go.Proofs.YtbidoangdnmjfaaDoor
open Go Go.RowKit
attribute [local go_sem] Oper.semAt_some

/-- No panic, no way out. -/
def calmQ (K : Act → World → Prop) : Exit → Act → World → Prop
  | .normal, a, w => K a w
  | _, _, _ => False
theorem calm_normal {K : Act → World → Prop} {a : Act} {w : World} (h : K a w) : calmQ K .normal a w := h
theorem wpIn_calm {F : Fence} {j : Nat} {P : Program} {c : Code} {K : Act → World → Prop} {Q : Exit → Act → World → Prop} {a : Act} {w : World} (h : c.wpIn F j P (calmQ K) a w) : c.wpIn F j P (Exit.then K Q) a w :=
  Code.wpIn_mono (fun e b w' hq => by cases e <;> first | exact hq | exact hq.elim) h
theorem ldHsM {w : World} {ad : Addr} {p : Option Addr} {n c : Nat} {v : Value} (hs : Value.slice p n c = v) (h : w.cell? ad = some v) : (loadVar 23 ad).run Tryd.prog w = .ok v w := by subst hs; exact ldRowM h
theorem KeepS.belowOf {g : Nat} {sv : Value} {X W w : World} (h : KeepS g sv X W) (hw : Below w.heap.size w X) (hg : w.heap.size ≤ g) (hs : ∀ j, sv.ownBlock = some j → w.heap.size ≤ j) : Below w.heap.size w W :=
  ⟨h.os.trans hw.os, h.tape.trans hw.tape, h.output.trans hw.output, Nat.le_trans hw.size h.size, fun b hb => (h.block b (Nat.lt_of_lt_of_le hb hw.size) (by omega) (fun e => by have := hs b e; omega)).trans (hw.block b hb)⟩
theorem holds_grownM {w w' : World} {b : Nat} {t : TypeId} {cs : Array Value} {row : Option Nat} (h : Holds w b t cs) (hg : w.grownBy w' row) (hb : some b ≠ row) : Holds w' b t cs := by
  have := h.lt
  unfold Holds at *
  rw [hg.block b this hb]; exact h
theorem KeepsFrom.trans2 {B : Nat} {X Y Z : World} (h : KeepsFrom B X Y) (k : KeepsFrom B Y Z) : KeepsFrom B X Z := ⟨Nat.le_trans h.size k.size, fun i o hi ho hc => k.same i o hi (h.same i o hi ho hc) hc⟩
theorem wp_calm {P : Program} {c : Code} {K : Act → World → Prop} {Q : Exit → Act → World → Prop} {a : Act} {w : World} (h : c.wp P (calmQ K) a w) : c.wp P (Exit.then K Q) a w :=
  Code.wp_mono (fun e b w' hq => by cases e <;> first | exact hq | exact hq.elim) h
set_option maxRecDepth 8000 in
set_option maxHeartbeats 4000000 in
theorem mread_ok {w : World} (r : ByteArray) (hr : r.size ≤ 9223372036854775807) (h6 : 6 ≤ r.size) (hsz : r.size = 6 + 32 * cntM (rdH r)) (hT : DbAt w) :
    Calls Tryd.prog 11 #[.string r] w fun e w' => RdPost r w e w' := by
  obtain ⟨W0, g, hW0, hg, hB0, hb0⟩ := box_zero w
  have HSZ : Hid (r.size = 6 + 32 * cntM (rdH r)) := hsz
  clear hsz
  have HDB : Hid (0 < w.heap.size) := hT.lt
  have HDW : Hid (DbAt w) := hT
  have HW : Hid (Below w.heap.size w W0 ∧ Holds W0 g 25 (brC 0 0 0 (.slice none 0 0)) ∧ DbAt W0 ∧ w.heap.size = g) := ⟨hB0, hb0, hT.below hB0, hg⟩
  have h6i : ¬ (r.size : Int) < 6 := by omega
  have h2i : ¬ (r.size : Int) < 2 := by omega
  have h4i : ¬ (r.size : Int) < 4 := by omega
  have m0 := fun W => maskOf_any (w := W) r (by omega)
  have m2 := fun W => maskOf_any (w := W) (r.extract 2 r.size) (by rw [ByteArray.size_extract]; omega)
  have m4 := fun W => maskOf_any (w := W) (r.extract 4 r.size) (by rw [ByteArray.size_extract]; omega)
  rw [ext_list] at m2 m4
  have hsl := maskL_lt r.data.toList
  have htl := maskL_lt (r.data.toList.drop 2)
  have hhl := maskL_lt (r.data.toList.drop 4)
  obtain ⟨s, hs⟩ : ∃ s, maskL r.data.toList = s := ⟨_, rfl⟩
  obtain ⟨t, ht⟩ : ∃ t, maskL (r.data.toList.drop 2) = t := ⟨_, rfl⟩
  obtain ⟨h, hh⟩ : ∃ h, maskL (r.data.toList.drop 4) = h := ⟨_, rfl⟩
  rw [hs] at m0 hsl
  rw [ht] at m2 htl
  rw [hh] at m4 hhl
  have HD : Hid (rdS r = s ∧ rdT r = t ∧ rdH r = h) := ⟨hs, ht, hh⟩
  clear hs ht hh hT hB0 hb0
  refine calls_of_wp_marks Tryd.func11 rfl ?_
  simp only [Tryd.ntmps11, List.size_toArray, List.length_cons, List.length_nil, Nat.reduceAdd, Nat.reduceSub, Array.replicate_succ, Array.replicate_zero, List.push_toArray, List.append_toArray, List.nil_append, List.cons_append]
  go_wp2_with fail
  rename_i K4 hK4
  apply share2 (K := K4) (P := fun g4 w7 => Holds w7 g4 25 (brC s t h (.slice none 0 0)) ∧ Below W0.heap.size W0 w7 ∧ W0.heap.size ≤ g4)
  case h1 =>
    intro HREST
    have hC0 : Below W0.heap.size W0 W0.drew := below_drewR (Below.refl _ _)
    refine wp_calm ?_
    refine wp_region_u (fun W => Below W0.heap.size W0 W) (.take 0 (.take 2 (.take 3 (.take 5 (.take 6 (.two 1 (.two 4 (.two 7 (.take 8 (.one 9 (.one 10 .nil))) 9 (.one 7 (.take 8 (.one 10 .nil)))) 9 (.one 4 (.one 7 (.take 8 (.one 10 .nil))))) 9 (.one 1 (.one 4 (.one 7 (.take 8 (.one 10 .nil))))))))))) mixedP (by kernel_rfl) rfl (by kernel_rfl) (fun _ _ _ d _ h => by cases d <;> exact h) hC0 ?_
    refine u_val (some 10) rfl rfl rfl (.string r) (fun _ => by go_simp) ?_
    go_frame
    refine u_val (some 12) rfl rfl rfl (.string r) (fun _ => by go_simp) ?_
    go_frame
    refine u_val (some 13) rfl rfl rfl (.string (r.extract 2 r.size)) (fun _ => by go_simp) ?_
    go_frame
    refine u_val (some 15) rfl rfl rfl (.string r) (fun _ => by go_simp) ?_
    go_frame
    refine u_val (some 16) rfl rfl rfl (.string (r.extract 4 r.size)) (fun _ => by go_simp) ?_
    go_frame
    refine ⟨?_, ?_⟩
    · refine op_call (some 11) rfl rfl rfl (f := 27) (vs := #[.string r]) (by go_simp) ((m0 W0.drew).mono ?_)
      rintro e wa1 ⟨rfl, hBa1⟩
      have hCa1 := below_new hC0 hBa1
      refine ⟨_, rfl, hCa1, ?_⟩
      go_frame
      refine ⟨?_, ?_⟩
      · refine op_call (some 14) rfl rfl rfl (f := 27) (vs := #[.string (r.extract 2 r.size)]) (by go_simp) ((m2 wa1).mono ?_)
        rintro e wa2 ⟨rfl, hBa2⟩
        have hCa2 := below_new hCa1 hBa2
        refine ⟨_, rfl, hCa2, ?_⟩
        go_frame
        refine ⟨?_, ?_⟩
        · refine op_call (some 17) rfl rfl rfl (f := 27) (vs := #[.string (r.extract 4 r.size)]) (by go_simp) ((m4 wa2).mono ?_)
          rintro e wa3 ⟨rfl, hBa3⟩
          have hCa3 := below_new hCa2 hBa3
          refine ⟨_, rfl, hCa3, ?_⟩
          go_frame
          refine u_val (some 18) rfl rfl rfl (.agg #[.int .u16 (s : Nat), .int .u16 (t : Nat), .int .u16 (h : Nat), .slice none 0 0]) (fun _ => by go_simp) ?_
          go_frame
          obtain ⟨Wg, g4, hWg, hg4, hBg, hqg⟩ := box_zero wa3
          have hCg := below_new hCa3 hBg
          have hl4 : W0.heap.size ≤ g4 := by rw [← hg4]; exact (hCa3).size
          refine op_val (some 4) rfl rfl rfl (v := .pointer (some ⟨g4, 0, none⟩)) (w' := Wg) (by go_simp) ?_
          refine ⟨hCg, ?_⟩
          go_frame
          refine op_storeH none rfl rfl rfl 25 _ _ rfl g4 _ rfl rfl 25 _ hqg infoBr rfl (by simp [Value.oneCell']) ?_
          intro w7 h7 hO7 hs7
          have hC7 := Only.fresh hCg hO7 hl4
          refine ⟨hC7, ?_⟩
          go_frame
          refine calm_normal ?_
          exact HREST g4 w7 ⟨h7, hC7, hl4⟩
        · obtain ⟨Wg, g4, hWg, hg4, hBg, hqg⟩ := box_zero wa2
          have hCg := below_new hCa2 hBg
          have hl4 : W0.heap.size ≤ g4 := by rw [← hg4]; exact (hCa2).size
          refine op_val (some 4) rfl rfl rfl (v := .pointer (some ⟨g4, 0, none⟩)) (w' := Wg) (by go_simp) ?_
          refine ⟨hCg, ?_⟩
          go_frame
          refine op_call (some 17) rfl rfl rfl (f := 27) (vs := #[.string (r.extract 4 r.size)]) (by go_simp) ((m4 Wg).mono ?_)
          rintro e wa3 ⟨rfl, hBa3⟩
          have hCa3 := below_new hCg hBa3
          have hqa3 := below_holds hBa3 hqg
          refine ⟨_, rfl, hCa3, ?_⟩
          go_frame
          refine u_val (some 18) rfl rfl rfl (.agg #[.int .u16 (s : Nat), .int .u16 (t : Nat), .int .u16 (h : Nat), .slice none 0 0]) (fun _ => by go_simp) ?_
          go_frame
          refine op_storeH none rfl rfl rfl 25 _ _ rfl g4 _ rfl rfl 25 _ hqa3 infoBr rfl (by simp [Value.oneCell']) ?_
          intro w7 h7 hO7 hs7
          have hC7 := Only.fresh hCa3 hO7 hl4
          refine ⟨hC7, ?_⟩
          go_frame
          refine calm_normal ?_
          exact HREST g4 w7 ⟨h7, hC7, hl4⟩
      · obtain ⟨Wg, g4, hWg, hg4, hBg, hqg⟩ := box_zero wa1
        have hCg := below_new hCa1 hBg
        have hl4 : W0.heap.size ≤ g4 := by rw [← hg4]; exact (hCa1).size
        refine op_val (some 4) rfl rfl rfl (v := .pointer (some ⟨g4, 0, none⟩)) (w' := Wg) (by go_simp) ?_
        refine ⟨hCg, ?_⟩
        go_frame
        refine op_call (some 14) rfl rfl rfl (f := 27) (vs := #[.string (r.extract 2 r.size)]) (by go_simp) ((m2 Wg).mono ?_)
        rintro e wa2 ⟨rfl, hBa2⟩
        have hCa2 := below_new hCg hBa2
        have hqa2 := below_holds hBa2 hqg
        refine ⟨_, rfl, hCa2, ?_⟩
        go_frame
        refine op_call (some 17) rfl rfl rfl (f := 27) (vs := #[.string (r.extract 4 r.size)]) (by go_simp) ((m4 wa2).mono ?_)
        rintro e wa3 ⟨rfl, hBa3⟩
        have hCa3 := below_new hCa2 hBa3
        have hqa3 := below_holds hBa3 hqa2
        refine ⟨_, rfl, hCa3, ?_⟩
        go_frame
        refine u_val (some 18) rfl rfl rfl (.agg #[.int .u16 (s : Nat), .int .u16 (t : Nat), .int .u16 (h : Nat), .slice none 0 0]) (fun _ => by go_simp) ?_
        go_frame
        refine op_storeH none rfl rfl rfl 25 _ _ rfl g4 _ rfl rfl 25 _ hqa3 infoBr rfl (by simp [Value.oneCell']) ?_
        intro w7 h7 hO7 hs7
        have hC7 := Only.fresh hCa3 hO7 hl4
        refine ⟨hC7, ?_⟩
        go_frame
        refine calm_normal ?_
        exact HREST g4 w7 ⟨h7, hC7, hl4⟩
    · obtain ⟨Wg, g4, hWg, hg4, hBg, hqg⟩ := box_zero W0.drew
      have hCg := below_new hC0 hBg
      have hl4 : W0.heap.size ≤ g4 := by rw [← hg4]; exact (hC0).size
      refine op_val (some 4) rfl rfl rfl (v := .pointer (some ⟨g4, 0, none⟩)) (w' := Wg) (by go_simp) ?_
      refine ⟨hCg, ?_⟩
      go_frame
      refine op_call (some 11) rfl rfl rfl (f := 27) (vs := #[.string r]) (by go_simp) ((m0 Wg).mono ?_)
      rintro e wa1 ⟨rfl, hBa1⟩
      have hCa1 := below_new hCg hBa1
      have hqa1 := below_holds hBa1 hqg
      refine ⟨_, rfl, hCa1, ?_⟩
      go_frame
      refine op_call (some 14) rfl rfl rfl (f := 27) (vs := #[.string (r.extract 2 r.size)]) (by go_simp) ((m2 wa1).mono ?_)
      rintro e wa2 ⟨rfl, hBa2⟩
      have hCa2 := below_new hCa1 hBa2
      have hqa2 := below_holds hBa2 hqa1
      refine ⟨_, rfl, hCa2, ?_⟩
      go_frame
      refine op_call (some 17) rfl rfl rfl (f := 27) (vs := #[.string (r.extract 4 r.size)]) (by go_simp) ((m4 wa2).mono ?_)
      rintro e wa3 ⟨rfl, hBa3⟩
      have hCa3 := below_new hCa2 hBa3
      have hqa3 := below_holds hBa3 hqa2
      refine ⟨_, rfl, hCa3, ?_⟩
      go_frame
      refine u_val (some 18) rfl rfl rfl (.agg #[.int .u16 (s : Nat), .int .u16 (t : Nat), .int .u16 (h : Nat), .slice none 0 0]) (fun _ => by go_simp) ?_
      go_frame
      refine op_storeH none rfl rfl rfl 25 _ _ rfl g4 _ rfl rfl 25 _ hqa3 infoBr rfl (by simp [Value.oneCell']) ?_
      intro w7 h7 hO7 hs7
      have hC7 := Only.fresh hCa3 hO7 hl4
      refine ⟨hC7, ?_⟩
      go_frame
      refine calm_normal ?_
      exact HREST g4 w7 ⟨h7, hC7, hl4⟩
  case h2 =>
    intro g4 w7 h7
    obtain ⟨h7, hB7, hl4⟩ := h7
    obtain ⟨W8, hW8⟩ : ∃ W, World.alloc w7 (.cells #[.string ⟨#[]⟩] 9) = W := ⟨_, rfl⟩
    obtain ⟨g5, hg5⟩ : ∃ g, w7.heap.size = g := ⟨_, rfl⟩
    have h8 : Holds W8 g5 9 #[.string ⟨#[]⟩] := by rw [← hW8, ← hg5]; exact Holds.new _ _ _
    have hB8 : Below w7.heap.size w7 W8 := by rw [← hW8]; exact below_new1 _ _
    obtain ⟨r6, hr6⟩ : ∃ x, r.extract 6 r.size = x := ⟨_, rfl⟩
    obtain ⟨W9, hW9⟩ : ∃ W, W8.setCell ⟨g5, 0, none⟩ (.string r6) = W := ⟨_, rfl⟩
    have h9 : Holds W9 g5 9 #[.string r6] := by rw [← hW9]; exact (h8.set 0 _).congr rfl
    have hO9 : Only g5 W8 W9 := by rw [← hW9]; exact (Only.refl g5 W8).set 0 _
    have hB9 : Below w7.heap.size w7 W9 := Only.fresh hB8 hO9 (by rw [hg5]; exact Nat.le_refl _)
    have c8 := h8.cell 0
    have f8 := h8.frozen 0
    have h6s : Hid (r6.size = r.size - 6) := by show _ = _; rw [← hr6, ByteArray.size_extract]; omega
    have H9 : Hid (Below W0.heap.size W0 W9 ∧ Holds W9 g4 25 (brC s t h (.slice none 0 0)) ∧ Holds W9 g5 9 #[.string r6] ∧ W0.heap.size ≤ g4 ∧ g4 < g5) := ⟨below_new hB7 hB9, below_holds hB9 h7, h9, hl4, by rw [← hg5]; exact h7.lt⟩
    have HR6 : Hid (r.extract 6 r.size = r6) := hr6
    clear hB9 hO9 h9 hB8 h8 hB7 h7 m0 m2 m4
    have hct := fun W (hW : DbAt W) => count_any hhl (w := W) hW
    obtain ⟨n, hn⟩ : ∃ n, cntM h = n := ⟨_, rfl⟩
    have hn16 : n ≤ 16 := by rw [← hn]; exact cntM_le h
    rw [hn] at hct
    have HN : Hid (cntM h = n) := hn
    clear hn
    go_at_K
    go_wp2_with fail
    have c5 := H9.out.2.2.1.cell 0
    have c42 := H9.out.2.1.cell 2
    unfold brC at c42
    have hwn : IntKind.i64.wrap ((32 : Int) * n) = 32 * n := by rw [IntKind.wrap_i64]; omega
    have HT9 : Hid (DbAt W9) := HW.out.2.2.1.below H9.out.1
    clear c8 f8
    have hlen : r6.size = 32 * n := by have h1 := h6s.out; have h2 := HSZ.out; rw [HD.out.2.2, HN.out] at h2; omega
    have hli : (r6.size : Int) = 32 * n := by omega
    refine wp_calm ?_
    refine wp_region_class (fun W => Below W9.heap.size W9 W) mixedP (by kernel_rfl) (below_drewR (Below.refl _ _)) ?_
    refine wpQ_ld rfl _ _ rfl rfl (fun W hW => ldStrM (keep_cellM hW c5)) ?_
    go_frame
    go_big_quiet_step (exact fun _ => rfl)
    go_big_quiet_step (exact fun _ => rfl)
    refine wpQ_ld rfl _ _ rfl rfl (fun W hW => ldU16M (keep_cellM hW c42)) ?_
    go_frame
    refine wpQ_call rfl 20 #[.int .u16 (h : Nat)] (fun _ => by go_simp) (.int .i64 (n : Nat)) (fun W hW => (hct W (HT9.out.below hW)).mono fun e w' h => ⟨h.1, below_new hW h.2⟩) ?_
    go_frame
    go_big_quiet_step (exact fun _ => rfl)
    go_big_quiet_step (exact fun _ => rfl)
    refine wpQuiet_nil ?_
    intro W6 hB6
    refine calm_normal ?_
    go_at_K
    have hb6 := below_holds hB6 H9.out.2.1
    have hc6 := hb6.cell 2
    unfold brC at hc6
    have hn6 := nibbles_any (m := h) W6
    go_wp2_with (go_at_call 28; refine hn6.mono ?_; rintro e w2 ⟨rfl, hbx, hB2⟩)
    obtain ⟨T0, hT0⟩ : ∃ T0, restB r 0 = T0 := ⟨_, rfl⟩
    have hr0 : restB r 0 = r6 := HR6.out
    have HF0 : Hid (Below w.heap.size w w2) := below_new HW.out.1 (below_new H9.out.1 (below_new hB6 hB2))
    have h62 := below_new hB6 hB2
    have HI0 : RdI r s t h g g4 g5 w2.heap.size w 0 w2 := ⟨.slice none 0 0, below_holds h62 H9.out.2.1, OwnH.nil _ _, by rw [hr0]; exact below_holds h62 H9.out.2.2.1, below_holds (below_new H9.out.1 h62) HW.out.2.1, HF0.out, Nat.le_refl _⟩
    have hwS : w.heap.size ≤ w2.heap.size := HF0.out.size
    have hT2 := HT9.out.below h62
    have hs2 := hbx.lt
    have hgs : g4 < g5 ∧ g5 < W6.heap.size ∧ W0.heap.size ≤ g4 ∧ g < W0.heap.size ∧ w.heap.size = g := ⟨H9.out.2.2.2.2, Nat.lt_of_lt_of_le H9.out.2.2.1.lt hB6.size, H9.out.2.2.2.1, HW.out.2.1.lt, HW.out.2.2.2⟩
    have HGS : Hid (g4 < g5 ∧ g5 < W6.heap.size ∧ W0.heap.size ≤ g4 ∧ g < W0.heap.size ∧ w.heap.size = g ∧ W6.heap.size < w2.heap.size ∧ 0 < w.heap.size) := ⟨hgs.1, hgs.2.1, hgs.2.2.1, hgs.2.2.2.1, hgs.2.2.2.2, hs2, by
      have h1 := HW.out.2.2.1
      have h2 := HW.out.1
      exact HDB.out⟩
    clear hgs h62 hr0 hT0 T0
    refine wp_rangeSeq rfl (enters_of Tryd.func37 (by kernel_rfl) rfl) (nibs_seq hhl hbx hT2) (Below.refl _ _) (fun k hk => by rcases hk with rfl | rfl; exact hs2; exact hT2.lt)
      (fun pre W => RdI r s t h g g4 g5 w2.heap.size w pre.length W) (fun _ _ _ => False)
      (fun s A B row hs hg' hr => RdI.kept hs hwS hg' hr)
      (fun c s A B row hs hg' hr => hs) HI0
      (fun x => { tmps := #[.string r, undef, .pointer (some ⟨g, 0, none⟩), .int .i64 0, .pointer (some ⟨g4, 0, none⟩), .pointer (some ⟨g5, 0, none⟩), .string r, .int .i64 r.size, .bool false, undef, .string r, .int .u16 (s : Nat), .string r, .string (r.extract 2 r.size), .int .u16 (t : Nat), .string r, .string (r.extract 4 r.size), .int .u16 (h : Nat), .agg #[.int .u16 (s : Nat), .int .u16 (t : Nat), .int .u16 (h : Nat), .slice none 0 0], .string r, .string r6, .string r6, .int .i64 (32 * (n : Nat)), .pointer (some ⟨g4, 2, none⟩), .int .u16 (h : Nat), .int .i64 (n : Nat), .int .i64 (32 * (n : Nat)), .bool false, undef, .pointer (some ⟨g4, 2, none⟩), .int .u16 (h : Nat), .func (.func 37) #[] #[.pointer (some ⟨W6.heap.size, 0, none⟩)], .int .i64 (x : Nat), undef, undef, undef, undef, undef, undef, undef, undef, undef, undef, undef, undef, undef, undef], defers := [] }) ?assign ?body ?done ?stop
    case assign =>
      intro l x W K hK
      gi_wp2
      simpa using hK
    case body =>
      rintro l pre x rest W hL hsz ⟨sv, hb4, hown, hb5, hres, hBw, hbs⟩
      have hlen : pre.length < n := by
        have e : (nibs h).length = pre.length + (rest.length + 1) := by rw [hL]; simp
        have h1 : (nibs h).length = n := HN.out
        omega
      obtain ⟨k, hk⟩ : ∃ k, pre.length = k := ⟨_, rfl⟩
      have HK : Hid ((pre ++ [x]).length = k + 1) := by show _ = _; rw [List.length_append, hk]; rfl
      rw [hk] at hown hb5 hlen
      clear hL hk
      have hlt := hown.lt
      have HKL : Hid ((hsL (r.data.toList.drop 6) k).length ≤ 16) := by show _ ≤ _; rw [hsL_len]; omega
      have hsz5 : 32 ≤ (restB r k).size := by
        rw [restB_size]
        have h1 := HSZ.out
        rw [HD.out.2.2, HN.out] at h1
        omega
      have HHO : Hid (∀ V : World, Calls Tryd.prog 29 #[.string (restB r k)] V fun e w' => e = .returned (hla (takeH (restB r k).data.toList)) ∧ Below V.heap.size V w') := fun V => hashOf_any (w := V) (restB r k) hsz5
      have HSU : Hid (hsL (r.data.toList.drop 6) k ++ [takeH (restB r k).data.toList] = hsL (r.data.toList.drop 6) (k + 1)) := by show _ = _; rw [hsL_succ, restB_hash]
      have HRS : Hid ((restB r k).extract 32 (restB r k).size = restB r (k + 1)) := restB_succ r k
      have hszi : (32 : Int) ≤ (restB r k).size := by omega
      generalize takeH (restB r k).data.toList = z at *
      generalize restB r k = T at *
      have c3 : W.cell? ⟨g4, 3, none⟩ = some sv := by have := hb4.cell 3; simpa [brC] using this
      obtain ⟨sp, sc, rfl⟩ := hown.shape
      have hng4 : (Value.slice sp (hsL (r.data.toList.drop 6) k).length sc).ownBlock ≠ some g4 := fun e => by have h1 := hlt g4 e; have h2 := HGS.out; omega
      have hng5 : (Value.slice sp (hsL (r.data.toList.drop 6) k).length sc).ownBlock ≠ some g5 := fun e => by have h1 := hlt g5 e; have h2 := HGS.out; omega
      have hngg : (Value.slice sp (hsL (r.data.toList.drop 6) k).length sc).ownBlock ≠ some g := fun e => by have h1 := hlt g e; have h2 := HGS.out; omega
      have c5 := hb5.cell 0
      simp at c5
      obtain ⟨sv, hsv⟩ : ∃ sv, Value.slice sp (hsL (r.data.toList.drop 6) k).length sc = sv := ⟨_, rfl⟩
      have HSV : Hid (Value.slice sp (hsL (r.data.toList.drop 6) k).length sc = sv) := hsv
      rw [hsv] at hb4 hown c3 hng4 hng5 hngg hlt
      clear hsv
      have hD0 : Below W.heap.size W W.drew := below_drewR (Below.refl _ _)
      gi_wp2_with fail
      refine wpIn_calm ?_
      rename_i KK hKK
      refine wpIn_region_u (KeepS g4 sv W) (.take 0 (.take 2 (.two 1 (.one 3 (.one 4 (.one 5 (.one 6 (.one 7 .nil))))) 3 (.two 1 (.one 4 (.one 5 (.one 6 (.one 7 .nil)))) 4 (.one 1 (.one 5 (.one 6 (.one 7 .nil)))))))) mixedP (by kernel_rfl) (fun ⟨_, _, h⟩ => h) (by kernel_rfl) rfl (by kernel_rfl) (fun _ _ _ _ _ h => h) KeepS.refl.drew ?_
      refine u_val (some 33) rfl rfl rfl (.pointer (some ⟨g4, 3, none⟩)) (fun _ => by go_simp) ?_
      go_frame
      refine u_ld (some 35) rfl rfl rfl _ _ rfl rfl (fun V hV => ldStrM (hV.cell c5 (by have := HGS.out; omega) hng5)) ?_
      go_frame
      refine ⟨?_, ?_⟩
      · refine op_ld (some 34) rfl rfl rfl _ _ rfl rfl (ldHsM HSV.out (keep_cellM (hD0) c3)) ?_
        refine ⟨KeepS.refl.drew, ?_⟩
        go_frame
        refine op_call (some 36) rfl rfl rfl (f := 29) (vs := #[.string T]) (by go_simp) ((HHO.out (W.drew)).mono ?_)
        rintro e w5 ⟨rfl, hB5⟩
        have hC5 : Below W.heap.size W w5 := below_new (hD0) hB5
        have k5 : KeepS g4 sv W w5 := KeepS.refl.below hC5
        refine ⟨_, rfl, k5, ?_⟩
        go_frame
        refine op_buildH (some 37) rfl rfl rfl _ rfl rfl ?_
        have hq := Holds.new w5 43 (hcl z).toArray
        have hC6 := below_new (hC5) (below_new1 w5 (.cells (hcl z).toArray 43))
        have k6 : KeepS g4 sv W _ := KeepS.refl.below hC6
        refine ⟨k6, ?_⟩
        go_frame
        refine op_appHM (some 38) rfl rfl rfl _ _ rfl rfl rfl (hown.below0 (hC6)) (HashesAt.one hq) (by have := HKL.out; simp only [List.length_singleton]; omega) (by have := (hC6).size; omega) ?_
        intro v9 w9 hown9 hg9
        have K9 := (k6).grown hg9
        refine ⟨K9, ?_⟩
        go_frame
        obtain ⟨p9, c9, rfl⟩ := hown9.shape
        refine op_val (some 39) rfl rfl rfl (v := .pointer (some ⟨g4, 3, none⟩)) (w' := w9) (by go_simp) ?_
        refine ⟨K9, ?_⟩
        go_frame
        have hH9 := (holds_grownM (below_holds (hC6) hb4) hg9 (fun e => hng4 e.symm))
        obtain ⟨V1, hV1⟩ : ∃ V1, w9.setCell ⟨g4, 3, none⟩ (.slice p9 (hsL (r.data.toList.drop 6) k ++ [z]).length c9) = V1 := ⟨_, rfl⟩
        have hst := run_stHs hH9 (i := 3) (by show 3 < 4; decide) p9 (hsL (r.data.toList.drop 6) k ++ [z]).length c9
        have hS4 : Holds V1 g4 25 (brC s t h (.slice p9 (hsL (r.data.toList.drop 6) k ++ [z]).length c9)) := by
          rw [← hV1]
          have := hH9.set 3 (.slice p9 (hsL (r.data.toList.drop 6) k ++ [z]).length c9)
          simpa [brC] using this
        have oL : Only g4 w9 V1 := by rw [← hV1]; exact (Only.refl g4 w9).set 3 _
        rw [hV1] at hst
        refine op_stM none rfl rfl rfl 23 _ _ rfl rfl rfl hst ?_
        have KL := K9.only oL
        refine ⟨KL, ?_⟩
        go_frame
        refine calm_normal ?_
        refine hKK _ _ ?_
        have hb5' : Holds V1 g5 9 #[.string T] := KL.holds hb5 (by have := HGS.out; omega) hng5
        have d5 := hb5'.cell 0
        have f5 := hb5'.frozen 0
        simp at d5
        gi_wp2_with fail
        have oM : Only g5 V1 (V1.setCell ⟨g5, 0, none⟩ (.string (T.extract 32 T.size))) := (Only.refl g5 V1).set 0 _
        have hlt9 := hown9.new
        have hblk9 := hown9.blk
        have hS5 := hb5'.set 0 (.string (T.extract 32 T.size))
        refine ⟨KeepsFrom.trans2 (KL.keeps (B := w2.heap.size) (by have := HGS.out; omega) hown.cells) (keepsFrom_only oM (by have := HGS.out; omega)), (KL.keepB ?_ ?_ ?_).trans (KeepB.only oM ?_ ?_), ?_⟩
        · rintro (q | q) <;> have := HGS.out <;> omega
        · rintro j hj (q | q) <;> have := hlt j hj <;> have := HGS.out <;> omega
        · rintro j (q | q) <;> have := HGS.out <;> omega
        · rintro (q | q) <;> have := HGS.out <;> omega
        · rintro j (q | q) <;> have := HGS.out <;> have := KL.size <;> omega
        show RdI _ _ _ _ _ _ _ _ _ (pre ++ [x]).length _
        rw [HK.out]
        refine ⟨.slice p9 (hsL (r.data.toList.drop 6) k ++ [z]).length c9, oM.holds hS4 (by have := HGS.out; omega), ?_, ?_, oM.holds (KL.holds hres (by have := HGS.out; omega) hngg) (by have := HGS.out; omega), ?_, ?_⟩
        · rw [← HSU.out]
          refine (hown9.block (fun j hj => oL.block j (hblk9 j hj) ?_)).block (fun j hj => oM.block j (Nat.lt_of_lt_of_le (hblk9 j hj) oL.size) ?_)
          · have := hlt9 j hj; have := HGS.out; omega
          · have := hlt9 j hj; have := HGS.out; omega
        · rw [← HRS.out]
          simpa using hS5
        · exact Only.fresh (KL.belowOf hBw (by have := HGS.out; omega) (fun j hj => by have := hlt j hj; omega)) oM (by have := HGS.out; omega)
        · exact Nat.le_trans hbs (Nat.le_trans KL.size oM.size)
      · refine op_call (some 36) rfl rfl rfl (f := 29) (vs := #[.string T]) (by go_simp) ((HHO.out W.drew).mono ?_)
        rintro e w5 ⟨rfl, hB5⟩
        have hC5 : Below W.heap.size W w5 := below_new hD0 hB5
        have k5 : KeepS g4 sv W w5 := KeepS.refl.below hC5
        refine ⟨_, rfl, k5, ?_⟩
        go_frame
        refine ⟨?_, ?_⟩
        · refine op_ld (some 34) rfl rfl rfl _ _ rfl rfl (ldHsM HSV.out (keep_cellM (hC5) c3)) ?_
          refine ⟨k5, ?_⟩
          go_frame
          refine op_buildH (some 37) rfl rfl rfl _ rfl rfl ?_
          have hq := Holds.new w5 43 (hcl z).toArray
          have hC6 := below_new (hC5) (below_new1 w5 (.cells (hcl z).toArray 43))
          have k6 : KeepS g4 sv W _ := KeepS.refl.below hC6
          refine ⟨k6, ?_⟩
          go_frame
          refine op_appHM (some 38) rfl rfl rfl _ _ rfl rfl rfl (hown.below0 (hC6)) (HashesAt.one hq) (by have := HKL.out; simp only [List.length_singleton]; omega) (by have := (hC6).size; omega) ?_
          intro v9 w9 hown9 hg9
          have K9 := (k6).grown hg9
          refine ⟨K9, ?_⟩
          go_frame
          obtain ⟨p9, c9, rfl⟩ := hown9.shape
          refine op_val (some 39) rfl rfl rfl (v := .pointer (some ⟨g4, 3, none⟩)) (w' := w9) (by go_simp) ?_
          refine ⟨K9, ?_⟩
          go_frame
          have hH9 := (holds_grownM (below_holds (hC6) hb4) hg9 (fun e => hng4 e.symm))
          obtain ⟨V1, hV1⟩ : ∃ V1, w9.setCell ⟨g4, 3, none⟩ (.slice p9 (hsL (r.data.toList.drop 6) k ++ [z]).length c9) = V1 := ⟨_, rfl⟩
          have hst := run_stHs hH9 (i := 3) (by show 3 < 4; decide) p9 (hsL (r.data.toList.drop 6) k ++ [z]).length c9
          have hS4 : Holds V1 g4 25 (brC s t h (.slice p9 (hsL (r.data.toList.drop 6) k ++ [z]).length c9)) := by
            rw [← hV1]
            have := hH9.set 3 (.slice p9 (hsL (r.data.toList.drop 6) k ++ [z]).length c9)
            simpa [brC] using this
          have oL : Only g4 w9 V1 := by rw [← hV1]; exact (Only.refl g4 w9).set 3 _
          rw [hV1] at hst
          refine op_stM none rfl rfl rfl 23 _ _ rfl rfl rfl hst ?_
          have KL := K9.only oL
          refine ⟨KL, ?_⟩
          go_frame
          refine calm_normal ?_
          refine hKK _ _ ?_
          have hb5' : Holds V1 g5 9 #[.string T] := KL.holds hb5 (by have := HGS.out; omega) hng5
          have d5 := hb5'.cell 0
          have f5 := hb5'.frozen 0
          simp at d5
          gi_wp2_with fail
          have oM : Only g5 V1 (V1.setCell ⟨g5, 0, none⟩ (.string (T.extract 32 T.size))) := (Only.refl g5 V1).set 0 _
          have hlt9 := hown9.new
          have hblk9 := hown9.blk
          have hS5 := hb5'.set 0 (.string (T.extract 32 T.size))
          refine ⟨KeepsFrom.trans2 (KL.keeps (B := w2.heap.size) (by have := HGS.out; omega) hown.cells) (keepsFrom_only oM (by have := HGS.out; omega)), (KL.keepB ?_ ?_ ?_).trans (KeepB.only oM ?_ ?_), ?_⟩
          · rintro (q | q) <;> have := HGS.out <;> omega
          · rintro j hj (q | q) <;> have := hlt j hj <;> have := HGS.out <;> omega
          · rintro j (q | q) <;> have := HGS.out <;> omega
          · rintro (q | q) <;> have := HGS.out <;> omega
          · rintro j (q | q) <;> have := HGS.out <;> have := KL.size <;> omega
          show RdI _ _ _ _ _ _ _ _ _ (pre ++ [x]).length _
          rw [HK.out]
          refine ⟨.slice p9 (hsL (r.data.toList.drop 6) k ++ [z]).length c9, oM.holds hS4 (by have := HGS.out; omega), ?_, ?_, oM.holds (KL.holds hres (by have := HGS.out; omega) hngg) (by have := HGS.out; omega), ?_, ?_⟩
          · rw [← HSU.out]
            refine (hown9.block (fun j hj => oL.block j (hblk9 j hj) ?_)).block (fun j hj => oM.block j (Nat.lt_of_lt_of_le (hblk9 j hj) oL.size) ?_)
            · have := hlt9 j hj; have := HGS.out; omega
            · have := hlt9 j hj; have := HGS.out; omega
          · rw [← HRS.out]
            simpa using hS5
          · exact Only.fresh (KL.belowOf hBw (by have := HGS.out; omega) (fun j hj => by have := hlt j hj; omega)) oM (by have := HGS.out; omega)
          · exact Nat.le_trans hbs (Nat.le_trans KL.size oM.size)
        · refine op_buildH (some 37) rfl rfl rfl _ rfl rfl ?_
          have hq := Holds.new w5 43 (hcl z).toArray
          have hC6 := below_new (hC5) (below_new1 w5 (.cells (hcl z).toArray 43))
          have k6 : KeepS g4 sv W _ := KeepS.refl.below hC6
          refine ⟨k6, ?_⟩
          go_frame
          refine op_ld (some 34) rfl rfl rfl _ _ rfl rfl (ldHsM HSV.out (keep_cellM (hC6) c3)) ?_
          refine ⟨k6, ?_⟩
          go_frame
          refine op_appHM (some 38) rfl rfl rfl _ _ rfl rfl rfl (hown.below0 (hC6)) (HashesAt.one hq) (by have := HKL.out; simp only [List.length_singleton]; omega) (by have := (hC6).size; omega) ?_
          intro v9 w9 hown9 hg9
          have K9 := (k6).grown hg9
          refine ⟨K9, ?_⟩
          go_frame
          obtain ⟨p9, c9, rfl⟩ := hown9.shape
          refine op_val (some 39) rfl rfl rfl (v := .pointer (some ⟨g4, 3, none⟩)) (w' := w9) (by go_simp) ?_
          refine ⟨K9, ?_⟩
          go_frame
          have hH9 := (holds_grownM (below_holds (hC6) hb4) hg9 (fun e => hng4 e.symm))
          obtain ⟨V1, hV1⟩ : ∃ V1, w9.setCell ⟨g4, 3, none⟩ (.slice p9 (hsL (r.data.toList.drop 6) k ++ [z]).length c9) = V1 := ⟨_, rfl⟩
          have hst := run_stHs hH9 (i := 3) (by show 3 < 4; decide) p9 (hsL (r.data.toList.drop 6) k ++ [z]).length c9
          have hS4 : Holds V1 g4 25 (brC s t h (.slice p9 (hsL (r.data.toList.drop 6) k ++ [z]).length c9)) := by
            rw [← hV1]
            have := hH9.set 3 (.slice p9 (hsL (r.data.toList.drop 6) k ++ [z]).length c9)
            simpa [brC] using this
          have oL : Only g4 w9 V1 := by rw [← hV1]; exact (Only.refl g4 w9).set 3 _
          rw [hV1] at hst
          refine op_stM none rfl rfl rfl 23 _ _ rfl rfl rfl hst ?_
          have KL := K9.only oL
          refine ⟨KL, ?_⟩
          go_frame
          refine calm_normal ?_
          refine hKK _ _ ?_
          have hb5' : Holds V1 g5 9 #[.string T] := KL.holds hb5 (by have := HGS.out; omega) hng5
          have d5 := hb5'.cell 0
          have f5 := hb5'.frozen 0
          simp at d5
          gi_wp2_with fail
          have oM : Only g5 V1 (V1.setCell ⟨g5, 0, none⟩ (.string (T.extract 32 T.size))) := (Only.refl g5 V1).set 0 _
          have hlt9 := hown9.new
          have hblk9 := hown9.blk
          have hS5 := hb5'.set 0 (.string (T.extract 32 T.size))
          refine ⟨KeepsFrom.trans2 (KL.keeps (B := w2.heap.size) (by have := HGS.out; omega) hown.cells) (keepsFrom_only oM (by have := HGS.out; omega)), (KL.keepB ?_ ?_ ?_).trans (KeepB.only oM ?_ ?_), ?_⟩
          · rintro (q | q) <;> have := HGS.out <;> omega
          · rintro j hj (q | q) <;> have := hlt j hj <;> have := HGS.out <;> omega
          · rintro j (q | q) <;> have := HGS.out <;> omega
          · rintro (q | q) <;> have := HGS.out <;> omega
          · rintro j (q | q) <;> have := HGS.out <;> have := KL.size <;> omega
          show RdI _ _ _ _ _ _ _ _ _ (pre ++ [x]).length _
          rw [HK.out]
          refine ⟨.slice p9 (hsL (r.data.toList.drop 6) k ++ [z]).length c9, oM.holds hS4 (by have := HGS.out; omega), ?_, ?_, oM.holds (KL.holds hres (by have := HGS.out; omega) hngg) (by have := HGS.out; omega), ?_, ?_⟩
          · rw [← HSU.out]
            refine (hown9.block (fun j hj => oL.block j (hblk9 j hj) ?_)).block (fun j hj => oM.block j (Nat.lt_of_lt_of_le (hblk9 j hj) oL.size) ?_)
            · have := hlt9 j hj; have := HGS.out; omega
            · have := hlt9 j hj; have := HGS.out; omega
          · rw [← HRS.out]
            simpa using hS5
          · exact Only.fresh (KL.belowOf hBw (by have := HGS.out; omega) (fun j hj => by have := hlt j hj; omega)) oM (by have := HGS.out; omega)
          · exact Nat.le_trans hbs (Nat.le_trans KL.size oM.size)
    case done =>
      rintro D W hD ⟨sv, hb4, hown, hb5, hres, hBw, hbs⟩ hK
      have hlen2 : (nibs h).length = n := HN.out
      rw [hlen2] at hown
      clear hb5 hlen2 HI0
      have hnb := hown.new
      have hcl := hown.cells
      have HL : Hid ((hsL (r.data.toList.drop 6) n).length = n) := hsL_len _ _
      obtain ⟨sp, sc, rfl⟩ := hown.shape
      rw [HL.out] at hb4 hown hnb hcl
      have HCK : Hid (∀ c, Calls Tryd.prog 16 #[.agg #[.int .u16 (s : Nat), .int .u16 (t : Nat), .int .u16 (h : Nat), .slice sp n c]] W fun e w' => e = .returned (.int .i64 (chkM s t h n)) ∧ Below W.heap.size W w') := fun c => mcheck_any (w := W) (s := s) (t := t) (h := h) (n := n) hsl htl hhl (by omega) (HDW.out.below hBw)
      have HE : Hid (rdE r = decide (chkM s t h n = 0)) := by
        show _ = _
        unfold rdE
        rw [HD.out.1, HD.out.2.1, HD.out.2.2, HN.out]
        have h1 := HSZ.out
        rw [HD.out.2.2, HN.out] at h1
        rw [decide_eq_true h6, decide_eq_true h1]
        rfl
      have HLr : Hid (rdL r = hsL (r.data.toList.drop 6) n) := by show _ = _; unfold rdL; rw [HD.out.2.2, HN.out]
      have hgne : ∀ j, (Value.slice sp n sc).ownBlock = some j → j ≠ g := fun j hj e => by have h1 := hnb j hj; have h2 := HGS.out; omega
      have hDg : D ≠ g := by have h2 := HGS.out; omega
      have hkd : D < W.heap.size := (Array.getElem?_eq_some_iff.1 hK).1
      have hgl : Hid (w.heap.size ≤ g) := by show _ ≤ _; have h2 := HGS.out; omega
      clear hct
      unfold brC at hb4 hres
      obtain ⟨E, hE⟩ : ∃ E, chkM s t h n = E := ⟨_, rfl⟩
      rw [hE] at HCK HE
      by_cases h0 : E = 0
      · subst h0
        have HT1 : Hid (rdE r = true) := by show _ = _; rw [HE.out]; rfl
        go_wp2_with (first
          | (refine wpList_storeH rfl 25 _ _ rfl g #[.int .u16 (s : Nat), .int .u16 (t : Nat), .int .u16 (h : Nat), .slice sp n sc] rfl rfl 25 _ hres8 infoBr rfl (by simp [Value.oneCell']) ?_; intro w9 h9 o9 z9)
          | (refine wpList_loadH rfl 25 _ rfl _ rfl _ _ _ hb48 Tryd.underlying25 rfl infoBr ?_)
          | (go_at_call 16; refine (HCK.out _).mono ?_; rintro e w8 ⟨rfl, hB8⟩; have hb48 := below_holds hB8 hb4; have hres8 := below_holds hB8 hres)
          | (refine wpList_loadH rfl 25 _ rfl _ rfl _ _ _ hb4 Tryd.underlying25 rfl infoBr ?_)
          | fail)
        have hK9 : w9.heap[D]? = some (.deferred (some [])) := (o9.block D (Nat.lt_of_lt_of_le hkd hB8.size) hDg).trans ((hB8.block D hkd).trans hK)
        have hown9 : OwnH w9 w2.heap.size (.slice sp n sc) (hsL (r.data.toList.drop 6) n) := (hown.below0 hB8).block fun j hj => o9.block j (Nat.lt_of_lt_of_le (hown.blk j hj) hB8.size) (hgne j hj)
        have hB9 : Below w.heap.size w w9 := Only.fresh (below_new hBw hB8) o9 hgl.out
        refine leaves_marks (Marks.one (B := w2.heap.size) hD hK9) fun w' hw' => ⟨_, results_cellM rfl _ _ _ _ _ _ rfl (hw'.holds h9) Tryd.underlying25 rfl infoBr, s, t, h, .slice sp n sc, hsL (r.data.toList.drop 6) n, ?_, ?_, ?_, ?_, ?_, ?_, ?_⟩
        · rw [HT1.out]; rfl
        · refine (hown9.block fun j hj => ?_).at
          obtain ⟨cs, ty, q, hc⟩ := hown9.cells j hj
          rw [hw'.cells j _ hc (fun _ e => by cases e), hc]
        · exact hB9.trans (hw'.below.mono hwS)
        · rw [HT1.out, HD.out.1]; rfl
        · rw [HT1.out, HD.out.2.1]; rfl
        · rw [HT1.out, HD.out.2.2]; rfl
        · rw [HT1.out, HLr.out]; rfl
      · have hE0 : ¬ (E : Int) = 0 := h0
        have HT1 : Hid (rdE r = false) := by show _ = _; rw [HE.out, decide_eq_false h0]
        go_wp2_with (first
          | (refine wpList_storeH rfl 25 _ _ rfl g #[.int .u16 0, .int .u16 0, .int .u16 0, .slice none 0 0] rfl rfl 25 _ hres8 infoBr rfl (by simp [Value.oneCell']) ?_; intro w9 h9 o9 z9)
          | (go_at_call 16; refine (HCK.out _).mono ?_; rintro e w8 ⟨rfl, hB8⟩; have hres8 := below_holds hB8 hres)
          | (refine wpList_loadH rfl 25 _ rfl _ rfl _ _ _ hb4 Tryd.underlying25 rfl infoBr ?_)
          | fail)
        have hK9 : w9.heap[D]? = some (.deferred (some [])) := (o9.block D (Nat.lt_of_lt_of_le hkd hB8.size) hDg).trans ((hB8.block D hkd).trans hK)
        have hB9 : Below w.heap.size w w9 := Only.fresh (below_new hBw hB8) o9 hgl.out
        refine leaves_marks (Marks.one (B := w2.heap.size) hD hK9) fun w' hw' => ⟨_, results_cellM rfl _ _ _ _ _ _ rfl (hw'.holds h9) Tryd.underlying25 rfl infoBr, 0, 0, 0, .slice none 0 0, [], ?_, .nil _ _, ?_, ?_, ?_, ?_, ?_⟩
        · rw [HT1.out]; rfl
        · exact hB9.trans (hw'.below.mono hwS)
        · rw [HT1.out]; rfl
        · rw [HT1.out]; rfl
        · rw [HT1.out]; rfl
        · rw [HT1.out]; rfl
    case stop =>
      rintro D c pre x rest W _ _ h _
      exact h.elim
end Go.Proofs.YtbidoangdnmjfaaDoor
