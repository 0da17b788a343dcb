/-
  Texts of this claim, put together.
-/
import Derived.Test.YtbidoangdnmjfaaDoorMMofW
import Derived.Test.YtbidoangdnmjfaaDoorMRecW
import Derived.Test.YtbidoangdnmjfaaDoorMWithW
import Derived.Test.YtbidoangdnmjfaaDoorMRoundW
import Derived.Test.YtbidoangdnmjfaaDoorMFitW
import Derived.Test.YtbidoangdnmjfaaDoorMCountW
/-
  What is read of a branch's bytes: pure.
-/
namespace Go.Proofs.YtbidoangdnmjfaaDoor
open Go Go.RowKit

/-- n hashes, one behind the other. -/
def hsL (l : List UInt8) (n : Nat) : List H32 := (List.range n).map fun i => takeH (l.drop (i * 32))
theorem hsL_succ (l : List UInt8) (n : Nat) : hsL l (n + 1) = hsL l n ++ [takeH (l.drop (n * 32))] := by simp [hsL, List.range_succ]
theorem hsL_len (l : List UInt8) (n : Nat) : (hsL l n).length = n := by simp [hsL]
theorem maskL_two {m : Nat} (hm : m < 65536) (l : List UInt8) : maskL (twoB m ++ l) = m := by
  unfold maskL twoB
  simp only [List.cons_append, List.nil_append, List.getD_cons_zero, List.getD_cons_succ]
  rw [UInt8.toNat_ofNat', UInt8.toNat_ofNat']
  omega
theorem flat_drop : ∀ (L : List H32) (i : Nat), (L.flatMap (·.1)).drop (i * 32) = (L.drop i).flatMap (·.1)
  | L, 0 => by simp
  | [], i + 1 => by simp
  | a :: L, i + 1 => by
    rw [List.flatMap_cons, List.drop_succ_cons, ← flat_drop L i]
    have e : (i + 1) * 32 = a.1.length + i * 32 := by rw [a.2]; omega
    rw [e, ← List.drop_drop, List.drop_left]
theorem takeH_flat (a : H32) (l : List UInt8) : takeH (a.1 ++ l) = a := by
  apply Subtype.ext
  rw [takeH_val (by rw [List.length_append, a.2]; omega)]
  rw [List.take_append_of_le_length (by rw [a.2]; exact Nat.le_refl _), List.take_of_length_le (by rw [a.2]; exact Nat.le_refl _)]
theorem hsL_flat (L : List H32) : hsL (L.flatMap (·.1)) L.length = L := by
  refine List.ext_getElem? fun i => ?_
  unfold hsL
  rw [List.getElem?_map]
  by_cases hi : i < L.length
  · rw [List.getElem?_range hi, List.getElem?_eq_getElem hi, Option.map_some, flat_drop]
    have e : L.drop i = L[i] :: L.drop (i + 1) := List.drop_eq_getElem_cons hi
    rw [e, List.flatMap_cons, takeH_flat]
  · rw [List.getElem?_eq_none (by rw [List.length_range]; omega), List.getElem?_eq_none (by omega)]; rfl
/-- What is read of the bytes of a branch is that branch. -/
theorem rec_read {s t h : Nat} (hs : s < 65536) (ht : t < 65536) (hh : h < 65536) (L : List H32) :
    maskL (recB s t h L) = s ∧ maskL ((recB s t h L).drop 2) = t ∧ maskL ((recB s t h L).drop 4) = h ∧ hsL ((recB s t h L).drop 6) L.length = L := by
  have l2 : ∀ m, (twoB m).length = 2 := fun m => rfl
  unfold recB
  refine ⟨?_, ?_, ?_, ?_⟩
  · rw [List.append_assoc, List.append_assoc]; exact maskL_two hs _
  · rw [List.append_assoc, List.append_assoc, show (2 : Nat) = (twoB s).length from rfl, List.drop_left]; exact maskL_two ht _
  · rw [List.append_assoc, show (4 : Nat) = (twoB s ++ twoB t).length from rfl, List.drop_left]; exact maskL_two hh _
  · rw [show (6 : Nat) = (twoB s ++ twoB t ++ twoB h).length from rfl, List.drop_left]; exact hsL_flat L
end Go.Proofs.YtbidoangdnmjfaaDoor
/-
  mask.Read of bytes of a length that no record has.
-/
namespace Go.Proofs.YtbidoangdnmjfaaDoor
open Go Go.RowKit

theorem then_normR {K : Act → World → Prop} {Q : Exit → Act → World → Prop} {a : Act} {w : World} (h : K a w) : Exit.then K Q .normal a w := h
theorem share2 {G : Prop} {P : Nat → World → Prop} {K : Act → World → Prop} {A : Nat → Act} (h1 : (∀ g w, P g w → K (A g) w) → G) (h2 : ∀ g w, P g w → K (A g) w) : G := h1 h2
/-- What is read. -/
def rdS (r : ByteArray) : Nat := maskL r.data.toList
def rdT (r : ByteArray) : Nat := maskL (r.data.toList.drop 2)
def rdH (r : ByteArray) : Nat := maskL (r.data.toList.drop 4)
def rdL (r : ByteArray) : List H32 := hsL (r.data.toList.drop 6) (cntM (rdH r))
def rdE (r : ByteArray) : Bool := decide (6 ≤ r.size) && decide (r.size = 6 + 32 * cntM (rdH r)) && decide (chkM (rdS r) (rdT r) (rdH r) (cntM (rdH r)) = 0)
theorem ext_list (r : ByteArray) (k : Nat) : (r.extract k r.size).data.toList = r.data.toList.drop k := by
  simp
  rw [List.take_of_length_le]
  simp
/-- What Read tells. -/
def RdPost (r : ByteArray) (w : World) (e : Ending) (w' : World) : Prop := ∃ (s t h : Nat) (v : Value) (L : List H32), e = .returned (.tuple #[brV s t h v, .int .i64 (if rdE r then 0 else 10)]) ∧ HashesAt w' v L ∧ Below w.heap.size w w' ∧ s = (if rdE r then rdS r else 0) ∧ t = (if rdE r then rdT r else 0) ∧ h = (if rdE r then rdH r else 0) ∧ L = (if rdE r then rdL r else [])
set_option maxRecDepth 8000 in
set_option maxHeartbeats 4000000 in
theorem mread_bad {w : World} (r : ByteArray) (hr : r.size ≤ 9223372036854775807) (hbad : ¬ (6 ≤ r.size ∧ r.size = 6 + 32 * cntM (rdH r))) (hT : DbAt w) :
    Calls Tryd.prog 11 #[.string r] w fun e w' => e = .returned (.tuple #[brV 0 0 0 (.slice none 0 0), .int .i64 10]) ∧ Below w.heap.size w w' := by
  obtain ⟨W0, g, hW0, hg, hB0, hb0⟩ := box_zero w
  have HW : Hid (Below w.heap.size w W0 ∧ Holds W0 g 25 (brC 0 0 0 (.slice none 0 0)) ∧ DbAt W0 ∧ w.heap.size = g) := ⟨hB0, hb0, hT.below hB0, hg⟩
  by_cases h6 : 6 ≤ r.size
  · have h6i : ¬ (r.size : Int) < 6 := by omega
    have h2i : ¬ (r.size : Int) < 2 := by omega
    have h4i : ¬ (r.size : Int) < 4 := by omega
    have m0 := fun W => maskOf_any (w := W) r (by omega)
    have m2 := fun W => maskOf_any (w := W) (r.extract 2 r.size) (by rw [ByteArray.size_extract]; omega)
    have m4 := fun W => maskOf_any (w := W) (r.extract 4 r.size) (by rw [ByteArray.size_extract]; omega)
    rw [ext_list] at m2 m4
    have hsl := maskL_lt r.data.toList
    have htl := maskL_lt (r.data.toList.drop 2)
    have hhl := maskL_lt (r.data.toList.drop 4)
    obtain ⟨s, hs⟩ : ∃ s, maskL r.data.toList = s := ⟨_, rfl⟩
    obtain ⟨t, ht⟩ : ∃ t, maskL (r.data.toList.drop 2) = t := ⟨_, rfl⟩
    obtain ⟨h, hh⟩ : ∃ h, maskL (r.data.toList.drop 4) = h := ⟨_, rfl⟩
    rw [hs] at m0 hsl
    rw [ht] at m2 htl
    rw [hh] at m4 hhl
    have HD : Hid (rdS r = s ∧ rdT r = t ∧ rdH r = h) := ⟨hs, ht, hh⟩
    clear hs ht hh hT hB0 hb0
    go_enter Tryd.func11, Tryd.ntmps11
    go_wp2_with fail
    rename_i K4 hK4
    apply share2 (K := K4) (P := fun g4 w7 => Holds w7 g4 25 (brC s t h (.slice none 0 0)) ∧ Below W0.heap.size W0 w7 ∧ W0.heap.size ≤ g4)
    case h1 =>
      intro HREST
      have hC0 : Below W0.heap.size W0 W0.drew := below_drewR (Below.refl _ _)
      refine wp_region_u (fun W => Below W0.heap.size W0 W) (.take 0 (.take 2 (.take 3 (.take 5 (.take 6 (.two 1 (.two 4 (.two 7 (.take 8 (.one 9 (.one 10 .nil))) 9 (.one 7 (.take 8 (.one 10 .nil)))) 9 (.one 4 (.one 7 (.take 8 (.one 10 .nil))))) 9 (.one 1 (.one 4 (.one 7 (.take 8 (.one 10 .nil))))))))))) mixedP (by kernel_rfl) rfl (by kernel_rfl) (fun _ _ _ d _ h => by cases d <;> exact h) hC0 ?_
      refine u_val (some 10) rfl rfl rfl (.string r) (fun _ => by go_simp) ?_
      go_frame
      refine u_val (some 12) rfl rfl rfl (.string r) (fun _ => by go_simp) ?_
      go_frame
      refine u_val (some 13) rfl rfl rfl (.string (r.extract 2 r.size)) (fun _ => by go_simp) ?_
      go_frame
      refine u_val (some 15) rfl rfl rfl (.string r) (fun _ => by go_simp) ?_
      go_frame
      refine u_val (some 16) rfl rfl rfl (.string (r.extract 4 r.size)) (fun _ => by go_simp) ?_
      go_frame
      refine ⟨?_, ?_⟩
      · refine op_call (some 11) rfl rfl rfl (f := 27) (vs := #[.string r]) (by go_simp) ((m0 W0.drew).mono ?_)
        rintro e wa1 ⟨rfl, hBa1⟩
        have hCa1 := below_new hC0 hBa1
        refine ⟨_, rfl, hCa1, ?_⟩
        go_frame
        refine ⟨?_, ?_⟩
        · refine op_call (some 14) rfl rfl rfl (f := 27) (vs := #[.string (r.extract 2 r.size)]) (by go_simp) ((m2 wa1).mono ?_)
          rintro e wa2 ⟨rfl, hBa2⟩
          have hCa2 := below_new hCa1 hBa2
          refine ⟨_, rfl, hCa2, ?_⟩
          go_frame
          refine ⟨?_, ?_⟩
          · refine op_call (some 17) rfl rfl rfl (f := 27) (vs := #[.string (r.extract 4 r.size)]) (by go_simp) ((m4 wa2).mono ?_)
            rintro e wa3 ⟨rfl, hBa3⟩
            have hCa3 := below_new hCa2 hBa3
            refine ⟨_, rfl, hCa3, ?_⟩
            go_frame
            refine u_val (some 18) rfl rfl rfl (.agg #[.int .u16 (s : Nat), .int .u16 (t : Nat), .int .u16 (h : Nat), .slice none 0 0]) (fun _ => by go_simp) ?_
            go_frame
            obtain ⟨Wg, g4, hWg, hg4, hBg, hqg⟩ := box_zero wa3
            have hCg := below_new hCa3 hBg
            have hl4 : W0.heap.size ≤ g4 := by rw [← hg4]; exact (hCa3).size
            refine op_val (some 4) rfl rfl rfl (v := .pointer (some ⟨g4, 0, none⟩)) (w' := Wg) (by go_simp) ?_
            refine ⟨hCg, ?_⟩
            go_frame
            refine op_storeH none rfl rfl rfl 25 _ _ rfl g4 _ rfl rfl 25 _ hqg infoBr rfl (by simp [Value.oneCell']) ?_
            intro w7 h7 hO7 hs7
            have hC7 := Only.fresh hCg hO7 hl4
            refine ⟨hC7, ?_⟩
            go_frame
            refine then_normR ?_
            exact HREST g4 w7 ⟨h7, hC7, hl4⟩
          · obtain ⟨Wg, g4, hWg, hg4, hBg, hqg⟩ := box_zero wa2
            have hCg := below_new hCa2 hBg
            have hl4 : W0.heap.size ≤ g4 := by rw [← hg4]; exact (hCa2).size
            refine op_val (some 4) rfl rfl rfl (v := .pointer (some ⟨g4, 0, none⟩)) (w' := Wg) (by go_simp) ?_
            refine ⟨hCg, ?_⟩
            go_frame
            refine op_call (some 17) rfl rfl rfl (f := 27) (vs := #[.string (r.extract 4 r.size)]) (by go_simp) ((m4 Wg).mono ?_)
            rintro e wa3 ⟨rfl, hBa3⟩
            have hCa3 := below_new hCg hBa3
            have hqa3 := below_holds hBa3 hqg
            refine ⟨_, rfl, hCa3, ?_⟩
            go_frame
            refine u_val (some 18) rfl rfl rfl (.agg #[.int .u16 (s : Nat), .int .u16 (t : Nat), .int .u16 (h : Nat), .slice none 0 0]) (fun _ => by go_simp) ?_
            go_frame
            refine op_storeH none rfl rfl rfl 25 _ _ rfl g4 _ rfl rfl 25 _ hqa3 infoBr rfl (by simp [Value.oneCell']) ?_
            intro w7 h7 hO7 hs7
            have hC7 := Only.fresh hCa3 hO7 hl4
            refine ⟨hC7, ?_⟩
            go_frame
            refine then_normR ?_
            exact HREST g4 w7 ⟨h7, hC7, hl4⟩
        · obtain ⟨Wg, g4, hWg, hg4, hBg, hqg⟩ := box_zero wa1
          have hCg := below_new hCa1 hBg
          have hl4 : W0.heap.size ≤ g4 := by rw [← hg4]; exact (hCa1).size
          refine op_val (some 4) rfl rfl rfl (v := .pointer (some ⟨g4, 0, none⟩)) (w' := Wg) (by go_simp) ?_
          refine ⟨hCg, ?_⟩
          go_frame
          refine op_call (some 14) rfl rfl rfl (f := 27) (vs := #[.string (r.extract 2 r.size)]) (by go_simp) ((m2 Wg).mono ?_)
          rintro e wa2 ⟨rfl, hBa2⟩
          have hCa2 := below_new hCg hBa2
          have hqa2 := below_holds hBa2 hqg
          refine ⟨_, rfl, hCa2, ?_⟩
          go_frame
          refine op_call (some 17) rfl rfl rfl (f := 27) (vs := #[.string (r.extract 4 r.size)]) (by go_simp) ((m4 wa2).mono ?_)
          rintro e wa3 ⟨rfl, hBa3⟩
          have hCa3 := below_new hCa2 hBa3
          have hqa3 := below_holds hBa3 hqa2
          refine ⟨_, rfl, hCa3, ?_⟩
          go_frame
          refine u_val (some 18) rfl rfl rfl (.agg #[.int .u16 (s : Nat), .int .u16 (t : Nat), .int .u16 (h : Nat), .slice none 0 0]) (fun _ => by go_simp) ?_
          go_frame
          refine op_storeH none rfl rfl rfl 25 _ _ rfl g4 _ rfl rfl 25 _ hqa3 infoBr rfl (by simp [Value.oneCell']) ?_
          intro w7 h7 hO7 hs7
          have hC7 := Only.fresh hCa3 hO7 hl4
          refine ⟨hC7, ?_⟩
          go_frame
          refine then_normR ?_
          exact HREST g4 w7 ⟨h7, hC7, hl4⟩
      · obtain ⟨Wg, g4, hWg, hg4, hBg, hqg⟩ := box_zero W0.drew
        have hCg := below_new hC0 hBg
        have hl4 : W0.heap.size ≤ g4 := by rw [← hg4]; exact (hC0).size
        refine op_val (some 4) rfl rfl rfl (v := .pointer (some ⟨g4, 0, none⟩)) (w' := Wg) (by go_simp) ?_
        refine ⟨hCg, ?_⟩
        go_frame
        refine op_call (some 11) rfl rfl rfl (f := 27) (vs := #[.string r]) (by go_simp) ((m0 Wg).mono ?_)
        rintro e wa1 ⟨rfl, hBa1⟩
        have hCa1 := below_new hCg hBa1
        have hqa1 := below_holds hBa1 hqg
        refine ⟨_, rfl, hCa1, ?_⟩
        go_frame
        refine op_call (some 14) rfl rfl rfl (f := 27) (vs := #[.string (r.extract 2 r.size)]) (by go_simp) ((m2 wa1).mono ?_)
        rintro e wa2 ⟨rfl, hBa2⟩
        have hCa2 := below_new hCa1 hBa2
        have hqa2 := below_holds hBa2 hqa1
        refine ⟨_, rfl, hCa2, ?_⟩
        go_frame
        refine op_call (some 17) rfl rfl rfl (f := 27) (vs := #[.string (r.extract 4 r.size)]) (by go_simp) ((m4 wa2).mono ?_)
        rintro e wa3 ⟨rfl, hBa3⟩
        have hCa3 := below_new hCa2 hBa3
        have hqa3 := below_holds hBa3 hqa2
        refine ⟨_, rfl, hCa3, ?_⟩
        go_frame
        refine u_val (some 18) rfl rfl rfl (.agg #[.int .u16 (s : Nat), .int .u16 (t : Nat), .int .u16 (h : Nat), .slice none 0 0]) (fun _ => by go_simp) ?_
        go_frame
        refine op_storeH none rfl rfl rfl 25 _ _ rfl g4 _ rfl rfl 25 _ hqa3 infoBr rfl (by simp [Value.oneCell']) ?_
        intro w7 h7 hO7 hs7
        have hC7 := Only.fresh hCa3 hO7 hl4
        refine ⟨hC7, ?_⟩
        go_frame
        refine then_normR ?_
        exact HREST g4 w7 ⟨h7, hC7, hl4⟩
    case h2 =>
      intro g4 w7 h7
      obtain ⟨h7, hB7, hl4⟩ := h7
      obtain ⟨W8, hW8⟩ : ∃ W, World.alloc w7 (.cells #[.string ⟨#[]⟩] 9) = W := ⟨_, rfl⟩
      obtain ⟨g5, hg5⟩ : ∃ g, w7.heap.size = g := ⟨_, rfl⟩
      have h8 : Holds W8 g5 9 #[.string ⟨#[]⟩] := by rw [← hW8, ← hg5]; exact Holds.new _ _ _
      have hB8 : Below w7.heap.size w7 W8 := by rw [← hW8]; exact below_new1 _ _
      obtain ⟨r6, hr6⟩ : ∃ x, r.extract 6 r.size = x := ⟨_, rfl⟩
      obtain ⟨W9, hW9⟩ : ∃ W, W8.setCell ⟨g5, 0, none⟩ (.string r6) = W := ⟨_, rfl⟩
      have h9 : Holds W9 g5 9 #[.string r6] := by rw [← hW9]; exact (h8.set 0 _).congr rfl
      have hO9 : Only g5 W8 W9 := by rw [← hW9]; exact (Only.refl g5 W8).set 0 _
      have hB9 : Below w7.heap.size w7 W9 := Only.fresh hB8 hO9 (by rw [hg5]; exact Nat.le_refl _)
      have c8 := h8.cell 0
      have f8 := h8.frozen 0
      have h6s : Hid (r6.size = r.size - 6) := by show _ = _; rw [← hr6, ByteArray.size_extract]; omega
      have H9 : Hid (Below W0.heap.size W0 W9 ∧ Holds W9 g4 25 (brC s t h (.slice none 0 0)) ∧ Holds W9 g5 9 #[.string r6] ∧ W0.heap.size ≤ g4 ∧ g4 < g5) := ⟨below_new hB7 hB9, below_holds hB9 h7, h9, hl4, by rw [← hg5]; exact h7.lt⟩
      have HR6 : Hid (r.extract 6 r.size = r6) := hr6
      clear hB9 hO9 h9 hB8 h8 hB7 h7 m0 m2 m4
      have hct := fun W (hW : DbAt W) => count_any hhl (w := W) hW
      obtain ⟨n, hn⟩ : ∃ n, cntM h = n := ⟨_, rfl⟩
      have hn16 : n ≤ 16 := by rw [← hn]; exact cntM_le h
      rw [hn] at hct
      have HN : Hid (cntM h = n) := hn
      clear hn
      go_at_K
      go_wp2_with fail
      have c5 := H9.out.2.2.1.cell 0
      have c42 := H9.out.2.1.cell 2
      unfold brC at c42
      have hwn : IntKind.i64.wrap ((32 : Int) * n) = 32 * n := by rw [IntKind.wrap_i64]; omega
      have HT9 : Hid (DbAt W9) := HW.out.2.2.1.below H9.out.1
      clear c8 f8
      have hlen : ¬ r6.size = 32 * n := fun q => hbad ⟨h6, by rw [HD.out.2.2, HN.out]; have := h6s.out; omega⟩
      have hli : ¬ (r6.size : Int) = 32 * n := by omega
      refine wp_region_class (fun W => Below W9.heap.size W9 W) mixedP (by kernel_rfl) (below_drewR (Below.refl _ _)) ?_
      refine wpQ_ld rfl _ _ rfl rfl (fun W hW => ldStrM (keep_cellM hW c5)) ?_
      go_frame
      go_big_quiet_step (exact fun _ => rfl)
      go_big_quiet_step (exact fun _ => rfl)
      refine wpQ_ld rfl _ _ rfl rfl (fun W hW => ldU16M (keep_cellM hW c42)) ?_
      go_frame
      refine wpQ_call rfl 20 #[.int .u16 (h : Nat)] (fun _ => by go_simp) (.int .i64 (n : Nat)) (fun W hW => (hct W (HT9.out.below hW)).mono fun e w' h => ⟨h.1, below_new hW h.2⟩) ?_
      go_frame
      go_big_quiet_step (exact fun _ => rfl)
      go_big_quiet_step (exact fun _ => rfl)
      refine wpQuiet_nil ?_
      intro W6 hB6
      show Exit.then _ _ Exit.normal _ _
      simp only [Exit.then]
      go_at_K
      have hz6 := below_holds (below_new H9.out.1 hB6) HW.out.2.1
      have HF : Hid (Below w.heap.size w W6) := below_new HW.out.1 (below_new H9.out.1 hB6)
      unfold brC at hz6
      go_wp2_with (refine wpList_storeH rfl 25 _ _ rfl _ _ rfl rfl _ _ hz6 infoBr rfl (by simp [Value.oneCell']) ?_; intro W10 h10 hO10 hs10)
      refine bodyPost_ret (results_cellM rfl _ _ _ _ _ _ rfl h10 Tryd.underlying25 rfl infoBr) rfl ?_
      have hq := Only.fresh HF.out hO10 (by have := HW.out.2.2.2; omega)
      first | exact ⟨rfl, hq⟩ | (rw [HW.out.2.2.2] at hq; exact ⟨rfl, hq⟩)
  · have h6i : (r.size : Int) < 6 := by omega
    have hz := HW.out.2.1
    unfold brC at hz
    clear hT hB0 hb0
    go_enter Tryd.func11, Tryd.ntmps11
    go_wp2_with (refine wpList_storeH rfl 25 _ _ rfl _ _ rfl rfl _ _ hz infoBr rfl (by simp [Value.oneCell']) ?_; intro W10 h10 hO10 hs10)
    refine bodyPost_ret (results_cellM rfl _ _ _ _ _ _ rfl h10 Tryd.underlying25 rfl infoBr) rfl ?_
    have hq := Only.fresh HW.out.1 hO10 (by have := HW.out.2.2.2; omega)
    first | exact ⟨rfl, hq⟩ | (rw [HW.out.2.2.2] at hq; exact ⟨rfl, hq⟩)
end Go.Proofs.YtbidoangdnmjfaaDoor
/-
  What a round of Read's range wants: a row of the call's own stands where no cells turn; the text that is left.
-/
namespace Go.Proofs.YtbidoangdnmjfaaDoor
open Go Go.RowKit

theorem own_keptM {A B : World} {row : Option Nat} {Bd : Nat} (hg : A.grownBy B row) (hr : ∀ r, row = some r → Bd ≤ r ∧ ∃ o : Obj, A.heap[r]? = some o ∧ o.isCells = false) {base : Nat} {v : Value} {L : List H32} (h : OwnH A base v L) : OwnH B base v L := by
  refine h.block fun k hk => hg.block k (h.blk k hk) (fun e => ?_)
  obtain ⟨_, o, ho, hc⟩ := hr k e.symm
  rcases h.2 with ⟨rfl, _⟩ | ⟨g, cap, cur, rfl, h1, h2, _⟩
  · cases hk
  · injection hk with hk
    simp only at hk
    subst hk
    rw [h2] at ho
    cases ho
    cases hc
/-- What is left behind k hashes. -/
def restB (r : ByteArray) (k : Nat) : ByteArray := r.extract (6 + k * 32) r.size
theorem restB_size (r : ByteArray) (k : Nat) : (restB r k).size = r.size - (6 + k * 32) := by unfold restB; rw [ByteArray.size_extract]; omega
theorem restB_list (r : ByteArray) (k : Nat) : (restB r k).data.toList = (r.data.toList.drop 6).drop (k * 32) := by unfold restB; rw [ext_list, List.drop_drop]
theorem restB_hash (r : ByteArray) (k : Nat) : takeH (restB r k).data.toList = takeH ((r.data.toList.drop 6).drop (k * 32)) := by rw [restB_list]
theorem restB_succ (r : ByteArray) (k : Nat) : (restB r k).extract 32 (restB r k).size = restB r (k + 1) := by
  apply ByteArray.ext
  apply Array.toList_inj.1
  rw [ext_list, restB_list, restB_list, List.drop_drop]
  congr 1
  omega
end Go.Proofs.YtbidoangdnmjfaaDoor
/-
  What a round that puts one more behind a row of its own leaves as it was.
-/
namespace Go.Proofs.YtbidoangdnmjfaaDoor
open Go Go.RowKit

structure KeepS (g : Nat) (sv : Value) (w w' : World) : Prop where
  os : w'.os = w.os
  tape : w'.tape = w.tape
  output : w'.output = w.output
  size : w.heap.size ≤ w'.heap.size
  block : ∀ k, k < w.heap.size → k ≠ g → sv.ownBlock ≠ some k → w'.heap[k]? = w.heap[k]?
section
variable {g base : Nat} {sv : Value} {X W W' w : World}
theorem KeepS.refl : KeepS g sv X X := ⟨rfl, rfl, rfl, Nat.le_refl _, fun _ _ _ _ => rfl⟩
theorem KeepS.drew (h : KeepS g sv X W) : KeepS g sv X W.drew := ⟨h.os, h.tape, h.output, h.size, h.block⟩
theorem KeepS.below (h : KeepS g sv X W) (k : Below W.heap.size W W') : KeepS g sv X W' :=
  ⟨k.os.trans h.os, k.tape.trans h.tape, k.output.trans h.output, Nat.le_trans h.size k.size, fun b hb h1 h2 => (k.block b (Nat.lt_of_lt_of_le hb h.size)).trans (h.block b hb h1 h2)⟩
theorem KeepS.alloc (h : KeepS g sv X W) (o : Obj) : KeepS g sv X (W.alloc o) := h.below (below_new1 W o)
theorem KeepS.grown (h : KeepS g sv X W) (k : W.grownBy W' sv.ownBlock) : KeepS g sv X W' :=
  ⟨k.os.trans h.os, k.tape.trans h.tape, k.output.trans h.output, Nat.le_trans h.size k.size, fun b hb h1 h2 => (k.block b (Nat.lt_of_lt_of_le hb h.size) (fun e => h2 e.symm)).trans (h.block b hb h1 h2)⟩
theorem KeepS.only (h : KeepS g sv X W) (k : Only g W W') : KeepS g sv X W' :=
  ⟨k.os.trans h.os, k.tape.trans h.tape, k.output.trans h.output, Nat.le_trans h.size k.size, fun b hb h1 h2 => (k.block b (Nat.lt_of_lt_of_le hb h.size) h1).trans (h.block b hb h1 h2)⟩
theorem KeepS.cell {b i : Nat} {v : Value} (h : KeepS g sv X W) (hc : X.cell? ⟨b, i, none⟩ = some v) (h1 : b ≠ g) (h2 : sv.ownBlock ≠ some b) : W.cell? ⟨b, i, none⟩ = some v := by
  have hl : b < X.heap.size := World.block_lt_of_cell? X _ hc
  rw [World.cell?_of_block (h.block b hl h1 h2)]; exact hc
theorem KeepS.holds {b : Nat} {t : TypeId} {cs : Array Value} (h : KeepS g sv X W) (hc : Holds X b t cs) (h1 : b ≠ g) (h2 : sv.ownBlock ≠ some b) : Holds W b t cs := by
  have := hc.lt
  unfold Holds at *
  rw [h.block b this h1 h2]; exact hc
/-- Nothing that lay ahead of the row has turned but g. -/
theorem KeepS.from (h : KeepS g sv X W) (k : Only g w X) (hs : ∀ j, sv.ownBlock = some j → w.heap.size ≤ j) : Only g w W :=
  ⟨h.os.trans k.os, h.tape.trans k.tape, h.output.trans k.output, Nat.le_trans k.size h.size, fun b hb h1 => (h.block b (Nat.lt_of_lt_of_le hb k.size) h1 (fun e => by have := hs b e; omega)).trans (k.block b hb h1)⟩
theorem KeepS.keeps {B : Nat} (h : KeepS g sv X W) (hg : g < B) (hr : ∀ j, sv.ownBlock = some j → ∃ cs t p, X.heap[j]? = some (.cells cs t p)) : KeepsFrom B X W :=
  ⟨h.size, fun k o hk ho hc => (h.block k (Array.getElem?_eq_some_iff.1 ho).1 (by omega) (fun e => by
    obtain ⟨cs, t, p, h1⟩ := hr k e
    rw [ho] at h1
    cases h1
    cases hc)).trans ho⟩
theorem KeepS.keepB {S : Nat → Prop} (h : KeepS g sv X W) (hg : ¬ S g) (hs : ∀ j, sv.ownBlock = some j → ¬ S j) (hS : ∀ k, S k → k < X.heap.size) : KeepB S X W :=
  ⟨h.size, fun k hk => h.block k (hS k hk) (fun e => hg (e ▸ hk)) (fun e => hs k e hk)⟩
theorem OwnH.cells {L : List H32} (h : OwnH X base sv L) : ∀ j, sv.ownBlock = some j → ∃ cs t p, X.heap[j]? = some (.cells cs t p) := fun j hj => by
  rcases h.2 with ⟨rfl, _⟩ | ⟨g, cap, cur, rfl, h1, h2, _⟩
  · cases hj
  · injection hj with hj
    simp only at hj
    subst hj
    exact ⟨_, _, _, h2⟩
end
section
variable {ops : Array Oper} {Q : Exit → Act → World → Prop} {Kt : Act → World → Prop} {k : Nat} {op : Oper} {a : Act} {w : World} {v : Value} {K L : List H32} {base : Nat}
theorem op_stM (d : Option Tmp) (hdd : op.dst = d) (hk : ops[k]? = some op) (hw : Region.wanted op (yielded ops a.tmps) = true) (ty : TypeId) (x y : Operand) (ho : op.op = .store ty x y)
    {ad : Addr} {v : Value} (hx : a.eval x = .pointer (some ad)) (hy : a.eval y = v) {w' : World} (hst : (storeVar ty ad v).run Tryd.prog w = .ok () w') (h : Kt (a.put d undef) w') : wpOp Tryd.prog ops Q k Kt a w := by
  refine op_skip d hdd hk hw (w' := w') ?_ h
  unfold execOp
  simp only [ho, hx, hy, Instr.storeAt, Instr.sureAddr, Sem.run_bind, Sem.run_pure, Result.andThen_ok, hst]
theorem op_appHM (d : Option Tmp) (hdd : op.dst = d) (hk : ops[k]? = some op) (hw : Region.wanted op (yielded ops a.tmps) = true) (s x : Operand)
    (ho : op.op = .call { callee := .builtin .append, args := #[s, x], argTypes := #[23, 23] }) {y : Value} (hs : a.eval s = v) (hx : a.eval x = y) (hown : OwnH w base v K) (hy : HashesAt w y L) (hl : K.length + L.length ≤ 1000000000) (hbase : base ≤ w.heap.size)
    (h : ∀ v' w', OwnH w' base v' (K ++ L) → w.grownBy w' v.ownBlock → Kt (a.put d v') w') : wpOp Tryd.prog ops Q k Kt a w := by
  obtain ⟨v', w', hr, h2, h3⟩ := run_append_h op.type hown hy hl hbase
  refine op_val d hdd hk hw (v := v') (w' := w') ?_ (h v' w' h2 h3)
  unfold execOp
  simp only [ho, resolve, invoke, builtin, Sem.run_bind, Sem.run_pure, Result.andThen_ok, List.map_toArray, List.map_cons, List.map_nil, hs, hx, hr]
end
theorem OwnH.shape {w : World} {base : Nat} {v : Value} {L : List H32} (h : OwnH w base v L) : ∃ p c, v = .slice p L.length c := h.at.shape
theorem run_stHs {w : World} {g i : Nat} {t : TypeId} {cs : Array Value} (h : Holds w g t cs) (hi : i < cs.size) (p : Option Addr) (n c : Nat) : (storeVar 23 ⟨g, i, none⟩ (.slice p n c)).run Tryd.prog w = .ok () (w.setCell ⟨g, i, none⟩ (.slice p n c)) := by
  have h1 := h.cell i
  rw [Array.getElem?_eq_getElem hi] at h1
  have h2 := h.frozen i
  simp [go_sem, h1, h2]
/-- What stands behind some rounds of Read's range: the row so far, the text that is left. -/
def RdI (r : ByteArray) (s t h g g4 g5 base : Nat) (w0 : World) (k : Nat) (W : World) : Prop :=
  ∃ sv, Holds W g4 25 (brC s t h sv) ∧ OwnH W base sv (hsL (r.data.toList.drop 6) k) ∧ Holds W g5 9 #[.string (restB r k)] ∧ Holds W g 25 (brC 0 0 0 (.slice none 0 0)) ∧ Below w0.heap.size w0 W ∧ base ≤ W.heap.size
theorem RdI.kept {r : ByteArray} {s t h g g4 g5 base : Nat} {w0 : World} {k : Nat} {A B : World} {row : Option Nat} (hI : RdI r s t h g g4 g5 base w0 k A) (hw : w0.heap.size ≤ base) (hg : A.grownBy B row) (hr : ∀ r, row = some r → base ≤ r ∧ ∃ o : Obj, A.heap[r]? = some o ∧ o.isCells = false) : RdI r s t h g g4 g5 base w0 k B := by
  obtain ⟨sv, h1, h2, h3, h4, h5, h6⟩ := hI
  exact ⟨sv, holds_keptM hg hr h1, own_keptM hg hr h2, holds_keptM hg hr h3, holds_keptM hg hr h4, below_keptM hg hr hw (Nat.le_refl _) h5, Nat.le_trans h6 hg.size⟩
end Go.Proofs.YtbidoangdnmjfaaDoor
