/-
  The document's With of a nibble.
-/
import Derived.Test.YtbidoangdnmjfaaDoorMFitW
import Derived.Test.YtbidoangdnmjfaaDoorMPlanV
import Derived.Test.YtbidoangdnmjfaaDoorMQHashW
import Derived.Test.YtbidoangdnmjfaaDoorMOrdP
namespace Go.Proofs.YtbidoangdnmjfaaDoor
open Go Go.RowKit

section
variable {ops : Array Oper} {Q : Exit → Act → World → Prop} {op : Oper} {rest : List Oper} {a : Act} {w : World}
/-- The walk stops here. -/
theorem stopAt (d : Nat) (_ : op.dst = some d) (h : Hid (wpList Tryd.prog ops Q (op :: rest) a w)) : wpList Tryd.prog ops Q (op :: rest) a w := h
end
theorem idxM (x : ByteArray) (k : Nat) (c : UInt8) (hk : k < x.size) (hc : x.data.toList.getD k 0 = c) (w : World) : (Instr.index 9 (.string x) (.int .i64 (k : Int))).run Tryd.prog w = .ok (.int .u8 ((c.toNat : Nat) : Int)) w := by
  have h1 : (k : Int) < x.size := by omega
  have h2 : x[k] = c := by rw [← hc, List.getD_eq_getElem?_getD, List.getElem?_eq_getElem (by exact hk)]; rfl
  go_simp
theorem then_normM {K : Act → World → Prop} {Q : Exit → Act → World → Prop} {a : Act} {w : World} (h : K a w) : Exit.then K Q .normal a w := h
/-- What comes behind is walked once. -/
theorem share {G : Prop} {P : World → Prop} {K : Act → World → Prop} {A : Act} (h1 : (∀ w, P w → K A w) → G) (h2 : ∀ w, P w → K A w) : G := h1 h2
/-- 32 bytes as cells. -/
def hF (f : Nat → UInt8) : Array Value := Array.ofFn (n := 32) fun i => .int .u8 (((f i.val).toNat : Nat) : Int)
theorem hF_hcl (x : H32) : (hcl x).toArray = hF fun i => x.1.getD i 0 := Value.agg.inj (hla_fn x)
theorem hF_congr {f g : Nat → UInt8} (h : ∀ i, i < 32 → f i = g i) : hF f = hF g := by
  unfold hF
  congr 1
  funext i
  rw [h i.val i.isLt]
theorem hF_size (f : Nat → UInt8) : (hF f).size = 32 := by simp [hF]
theorem hF_get (f : Nat → UInt8) {i : Nat} (hi : i < 32) : (hF f)[i]? = some (.int .u8 (((f i).toNat : Nat) : Int)) := by simp [hF, hi]
theorem hF_set (f : Nat → UInt8) {j : Nat} (hj : j < 32) (c : UInt8) : (hF f).setIfInBounds j (.int .u8 ((c.toNat : Nat) : Int)) = hF fun i => if i = j then c else f i := by
  refine Array.ext_getElem? fun i => ?_
  rw [Array.getElem?_setIfInBounds, hF_size]
  by_cases hi : i < 32
  · rw [hF_get _ hi, hF_get _ hi]
    by_cases e : j = i
    · subst e; simp [hi]
    · have e' : ¬ i = j := fun h => e h.symm
      simp [e, e']
  · rw [Array.getElem?_eq_none (by rw [hF_size]; omega), Array.getElem?_eq_none (by rw [hF_size]; omega)]
    by_cases e : j = i
    · omega
    · simp [e]
/-- The hashes of those below j, that of k another. -/
def qL (h1 k : Nat) (r : ByteArray) (h : Nat) (L : List H32) (j : Nat) : List H32 := ((List.range j).filter fun i => h1.testBit i).map fun i : Nat => if i = k then refH r else hashX h L (i : Int)
theorem qL_succ (h1 k : Nat) (r : ByteArray) (h : Nat) (L : List H32) (j : Nat) : qL h1 k r h L (j + 1) = qL h1 k r h L j ++ if h1.testBit j then [if j = k then refH r else hashX h L (j : Int)] else [] := by
  unfold qL
  rw [List.range_succ, List.filter_append, List.map_append]
  congr 1
  cases hb : h1.testBit j with
  | true => rw [List.filter_cons_of_pos (p := fun i => h1.testBit i) hb]; rfl
  | false => rw [List.filter_cons_of_neg (p := fun i => h1.testBit i) (by simp [hb])]; rfl
theorem qL_len (h1 k : Nat) (r : ByteArray) (h : Nat) (L : List H32) (j : Nat) : (qL h1 k r h L j).length ≤ j := by
  unfold qL
  rw [List.length_map]
  have := List.length_filter_le (fun i => h1.testBit i) (List.range j)
  rwa [List.length_range] at this
theorem qL_all {b : Br} (hb : b.fits) {k : Nat} (hk : k < 16) (tree : Bool) (r : ByteArray) : (withB b k tree r).L = qL (withB b k tree r).h k r b.h b.L 16 := by
  have hf := withB_fits hb hk tree r
  refine (hashes_map (h := (withB b k tree r).h) (L := (withB b k tree r).L) hf.2.2.2).trans ?_
  unfold qL
  have e : nibs (withB b k tree r).h = (List.range 16).filter fun i => (withB b k tree r).h.testBit i := rfl
  rw [e]
  refine List.map_congr_left fun i hi => ?_
  rw [List.mem_filter, List.mem_range] at hi
  have hw := hash_with hb hk tree r i hi.1
  refine hw.trans ?_
  by_cases ei : i = k
  · subst ei
    have hbit : (withB b i tree r).h.testBit i = isH r := by
      show (setM b.h i (isH r)).testBit i = isH r
      rw [testBit_setM]; simp
    rw [hbit] at hi
    simp [hi.2]
  · rw [if_neg ei, if_neg ei]
set_option maxRecDepth 8000 in
set_option maxHeartbeats 4000000 in
theorem qwith_any {w : World} {b : Br} {k : Nat} {v : Value} (hb : b.fits) (hk : k < 16) (hv : HashesAt w v b.L) (tree : Bool) (r : ByteArray) :
    Calls Tryd.prog 26 #[brV b.s b.t b.h v, .int .i64 (k : Nat), .bool tree, .string r] w fun e w' => ∃ v', e = .returned (brV (withB b k tree r).s (withB b k tree r).t (withB b k tree r).h v') ∧ HashesAt w' v' (withB b k tree r).L ∧ Below w.heap.size w w' := by
  rw [qL_all hb hk tree r]
  obtain ⟨s, t, h, L⟩ := b
  obtain ⟨hs, ht, hh, hL⟩ := hb
  dsimp only at hs ht hh hL hv ⊢
  unfold withB
  dsimp only
  obtain ⟨p, c, rfl⟩ := hv.shape
  obtain ⟨m, hm⟩ : ∃ m, L.length = m := ⟨_, rfl⟩
  have HM : Hid (L.length = m ∧ m = cntM h) := ⟨hm, hm ▸ hL⟩
  rw [hm] at hv ⊢
  clear hm hL
  have hki : (k : Int) < 16 := by omega
  have hk15 : ¬ (15 : Int) < k := by omega
  have hk0 : ¬ (k : Int) < 0 := by omega
  obtain ⟨W0, g, hW0, hg, hB0, hb0, _, _, _, _⟩ := box_br w s t h (.slice p m c)
  obtain ⟨W1, g1, hW1, hg1, hB1, hb1⟩ := box_zero W0
  have hgl : g < g1 := by rw [← hg1]; exact hb0.lt
  have HG : Hid (w.heap.size = g ∧ g < g1) := ⟨hg, hgl⟩
  have HW : Hid (Below w.heap.size w W1 ∧ HashesAt W1 (.slice p m c) L ∧ Holds W1 g 25 (brC s t h (.slice p m c)) ∧ Holds W1 g1 25 (brC 0 0 0 (.slice none 0 0))) := ⟨below_new hB0 hB1, (hv.below hB0).below hB1, below_holds hB1 hb0, hb1⟩
  clear hB0 hB1 hb0 hb1 hv
  obtain ⟨e1, he1⟩ : ∃ e1, (r.size != 0) = e1 := ⟨_, rfl⟩
  obtain ⟨e3, he3⟩ : ∃ e3, isH r = e3 := ⟨_, rfl⟩
  have hcase : (∃ (h33 : r.size = 33), r[0]'(by omega) = 160 ∧ e3 = true ∧ e1 = true) ∨ (∃ (h33 : r.size = 33), ¬ r[0]'(by omega) = 160 ∧ e3 = false ∧ e1 = true) ∨ (¬ r.size = 33 ∧ e3 = false ∧ e1 = true) ∨ (¬ r.size = 33 ∧ e3 = false ∧ e1 = false) := by
    subst he1 he3
    by_cases h33 : r.size = 33
    · have hn : (r.size != 0) = true := by rw [h33]; rfl
      by_cases h0 : r[0]'(by omega) = 160
      · exact .inl ⟨h33, h0, by unfold isH; rw [byte0 (by omega), h0, h33]; rfl, hn⟩
      · exact .inr (.inl ⟨h33, h0, by unfold isH; rw [byte0 (by omega)]; simp [h0], hn⟩)
    · have hi : isH r = false := by unfold isH; simp [h33]
      cases hn : r.size != 0 with
      | true => exact .inr (.inr (.inl ⟨h33, hi, rfl⟩))
      | false => exact .inr (.inr (.inr ⟨h33, hi, rfl⟩))
  have hsm1 := fun W => set_any (m := s) e1 hs hk W
  have hsm2 := fun W => set_any (m := t) (e1 && tree) ht hk W
  have hsm3 := fun W => set_any (m := h) e3 hh hk W
  rw [he1, he3]
  have HE1 : Hid ((r.size != 0) = e1) := he1
  have HE3 : Hid (isH r = e3) := he3
  have hs1 := setM_lt hs hk e1
  have ht1 := setM_lt ht hk (e1 && tree)
  have hh1 := setM_lt hh hk e3
  generalize setM s k e1 = s1 at hsm1 hs1 ⊢
  generalize setM t k (e1 && tree) = t1 at hsm2 ht1 ⊢
  have hb3 : (setM h k e3).testBit k = e3 := by rw [testBit_setM]; simp
  generalize setM h k e3 = h1 at hsm3 hh1 hb3 ⊢
  clear he1 he3
  obtain ⟨W2, g2, hW2, hg2, hB2, hb2⟩ := box_zero W1.drew
  have hgl2 : g1 < g2 := by rw [← hg2]; exact HW.out.2.2.2.lt
  have H2 : Hid (Below W1.heap.size W1 W2 ∧ Holds W2 g2 25 (brC 0 0 0 (.slice none 0 0)) ∧ W1.heap.size ≤ g2) := ⟨below_new (below_drewR (Below.refl _ _)) hB2, hb2, by rw [← hg2]; exact Nat.le_refl _⟩
  clear hB2 hb2
  unfold brV
  rcases hcase with ⟨h33, h0, rfl, rfl⟩ | ⟨h33, h0, rfl, rfl⟩ | ⟨h33, rfl, rfl⟩ | ⟨h33, rfl, rfl⟩
  · have hq : ((r[0]'(by omega)).toNat : Int) = 160 := by rw [h0]; rfl
    have h33i : (r.size : Int) = 33 := by omega
    clear h0
    rw [Bool.true_and] at hsm2
    have hemp := emp_eq r
    rw [HE1.out] at hemp
    go_enter Tryd.func26, Tryd.ntmps26
    go_wp2_with fail
    rename_i K4 hK4
    apply share (K := K4) (P := fun w7 => Holds w7 g2 25 (brC s1 t1 h1 (.slice none 0 0)) ∧ Only g2 W2 w7)
    case h1 =>
      intro HREST
      refine wp_region_v (fun W => Below W1.heap.size W1 W) (.take 0 (.take 1 (.take 2 (.take 3 (.take 4 (.take 6 (.take 7 (.take 8 (.take 9 (.take 10 (.take 15 (.take 16 (.take 17 (.take 18 (.two 5 (.take 11 (.take 12 (.take 13 (.two 14 (.two 19 (.take 20 (.one 21 (.one 22 .nil))) 21 (.one 19 (.take 20 (.one 22 .nil)))) 21 (.one 14 (.one 19 (.take 20 (.one 22 .nil)))))))) 21 (.one 5 (.take 11 (.take 12 (.take 13 (.one 14 (.one 19 (.take 20 (.one 22 .nil))))))))))))))))))))))) mixedP (by kernel_rfl) rfl (by kernel_rfl) (fun _ _ _ d _ h => by cases d <;> exact h) (below_drewR (Below.refl _ _)) ?_
      refine v_val (some 31) rfl rfl rfl (.pointer (some ⟨g, 0, none⟩)) (fun _ => by go_simp) ?_
      go_frame
      refine v_ld (some 32) rfl rfl rfl _ _ rfl rfl (v := .int .u16 (s : Nat)) (fun W hW => ldU16M (keep_cellM hW (HW.out.2.2.1.cell 0))) ?_
      go_frame
      refine v_val (some 33) rfl rfl rfl (.int .i64 (k : Nat)) (fun _ => by go_simp) ?_
      go_frame
      refine v_val (some 34) rfl rfl rfl (.string r) (fun _ => by go_simp) ?_
      go_frame
      refine v_val (some 35) rfl rfl rfl (.bool true) (fun _ => by go_simp) ?_
      go_frame
      refine v_val (some 37) rfl rfl rfl (.pointer (some ⟨g, 1, none⟩)) (fun _ => by go_simp) ?_
      go_frame
      refine v_ld (some 38) rfl rfl rfl _ _ rfl rfl (v := .int .u16 (t : Nat)) (fun W hW => ldU16M (keep_cellM hW (HW.out.2.2.1.cell 1))) ?_
      go_frame
      refine v_val (some 39) rfl rfl rfl (.int .i64 (k : Nat)) (fun _ => by go_simp) ?_
      go_frame
      refine v_val (some 40) rfl rfl rfl (.string r) (fun _ => by go_simp) ?_
      go_frame
      refine v_val (some 41) rfl rfl rfl (.bool true) (fun _ => by go_simp) ?_
      go_frame
      refine v_val (some 46) rfl rfl rfl (.pointer (some ⟨g, 2, none⟩)) (fun _ => by go_simp) ?_
      go_frame
      refine v_ld (some 47) rfl rfl rfl _ _ rfl rfl (v := .int .u16 (h : Nat)) (fun W hW => ldU16M (keep_cellM hW (HW.out.2.2.1.cell 2))) ?_
      go_frame
      refine v_val (some 48) rfl rfl rfl (.int .i64 (k : Nat)) (fun _ => by go_simp) ?_
      go_frame
      refine v_val (some 49) rfl rfl rfl (.bool true) (fun _ => by go_simp) ?_
      go_frame
      refine ⟨?_, ?_⟩
      · refine op_call (some 36) rfl rfl rfl (f := 36) (vs := #[.int .u16 (s : Nat), .int .i64 (k : Nat), .bool true]) (by go_simp) ((hsm1 W1.drew).mono ?_)
        rintro e w' ⟨rfl, hw'⟩
        have hw2 := hw'.symm
        subst hw2
        clear hw'
        refine ⟨_, rfl, below_drewR (Below.refl _ _), ?_⟩
        go_frame
        refine v_val (some 42) rfl rfl rfl (.bool true) (fun _ => by go_simp) ?_
        go_frame
        refine v_val (some 43) rfl rfl rfl (.bool tree) (fun _ => by go_simp) ?_
        go_frame
        refine v_val (some 44) rfl rfl rfl (.bool tree) (fun _ => by go_simp) ?_
        go_frame
        refine ⟨?_, ?_⟩
        · refine op_call (some 45) rfl rfl rfl (f := 36) (vs := #[.int .u16 (t : Nat), .int .i64 (k : Nat), .bool tree]) (by go_simp) ((hsm2 W1.drew).mono ?_)
          rintro e w' ⟨rfl, hw'⟩
          have hw2 := hw'.symm
          subst hw2
          clear hw'
          refine ⟨_, rfl, below_drewR (Below.refl _ _), ?_⟩
          go_frame
          refine ⟨?_, ?_⟩
          · refine op_call (some 50) rfl rfl rfl (f := 36) (vs := #[.int .u16 (h : Nat), .int .i64 (k : Nat), .bool true]) (by go_simp) ((hsm3 W1.drew).mono ?_)
            rintro e w' ⟨rfl, hw'⟩
            have hw2 := hw'.symm
            subst hw2
            clear hw'
            refine ⟨_, rfl, below_drewR (Below.refl _ _), ?_⟩
            go_frame
            refine v_val (some 51) rfl rfl rfl (.agg #[.int .u16 (s1 : Nat), .int .u16 (t1 : Nat), .int .u16 (h1 : Nat), .slice none 0 0]) (fun _ => by go_simp) ?_
            go_frame
            refine op_val (some 10) rfl rfl rfl (v := .pointer (some ⟨g2, 0, none⟩)) (w' := W2) (by go_simp) ?_
            refine ⟨H2.out.1, ?_⟩
            go_frame
            refine op_storeH none rfl rfl rfl 25 _ _ rfl g2 _ rfl rfl 25 _ H2.out.2.1 infoBr rfl (by simp [Value.oneCell']) ?_
            intro w7 h7 hO7 hs7
            refine ⟨Only.fresh H2.out.1 hO7 H2.out.2.2, ?_⟩
            go_frame
            refine then_normM ?_
            exact HREST w7 ⟨h7, hO7⟩
          · refine op_val (some 10) rfl rfl rfl (v := .pointer (some ⟨g2, 0, none⟩)) (w' := W2) (by go_simp) ?_
            refine ⟨H2.out.1, ?_⟩
            go_frame
            refine op_call (some 50) rfl rfl rfl (f := 36) (vs := #[.int .u16 (h : Nat), .int .i64 (k : Nat), .bool true]) (by go_simp) ((hsm3 W2).mono ?_)
            rintro e w' ⟨rfl, hw'⟩
            have hw2 := hw'.symm
            subst hw2
            clear hw'
            refine ⟨_, rfl, H2.out.1, ?_⟩
            go_frame
            refine v_val (some 51) rfl rfl rfl (.agg #[.int .u16 (s1 : Nat), .int .u16 (t1 : Nat), .int .u16 (h1 : Nat), .slice none 0 0]) (fun _ => by go_simp) ?_
            go_frame
            refine op_storeH none rfl rfl rfl 25 _ _ rfl g2 _ rfl rfl 25 _ H2.out.2.1 infoBr rfl (by simp [Value.oneCell']) ?_
            intro w7 h7 hO7 hs7
            refine ⟨Only.fresh H2.out.1 hO7 H2.out.2.2, ?_⟩
            go_frame
            refine then_normM ?_
            exact HREST w7 ⟨h7, hO7⟩
        · refine op_val (some 10) rfl rfl rfl (v := .pointer (some ⟨g2, 0, none⟩)) (w' := W2) (by go_simp) ?_
          refine ⟨H2.out.1, ?_⟩
          go_frame
          refine op_call (some 45) rfl rfl rfl (f := 36) (vs := #[.int .u16 (t : Nat), .int .i64 (k : Nat), .bool tree]) (by go_simp) ((hsm2 W2).mono ?_)
          rintro e w' ⟨rfl, hw'⟩
          have hw2 := hw'.symm
          subst hw2
          clear hw'
          refine ⟨_, rfl, H2.out.1, ?_⟩
          go_frame
          refine op_call (some 50) rfl rfl rfl (f := 36) (vs := #[.int .u16 (h : Nat), .int .i64 (k : Nat), .bool true]) (by go_simp) ((hsm3 W2).mono ?_)
          rintro e w' ⟨rfl, hw'⟩
          have hw2 := hw'.symm
          subst hw2
          clear hw'
          refine ⟨_, rfl, H2.out.1, ?_⟩
          go_frame
          refine v_val (some 51) rfl rfl rfl (.agg #[.int .u16 (s1 : Nat), .int .u16 (t1 : Nat), .int .u16 (h1 : Nat), .slice none 0 0]) (fun _ => by go_simp) ?_
          go_frame
          refine op_storeH none rfl rfl rfl 25 _ _ rfl g2 _ rfl rfl 25 _ H2.out.2.1 infoBr rfl (by simp [Value.oneCell']) ?_
          intro w7 h7 hO7 hs7
          refine ⟨Only.fresh H2.out.1 hO7 H2.out.2.2, ?_⟩
          go_frame
          refine then_normM ?_
          exact HREST w7 ⟨h7, hO7⟩
      · refine op_val (some 10) rfl rfl rfl (v := .pointer (some ⟨g2, 0, none⟩)) (w' := W2) (by go_simp) ?_
        refine ⟨H2.out.1, ?_⟩
        go_frame
        refine op_call (some 36) rfl rfl rfl (f := 36) (vs := #[.int .u16 (s : Nat), .int .i64 (k : Nat), .bool true]) (by go_simp) ((hsm1 W2).mono ?_)
        rintro e w' ⟨rfl, hw'⟩
        have hw2 := hw'.symm
        subst hw2
        clear hw'
        refine ⟨_, rfl, H2.out.1, ?_⟩
        go_frame
        refine v_val (some 42) rfl rfl rfl (.bool true) (fun _ => by go_simp) ?_
        go_frame
        refine v_val (some 43) rfl rfl rfl (.bool tree) (fun _ => by go_simp) ?_
        go_frame
        refine v_val (some 44) rfl rfl rfl (.bool tree) (fun _ => by go_simp) ?_
        go_frame
        refine op_call (some 45) rfl rfl rfl (f := 36) (vs := #[.int .u16 (t : Nat), .int .i64 (k : Nat), .bool tree]) (by go_simp) ((hsm2 W2).mono ?_)
        rintro e w' ⟨rfl, hw'⟩
        have hw2 := hw'.symm
        subst hw2
        clear hw'
        refine ⟨_, rfl, H2.out.1, ?_⟩
        go_frame
        refine op_call (some 50) rfl rfl rfl (f := 36) (vs := #[.int .u16 (h : Nat), .int .i64 (k : Nat), .bool true]) (by go_simp) ((hsm3 W2).mono ?_)
        rintro e w' ⟨rfl, hw'⟩
        have hw2 := hw'.symm
        subst hw2
        clear hw'
        refine ⟨_, rfl, H2.out.1, ?_⟩
        go_frame
        refine v_val (some 51) rfl rfl rfl (.agg #[.int .u16 (s1 : Nat), .int .u16 (t1 : Nat), .int .u16 (h1 : Nat), .slice none 0 0]) (fun _ => by go_simp) ?_
        go_frame
        refine op_storeH none rfl rfl rfl 25 _ _ rfl g2 _ rfl rfl 25 _ H2.out.2.1 infoBr rfl (by simp [Value.oneCell']) ?_
        intro w7 h7 hO7 hs7
        refine ⟨Only.fresh H2.out.1 hO7 H2.out.2.2, ?_⟩
        go_frame
        refine then_normM ?_
        exact HREST w7 ⟨h7, hO7⟩
    case h2 =>
      intro w7 h7
      obtain ⟨h7, hO7⟩ := h7
      obtain ⟨B, hB⟩ : ∃ B, B = w7.heap.size := ⟨_, rfl⟩
      have hB7 : Below W1.heap.size W1 w7 := Only.fresh H2.out.1 hO7 H2.out.2.2
      have H7 : Hid (g < B ∧ g1 < B ∧ g2 < B ∧ W1.heap.size ≤ B ∧ W1.heap.size ≤ g2) := by
        rw [hB]
        exact ⟨(below_holds hB7 HW.out.2.2.1).lt, (below_holds hB7 HW.out.2.2.2).lt, h7.lt, hB7.size, H2.out.2.2⟩
      have HF7 : Hid (Below w.heap.size w W1) := HW.out.1
      clear hO7 hW2 hg2 hW0 hW1 hg hg1 hsm1 hsm2 hsm3 hemp h33i
      go_at_K
      go_wp2_with fail
      go_loopw [11] (fun y wr => ∃ (j : Nat) (v : Value), y = .int .i64 (j : Nat) ∧ j ≤ 16 ∧ OwnH wr B v (qL h1 k r h L j) ∧ Holds wr g2 25 (brC s1 t1 h1 v) ∧ B ≤ wr.heap.size ∧ Below W1.heap.size W1 wr) (fun y _ => 16 - (intOf y).toNat)
      case atStart => exact ⟨0, _, rfl, Nat.zero_le _, OwnH.nil _ _, h7, by rw [hB]; exact Nat.le_refl _, hB7⟩
      case round =>
        clear h7 hB hB7
        obtain ⟨j, v, rfl, hj, hown, h2, hBs, hB1⟩ := hrel
        by_cases hj16 : j < 16
        · have hji : (j : Int) < 16 := by omega
          have hj0 : (0 : Int) ≤ j := by omega
          have hqh := qhas_any hh1 (j : Int) wr
          rw [hasM_k h1 j hj16] at hqh
          have hqs := qL_succ h1 k r h L j
          have hql := qL_len h1 k r h L j
          obtain ⟨Lj, hLj⟩ : ∃ x, qL h1 k r h L j = x := ⟨_, rfl⟩
          rw [hLj] at hqs hql hown
          clear hLj
          have c2 := h2.cell 2
          unfold brC at c2
          have HST0 : Hid (OwnH wr B v Lj ∧ Holds wr g2 25 (brC s1 t1 h1 v) ∧ B ≤ wr.heap.size ∧ Below W1.heap.size W1 wr) := ⟨hown, h2, hBs, hB1⟩
          clear hown h2 hBs hB1
          go_wp2_with fail
          refine hqh.mono ?_
          rintro e w3 ⟨rfl, hw3⟩
          have hw3' := hw3.symm
          subst hw3'
          clear hw3 hqh
          cases hbit : h1.testBit j with
          | false =>
            rw [hbit, if_neg (by decide), List.append_nil] at hqs
            have HE : Hid (OwnH wr B v (qL h1 k r h L (j + 1)) ∧ Holds wr g2 25 (brC s1 t1 h1 v) ∧ B ≤ wr.heap.size ∧ Below W1.heap.size W1 wr) := by show _ ∧ _; rw [hqs]; exact HST0.out
            clear hbit hqs hql
            go_wp2_with fail
            go_roundw
            case rel => exact ⟨j + 1, v, by go_num, by omega, HE.out⟩
            case measure => simp [intOf]; omega
          | true =>
            rw [hbit, if_pos rfl] at hqs
            have HBIT : Hid (h1.testBit j = true) := hbit
            have HQS : Hid (qL h1 k r h L (j + 1) = Lj ++ [if j = k then refH r else hashX h L (j : Int)]) := hqs
            clear hbit hqs
            have hbr := below_holds HST0.out.2.2.2 HW.out.2.2.1
            unfold brC at hbr
            have hqx := qhash_any (s := s) (t := t) hh (HW.out.2.1.below HST0.out.2.2.2) (HM.out.1.trans HM.out.2) (j : Int)
            unfold brV at hqx
            obtain ⟨z, hz⟩ : ∃ z, hashX h L (j : Int) = z := ⟨_, rfl⟩
            have HZ : Hid (hashX h L (j : Int) = z) := hz
            rw [hz] at hqx
            clear hz
            go_wp2_with (refine wpList_loadH rfl 25 _ rfl _ rfl _ _ _ hbr Tryd.underlying25 rfl infoBr ?_)
            refine hqx.mono ?_
            rintro e w4 ⟨rfl, hB4⟩
            obtain ⟨W5, hW5⟩ : ∃ W5, World.alloc w4 (.cells zero32 43) = W5 := ⟨_, rfl⟩
            obtain ⟨gz, hgz⟩ : ∃ gz, w4.heap.size = gz := ⟨_, rfl⟩
            have h5 : Holds W5 gz 43 (hcl zeroH).toArray := by rw [← hW5, ← hgz]; exact Holds.new _ _ _
            have hB5 : Below wr.heap.size wr W5 := below_new hB4 (by rw [← hW5]; exact below_new1 _ _)
            rw [zero32_eq] at hW5
            have HST : Hid (OwnH W5 B v Lj ∧ Holds W5 g2 25 (brC s1 t1 h1 v) ∧ B ≤ W5.heap.size ∧ Below W1.heap.size W1 W5 ∧ B ≤ gz) :=
              ⟨HST0.out.1.below0 hB5, below_holds hB5 HST0.out.2.1, Nat.le_trans HST0.out.2.2.1 hB5.size, below_new HST0.out.2.2.2 hB5, by rw [← hgz]; exact Nat.le_trans HST0.out.2.2.1 hB4.size⟩
            have hne : ∀ q, v.ownBlock = some q → q ≠ gz := fun q hq => by have := HST0.out.1.blk q hq; have := hB4.size; omega
            clear hqx hB4 hB5 hbr HST0
            go_wp2_with (refine wpList_stH rfl _ _ rfl rfl rfl h5 ?_; intro W7 h7 hO7 hs7; clear hs7; refine Hid.out ?_)
            unfold Hid
            clear h5 hgz hW5 c2
            by_cases ejk : j = k
            · obtain rfl : j = k := ejk
              have hqs : qL h1 j r h L (j + 1) = Lj ++ [refH r] := by have e := HQS.out; rw [if_pos rfl] at e; exact e
              have h7' : Holds W7 gz 43 (hF fun i => if i < 0 then (refH r).1.getD i 0 else z.1.getD i 0) := by
                rw [hF_hcl] at h7
                exact h7.congr (hF_congr fun i _ => by rw [if_neg (Nat.not_lt_zero i)])
              have HR : Hid (∀ q, q < 32 → (refH r).1.getD q 0 = r.data.toList.getD (1 + q) 0) := fun q hq => by
                have hl : r.data.toList.length = 33 := h33
                unfold refH
                rw [takeH_val (by rw [List.length_drop]; omega), List.getD_eq_getElem?_getD, List.getElem?_take, if_pos hq, List.getElem?_drop, List.getD_eq_getElem?_getD]
              have HRS : Hid (r.size = 33) := h33
              clear hq h33
              clear h7
              go_wp2_with fail
              go_loopw [15] (fun y wq => ∃ q : Nat, y = .int .i64 (q : Nat) ∧ q ≤ 32 ∧ Holds wq gz 43 (hF fun i => if i < q then (refH r).1.getD i 0 else z.1.getD i 0) ∧ Only gz W5 wq) (fun y _ => 32 - (intOf y).toNat)
              case atStart => exact ⟨0, rfl, Nat.zero_le _, h7', hO7⟩
              case round =>
                clear h7' hO7
                obtain ⟨q, rfl, hq32, h8, hO8⟩ := hrel
                by_cases hlt : q < 32
                · have hqi : (q : Int) < 32 := by omega
                  have hq0 : (0 : Int) ≤ q := by omega
                  have hst := hF_set (fun i => if i < q then (refH r).1.getD i 0 else z.1.getD i 0) hlt ((refH r).1.getD q 0)
                  have hst2 : (hF fun i => if i = q then (refH r).1.getD q 0 else if i < q then (refH r).1.getD i 0 else z.1.getD i 0) = hF fun i => if i < q + 1 then (refH r).1.getD i 0 else z.1.getD i 0 := hF_congr fun i _ => by
                    by_cases e : i = q
                    · subst e; simp
                    · rw [if_neg e]
                      by_cases e2 : i < q
                      · rw [if_pos e2, if_pos (by omega)]
                      · rw [if_neg e2, if_neg (by omega)]
                  rw [hst2] at hst
                  obtain ⟨ch, hch⟩ : ∃ ch, (refH r).1.getD q 0 = ch := ⟨_, rfl⟩
                  have hidx := idxM r (1 + q) ch (by rw [HRS.out]; omega) (by rw [← hch]; exact (HR.out q hlt).symm)
                  rw [show (((1 + q : Nat) : Nat) : Int) = (1 : Int) + q by omega] at hidx
                  rw [hch] at hst
                  clear hch
                  have hq1 : IntKind.i64.wrap ((1 : Int) + q) = 1 + q := by rw [IntKind.wrap_i64]; omega
                  obtain ⟨u8, hu8⟩ : ∃ u, (hF fun i => if i < q then (refH r).1.getD i 0 else z.1.getD i 0)[q]? = some u := ⟨_, hF_get _ hlt⟩
                  have c8 := h8.cell q
                  rw [hu8] at c8
                  have f8 := h8.frozen q
                  obtain ⟨W8, hW8⟩ : ∃ W, wr.setCell ⟨gz, q, none⟩ (.int .u8 ((ch.toNat : Nat) : Int)) = W := ⟨_, rfl⟩
                  have H8 : Hid (Holds W8 gz 43 (hF fun i => if i < q + 1 then (refH r).1.getD i 0 else z.1.getD i 0) ∧ Only gz W5 W8) := by
                    rw [← hW8]
                    exact ⟨(h8.set q _).congr hst, hO8.set q _⟩
                  clear hst hst2 hu8 h8 hO8
                  go_wp2_with fail
                  go_roundw
                  case rel => exact ⟨q + 1, by go_num, by omega, H8.out⟩
                  case measure => simp [intOf]; omega
                · obtain rfl : q = 32 := by omega
                  have hqi : ¬ ((32 : Nat) : Int) < 32 := by omega
                  have hx : Holds wr gz 43 (hcl (refH r)).toArray := by
                    rw [hF_hcl]
                    exact h8.congr (hF_congr fun i hi => by rw [if_pos hi])
                  clear h8
                  have hB57 : Below B W5 wr := below_onlyB hO8 HST.out.2.2.2.2 HST.out.2.2.1
                  have hh7 := hx.hash
                  have c7 := (holds_b hB57 HST.out.2.1 H7.out.2.2.1).cell 3
                  unfold brC at c7
                  have hownA : OwnH (wr.alloc (.cells (hcl (refH r)).toArray 43)) B v Lj := (HST.out.1.block fun q hq => hO8.block q (HST.out.1.blk q hq) (hne q hq)).below0 (below_new1 _ _)
                  have hcx : HashesAt (wr.alloc (.cells (hcl (refH r)).toArray 43)) (.slice (some ⟨wr.heap.size, 0, none⟩) 1 1) [(refH r)] := .one (Holds.new wr 43 _)
                  have HLE : Hid (Lj.length + [(refH r)].length ≤ 1000000000) := by show _ ≤ _; simp; omega
                  have hbs : B ≤ (wr.alloc (.cells (hcl (refH r)).toArray 43)).heap.size := by rw [World.size_alloc]; have := HST.out.2.2.1; have := hB57.size; omega
                  obtain ⟨pv, cv, rfl⟩ := hownA.at.shape
                  go_wp2_with (first
                    | (refine wpList_ldH rfl _ rfl rfl hh7 ?_)
                    | (refine wpList_buildH rfl _ rfl rfl ?_)
                    | (at_builtin; refine wpList_append_h rfl _ _ rfl rfl rfl hownA hcx HLE.out hbs ?_; intro v9 w9 hown9 hg9; refine Hid.out ?_))
                  rw [← hqs] at hown9
                  obtain ⟨p9, c9, rfl⟩ := hown9.at.shape
                  obtain ⟨n9, hn9⟩ : ∃ n, (qL h1 j r h L (j + 1)).length = n := ⟨_, rfl⟩
                  rw [hn9] at hown9 ⊢
                  clear hn9
                  have hB9 : Below B W5 w9 := (hB57.alloc (Nat.le_trans HST.out.2.2.1 hB57.size) _).trans (below_ownH hownA hg9 hbs)
                  have h29 := holds_b hB9 HST.out.2.1 H7.out.2.2.1
                  have f9 := h29.frozen 3
                  have cc9 := h29.cell 3
                  unfold brC at cc9
                  obtain ⟨W10, hW10⟩ : ∃ W, w9.setCell ⟨g2, 3, none⟩ (.slice p9 n9 c9) = W := ⟨_, rfl⟩
                  have h210 : Holds W10 g2 25 (brC s1 t1 h1 (.slice p9 n9 c9)) := by rw [← hW10]; exact h29.set 3 _
                  have hO10 : Only g2 w9 W10 := by rw [← hW10]; exact (Only.refl g2 w9).set 3 _
                  have HE : Hid (OwnH W10 B (.slice p9 n9 c9) (qL h1 j r h L (j + 1)) ∧ Holds W10 g2 25 (brC s1 t1 h1 (.slice p9 n9 c9)) ∧ B ≤ W10.heap.size ∧ Below W1.heap.size W1 W10) :=
                    ⟨hown9.block fun q hq => hO10.block q (hown9.blk q hq) (by have := hown9.new q hq; have := H7.out.2.2.1; omega), h210, Nat.le_trans HST.out.2.2.1 (Nat.le_trans hB9.size hO10.size), Only.fresh (HST.out.2.2.2.1.trans (hB9.mono H7.out.2.2.2.1)) hO10 H7.out.2.2.2.2⟩
                  clear hB57 hh7 c7 hownA hcx HLE hbs hown9 hg9 hB9 h29 h210 hO10 hqs
                  unfold Hid
                  go_wp2_with fail
                  go_roundw
                  case rel => exact ⟨j + 1, _, by go_num, by omega, HE.out⟩
                  case measure => simp [intOf]; omega
            · have hjk : ¬ (j : Int) = k := by omega
              have hqs : qL h1 k r h L (j + 1) = Lj ++ [z] := by have e := HQS.out; rw [if_neg ejk, HZ.out] at e; exact e
              clear ejk
              have hB57 : Below B W5 W7 := below_onlyB hO7 HST.out.2.2.2.2 HST.out.2.2.1
              have hh7 := h7.hash
              have c7 := (holds_b hB57 HST.out.2.1 H7.out.2.2.1).cell 3
              unfold brC at c7
              have hownA : OwnH (W7.alloc (.cells (hcl z).toArray 43)) B v Lj := (HST.out.1.block fun q hq => hO7.block q (HST.out.1.blk q hq) (hne q hq)).below0 (below_new1 _ _)
              have hcx : HashesAt (W7.alloc (.cells (hcl z).toArray 43)) (.slice (some ⟨W7.heap.size, 0, none⟩) 1 1) [z] := .one (Holds.new W7 43 _)
              have HLE : Hid (Lj.length + [z].length ≤ 1000000000) := by show _ ≤ _; simp; omega
              have hbs : B ≤ (W7.alloc (.cells (hcl z).toArray 43)).heap.size := by rw [World.size_alloc]; have := HST.out.2.2.1; have := hB57.size; omega
              obtain ⟨pv, cv, rfl⟩ := hownA.at.shape
              go_wp2_with (first
                | (refine wpList_ldH rfl _ rfl rfl hh7 ?_)
                | (refine wpList_buildH rfl _ rfl rfl ?_)
                | (at_builtin; refine wpList_append_h rfl _ _ rfl rfl rfl hownA hcx HLE.out hbs ?_; intro v9 w9 hown9 hg9; refine Hid.out ?_))
              rw [← hqs] at hown9
              obtain ⟨p9, c9, rfl⟩ := hown9.at.shape
              obtain ⟨n9, hn9⟩ : ∃ n, (qL h1 k r h L (j + 1)).length = n := ⟨_, rfl⟩
              rw [hn9] at hown9 ⊢
              clear hn9
              have hB9 : Below B W5 w9 := (hB57.alloc (Nat.le_trans HST.out.2.2.1 hB57.size) _).trans (below_ownH hownA hg9 hbs)
              have h29 := holds_b hB9 HST.out.2.1 H7.out.2.2.1
              have f9 := h29.frozen 3
              have cc9 := h29.cell 3
              unfold brC at cc9
              obtain ⟨W10, hW10⟩ : ∃ W, w9.setCell ⟨g2, 3, none⟩ (.slice p9 n9 c9) = W := ⟨_, rfl⟩
              have h210 : Holds W10 g2 25 (brC s1 t1 h1 (.slice p9 n9 c9)) := by rw [← hW10]; exact h29.set 3 _
              have hO10 : Only g2 w9 W10 := by rw [← hW10]; exact (Only.refl g2 w9).set 3 _
              have HE : Hid (OwnH W10 B (.slice p9 n9 c9) (qL h1 k r h L (j + 1)) ∧ Holds W10 g2 25 (brC s1 t1 h1 (.slice p9 n9 c9)) ∧ B ≤ W10.heap.size ∧ Below W1.heap.size W1 W10) :=
                ⟨hown9.block fun q hq => hO10.block q (hown9.blk q hq) (by have := hown9.new q hq; have := H7.out.2.2.1; omega), h210, Nat.le_trans HST.out.2.2.1 (Nat.le_trans hB9.size hO10.size), Only.fresh (HST.out.2.2.2.1.trans (hB9.mono H7.out.2.2.2.1)) hO10 H7.out.2.2.2.2⟩
              clear hB57 hh7 c7 hownA hcx HLE hbs hown9 hg9 hB9 h29 h210 hO10 hqs
              unfold Hid
              go_wp2_with fail
              go_roundw
              case rel => exact ⟨j + 1, _, by go_num, by omega, HE.out⟩
              case measure => simp [intOf]; omega
        · have hji : ¬ (j : Int) < 16 := by omega
          obtain rfl : j = 16 := by omega
          have HF : Hid (HashesAt wr v (qL h1 k r h L 16) ∧ Below w.heap.size w wr) := ⟨hown.at, below_new HF7.out hB1⟩
          have hz1 := below_holds hB1 HW.out.2.2.2
          unfold brC at h2 hz1
          obtain ⟨pv, cv, rfl⟩ := hown.at.shape
          clear hown hBs hB1
          go_wp2_with (first
            | (refine wpList_loadH rfl 25 _ rfl _ rfl _ _ _ h2 Tryd.underlying25 rfl infoBr ?_)
            | (refine wpList_storeH rfl 25 _ _ rfl _ _ rfl rfl _ _ hz1 infoBr rfl (by simp [Value.oneCell']) ?_; intro W9 h9 hO9 hs9))
          refine bodyPost_ret (results_cellH rfl _ _ _ _ _ _ rfl h9 Tryd.underlying25 rfl infoBr) rfl ?_
          exact ⟨_, rfl, HF.out.1.only hO9 hz1, Only.fresh HF.out.2 hO9 (by have := HG.out; omega)⟩
  · have hq : ¬ ((r[0]'(by omega)).toNat : Int) = 160 := fun e => h0 (UInt8.toNat_inj.1 (by show _ = 160; omega))
    have h33i : (r.size : Int) = 33 := by omega
    clear h0
    rw [Bool.true_and] at hsm2
    have hemp := emp_eq r
    rw [HE1.out] at hemp
    go_enter Tryd.func26, Tryd.ntmps26
    go_wp2_with fail
    rename_i K4 hK4
    apply share (K := K4) (P := fun w7 => Holds w7 g2 25 (brC s1 t1 h1 (.slice none 0 0)) ∧ Only g2 W2 w7)
    case h1 =>
      intro HREST
      refine wp_region_v (fun W => Below W1.heap.size W1 W) (.take 0 (.take 1 (.take 2 (.take 3 (.take 4 (.take 6 (.take 7 (.take 8 (.take 9 (.take 10 (.take 15 (.take 16 (.take 17 (.take 18 (.two 5 (.take 11 (.take 12 (.take 13 (.two 14 (.two 19 (.take 20 (.one 21 (.one 22 .nil))) 21 (.one 19 (.take 20 (.one 22 .nil)))) 21 (.one 14 (.one 19 (.take 20 (.one 22 .nil)))))))) 21 (.one 5 (.take 11 (.take 12 (.take 13 (.one 14 (.one 19 (.take 20 (.one 22 .nil))))))))))))))))))))))) mixedP (by kernel_rfl) rfl (by kernel_rfl) (fun _ _ _ d _ h => by cases d <;> exact h) (below_drewR (Below.refl _ _)) ?_
      refine v_val (some 31) rfl rfl rfl (.pointer (some ⟨g, 0, none⟩)) (fun _ => by go_simp) ?_
      go_frame
      refine v_ld (some 32) rfl rfl rfl _ _ rfl rfl (v := .int .u16 (s : Nat)) (fun W hW => ldU16M (keep_cellM hW (HW.out.2.2.1.cell 0))) ?_
      go_frame
      refine v_val (some 33) rfl rfl rfl (.int .i64 (k : Nat)) (fun _ => by go_simp) ?_
      go_frame
      refine v_val (some 34) rfl rfl rfl (.string r) (fun _ => by go_simp) ?_
      go_frame
      refine v_val (some 35) rfl rfl rfl (.bool true) (fun _ => by go_simp) ?_
      go_frame
      refine v_val (some 37) rfl rfl rfl (.pointer (some ⟨g, 1, none⟩)) (fun _ => by go_simp) ?_
      go_frame
      refine v_ld (some 38) rfl rfl rfl _ _ rfl rfl (v := .int .u16 (t : Nat)) (fun W hW => ldU16M (keep_cellM hW (HW.out.2.2.1.cell 1))) ?_
      go_frame
      refine v_val (some 39) rfl rfl rfl (.int .i64 (k : Nat)) (fun _ => by go_simp) ?_
      go_frame
      refine v_val (some 40) rfl rfl rfl (.string r) (fun _ => by go_simp) ?_
      go_frame
      refine v_val (some 41) rfl rfl rfl (.bool true) (fun _ => by go_simp) ?_
      go_frame
      refine v_val (some 46) rfl rfl rfl (.pointer (some ⟨g, 2, none⟩)) (fun _ => by go_simp) ?_
      go_frame
      refine v_ld (some 47) rfl rfl rfl _ _ rfl rfl (v := .int .u16 (h : Nat)) (fun W hW => ldU16M (keep_cellM hW (HW.out.2.2.1.cell 2))) ?_
      go_frame
      refine v_val (some 48) rfl rfl rfl (.int .i64 (k : Nat)) (fun _ => by go_simp) ?_
      go_frame
      refine v_val (some 49) rfl rfl rfl (.bool false) (fun _ => by go_simp) ?_
      go_frame
      refine ⟨?_, ?_⟩
      · refine op_call (some 36) rfl rfl rfl (f := 36) (vs := #[.int .u16 (s : Nat), .int .i64 (k : Nat), .bool true]) (by go_simp) ((hsm1 W1.drew).mono ?_)
        rintro e w' ⟨rfl, hw'⟩
        have hw2 := hw'.symm
        subst hw2
        clear hw'
        refine ⟨_, rfl, below_drewR (Below.refl _ _), ?_⟩
        go_frame
        refine v_val (some 42) rfl rfl rfl (.bool true) (fun _ => by go_simp) ?_
        go_frame
        refine v_val (some 43) rfl rfl rfl (.bool tree) (fun _ => by go_simp) ?_
        go_frame
        refine v_val (some 44) rfl rfl rfl (.bool tree) (fun _ => by go_simp) ?_
        go_frame
        refine ⟨?_, ?_⟩
        · refine op_call (some 45) rfl rfl rfl (f := 36) (vs := #[.int .u16 (t : Nat), .int .i64 (k : Nat), .bool tree]) (by go_simp) ((hsm2 W1.drew).mono ?_)
          rintro e w' ⟨rfl, hw'⟩
          have hw2 := hw'.symm
          subst hw2
          clear hw'
          refine ⟨_, rfl, below_drewR (Below.refl _ _), ?_⟩
          go_frame
          refine ⟨?_, ?_⟩
          · refine op_call (some 50) rfl rfl rfl (f := 36) (vs := #[.int .u16 (h : Nat), .int .i64 (k : Nat), .bool false]) (by go_simp) ((hsm3 W1.drew).mono ?_)
            rintro e w' ⟨rfl, hw'⟩
            have hw2 := hw'.symm
            subst hw2
            clear hw'
            refine ⟨_, rfl, below_drewR (Below.refl _ _), ?_⟩
            go_frame
            refine v_val (some 51) rfl rfl rfl (.agg #[.int .u16 (s1 : Nat), .int .u16 (t1 : Nat), .int .u16 (h1 : Nat), .slice none 0 0]) (fun _ => by go_simp) ?_
            go_frame
            refine op_val (some 10) rfl rfl rfl (v := .pointer (some ⟨g2, 0, none⟩)) (w' := W2) (by go_simp) ?_
            refine ⟨H2.out.1, ?_⟩
            go_frame
            refine op_storeH none rfl rfl rfl 25 _ _ rfl g2 _ rfl rfl 25 _ H2.out.2.1 infoBr rfl (by simp [Value.oneCell']) ?_
            intro w7 h7 hO7 hs7
            refine ⟨Only.fresh H2.out.1 hO7 H2.out.2.2, ?_⟩
            go_frame
            refine then_normM ?_
            exact HREST w7 ⟨h7, hO7⟩
          · refine op_val (some 10) rfl rfl rfl (v := .pointer (some ⟨g2, 0, none⟩)) (w' := W2) (by go_simp) ?_
            refine ⟨H2.out.1, ?_⟩
            go_frame
            refine op_call (some 50) rfl rfl rfl (f := 36) (vs := #[.int .u16 (h : Nat), .int .i64 (k : Nat), .bool false]) (by go_simp) ((hsm3 W2).mono ?_)
            rintro e w' ⟨rfl, hw'⟩
            have hw2 := hw'.symm
            subst hw2
            clear hw'
            refine ⟨_, rfl, H2.out.1, ?_⟩
            go_frame
            refine v_val (some 51) rfl rfl rfl (.agg #[.int .u16 (s1 : Nat), .int .u16 (t1 : Nat), .int .u16 (h1 : Nat), .slice none 0 0]) (fun _ => by go_simp) ?_
            go_frame
            refine op_storeH none rfl rfl rfl 25 _ _ rfl g2 _ rfl rfl 25 _ H2.out.2.1 infoBr rfl (by simp [Value.oneCell']) ?_
            intro w7 h7 hO7 hs7
            refine ⟨Only.fresh H2.out.1 hO7 H2.out.2.2, ?_⟩
            go_frame
            refine then_normM ?_
            exact HREST w7 ⟨h7, hO7⟩
        · refine op_val (some 10) rfl rfl rfl (v := .pointer (some ⟨g2, 0, none⟩)) (w' := W2) (by go_simp) ?_
          refine ⟨H2.out.1, ?_⟩
          go_frame
          refine op_call (some 45) rfl rfl rfl (f := 36) (vs := #[.int .u16 (t : Nat), .int .i64 (k : Nat), .bool tree]) (by go_simp) ((hsm2 W2).mono ?_)
          rintro e w' ⟨rfl, hw'⟩
          have hw2 := hw'.symm
          subst hw2
          clear hw'
          refine ⟨_, rfl, H2.out.1, ?_⟩
          go_frame
          refine op_call (some 50) rfl rfl rfl (f := 36) (vs := #[.int .u16 (h : Nat), .int .i64 (k : Nat), .bool false]) (by go_simp) ((hsm3 W2).mono ?_)
          rintro e w' ⟨rfl, hw'⟩
          have hw2 := hw'.symm
          subst hw2
          clear hw'
          refine ⟨_, rfl, H2.out.1, ?_⟩
          go_frame
          refine v_val (some 51) rfl rfl rfl (.agg #[.int .u16 (s1 : Nat), .int .u16 (t1 : Nat), .int .u16 (h1 : Nat), .slice none 0 0]) (fun _ => by go_simp) ?_
          go_frame
          refine op_storeH none rfl rfl rfl 25 _ _ rfl g2 _ rfl rfl 25 _ H2.out.2.1 infoBr rfl (by simp [Value.oneCell']) ?_
          intro w7 h7 hO7 hs7
          refine ⟨Only.fresh H2.out.1 hO7 H2.out.2.2, ?_⟩
          go_frame
          refine then_normM ?_
          exact HREST w7 ⟨h7, hO7⟩
      · refine op_val (some 10) rfl rfl rfl (v := .pointer (some ⟨g2, 0, none⟩)) (w' := W2) (by go_simp) ?_
        refine ⟨H2.out.1, ?_⟩
        go_frame
        refine op_call (some 36) rfl rfl rfl (f := 36) (vs := #[.int .u16 (s : Nat), .int .i64 (k : Nat), .bool true]) (by go_simp) ((hsm1 W2).mono ?_)
        rintro e w' ⟨rfl, hw'⟩
        have hw2 := hw'.symm
        subst hw2
        clear hw'
        refine ⟨_, rfl, H2.out.1, ?_⟩
        go_frame
        refine v_val (some 42) rfl rfl rfl (.bool true) (fun _ => by go_simp) ?_
        go_frame
        refine v_val (some 43) rfl rfl rfl (.bool tree) (fun _ => by go_simp) ?_
        go_frame
        refine v_val (some 44) rfl rfl rfl (.bool tree) (fun _ => by go_simp) ?_
        go_frame
        refine op_call (some 45) rfl rfl rfl (f := 36) (vs := #[.int .u16 (t : Nat), .int .i64 (k : Nat), .bool tree]) (by go_simp) ((hsm2 W2).mono ?_)
        rintro e w' ⟨rfl, hw'⟩
        have hw2 := hw'.symm
        subst hw2
        clear hw'
        refine ⟨_, rfl, H2.out.1, ?_⟩
        go_frame
        refine op_call (some 50) rfl rfl rfl (f := 36) (vs := #[.int .u16 (h : Nat), .int .i64 (k : Nat), .bool false]) (by go_simp) ((hsm3 W2).mono ?_)
        rintro e w' ⟨rfl, hw'⟩
        have hw2 := hw'.symm
        subst hw2
        clear hw'
        refine ⟨_, rfl, H2.out.1, ?_⟩
        go_frame
        refine v_val (some 51) rfl rfl rfl (.agg #[.int .u16 (s1 : Nat), .int .u16 (t1 : Nat), .int .u16 (h1 : Nat), .slice none 0 0]) (fun _ => by go_simp) ?_
        go_frame
        refine op_storeH none rfl rfl rfl 25 _ _ rfl g2 _ rfl rfl 25 _ H2.out.2.1 infoBr rfl (by simp [Value.oneCell']) ?_
        intro w7 h7 hO7 hs7
        refine ⟨Only.fresh H2.out.1 hO7 H2.out.2.2, ?_⟩
        go_frame
        refine then_normM ?_
        exact HREST w7 ⟨h7, hO7⟩
    case h2 =>
      intro w7 h7
      obtain ⟨h7, hO7⟩ := h7
      obtain ⟨B, hB⟩ : ∃ B, B = w7.heap.size := ⟨_, rfl⟩
      have hB7 : Below W1.heap.size W1 w7 := Only.fresh H2.out.1 hO7 H2.out.2.2
      have H7 : Hid (g < B ∧ g1 < B ∧ g2 < B ∧ W1.heap.size ≤ B ∧ W1.heap.size ≤ g2) := by
        rw [hB]
        exact ⟨(below_holds hB7 HW.out.2.2.1).lt, (below_holds hB7 HW.out.2.2.2).lt, h7.lt, hB7.size, H2.out.2.2⟩
      have HF7 : Hid (Below w.heap.size w W1) := HW.out.1
      clear hO7 hW2 hg2 hW0 hW1 hg hg1 hsm1 hsm2 hsm3 hemp h33i
      go_at_K
      go_wp2_with fail
      go_loopw [11] (fun y wr => ∃ (j : Nat) (v : Value), y = .int .i64 (j : Nat) ∧ j ≤ 16 ∧ OwnH wr B v (qL h1 k r h L j) ∧ Holds wr g2 25 (brC s1 t1 h1 v) ∧ B ≤ wr.heap.size ∧ Below W1.heap.size W1 wr) (fun y _ => 16 - (intOf y).toNat)
      case atStart => exact ⟨0, _, rfl, Nat.zero_le _, OwnH.nil _ _, h7, by rw [hB]; exact Nat.le_refl _, hB7⟩
      case round =>
        clear h7 hB hB7
        obtain ⟨j, v, rfl, hj, hown, h2, hBs, hB1⟩ := hrel
        by_cases hj16 : j < 16
        · have hji : (j : Int) < 16 := by omega
          have hj0 : (0 : Int) ≤ j := by omega
          have hqh := qhas_any hh1 (j : Int) wr
          rw [hasM_k h1 j hj16] at hqh
          have hqs := qL_succ h1 k r h L j
          have hql := qL_len h1 k r h L j
          obtain ⟨Lj, hLj⟩ : ∃ x, qL h1 k r h L j = x := ⟨_, rfl⟩
          rw [hLj] at hqs hql hown
          clear hLj
          have c2 := h2.cell 2
          unfold brC at c2
          have HST0 : Hid (OwnH wr B v Lj ∧ Holds wr g2 25 (brC s1 t1 h1 v) ∧ B ≤ wr.heap.size ∧ Below W1.heap.size W1 wr) := ⟨hown, h2, hBs, hB1⟩
          clear hown h2 hBs hB1
          go_wp2_with fail
          refine hqh.mono ?_
          rintro e w3 ⟨rfl, hw3⟩
          have hw3' := hw3.symm
          subst hw3'
          clear hw3 hqh
          cases hbit : h1.testBit j with
          | false =>
            rw [hbit, if_neg (by decide), List.append_nil] at hqs
            have HE : Hid (OwnH wr B v (qL h1 k r h L (j + 1)) ∧ Holds wr g2 25 (brC s1 t1 h1 v) ∧ B ≤ wr.heap.size ∧ Below W1.heap.size W1 wr) := by show _ ∧ _; rw [hqs]; exact HST0.out
            clear hbit hqs hql
            go_wp2_with fail
            go_roundw
            case rel => exact ⟨j + 1, v, by go_num, by omega, HE.out⟩
            case measure => simp [intOf]; omega
          | true =>
            rw [hbit, if_pos rfl] at hqs
            have HBIT : Hid (h1.testBit j = true) := hbit
            have HQS : Hid (qL h1 k r h L (j + 1) = Lj ++ [if j = k then refH r else hashX h L (j : Int)]) := hqs
            clear hbit hqs
            have hbr := below_holds HST0.out.2.2.2 HW.out.2.2.1
            unfold brC at hbr
            have hqx := qhash_any (s := s) (t := t) hh (HW.out.2.1.below HST0.out.2.2.2) (HM.out.1.trans HM.out.2) (j : Int)
            unfold brV at hqx
            obtain ⟨z, hz⟩ : ∃ z, hashX h L (j : Int) = z := ⟨_, rfl⟩
            have HZ : Hid (hashX h L (j : Int) = z) := hz
            rw [hz] at hqx
            clear hz
            go_wp2_with (refine wpList_loadH rfl 25 _ rfl _ rfl _ _ _ hbr Tryd.underlying25 rfl infoBr ?_)
            refine hqx.mono ?_
            rintro e w4 ⟨rfl, hB4⟩
            obtain ⟨W5, hW5⟩ : ∃ W5, World.alloc w4 (.cells zero32 43) = W5 := ⟨_, rfl⟩
            obtain ⟨gz, hgz⟩ : ∃ gz, w4.heap.size = gz := ⟨_, rfl⟩
            have h5 : Holds W5 gz 43 (hcl zeroH).toArray := by rw [← hW5, ← hgz]; exact Holds.new _ _ _
            have hB5 : Below wr.heap.size wr W5 := below_new hB4 (by rw [← hW5]; exact below_new1 _ _)
            rw [zero32_eq] at hW5
            have HST : Hid (OwnH W5 B v Lj ∧ Holds W5 g2 25 (brC s1 t1 h1 v) ∧ B ≤ W5.heap.size ∧ Below W1.heap.size W1 W5 ∧ B ≤ gz) :=
              ⟨HST0.out.1.below0 hB5, below_holds hB5 HST0.out.2.1, Nat.le_trans HST0.out.2.2.1 hB5.size, below_new HST0.out.2.2.2 hB5, by rw [← hgz]; exact Nat.le_trans HST0.out.2.2.1 hB4.size⟩
            have hne : ∀ q, v.ownBlock = some q → q ≠ gz := fun q hq => by have := HST0.out.1.blk q hq; have := hB4.size; omega
            clear hqx hB4 hB5 hbr HST0
            go_wp2_with (refine wpList_stH rfl _ _ rfl rfl rfl h5 ?_; intro W7 h7 hO7 hs7; clear hs7; refine Hid.out ?_)
            unfold Hid
            clear h5 hgz hW5 c2
            by_cases ejk : j = k
            · obtain rfl : j = k := ejk
              exfalso
              have e := HBIT.out
              rw [hb3] at e
              cases e
            · have hjk : ¬ (j : Int) = k := by omega
              have hqs : qL h1 k r h L (j + 1) = Lj ++ [z] := by have e := HQS.out; rw [if_neg ejk, HZ.out] at e; exact e
              clear ejk
              have hB57 : Below B W5 W7 := below_onlyB hO7 HST.out.2.2.2.2 HST.out.2.2.1
              have hh7 := h7.hash
              have c7 := (holds_b hB57 HST.out.2.1 H7.out.2.2.1).cell 3
              unfold brC at c7
              have hownA : OwnH (W7.alloc (.cells (hcl z).toArray 43)) B v Lj := (HST.out.1.block fun q hq => hO7.block q (HST.out.1.blk q hq) (hne q hq)).below0 (below_new1 _ _)
              have hcx : HashesAt (W7.alloc (.cells (hcl z).toArray 43)) (.slice (some ⟨W7.heap.size, 0, none⟩) 1 1) [z] := .one (Holds.new W7 43 _)
              have HLE : Hid (Lj.length + [z].length ≤ 1000000000) := by show _ ≤ _; simp; omega
              have hbs : B ≤ (W7.alloc (.cells (hcl z).toArray 43)).heap.size := by rw [World.size_alloc]; have := HST.out.2.2.1; have := hB57.size; omega
              obtain ⟨pv, cv, rfl⟩ := hownA.at.shape
              go_wp2_with (first
                | (refine wpList_ldH rfl _ rfl rfl hh7 ?_)
                | (refine wpList_buildH rfl _ rfl rfl ?_)
                | (at_builtin; refine wpList_append_h rfl _ _ rfl rfl rfl hownA hcx HLE.out hbs ?_; intro v9 w9 hown9 hg9; refine Hid.out ?_))
              rw [← hqs] at hown9
              obtain ⟨p9, c9, rfl⟩ := hown9.at.shape
              obtain ⟨n9, hn9⟩ : ∃ n, (qL h1 k r h L (j + 1)).length = n := ⟨_, rfl⟩
              rw [hn9] at hown9 ⊢
              clear hn9
              have hB9 : Below B W5 w9 := (hB57.alloc (Nat.le_trans HST.out.2.2.1 hB57.size) _).trans (below_ownH hownA hg9 hbs)
              have h29 := holds_b hB9 HST.out.2.1 H7.out.2.2.1
              have f9 := h29.frozen 3
              have cc9 := h29.cell 3
              unfold brC at cc9
              obtain ⟨W10, hW10⟩ : ∃ W, w9.setCell ⟨g2, 3, none⟩ (.slice p9 n9 c9) = W := ⟨_, rfl⟩
              have h210 : Holds W10 g2 25 (brC s1 t1 h1 (.slice p9 n9 c9)) := by rw [← hW10]; exact h29.set 3 _
              have hO10 : Only g2 w9 W10 := by rw [← hW10]; exact (Only.refl g2 w9).set 3 _
              have HE : Hid (OwnH W10 B (.slice p9 n9 c9) (qL h1 k r h L (j + 1)) ∧ Holds W10 g2 25 (brC s1 t1 h1 (.slice p9 n9 c9)) ∧ B ≤ W10.heap.size ∧ Below W1.heap.size W1 W10) :=
                ⟨hown9.block fun q hq => hO10.block q (hown9.blk q hq) (by have := hown9.new q hq; have := H7.out.2.2.1; omega), h210, Nat.le_trans HST.out.2.2.1 (Nat.le_trans hB9.size hO10.size), Only.fresh (HST.out.2.2.2.1.trans (hB9.mono H7.out.2.2.2.1)) hO10 H7.out.2.2.2.2⟩
              clear hB57 hh7 c7 hownA hcx HLE hbs hown9 hg9 hB9 h29 h210 hO10 hqs
              unfold Hid
              go_wp2_with fail
              go_roundw
              case rel => exact ⟨j + 1, _, by go_num, by omega, HE.out⟩
              case measure => simp [intOf]; omega
        · have hji : ¬ (j : Int) < 16 := by omega
          obtain rfl : j = 16 := by omega
          have HF : Hid (HashesAt wr v (qL h1 k r h L 16) ∧ Below w.heap.size w wr) := ⟨hown.at, below_new HF7.out hB1⟩
          have hz1 := below_holds hB1 HW.out.2.2.2
          unfold brC at h2 hz1
          obtain ⟨pv, cv, rfl⟩ := hown.at.shape
          clear hown hBs hB1
          go_wp2_with (first
            | (refine wpList_loadH rfl 25 _ rfl _ rfl _ _ _ h2 Tryd.underlying25 rfl infoBr ?_)
            | (refine wpList_storeH rfl 25 _ _ rfl _ _ rfl rfl _ _ hz1 infoBr rfl (by simp [Value.oneCell']) ?_; intro W9 h9 hO9 hs9))
          refine bodyPost_ret (results_cellH rfl _ _ _ _ _ _ rfl h9 Tryd.underlying25 rfl infoBr) rfl ?_
          exact ⟨_, rfl, HF.out.1.only hO9 hz1, Only.fresh HF.out.2 hO9 (by have := HG.out; omega)⟩
  · have h33i : ¬ (r.size : Int) = 33 := by omega
    rw [Bool.true_and] at hsm2
    have hemp := emp_eq r
    rw [HE1.out] at hemp
    go_enter Tryd.func26, Tryd.ntmps26
    go_wp2_with fail
    rename_i K4 hK4
    apply share (K := K4) (P := fun w7 => Holds w7 g2 25 (brC s1 t1 h1 (.slice none 0 0)) ∧ Only g2 W2 w7)
    case h1 =>
      intro HREST
      refine wp_region_v (fun W => Below W1.heap.size W1 W) (.take 0 (.take 1 (.take 2 (.take 3 (.take 4 (.take 6 (.take 7 (.take 8 (.take 9 (.take 10 (.take 15 (.take 16 (.take 17 (.take 18 (.two 5 (.take 11 (.take 12 (.take 13 (.two 14 (.two 19 (.take 20 (.one 21 (.one 22 .nil))) 21 (.one 19 (.take 20 (.one 22 .nil)))) 21 (.one 14 (.one 19 (.take 20 (.one 22 .nil)))))))) 21 (.one 5 (.take 11 (.take 12 (.take 13 (.one 14 (.one 19 (.take 20 (.one 22 .nil))))))))))))))))))))))) mixedP (by kernel_rfl) rfl (by kernel_rfl) (fun _ _ _ d _ h => by cases d <;> exact h) (below_drewR (Below.refl _ _)) ?_
      refine v_val (some 31) rfl rfl rfl (.pointer (some ⟨g, 0, none⟩)) (fun _ => by go_simp) ?_
      go_frame
      refine v_ld (some 32) rfl rfl rfl _ _ rfl rfl (v := .int .u16 (s : Nat)) (fun W hW => ldU16M (keep_cellM hW (HW.out.2.2.1.cell 0))) ?_
      go_frame
      refine v_val (some 33) rfl rfl rfl (.int .i64 (k : Nat)) (fun _ => by go_simp) ?_
      go_frame
      refine v_val (some 34) rfl rfl rfl (.string r) (fun _ => by go_simp) ?_
      go_frame
      refine v_val (some 35) rfl rfl rfl (.bool true) (fun _ => by go_simp) ?_
      go_frame
      refine v_val (some 37) rfl rfl rfl (.pointer (some ⟨g, 1, none⟩)) (fun _ => by go_simp) ?_
      go_frame
      refine v_ld (some 38) rfl rfl rfl _ _ rfl rfl (v := .int .u16 (t : Nat)) (fun W hW => ldU16M (keep_cellM hW (HW.out.2.2.1.cell 1))) ?_
      go_frame
      refine v_val (some 39) rfl rfl rfl (.int .i64 (k : Nat)) (fun _ => by go_simp) ?_
      go_frame
      refine v_val (some 40) rfl rfl rfl (.string r) (fun _ => by go_simp) ?_
      go_frame
      refine v_val (some 41) rfl rfl rfl (.bool true) (fun _ => by go_simp) ?_
      go_frame
      refine v_val (some 46) rfl rfl rfl (.pointer (some ⟨g, 2, none⟩)) (fun _ => by go_simp) ?_
      go_frame
      refine v_ld (some 47) rfl rfl rfl _ _ rfl rfl (v := .int .u16 (h : Nat)) (fun W hW => ldU16M (keep_cellM hW (HW.out.2.2.1.cell 2))) ?_
      go_frame
      refine v_val (some 48) rfl rfl rfl (.int .i64 (k : Nat)) (fun _ => by go_simp) ?_
      go_frame
      refine v_val (some 49) rfl rfl rfl (.bool false) (fun _ => by go_simp) ?_
      go_frame
      refine ⟨?_, ?_⟩
      · refine op_call (some 36) rfl rfl rfl (f := 36) (vs := #[.int .u16 (s : Nat), .int .i64 (k : Nat), .bool true]) (by go_simp) ((hsm1 W1.drew).mono ?_)
        rintro e w' ⟨rfl, hw'⟩
        have hw2 := hw'.symm
        subst hw2
        clear hw'
        refine ⟨_, rfl, below_drewR (Below.refl _ _), ?_⟩
        go_frame
        refine v_val (some 42) rfl rfl rfl (.bool true) (fun _ => by go_simp) ?_
        go_frame
        refine v_val (some 43) rfl rfl rfl (.bool tree) (fun _ => by go_simp) ?_
        go_frame
        refine v_val (some 44) rfl rfl rfl (.bool tree) (fun _ => by go_simp) ?_
        go_frame
        refine ⟨?_, ?_⟩
        · refine op_call (some 45) rfl rfl rfl (f := 36) (vs := #[.int .u16 (t : Nat), .int .i64 (k : Nat), .bool tree]) (by go_simp) ((hsm2 W1.drew).mono ?_)
          rintro e w' ⟨rfl, hw'⟩
          have hw2 := hw'.symm
          subst hw2
          clear hw'
          refine ⟨_, rfl, below_drewR (Below.refl _ _), ?_⟩
          go_frame
          refine ⟨?_, ?_⟩
          · refine op_call (some 50) rfl rfl rfl (f := 36) (vs := #[.int .u16 (h : Nat), .int .i64 (k : Nat), .bool false]) (by go_simp) ((hsm3 W1.drew).mono ?_)
            rintro e w' ⟨rfl, hw'⟩
            have hw2 := hw'.symm
            subst hw2
            clear hw'
            refine ⟨_, rfl, below_drewR (Below.refl _ _), ?_⟩
            go_frame
            refine v_val (some 51) rfl rfl rfl (.agg #[.int .u16 (s1 : Nat), .int .u16 (t1 : Nat), .int .u16 (h1 : Nat), .slice none 0 0]) (fun _ => by go_simp) ?_
            go_frame
            refine op_val (some 10) rfl rfl rfl (v := .pointer (some ⟨g2, 0, none⟩)) (w' := W2) (by go_simp) ?_
            refine ⟨H2.out.1, ?_⟩
            go_frame
            refine op_storeH none rfl rfl rfl 25 _ _ rfl g2 _ rfl rfl 25 _ H2.out.2.1 infoBr rfl (by simp [Value.oneCell']) ?_
            intro w7 h7 hO7 hs7
            refine ⟨Only.fresh H2.out.1 hO7 H2.out.2.2, ?_⟩
            go_frame
            refine then_normM ?_
            exact HREST w7 ⟨h7, hO7⟩
          · refine op_val (some 10) rfl rfl rfl (v := .pointer (some ⟨g2, 0, none⟩)) (w' := W2) (by go_simp) ?_
            refine ⟨H2.out.1, ?_⟩
            go_frame
            refine op_call (some 50) rfl rfl rfl (f := 36) (vs := #[.int .u16 (h : Nat), .int .i64 (k : Nat), .bool false]) (by go_simp) ((hsm3 W2).mono ?_)
            rintro e w' ⟨rfl, hw'⟩
            have hw2 := hw'.symm
            subst hw2
            clear hw'
            refine ⟨_, rfl, H2.out.1, ?_⟩
            go_frame
            refine v_val (some 51) rfl rfl rfl (.agg #[.int .u16 (s1 : Nat), .int .u16 (t1 : Nat), .int .u16 (h1 : Nat), .slice none 0 0]) (fun _ => by go_simp) ?_
            go_frame
            refine op_storeH none rfl rfl rfl 25 _ _ rfl g2 _ rfl rfl 25 _ H2.out.2.1 infoBr rfl (by simp [Value.oneCell']) ?_
            intro w7 h7 hO7 hs7
            refine ⟨Only.fresh H2.out.1 hO7 H2.out.2.2, ?_⟩
            go_frame
            refine then_normM ?_
            exact HREST w7 ⟨h7, hO7⟩
        · refine op_val (some 10) rfl rfl rfl (v := .pointer (some ⟨g2, 0, none⟩)) (w' := W2) (by go_simp) ?_
          refine ⟨H2.out.1, ?_⟩
          go_frame
          refine op_call (some 45) rfl rfl rfl (f := 36) (vs := #[.int .u16 (t : Nat), .int .i64 (k : Nat), .bool tree]) (by go_simp) ((hsm2 W2).mono ?_)
          rintro e w' ⟨rfl, hw'⟩
          have hw2 := hw'.symm
          subst hw2
          clear hw'
          refine ⟨_, rfl, H2.out.1, ?_⟩
          go_frame
          refine op_call (some 50) rfl rfl rfl (f := 36) (vs := #[.int .u16 (h : Nat), .int .i64 (k : Nat), .bool false]) (by go_simp) ((hsm3 W2).mono ?_)
          rintro e w' ⟨rfl, hw'⟩
          have hw2 := hw'.symm
          subst hw2
          clear hw'
          refine ⟨_, rfl, H2.out.1, ?_⟩
          go_frame
          refine v_val (some 51) rfl rfl rfl (.agg #[.int .u16 (s1 : Nat), .int .u16 (t1 : Nat), .int .u16 (h1 : Nat), .slice none 0 0]) (fun _ => by go_simp) ?_
          go_frame
          refine op_storeH none rfl rfl rfl 25 _ _ rfl g2 _ rfl rfl 25 _ H2.out.2.1 infoBr rfl (by simp [Value.oneCell']) ?_
          intro w7 h7 hO7 hs7
          refine ⟨Only.fresh H2.out.1 hO7 H2.out.2.2, ?_⟩
          go_frame
          refine then_normM ?_
          exact HREST w7 ⟨h7, hO7⟩
      · refine op_val (some 10) rfl rfl rfl (v := .pointer (some ⟨g2, 0, none⟩)) (w' := W2) (by go_simp) ?_
        refine ⟨H2.out.1, ?_⟩
        go_frame
        refine op_call (some 36) rfl rfl rfl (f := 36) (vs := #[.int .u16 (s : Nat), .int .i64 (k : Nat), .bool true]) (by go_simp) ((hsm1 W2).mono ?_)
        rintro e w' ⟨rfl, hw'⟩
        have hw2 := hw'.symm
        subst hw2
        clear hw'
        refine ⟨_, rfl, H2.out.1, ?_⟩
        go_frame
        refine v_val (some 42) rfl rfl rfl (.bool true) (fun _ => by go_simp) ?_
        go_frame
        refine v_val (some 43) rfl rfl rfl (.bool tree) (fun _ => by go_simp) ?_
        go_frame
        refine v_val (some 44) rfl rfl rfl (.bool tree) (fun _ => by go_simp) ?_
        go_frame
        refine op_call (some 45) rfl rfl rfl (f := 36) (vs := #[.int .u16 (t : Nat), .int .i64 (k : Nat), .bool tree]) (by go_simp) ((hsm2 W2).mono ?_)
        rintro e w' ⟨rfl, hw'⟩
        have hw2 := hw'.symm
        subst hw2
        clear hw'
        refine ⟨_, rfl, H2.out.1, ?_⟩
        go_frame
        refine op_call (some 50) rfl rfl rfl (f := 36) (vs := #[.int .u16 (h : Nat), .int .i64 (k : Nat), .bool false]) (by go_simp) ((hsm3 W2).mono ?_)
        rintro e w' ⟨rfl, hw'⟩
        have hw2 := hw'.symm
        subst hw2
        clear hw'
        refine ⟨_, rfl, H2.out.1, ?_⟩
        go_frame
        refine v_val (some 51) rfl rfl rfl (.agg #[.int .u16 (s1 : Nat), .int .u16 (t1 : Nat), .int .u16 (h1 : Nat), .slice none 0 0]) (fun _ => by go_simp) ?_
        go_frame
        refine op_storeH none rfl rfl rfl 25 _ _ rfl g2 _ rfl rfl 25 _ H2.out.2.1 infoBr rfl (by simp [Value.oneCell']) ?_
        intro w7 h7 hO7 hs7
        refine ⟨Only.fresh H2.out.1 hO7 H2.out.2.2, ?_⟩
        go_frame
        refine then_normM ?_
        exact HREST w7 ⟨h7, hO7⟩
    case h2 =>
      intro w7 h7
      obtain ⟨h7, hO7⟩ := h7
      obtain ⟨B, hB⟩ : ∃ B, B = w7.heap.size := ⟨_, rfl⟩
      have hB7 : Below W1.heap.size W1 w7 := Only.fresh H2.out.1 hO7 H2.out.2.2
      have H7 : Hid (g < B ∧ g1 < B ∧ g2 < B ∧ W1.heap.size ≤ B ∧ W1.heap.size ≤ g2) := by
        rw [hB]
        exact ⟨(below_holds hB7 HW.out.2.2.1).lt, (below_holds hB7 HW.out.2.2.2).lt, h7.lt, hB7.size, H2.out.2.2⟩
      have HF7 : Hid (Below w.heap.size w W1) := HW.out.1
      clear hO7 hW2 hg2 hW0 hW1 hg hg1 hsm1 hsm2 hsm3 hemp h33i
      go_at_K
      go_wp2_with fail
      go_loopw [11] (fun y wr => ∃ (j : Nat) (v : Value), y = .int .i64 (j : Nat) ∧ j ≤ 16 ∧ OwnH wr B v (qL h1 k r h L j) ∧ Holds wr g2 25 (brC s1 t1 h1 v) ∧ B ≤ wr.heap.size ∧ Below W1.heap.size W1 wr) (fun y _ => 16 - (intOf y).toNat)
      case atStart => exact ⟨0, _, rfl, Nat.zero_le _, OwnH.nil _ _, h7, by rw [hB]; exact Nat.le_refl _, hB7⟩
      case round =>
        clear h7 hB hB7
        obtain ⟨j, v, rfl, hj, hown, h2, hBs, hB1⟩ := hrel
        by_cases hj16 : j < 16
        · have hji : (j : Int) < 16 := by omega
          have hj0 : (0 : Int) ≤ j := by omega
          have hqh := qhas_any hh1 (j : Int) wr
          rw [hasM_k h1 j hj16] at hqh
          have hqs := qL_succ h1 k r h L j
          have hql := qL_len h1 k r h L j
          obtain ⟨Lj, hLj⟩ : ∃ x, qL h1 k r h L j = x := ⟨_, rfl⟩
          rw [hLj] at hqs hql hown
          clear hLj
          have c2 := h2.cell 2
          unfold brC at c2
          have HST0 : Hid (OwnH wr B v Lj ∧ Holds wr g2 25 (brC s1 t1 h1 v) ∧ B ≤ wr.heap.size ∧ Below W1.heap.size W1 wr) := ⟨hown, h2, hBs, hB1⟩
          clear hown h2 hBs hB1
          go_wp2_with fail
          refine hqh.mono ?_
          rintro e w3 ⟨rfl, hw3⟩
          have hw3' := hw3.symm
          subst hw3'
          clear hw3 hqh
          cases hbit : h1.testBit j with
          | false =>
            rw [hbit, if_neg (by decide), List.append_nil] at hqs
            have HE : Hid (OwnH wr B v (qL h1 k r h L (j + 1)) ∧ Holds wr g2 25 (brC s1 t1 h1 v) ∧ B ≤ wr.heap.size ∧ Below W1.heap.size W1 wr) := by show _ ∧ _; rw [hqs]; exact HST0.out
            clear hbit hqs hql
            go_wp2_with fail
            go_roundw
            case rel => exact ⟨j + 1, v, by go_num, by omega, HE.out⟩
            case measure => simp [intOf]; omega
          | true =>
            rw [hbit, if_pos rfl] at hqs
            have HBIT : Hid (h1.testBit j = true) := hbit
            have HQS : Hid (qL h1 k r h L (j + 1) = Lj ++ [if j = k then refH r else hashX h L (j : Int)]) := hqs
            clear hbit hqs
            have hbr := below_holds HST0.out.2.2.2 HW.out.2.2.1
            unfold brC at hbr
            have hqx := qhash_any (s := s) (t := t) hh (HW.out.2.1.below HST0.out.2.2.2) (HM.out.1.trans HM.out.2) (j : Int)
            unfold brV at hqx
            obtain ⟨z, hz⟩ : ∃ z, hashX h L (j : Int) = z := ⟨_, rfl⟩
            have HZ : Hid (hashX h L (j : Int) = z) := hz
            rw [hz] at hqx
            clear hz
            go_wp2_with (refine wpList_loadH rfl 25 _ rfl _ rfl _ _ _ hbr Tryd.underlying25 rfl infoBr ?_)
            refine hqx.mono ?_
            rintro e w4 ⟨rfl, hB4⟩
            obtain ⟨W5, hW5⟩ : ∃ W5, World.alloc w4 (.cells zero32 43) = W5 := ⟨_, rfl⟩
            obtain ⟨gz, hgz⟩ : ∃ gz, w4.heap.size = gz := ⟨_, rfl⟩
            have h5 : Holds W5 gz 43 (hcl zeroH).toArray := by rw [← hW5, ← hgz]; exact Holds.new _ _ _
            have hB5 : Below wr.heap.size wr W5 := below_new hB4 (by rw [← hW5]; exact below_new1 _ _)
            rw [zero32_eq] at hW5
            have HST : Hid (OwnH W5 B v Lj ∧ Holds W5 g2 25 (brC s1 t1 h1 v) ∧ B ≤ W5.heap.size ∧ Below W1.heap.size W1 W5 ∧ B ≤ gz) :=
              ⟨HST0.out.1.below0 hB5, below_holds hB5 HST0.out.2.1, Nat.le_trans HST0.out.2.2.1 hB5.size, below_new HST0.out.2.2.2 hB5, by rw [← hgz]; exact Nat.le_trans HST0.out.2.2.1 hB4.size⟩
            have hne : ∀ q, v.ownBlock = some q → q ≠ gz := fun q hq => by have := HST0.out.1.blk q hq; have := hB4.size; omega
            clear hqx hB4 hB5 hbr HST0
            go_wp2_with (refine wpList_stH rfl _ _ rfl rfl rfl h5 ?_; intro W7 h7 hO7 hs7; clear hs7; refine Hid.out ?_)
            unfold Hid
            clear h5 hgz hW5 c2
            by_cases ejk : j = k
            · obtain rfl : j = k := ejk
              exfalso
              have e := HBIT.out
              rw [hb3] at e
              cases e
            · have hjk : ¬ (j : Int) = k := by omega
              have hqs : qL h1 k r h L (j + 1) = Lj ++ [z] := by have e := HQS.out; rw [if_neg ejk, HZ.out] at e; exact e
              clear ejk
              have hB57 : Below B W5 W7 := below_onlyB hO7 HST.out.2.2.2.2 HST.out.2.2.1
              have hh7 := h7.hash
              have c7 := (holds_b hB57 HST.out.2.1 H7.out.2.2.1).cell 3
              unfold brC at c7
              have hownA : OwnH (W7.alloc (.cells (hcl z).toArray 43)) B v Lj := (HST.out.1.block fun q hq => hO7.block q (HST.out.1.blk q hq) (hne q hq)).below0 (below_new1 _ _)
              have hcx : HashesAt (W7.alloc (.cells (hcl z).toArray 43)) (.slice (some ⟨W7.heap.size, 0, none⟩) 1 1) [z] := .one (Holds.new W7 43 _)
              have HLE : Hid (Lj.length + [z].length ≤ 1000000000) := by show _ ≤ _; simp; omega
              have hbs : B ≤ (W7.alloc (.cells (hcl z).toArray 43)).heap.size := by rw [World.size_alloc]; have := HST.out.2.2.1; have := hB57.size; omega
              obtain ⟨pv, cv, rfl⟩ := hownA.at.shape
              go_wp2_with (first
                | (refine wpList_ldH rfl _ rfl rfl hh7 ?_)
                | (refine wpList_buildH rfl _ rfl rfl ?_)
                | (at_builtin; refine wpList_append_h rfl _ _ rfl rfl rfl hownA hcx HLE.out hbs ?_; intro v9 w9 hown9 hg9; refine Hid.out ?_))
              rw [← hqs] at hown9
              obtain ⟨p9, c9, rfl⟩ := hown9.at.shape
              obtain ⟨n9, hn9⟩ : ∃ n, (qL h1 k r h L (j + 1)).length = n := ⟨_, rfl⟩
              rw [hn9] at hown9 ⊢
              clear hn9
              have hB9 : Below B W5 w9 := (hB57.alloc (Nat.le_trans HST.out.2.2.1 hB57.size) _).trans (below_ownH hownA hg9 hbs)
              have h29 := holds_b hB9 HST.out.2.1 H7.out.2.2.1
              have f9 := h29.frozen 3
              have cc9 := h29.cell 3
              unfold brC at cc9
              obtain ⟨W10, hW10⟩ : ∃ W, w9.setCell ⟨g2, 3, none⟩ (.slice p9 n9 c9) = W := ⟨_, rfl⟩
              have h210 : Holds W10 g2 25 (brC s1 t1 h1 (.slice p9 n9 c9)) := by rw [← hW10]; exact h29.set 3 _
              have hO10 : Only g2 w9 W10 := by rw [← hW10]; exact (Only.refl g2 w9).set 3 _
              have HE : Hid (OwnH W10 B (.slice p9 n9 c9) (qL h1 k r h L (j + 1)) ∧ Holds W10 g2 25 (brC s1 t1 h1 (.slice p9 n9 c9)) ∧ B ≤ W10.heap.size ∧ Below W1.heap.size W1 W10) :=
                ⟨hown9.block fun q hq => hO10.block q (hown9.blk q hq) (by have := hown9.new q hq; have := H7.out.2.2.1; omega), h210, Nat.le_trans HST.out.2.2.1 (Nat.le_trans hB9.size hO10.size), Only.fresh (HST.out.2.2.2.1.trans (hB9.mono H7.out.2.2.2.1)) hO10 H7.out.2.2.2.2⟩
              clear hB57 hh7 c7 hownA hcx HLE hbs hown9 hg9 hB9 h29 h210 hO10 hqs
              unfold Hid
              go_wp2_with fail
              go_roundw
              case rel => exact ⟨j + 1, _, by go_num, by omega, HE.out⟩
              case measure => simp [intOf]; omega
        · have hji : ¬ (j : Int) < 16 := by omega
          obtain rfl : j = 16 := by omega
          have HF : Hid (HashesAt wr v (qL h1 k r h L 16) ∧ Below w.heap.size w wr) := ⟨hown.at, below_new HF7.out hB1⟩
          have hz1 := below_holds hB1 HW.out.2.2.2
          unfold brC at h2 hz1
          obtain ⟨pv, cv, rfl⟩ := hown.at.shape
          clear hown hBs hB1
          go_wp2_with (first
            | (refine wpList_loadH rfl 25 _ rfl _ rfl _ _ _ h2 Tryd.underlying25 rfl infoBr ?_)
            | (refine wpList_storeH rfl 25 _ _ rfl _ _ rfl rfl _ _ hz1 infoBr rfl (by simp [Value.oneCell']) ?_; intro W9 h9 hO9 hs9))
          refine bodyPost_ret (results_cellH rfl _ _ _ _ _ _ rfl h9 Tryd.underlying25 rfl infoBr) rfl ?_
          exact ⟨_, rfl, HF.out.1.only hO9 hz1, Only.fresh HF.out.2 hO9 (by have := HG.out; omega)⟩
  · have h33i : ¬ (r.size : Int) = 33 := by omega
    rw [Bool.false_and] at hsm2
    have hemp := emp_eq r
    rw [HE1.out] at hemp
    go_enter Tryd.func26, Tryd.ntmps26
    go_wp2_with fail
    rename_i K4 hK4
    apply share (K := K4) (P := fun w7 => Holds w7 g2 25 (brC s1 t1 h1 (.slice none 0 0)) ∧ Only g2 W2 w7)
    case h1 =>
      intro HREST
      refine wp_region_v (fun W => Below W1.heap.size W1 W) (.take 0 (.take 1 (.take 2 (.take 3 (.take 4 (.take 6 (.take 7 (.take 8 (.take 9 (.take 10 (.take 15 (.take 16 (.take 17 (.take 18 (.two 5 (.take 11 (.drop 12 (.take 13 (.two 14 (.two 19 (.take 20 (.one 21 (.one 22 .nil))) 21 (.one 19 (.take 20 (.one 22 .nil)))) 21 (.one 14 (.one 19 (.take 20 (.one 22 .nil)))))))) 21 (.one 5 (.take 11 (.drop 12 (.take 13 (.one 14 (.one 19 (.take 20 (.one 22 .nil))))))))))))))))))))))) mixedP (by kernel_rfl) rfl (by kernel_rfl) (fun _ _ _ d _ h => by cases d <;> exact h) (below_drewR (Below.refl _ _)) ?_
      refine v_val (some 31) rfl rfl rfl (.pointer (some ⟨g, 0, none⟩)) (fun _ => by go_simp) ?_
      go_frame
      refine v_ld (some 32) rfl rfl rfl _ _ rfl rfl (v := .int .u16 (s : Nat)) (fun W hW => ldU16M (keep_cellM hW (HW.out.2.2.1.cell 0))) ?_
      go_frame
      refine v_val (some 33) rfl rfl rfl (.int .i64 (k : Nat)) (fun _ => by go_simp) ?_
      go_frame
      refine v_val (some 34) rfl rfl rfl (.string r) (fun _ => by go_simp) ?_
      go_frame
      refine v_val (some 35) rfl rfl rfl (.bool false) (fun _ => by go_simp) ?_
      go_frame
      refine v_val (some 37) rfl rfl rfl (.pointer (some ⟨g, 1, none⟩)) (fun _ => by go_simp) ?_
      go_frame
      refine v_ld (some 38) rfl rfl rfl _ _ rfl rfl (v := .int .u16 (t : Nat)) (fun W hW => ldU16M (keep_cellM hW (HW.out.2.2.1.cell 1))) ?_
      go_frame
      refine v_val (some 39) rfl rfl rfl (.int .i64 (k : Nat)) (fun _ => by go_simp) ?_
      go_frame
      refine v_val (some 40) rfl rfl rfl (.string r) (fun _ => by go_simp) ?_
      go_frame
      refine v_val (some 41) rfl rfl rfl (.bool false) (fun _ => by go_simp) ?_
      go_frame
      refine v_val (some 46) rfl rfl rfl (.pointer (some ⟨g, 2, none⟩)) (fun _ => by go_simp) ?_
      go_frame
      refine v_ld (some 47) rfl rfl rfl _ _ rfl rfl (v := .int .u16 (h : Nat)) (fun W hW => ldU16M (keep_cellM hW (HW.out.2.2.1.cell 2))) ?_
      go_frame
      refine v_val (some 48) rfl rfl rfl (.int .i64 (k : Nat)) (fun _ => by go_simp) ?_
      go_frame
      refine v_val (some 49) rfl rfl rfl (.bool false) (fun _ => by go_simp) ?_
      go_frame
      refine ⟨?_, ?_⟩
      · refine op_call (some 36) rfl rfl rfl (f := 36) (vs := #[.int .u16 (s : Nat), .int .i64 (k : Nat), .bool false]) (by go_simp) ((hsm1 W1.drew).mono ?_)
        rintro e w' ⟨rfl, hw'⟩
        have hw2 := hw'.symm
        subst hw2
        clear hw'
        refine ⟨_, rfl, below_drewR (Below.refl _ _), ?_⟩
        go_frame
        refine v_val (some 42) rfl rfl rfl (.bool false) (fun _ => by go_simp) ?_
        go_frame
        refine v_drop (some 43) rfl rfl rfl ?_
        go_frame
        refine v_val (some 44) rfl rfl rfl (.bool false) (fun _ => by go_simp) ?_
        go_frame
        refine ⟨?_, ?_⟩
        · refine op_call (some 45) rfl rfl rfl (f := 36) (vs := #[.int .u16 (t : Nat), .int .i64 (k : Nat), .bool false]) (by go_simp) ((hsm2 W1.drew).mono ?_)
          rintro e w' ⟨rfl, hw'⟩
          have hw2 := hw'.symm
          subst hw2
          clear hw'
          refine ⟨_, rfl, below_drewR (Below.refl _ _), ?_⟩
          go_frame
          refine ⟨?_, ?_⟩
          · refine op_call (some 50) rfl rfl rfl (f := 36) (vs := #[.int .u16 (h : Nat), .int .i64 (k : Nat), .bool false]) (by go_simp) ((hsm3 W1.drew).mono ?_)
            rintro e w' ⟨rfl, hw'⟩
            have hw2 := hw'.symm
            subst hw2
            clear hw'
            refine ⟨_, rfl, below_drewR (Below.refl _ _), ?_⟩
            go_frame
            refine v_val (some 51) rfl rfl rfl (.agg #[.int .u16 (s1 : Nat), .int .u16 (t1 : Nat), .int .u16 (h1 : Nat), .slice none 0 0]) (fun _ => by go_simp) ?_
            go_frame
            refine op_val (some 10) rfl rfl rfl (v := .pointer (some ⟨g2, 0, none⟩)) (w' := W2) (by go_simp) ?_
            refine ⟨H2.out.1, ?_⟩
            go_frame
            refine op_storeH none rfl rfl rfl 25 _ _ rfl g2 _ rfl rfl 25 _ H2.out.2.1 infoBr rfl (by simp [Value.oneCell']) ?_
            intro w7 h7 hO7 hs7
            refine ⟨Only.fresh H2.out.1 hO7 H2.out.2.2, ?_⟩
            go_frame
            refine then_normM ?_
            exact HREST w7 ⟨h7, hO7⟩
          · refine op_val (some 10) rfl rfl rfl (v := .pointer (some ⟨g2, 0, none⟩)) (w' := W2) (by go_simp) ?_
            refine ⟨H2.out.1, ?_⟩
            go_frame
            refine op_call (some 50) rfl rfl rfl (f := 36) (vs := #[.int .u16 (h : Nat), .int .i64 (k : Nat), .bool false]) (by go_simp) ((hsm3 W2).mono ?_)
            rintro e w' ⟨rfl, hw'⟩
            have hw2 := hw'.symm
            subst hw2
            clear hw'
            refine ⟨_, rfl, H2.out.1, ?_⟩
            go_frame
            refine v_val (some 51) rfl rfl rfl (.agg #[.int .u16 (s1 : Nat), .int .u16 (t1 : Nat), .int .u16 (h1 : Nat), .slice none 0 0]) (fun _ => by go_simp) ?_
            go_frame
            refine op_storeH none rfl rfl rfl 25 _ _ rfl g2 _ rfl rfl 25 _ H2.out.2.1 infoBr rfl (by simp [Value.oneCell']) ?_
            intro w7 h7 hO7 hs7
            refine ⟨Only.fresh H2.out.1 hO7 H2.out.2.2, ?_⟩
            go_frame
            refine then_normM ?_
            exact HREST w7 ⟨h7, hO7⟩
        · refine op_val (some 10) rfl rfl rfl (v := .pointer (some ⟨g2, 0, none⟩)) (w' := W2) (by go_simp) ?_
          refine ⟨H2.out.1, ?_⟩
          go_frame
          refine op_call (some 45) rfl rfl rfl (f := 36) (vs := #[.int .u16 (t : Nat), .int .i64 (k : Nat), .bool false]) (by go_simp) ((hsm2 W2).mono ?_)
          rintro e w' ⟨rfl, hw'⟩
          have hw2 := hw'.symm
          subst hw2
          clear hw'
          refine ⟨_, rfl, H2.out.1, ?_⟩
          go_frame
          refine op_call (some 50) rfl rfl rfl (f := 36) (vs := #[.int .u16 (h : Nat), .int .i64 (k : Nat), .bool false]) (by go_simp) ((hsm3 W2).mono ?_)
          rintro e w' ⟨rfl, hw'⟩
          have hw2 := hw'.symm
          subst hw2
          clear hw'
          refine ⟨_, rfl, H2.out.1, ?_⟩
          go_frame
          refine v_val (some 51) rfl rfl rfl (.agg #[.int .u16 (s1 : Nat), .int .u16 (t1 : Nat), .int .u16 (h1 : Nat), .slice none 0 0]) (fun _ => by go_simp) ?_
          go_frame
          refine op_storeH none rfl rfl rfl 25 _ _ rfl g2 _ rfl rfl 25 _ H2.out.2.1 infoBr rfl (by simp [Value.oneCell']) ?_
          intro w7 h7 hO7 hs7
          refine ⟨Only.fresh H2.out.1 hO7 H2.out.2.2, ?_⟩
          go_frame
          refine then_normM ?_
          exact HREST w7 ⟨h7, hO7⟩
      · refine op_val (some 10) rfl rfl rfl (v := .pointer (some ⟨g2, 0, none⟩)) (w' := W2) (by go_simp) ?_
        refine ⟨H2.out.1, ?_⟩
        go_frame
        refine op_call (some 36) rfl rfl rfl (f := 36) (vs := #[.int .u16 (s : Nat), .int .i64 (k : Nat), .bool false]) (by go_simp) ((hsm1 W2).mono ?_)
        rintro e w' ⟨rfl, hw'⟩
        have hw2 := hw'.symm
        subst hw2
        clear hw'
        refine ⟨_, rfl, H2.out.1, ?_⟩
        go_frame
        refine v_val (some 42) rfl rfl rfl (.bool false) (fun _ => by go_simp) ?_
        go_frame
        refine v_drop (some 43) rfl rfl rfl ?_
        go_frame
        refine v_val (some 44) rfl rfl rfl (.bool false) (fun _ => by go_simp) ?_
        go_frame
        refine op_call (some 45) rfl rfl rfl (f := 36) (vs := #[.int .u16 (t : Nat), .int .i64 (k : Nat), .bool false]) (by go_simp) ((hsm2 W2).mono ?_)
        rintro e w' ⟨rfl, hw'⟩
        have hw2 := hw'.symm
        subst hw2
        clear hw'
        refine ⟨_, rfl, H2.out.1, ?_⟩
        go_frame
        refine op_call (some 50) rfl rfl rfl (f := 36) (vs := #[.int .u16 (h : Nat), .int .i64 (k : Nat), .bool false]) (by go_simp) ((hsm3 W2).mono ?_)
        rintro e w' ⟨rfl, hw'⟩
        have hw2 := hw'.symm
        subst hw2
        clear hw'
        refine ⟨_, rfl, H2.out.1, ?_⟩
        go_frame
        refine v_val (some 51) rfl rfl rfl (.agg #[.int .u16 (s1 : Nat), .int .u16 (t1 : Nat), .int .u16 (h1 : Nat), .slice none 0 0]) (fun _ => by go_simp) ?_
        go_frame
        refine op_storeH none rfl rfl rfl 25 _ _ rfl g2 _ rfl rfl 25 _ H2.out.2.1 infoBr rfl (by simp [Value.oneCell']) ?_
        intro w7 h7 hO7 hs7
        refine ⟨Only.fresh H2.out.1 hO7 H2.out.2.2, ?_⟩
        go_frame
        refine then_normM ?_
        exact HREST w7 ⟨h7, hO7⟩
    case h2 =>
      intro w7 h7
      obtain ⟨h7, hO7⟩ := h7
      obtain ⟨B, hB⟩ : ∃ B, B = w7.heap.size := ⟨_, rfl⟩
      have hB7 : Below W1.heap.size W1 w7 := Only.fresh H2.out.1 hO7 H2.out.2.2
      have H7 : Hid (g < B ∧ g1 < B ∧ g2 < B ∧ W1.heap.size ≤ B ∧ W1.heap.size ≤ g2) := by
        rw [hB]
        exact ⟨(below_holds hB7 HW.out.2.2.1).lt, (below_holds hB7 HW.out.2.2.2).lt, h7.lt, hB7.size, H2.out.2.2⟩
      have HF7 : Hid (Below w.heap.size w W1) := HW.out.1
      clear hO7 hW2 hg2 hW0 hW1 hg hg1 hsm1 hsm2 hsm3 hemp h33i
      go_at_K
      go_wp2_with fail
      go_loopw [11] (fun y wr => ∃ (j : Nat) (v : Value), y = .int .i64 (j : Nat) ∧ j ≤ 16 ∧ OwnH wr B v (qL h1 k r h L j) ∧ Holds wr g2 25 (brC s1 t1 h1 v) ∧ B ≤ wr.heap.size ∧ Below W1.heap.size W1 wr) (fun y _ => 16 - (intOf y).toNat)
      case atStart => exact ⟨0, _, rfl, Nat.zero_le _, OwnH.nil _ _, h7, by rw [hB]; exact Nat.le_refl _, hB7⟩
      case round =>
        clear h7 hB hB7
        obtain ⟨j, v, rfl, hj, hown, h2, hBs, hB1⟩ := hrel
        by_cases hj16 : j < 16
        · have hji : (j : Int) < 16 := by omega
          have hj0 : (0 : Int) ≤ j := by omega
          have hqh := qhas_any hh1 (j : Int) wr
          rw [hasM_k h1 j hj16] at hqh
          have hqs := qL_succ h1 k r h L j
          have hql := qL_len h1 k r h L j
          obtain ⟨Lj, hLj⟩ : ∃ x, qL h1 k r h L j = x := ⟨_, rfl⟩
          rw [hLj] at hqs hql hown
          clear hLj
          have c2 := h2.cell 2
          unfold brC at c2
          have HST0 : Hid (OwnH wr B v Lj ∧ Holds wr g2 25 (brC s1 t1 h1 v) ∧ B ≤ wr.heap.size ∧ Below W1.heap.size W1 wr) := ⟨hown, h2, hBs, hB1⟩
          clear hown h2 hBs hB1
          go_wp2_with fail
          refine hqh.mono ?_
          rintro e w3 ⟨rfl, hw3⟩
          have hw3' := hw3.symm
          subst hw3'
          clear hw3 hqh
          cases hbit : h1.testBit j with
          | false =>
            rw [hbit, if_neg (by decide), List.append_nil] at hqs
            have HE : Hid (OwnH wr B v (qL h1 k r h L (j + 1)) ∧ Holds wr g2 25 (brC s1 t1 h1 v) ∧ B ≤ wr.heap.size ∧ Below W1.heap.size W1 wr) := by show _ ∧ _; rw [hqs]; exact HST0.out
            clear hbit hqs hql
            go_wp2_with fail
            go_roundw
            case rel => exact ⟨j + 1, v, by go_num, by omega, HE.out⟩
            case measure => simp [intOf]; omega
          | true =>
            rw [hbit, if_pos rfl] at hqs
            have HBIT : Hid (h1.testBit j = true) := hbit
            have HQS : Hid (qL h1 k r h L (j + 1) = Lj ++ [if j = k then refH r else hashX h L (j : Int)]) := hqs
            clear hbit hqs
            have hbr := below_holds HST0.out.2.2.2 HW.out.2.2.1
            unfold brC at hbr
            have hqx := qhash_any (s := s) (t := t) hh (HW.out.2.1.below HST0.out.2.2.2) (HM.out.1.trans HM.out.2) (j : Int)
            unfold brV at hqx
            obtain ⟨z, hz⟩ : ∃ z, hashX h L (j : Int) = z := ⟨_, rfl⟩
            have HZ : Hid (hashX h L (j : Int) = z) := hz
            rw [hz] at hqx
            clear hz
            go_wp2_with (refine wpList_loadH rfl 25 _ rfl _ rfl _ _ _ hbr Tryd.underlying25 rfl infoBr ?_)
            refine hqx.mono ?_
            rintro e w4 ⟨rfl, hB4⟩
            obtain ⟨W5, hW5⟩ : ∃ W5, World.alloc w4 (.cells zero32 43) = W5 := ⟨_, rfl⟩
            obtain ⟨gz, hgz⟩ : ∃ gz, w4.heap.size = gz := ⟨_, rfl⟩
            have h5 : Holds W5 gz 43 (hcl zeroH).toArray := by rw [← hW5, ← hgz]; exact Holds.new _ _ _
            have hB5 : Below wr.heap.size wr W5 := below_new hB4 (by rw [← hW5]; exact below_new1 _ _)
            rw [zero32_eq] at hW5
            have HST : Hid (OwnH W5 B v Lj ∧ Holds W5 g2 25 (brC s1 t1 h1 v) ∧ B ≤ W5.heap.size ∧ Below W1.heap.size W1 W5 ∧ B ≤ gz) :=
              ⟨HST0.out.1.below0 hB5, below_holds hB5 HST0.out.2.1, Nat.le_trans HST0.out.2.2.1 hB5.size, below_new HST0.out.2.2.2 hB5, by rw [← hgz]; exact Nat.le_trans HST0.out.2.2.1 hB4.size⟩
            have hne : ∀ q, v.ownBlock = some q → q ≠ gz := fun q hq => by have := HST0.out.1.blk q hq; have := hB4.size; omega
            clear hqx hB4 hB5 hbr HST0
            go_wp2_with (refine wpList_stH rfl _ _ rfl rfl rfl h5 ?_; intro W7 h7 hO7 hs7; clear hs7; refine Hid.out ?_)
            unfold Hid
            clear h5 hgz hW5 c2
            by_cases ejk : j = k
            · obtain rfl : j = k := ejk
              exfalso
              have e := HBIT.out
              rw [hb3] at e
              cases e
            · have hjk : ¬ (j : Int) = k := by omega
              have hqs : qL h1 k r h L (j + 1) = Lj ++ [z] := by have e := HQS.out; rw [if_neg ejk, HZ.out] at e; exact e
              clear ejk
              have hB57 : Below B W5 W7 := below_onlyB hO7 HST.out.2.2.2.2 HST.out.2.2.1
              have hh7 := h7.hash
              have c7 := (holds_b hB57 HST.out.2.1 H7.out.2.2.1).cell 3
              unfold brC at c7
              have hownA : OwnH (W7.alloc (.cells (hcl z).toArray 43)) B v Lj := (HST.out.1.block fun q hq => hO7.block q (HST.out.1.blk q hq) (hne q hq)).below0 (below_new1 _ _)
              have hcx : HashesAt (W7.alloc (.cells (hcl z).toArray 43)) (.slice (some ⟨W7.heap.size, 0, none⟩) 1 1) [z] := .one (Holds.new W7 43 _)
              have HLE : Hid (Lj.length + [z].length ≤ 1000000000) := by show _ ≤ _; simp; omega
              have hbs : B ≤ (W7.alloc (.cells (hcl z).toArray 43)).heap.size := by rw [World.size_alloc]; have := HST.out.2.2.1; have := hB57.size; omega
              obtain ⟨pv, cv, rfl⟩ := hownA.at.shape
              go_wp2_with (first
                | (refine wpList_ldH rfl _ rfl rfl hh7 ?_)
                | (refine wpList_buildH rfl _ rfl rfl ?_)
                | (at_builtin; refine wpList_append_h rfl _ _ rfl rfl rfl hownA hcx HLE.out hbs ?_; intro v9 w9 hown9 hg9; refine Hid.out ?_))
              rw [← hqs] at hown9
              obtain ⟨p9, c9, rfl⟩ := hown9.at.shape
              obtain ⟨n9, hn9⟩ : ∃ n, (qL h1 k r h L (j + 1)).length = n := ⟨_, rfl⟩
              rw [hn9] at hown9 ⊢
              clear hn9
              have hB9 : Below B W5 w9 := (hB57.alloc (Nat.le_trans HST.out.2.2.1 hB57.size) _).trans (below_ownH hownA hg9 hbs)
              have h29 := holds_b hB9 HST.out.2.1 H7.out.2.2.1
              have f9 := h29.frozen 3
              have cc9 := h29.cell 3
              unfold brC at cc9
              obtain ⟨W10, hW10⟩ : ∃ W, w9.setCell ⟨g2, 3, none⟩ (.slice p9 n9 c9) = W := ⟨_, rfl⟩
              have h210 : Holds W10 g2 25 (brC s1 t1 h1 (.slice p9 n9 c9)) := by rw [← hW10]; exact h29.set 3 _
              have hO10 : Only g2 w9 W10 := by rw [← hW10]; exact (Only.refl g2 w9).set 3 _
              have HE : Hid (OwnH W10 B (.slice p9 n9 c9) (qL h1 k r h L (j + 1)) ∧ Holds W10 g2 25 (brC s1 t1 h1 (.slice p9 n9 c9)) ∧ B ≤ W10.heap.size ∧ Below W1.heap.size W1 W10) :=
                ⟨hown9.block fun q hq => hO10.block q (hown9.blk q hq) (by have := hown9.new q hq; have := H7.out.2.2.1; omega), h210, Nat.le_trans HST.out.2.2.1 (Nat.le_trans hB9.size hO10.size), Only.fresh (HST.out.2.2.2.1.trans (hB9.mono H7.out.2.2.2.1)) hO10 H7.out.2.2.2.2⟩
              clear hB57 hh7 c7 hownA hcx HLE hbs hown9 hg9 hB9 h29 h210 hO10 hqs
              unfold Hid
              go_wp2_with fail
              go_roundw
              case rel => exact ⟨j + 1, _, by go_num, by omega, HE.out⟩
              case measure => simp [intOf]; omega
        · have hji : ¬ (j : Int) < 16 := by omega
          obtain rfl : j = 16 := by omega
          have HF : Hid (HashesAt wr v (qL h1 k r h L 16) ∧ Below w.heap.size w wr) := ⟨hown.at, below_new HF7.out hB1⟩
          have hz1 := below_holds hB1 HW.out.2.2.2
          unfold brC at h2 hz1
          obtain ⟨pv, cv, rfl⟩ := hown.at.shape
          clear hown hBs hB1
          go_wp2_with (first
            | (refine wpList_loadH rfl 25 _ rfl _ rfl _ _ _ h2 Tryd.underlying25 rfl infoBr ?_)
            | (refine wpList_storeH rfl 25 _ _ rfl _ _ rfl rfl _ _ hz1 infoBr rfl (by simp [Value.oneCell']) ?_; intro W9 h9 hO9 hs9))
          refine bodyPost_ret (results_cellH rfl _ _ _ _ _ _ rfl h9 Tryd.underlying25 rfl infoBr) rfl ?_
          exact ⟨_, rfl, HF.out.1.only hO9 hz1, Only.fresh HF.out.2 hO9 (by have := HG.out; omega)⟩
end Go.Proofs.YtbidoangdnmjfaaDoor
