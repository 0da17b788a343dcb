/-
  BitsetCuts' walk.
-/
import Derived.Test.YtkbpoplodfihoaaBOrderW
namespace Go.Proofs.Ytkbpoplodfihoaa
open Go Go.RowKit Go.Maps

theorem wpQ_ldI {ops : Array Oper} {rest : List Oper} {op : Oper} {a : Act} {C : World → Prop} {Q : Act → Prop} (hgd : op.guard = none) (x : Operand) (ho : op.op = .load 3 x)
    {ad : Addr} (hx : a.eval x = .pointer (some ad)) {v : Value} (hh : ∀ w, C w → w.cell? ad = some v)
    (h : wpQuiet Try.prog ops C Q rest (a.put op.dst v)) : wpQuiet Try.prog ops C Q (op :: rest) a :=
  wpQuiet_step fun _ hK => by
    rw [if_pos (by simp [Region.wanted, hgd])]
    refine ⟨v, fun w hw => ?_, hK _ h⟩
    have hl : (loadVar 3 ad).run Try.prog w = .ok v w := by simp [go_sem, hh w hw]
    unfold Oper.quietAt execOp
    simp only [ho, hx, Instr.loadAt, Instr.sureAddr, Sem.run_bind, Sem.run_pure, Result.andThen_ok, hl]
    exact ⟨rfl, rfl⟩

theorem View.empty {w : World} {s : Value} {M : Nat → Bool} (h : View w s none M) : M = fun _ => false := funext h.map
theorem cut_any {w : World} {s : Value} {mo : Option Nat} {M : Nat → Bool} (h : View w s mo M) (fr : Int) (hfr : fr ≤ 9223372036854775807) :
    Calls Try.prog 12 #[s, .int .i64 fr] w fun e w' => e = .returned (.int .i64 ((card M : Nat) - (card (cutM M fr.toNat) : Nat) : Int)) ∧ View w' s mo (cutM M fr.toNat) ∧ OnlyM mo w w' := by
  cases mo with
  | some m => exact cut_some h fr hfr
  | none =>
    refine (cut_none h fr hfr).mono ?_
    rintro e w' ⟨rfl, hv, hB⟩
    have he := h.empty
    have hc : cutM M fr.toNat = M := by subst he; rfl
    rw [hc]
    exact ⟨by simp, hv, OnlyM.below hB⟩

theorem mem_cut {M : Nat → Bool} (hM : ∀ n, M n = true → n < 2147483648) (f : Nat) : memFrom (cutM M f) 0 = (memFrom M 0).filter fun x => decide (x < f) := by
  have hb : ∀ n, cutM M f n = true → n < 2147483648 := fun n h => hM n (by unfold cutM at h; simp at h; exact h.1)
  refine eq_of_rising (memFrom_rises _ _) (List.Pairwise.filter _ (memFrom_rises _ _)) fun n => ?_
  rw [mem_memFrom hb, List.mem_filter, mem_memFrom hM]
  unfold cutM
  simp
theorem card_cut {M : Nat → Bool} (hM : ∀ n, M n = true → n < 2147483648) (f : Nat) : card (cutM M f) = (memFrom M 0).countP fun x => decide (x < f) := by
  rw [card_len, mem_cut hM, List.countP_eq_length_filter]
theorem card_cut0 (M : Nat → Bool) : card (cutM M 0) = 0 := by
  have : cutM M 0 = fun _ => false := by funext n; unfold cutM; simp
  rw [this, card_len]
  cases h : memFrom (fun _ => false) 0 with
  | nil => rfl
  | cons a l =>
    have := (mem_memFrom (M := fun _ => false) (by simp) (f := 0) (n := a)).1 (by rw [h]; simp)
    simp at this
theorem bytes_cut0 (M : Nat → Bool) : bytesM (cutM M 0) = [] := by
  unfold bytesM
  cases h : uppers (cutM M 0) 0 with
  | nil => rfl
  | cons a l =>
    obtain ⟨_, _, x, _, hx⟩ := mem_uppers.1 (by rw [h]; simp : a ∈ uppers (cutM M 0) 0)
    unfold cutM at hx
    simp at hx
theorem least_cut {M : Nat → Bool} {f n : Nat} {b : Bool} (h : LeastOf (cutM M f) f n b) : b = false := by
  cases b with
  | false => rfl
  | true =>
    obtain ⟨h1, h2, _⟩ := h
    unfold cutM at h1
    simp at h1
    omega
theorem hasI_cut {M : Nat → Bool} {f : Nat} {x : Nat} {q : Int} (hx : M x = true) (hf : q.toNat = f) : hasI (cutM M f) (x : Int) = decide ((x : Int) < q) := by
  rw [hasI_pos]
  unfold cutM
  rw [hx, Bool.true_and]
  exact decide_eq_decide.2 (by omega)
/-- A slice that is the call's own. -/
theorem OwnInts.ints {w : World} {base : Nat} {v : Value} {L : List Nat} (h : OwnInts w base v L) : ∃ p c, v = .slice p L.length c ∧ ∀ i x, L[i]? = some x → ∃ g, p = some ⟨g, 0, none⟩ ∧ w.cell? ⟨g, i, none⟩ = some (.int .i64 (x : Nat)) ∧ ∃ cs, Holds w g 3 cs ∧ cs[i]? = some (Value.int .i64 (x : Nat)) := by
  have hc := h
  rcases h.2 with ⟨hv, h0⟩ | ⟨g, cap, cur, hv, _, hb, _⟩
  · refine ⟨none, 0, by rw [hv, h0], fun i x hi => ?_⟩
    have := (List.getElem?_eq_some_iff.1 hi).1
    omega
  · subst hv
    refine ⟨_, cap, rfl, fun i x hi => ?_⟩
    have e := hc.cells (g := g) rfl i (.int .i64 (x : Nat)) (by rw [List.getElem?_map, hi]; rfl)
    rw [Addr.add_mid, Nat.zero_add] at e
    refine ⟨g, rfl, e, cur, hb, ?_⟩
    have hh : Holds w g 3 cur := hb
    exact (hh.cell i).symm.trans e
theorem countP_take {L : List Nat} {P : Nat → Bool} {i x : Nat} (h : L[i]? = some x) : (L.take (i + 1)).countP P = (L.take i).countP P + (if P x then 1 else 0) := by
  have hi := (List.getElem?_eq_some_iff.1 h).1
  rw [List.take_succ_eq_append_getElem hi, List.countP_append]
  rw [List.getElem?_eq_getElem hi] at h
  injection h with h
  rw [h]
  cases hp : P x <;> simp [hp]

set_option maxRecDepth 100000 in
set_option maxHeartbeats 4000000 in
theorem cuts_walk {w : World} {p : Option Addr} {n c : Nat} {l : List Int} (hv : IntsAt w (.slice p n c) l) (hnc : n ≤ c) (hcm : c ≤ 9223372036854775807) (hr : ∀ x ∈ l, x ≤ 9223372036854775807) (q : Int) (hq : -9223372036854775808 ≤ q ∧ q ≤ 9223372036854775807) :
    Calls Try.prog 8 #[.slice p n c, .int .i64 q] w fun e w' => e = .returned (.bool true) ∧ Below w.heap.size w w' := by
  have haw := awake_any w
  have hlen := hv.len
  by_cases h2 : 300 < n
  · have h2i : (300 : Int) < n := by omega
    have hci : (300 : Int) ≤ c := by omega
    have hcn : 300 ≤ c := by omega
    obtain ⟨b0, o0, rfl, _⟩ := hv.at (i := 0) (by omega)
    have hv2 := hv.cut 300 (by omega)
    have hr2 : ∀ x ∈ l.take 300, x ≤ 9223372036854775807 := fun x hx => hr x (List.mem_of_mem_take hx)
    have hl2 := hv2.len
    generalize l.take 300 = l2 at hv2 hr2 hl2
    clear hv hr hlen
    have hnw := fun W hB => new_any (hv2.below (w' := W) hB) hr2 (by omega)
    obtain ⟨f, hf⟩ : ∃ f, q.toNat = f := ⟨_, rfl⟩
    have hfm : f ≤ 9223372036854775807 := by omega
    have hmx : max q 0 = (f : Int) := by omega
    generalize ofInts l2 = M at hnw
    go_enter Try.func8, Try.ntmps8
    go_wp2_with (first
      | (go_at_call 9; refine haw.mono ?_; rintro e w1 ⟨rfl, hB1⟩; have hnw1 := hnw w1 hB1; clear hnw)
      | (go_at_call 10; refine hnw1.mono ?_; rintro e w2 ⟨bs, rfl, mos, hs, hbs, hms, hB2⟩; clear hnw1; have hv2' := hs.view; have hM := hv2'.map.bound; have hmem := members_any hv2'; have hcc := card_le M; have hcL := card_len M; have hcf := card_cut hM f; have hin : ∀ x ∈ memFrom M 0, M x = true := fun x hx => ((mem_memFrom hM).1 hx).2; have hlt : ∀ x ∈ memFrom M 0, x < 2147483648 := fun x hx => hM x (hin x hx); generalize memFrom M 0 = L at hmem hcL hcf hin hlt)
      | (go_at_call 19; refine hmem.mono ?_; rintro e w3 ⟨v, rfl, hrow, hB3⟩; have hv3 := hv2'.below hB3; obtain ⟨pL, cL, rfl, hLc⟩ := hrow.ints; have hcu := cut_any hv3 q hq.2; rw [hf] at hcu)
      | (go_at_call 12; refine hcu.mono ?_; rintro e w4 ⟨rfl, hv4, hO4⟩))
    have hB12 := below_new hB1 hB2
    have hB13 := below_new hB12 hB3
    have hB4 : Below w.heap.size w w4 := hB13.trans ⟨hO4.os, hO4.tape, hO4.output, hO4.size, fun k hk => hO4.block k (by have := hB13.size; omega) (fun e => by have := hms k e.symm; have := hB1.size; omega)⟩
    have hL4 : ∀ i x, L[i]? = some x → ∃ g, pL = some ⟨g, 0, none⟩ ∧ ∃ cs, Holds w4 g 3 cs ∧ cs[i]? = some (Value.int .i64 (x : Nat)) := fun i x hi => by
      obtain ⟨g, h1, _, cs, h2, h3⟩ := hLc i x hi
      refine ⟨g, h1, cs, hO4.holds h2 ?_, h3⟩
      cases mos with
      | none => simp
      | some m => exact map_ne hv3.map h2
    have hLl : L.length ≤ 2147483648 := by omega
    clear hLc hrow hcu hmem hv3 hv2' hs hO4
    go_loopw [9, 10] (fun z y wr => ∃ i : Nat, y = .int .i64 (i : Nat) ∧ z = .int .i64 ((L.take i).countP (fun x => decide (x < f)) : Nat) ∧ i ≤ L.length ∧ Below w4.heap.size w4 wr) (fun _ y _ => L.length - (intOf y).toNat)
    case atStart => exact ⟨0, rfl, by simp, Nat.zero_le _, Below.refl _ _⟩
    case round =>
      obtain ⟨i, rfl, rfl, hi, hBr⟩ := hrel
      have hvr := hv4.below hBr
      by_cases hil : i < L.length
      · have hili : (i : Int) < L.length := by omega
        have hi0 : (0 : Int) ≤ i := by omega
        obtain ⟨x, hx⟩ : ∃ x, L[i]? = some x := ⟨_, List.getElem?_eq_getElem hil⟩
        obtain ⟨g, rfl, cs, hcs, hcx⟩ := hL4 i x hx
        have hxm := List.mem_of_getElem? hx
        have hcell : ∀ W, Below wr.heap.size wr W → W.cell? ⟨g, i, none⟩ = some (.int .i64 (x : Nat)) := fun W hB => ((below_holds hB (below_holds hBr hcs)).cell i).trans hcx
        have hc0 := hcell wr (Below.refl _ _)
        have hct := countP_take (P := fun x => decide (x < f)) hx
        have hcb : (L.take i).countP (fun x => decide (x < f)) ≤ i := Nat.le_trans List.countP_le_length (by rw [List.length_take]; omega)
        have hhs : ∀ W, Below wr.heap.size wr W → Calls Try.prog 24 #[.pointer (some ⟨bs, 0, none⟩), .int .i64 (x : Nat)] W fun e w' => e = .returned (.bool (decide ((x : Int) < q))) ∧ Below wr.heap.size wr w' := fun W hB => by
          have := has5_any (hvr.below hB) (x : Int) (by have := hlt x hxm; omega)
          rw [hasI_cut (hin x hxm) hf] at this
          exact this.mono fun e w' ⟨h1, h2⟩ => ⟨h1, hB.trans (h2.mono hB.size)⟩
        generalize (L.take i).countP (fun x => decide (x < f)) = cn at hct hcb ⊢
        have hcnI : (cn : Int) ≤ 2147483648 := by omega
        have hcn0 : (0 : Int) ≤ cn := by omega
        have HF : Hid (q.toNat = f) := hf
        clear hf
        by_cases hxq : (x : Int) < q
        · go_wp2_with fail
          refine wp_region_class (fun w' => Below wr.heap.size wr w') mixedP (by kernel_rfl) (Below.refl _ _).drew ?_
          go_big_quiet_step (fail)
          go_big_quiet_step (fail)
          go_big_quiet_step (fail)
          go_big_quiet_step (exact fun _ => rfl)
          refine wpQ_ldI rfl _ rfl rfl (fun w' hw' => hcell w' hw') ?_
          go_frame
          refine wpQ_call rfl 24 #[.pointer (some ⟨bs, 0, none⟩), .int .i64 (x : Nat)] (fun _ => by go_simp) (.bool (decide ((x : Int) < q))) (fun w5 h5 => hhs w5 h5) ?_
          go_frame
          go_big_quiet_step (fail)
          go_big_quiet_step (fail)
          go_big_quiet_step (exact fun _ => rfl)
          refine wpQ_ldI rfl _ rfl rfl (fun w' hw' => hcell w' hw') ?_
          go_frame
          go_big_quiet_step (fail)
          go_big_quiet_step (exact fun _ => rfl)
          go_big_quiet_step (exact fun _ => rfl)
          refine wpQuiet_nil ?_
          intro W6 hB6
          show Exit.then _ _ Exit.normal _ _
          simp only [Exit.then]
          go_at_K
          go_wp2_with fail
          refine ⟨⟨i + 1, by simp, ?_, by omega, hBr.trans (hB6.mono hBr.size)⟩, by simp [intOf]; omega⟩
          have hxf : x < f := by have := HF.out; omega
          rw [hct]
          simp [hxf]
        · go_wp2_with fail
          refine wp_region_class (fun w' => Below wr.heap.size wr w') mixedP (by kernel_rfl) (Below.refl _ _).drew ?_
          go_big_quiet_step (fail)
          go_big_quiet_step (fail)
          go_big_quiet_step (fail)
          go_big_quiet_step (exact fun _ => rfl)
          refine wpQ_ldI rfl _ rfl rfl (fun w' hw' => hcell w' hw') ?_
          go_frame
          refine wpQ_call rfl 24 #[.pointer (some ⟨bs, 0, none⟩), .int .i64 (x : Nat)] (fun _ => by go_simp) (.bool (decide ((x : Int) < q))) (fun w5 h5 => hhs w5 h5) ?_
          go_frame
          go_big_quiet_step (fail)
          go_big_quiet_step (fail)
          go_big_quiet_step (exact fun _ => rfl)
          refine wpQ_ldI rfl _ rfl rfl (fun w' hw' => hcell w' hw') ?_
          go_frame
          go_big_quiet_step (fail)
          go_big_quiet_step (exact fun _ => rfl)
          go_big_quiet_step (exact fun _ => rfl)
          refine wpQuiet_nil ?_
          intro W6 hB6
          show Exit.then _ _ Exit.normal _ _
          simp only [Exit.then]
          go_at_K
          go_wp2_with fail
          refine ⟨⟨i + 1, by simp, ?_, by omega, hBr.trans (hB6.mono hBr.size)⟩, by simp [intOf]; omega⟩
          have hxf : ¬ x < f := by have := HF.out; omega
          rw [hct]
          simp [hxf]
      · have hili : ¬ (i : Int) < L.length := by omega
        obtain rfl : i = L.length := by omega
        rw [List.take_length, ← hcf]
        have hcle := card_le (cutM M f)
        have hls := least_any hvr q f hmx hfm
        have hcLi : (L.length : Int) = (card M : Nat) := by omega
        have hcc1 : card (cutM M f) ≤ card M := by rw [hcf, hcL]; exact List.countP_le_length
        have hcf0 : Hid (card (cutM M f) = List.countP (fun x => decide (x < f)) L) := hcf
        have hz := card_cut0 (cutM M f)
        have hz2 := bytes_cut0 (cutM M f)
        clear hcf hL4
        go_wp2_with (first
          | (go_at_call 25; refine hls.mono ?_; rintro e w5 ⟨n5, b5, rfl, hn5, hB5⟩; obtain rfl := least_cut hn5; have hv5 := hvr.below hB5; have hl5 := len_any hv5)
          | (go_at_call 17; refine hl5.mono ?_; rintro e w6 ⟨rfl, hB6⟩; clear hl5; have hv6 := hv5.below hB6; have hc6 := cut_any hv6 0 (by decide); rw [show (0 : Int).toNat = 0 from rfl, hz] at hc6)
          | (go_at_call 12; refine hc6.mono ?_; rintro e w7 ⟨rfl, hv7, hO7⟩; have hl7 := len_any hv7; rw [hz] at hl7)
          | (go_at_call 17; refine hl7.mono ?_; rintro e w8 ⟨rfl, hB8⟩; have hy8 := bytes_any (hv7.below hB8); rw [hz2] at hy8)
          | (go_at_call 20; refine hy8.mono ?_; rintro e w9 ⟨rfl, hB9⟩))
        go_ret
        refine ⟨by simp, ?_⟩
        have hBrw := hB4.trans (hBr.mono hB4.size)
        have hB6w := below_new (below_new hBrw hB5) hB6
        have hB7w : Below w.heap.size w w7 := hB6w.trans ⟨hO7.os, hO7.tape, hO7.output, hO7.size, fun k hk => hO7.block k (by have := hB6w.size; omega) (fun e => by have := hms k e.symm; have := hB1.size; omega)⟩
        exact below_new (below_new hB7w hB8) hB9
  · have h2i : ¬ (300 : Int) < n := by omega
    have hv2 := hv
    have hr2 := hr
    have hl2 := hlen
    generalize l = l2 at hv2 hr2 hl2
    clear hv hr hlen
    have hnw := fun W hB => new_any (hv2.below (w' := W) hB) hr2 (by omega)
    obtain ⟨f, hf⟩ : ∃ f, q.toNat = f := ⟨_, rfl⟩
    have hfm : f ≤ 9223372036854775807 := by omega
    have hmx : max q 0 = (f : Int) := by omega
    generalize ofInts l2 = M at hnw
    go_enter Try.func8, Try.ntmps8
    go_wp2_with (first
      | (go_at_call 9; refine haw.mono ?_; rintro e w1 ⟨rfl, hB1⟩; have hnw1 := hnw w1 hB1; clear hnw)
      | (go_at_call 10; refine hnw1.mono ?_; rintro e w2 ⟨bs, rfl, mos, hs, hbs, hms, hB2⟩; clear hnw1; have hv2' := hs.view; have hM := hv2'.map.bound; have hmem := members_any hv2'; have hcc := card_le M; have hcL := card_len M; have hcf := card_cut hM f; have hin : ∀ x ∈ memFrom M 0, M x = true := fun x hx => ((mem_memFrom hM).1 hx).2; have hlt : ∀ x ∈ memFrom M 0, x < 2147483648 := fun x hx => hM x (hin x hx); generalize memFrom M 0 = L at hmem hcL hcf hin hlt)
      | (go_at_call 19; refine hmem.mono ?_; rintro e w3 ⟨v, rfl, hrow, hB3⟩; have hv3 := hv2'.below hB3; obtain ⟨pL, cL, rfl, hLc⟩ := hrow.ints; have hcu := cut_any hv3 q hq.2; rw [hf] at hcu)
      | (go_at_call 12; refine hcu.mono ?_; rintro e w4 ⟨rfl, hv4, hO4⟩))
    have hB12 := below_new hB1 hB2
    have hB13 := below_new hB12 hB3
    have hB4 : Below w.heap.size w w4 := hB13.trans ⟨hO4.os, hO4.tape, hO4.output, hO4.size, fun k hk => hO4.block k (by have := hB13.size; omega) (fun e => by have := hms k e.symm; have := hB1.size; omega)⟩
    have hL4 : ∀ i x, L[i]? = some x → ∃ g, pL = some ⟨g, 0, none⟩ ∧ ∃ cs, Holds w4 g 3 cs ∧ cs[i]? = some (Value.int .i64 (x : Nat)) := fun i x hi => by
      obtain ⟨g, h1, _, cs, h2, h3⟩ := hLc i x hi
      refine ⟨g, h1, cs, hO4.holds h2 ?_, h3⟩
      cases mos with
      | none => simp
      | some m => exact map_ne hv3.map h2
    have hLl : L.length ≤ 2147483648 := by omega
    clear hLc hrow hcu hmem hv3 hv2' hs hO4
    go_loopw [9, 10] (fun z y wr => ∃ i : Nat, y = .int .i64 (i : Nat) ∧ z = .int .i64 ((L.take i).countP (fun x => decide (x < f)) : Nat) ∧ i ≤ L.length ∧ Below w4.heap.size w4 wr) (fun _ y _ => L.length - (intOf y).toNat)
    case atStart => exact ⟨0, rfl, by simp, Nat.zero_le _, Below.refl _ _⟩
    case round =>
      obtain ⟨i, rfl, rfl, hi, hBr⟩ := hrel
      have hvr := hv4.below hBr
      by_cases hil : i < L.length
      · have hili : (i : Int) < L.length := by omega
        have hi0 : (0 : Int) ≤ i := by omega
        obtain ⟨x, hx⟩ : ∃ x, L[i]? = some x := ⟨_, List.getElem?_eq_getElem hil⟩
        obtain ⟨g, rfl, cs, hcs, hcx⟩ := hL4 i x hx
        have hxm := List.mem_of_getElem? hx
        have hcell : ∀ W, Below wr.heap.size wr W → W.cell? ⟨g, i, none⟩ = some (.int .i64 (x : Nat)) := fun W hB => ((below_holds hB (below_holds hBr hcs)).cell i).trans hcx
        have hc0 := hcell wr (Below.refl _ _)
        have hct := countP_take (P := fun x => decide (x < f)) hx
        have hcb : (L.take i).countP (fun x => decide (x < f)) ≤ i := Nat.le_trans List.countP_le_length (by rw [List.length_take]; omega)
        have hhs : ∀ W, Below wr.heap.size wr W → Calls Try.prog 24 #[.pointer (some ⟨bs, 0, none⟩), .int .i64 (x : Nat)] W fun e w' => e = .returned (.bool (decide ((x : Int) < q))) ∧ Below wr.heap.size wr w' := fun W hB => by
          have := has5_any (hvr.below hB) (x : Int) (by have := hlt x hxm; omega)
          rw [hasI_cut (hin x hxm) hf] at this
          exact this.mono fun e w' ⟨h1, h2⟩ => ⟨h1, hB.trans (h2.mono hB.size)⟩
        generalize (L.take i).countP (fun x => decide (x < f)) = cn at hct hcb ⊢
        have hcnI : (cn : Int) ≤ 2147483648 := by omega
        have hcn0 : (0 : Int) ≤ cn := by omega
        have HF : Hid (q.toNat = f) := hf
        clear hf
        by_cases hxq : (x : Int) < q
        · go_wp2_with fail
          refine wp_region_class (fun w' => Below wr.heap.size wr w') mixedP (by kernel_rfl) (Below.refl _ _).drew ?_
          go_big_quiet_step (fail)
          go_big_quiet_step (fail)
          go_big_quiet_step (fail)
          go_big_quiet_step (exact fun _ => rfl)
          refine wpQ_ldI rfl _ rfl rfl (fun w' hw' => hcell w' hw') ?_
          go_frame
          refine wpQ_call rfl 24 #[.pointer (some ⟨bs, 0, none⟩), .int .i64 (x : Nat)] (fun _ => by go_simp) (.bool (decide ((x : Int) < q))) (fun w5 h5 => hhs w5 h5) ?_
          go_frame
          go_big_quiet_step (fail)
          go_big_quiet_step (fail)
          go_big_quiet_step (exact fun _ => rfl)
          refine wpQ_ldI rfl _ rfl rfl (fun w' hw' => hcell w' hw') ?_
          go_frame
          go_big_quiet_step (fail)
          go_big_quiet_step (exact fun _ => rfl)
          go_big_quiet_step (exact fun _ => rfl)
          refine wpQuiet_nil ?_
          intro W6 hB6
          show Exit.then _ _ Exit.normal _ _
          simp only [Exit.then]
          go_at_K
          go_wp2_with fail
          refine ⟨⟨i + 1, by simp, ?_, by omega, hBr.trans (hB6.mono hBr.size)⟩, by simp [intOf]; omega⟩
          have hxf : x < f := by have := HF.out; omega
          rw [hct]
          simp [hxf]
        · go_wp2_with fail
          refine wp_region_class (fun w' => Below wr.heap.size wr w') mixedP (by kernel_rfl) (Below.refl _ _).drew ?_
          go_big_quiet_step (fail)
          go_big_quiet_step (fail)
          go_big_quiet_step (fail)
          go_big_quiet_step (exact fun _ => rfl)
          refine wpQ_ldI rfl _ rfl rfl (fun w' hw' => hcell w' hw') ?_
          go_frame
          refine wpQ_call rfl 24 #[.pointer (some ⟨bs, 0, none⟩), .int .i64 (x : Nat)] (fun _ => by go_simp) (.bool (decide ((x : Int) < q))) (fun w5 h5 => hhs w5 h5) ?_
          go_frame
          go_big_quiet_step (fail)
          go_big_quiet_step (fail)
          go_big_quiet_step (exact fun _ => rfl)
          refine wpQ_ldI rfl _ rfl rfl (fun w' hw' => hcell w' hw') ?_
          go_frame
          go_big_quiet_step (fail)
          go_big_quiet_step (exact fun _ => rfl)
          go_big_quiet_step (exact fun _ => rfl)
          refine wpQuiet_nil ?_
          intro W6 hB6
          show Exit.then _ _ Exit.normal _ _
          simp only [Exit.then]
          go_at_K
          go_wp2_with fail
          refine ⟨⟨i + 1, by simp, ?_, by omega, hBr.trans (hB6.mono hBr.size)⟩, by simp [intOf]; omega⟩
          have hxf : ¬ x < f := by have := HF.out; omega
          rw [hct]
          simp [hxf]
      · have hili : ¬ (i : Int) < L.length := by omega
        obtain rfl : i = L.length := by omega
        rw [List.take_length, ← hcf]
        have hcle := card_le (cutM M f)
        have hls := least_any hvr q f hmx hfm
        have hcLi : (L.length : Int) = (card M : Nat) := by omega
        have hcc1 : card (cutM M f) ≤ card M := by rw [hcf, hcL]; exact List.countP_le_length
        have hcf0 : Hid (card (cutM M f) = List.countP (fun x => decide (x < f)) L) := hcf
        have hz := card_cut0 (cutM M f)
        have hz2 := bytes_cut0 (cutM M f)
        clear hcf hL4
        go_wp2_with (first
          | (go_at_call 25; refine hls.mono ?_; rintro e w5 ⟨n5, b5, rfl, hn5, hB5⟩; obtain rfl := least_cut hn5; have hv5 := hvr.below hB5; have hl5 := len_any hv5)
          | (go_at_call 17; refine hl5.mono ?_; rintro e w6 ⟨rfl, hB6⟩; clear hl5; have hv6 := hv5.below hB6; have hc6 := cut_any hv6 0 (by decide); rw [show (0 : Int).toNat = 0 from rfl, hz] at hc6)
          | (go_at_call 12; refine hc6.mono ?_; rintro e w7 ⟨rfl, hv7, hO7⟩; have hl7 := len_any hv7; rw [hz] at hl7)
          | (go_at_call 17; refine hl7.mono ?_; rintro e w8 ⟨rfl, hB8⟩; have hy8 := bytes_any (hv7.below hB8); rw [hz2] at hy8)
          | (go_at_call 20; refine hy8.mono ?_; rintro e w9 ⟨rfl, hB9⟩))
        go_ret
        refine ⟨by simp, ?_⟩
        have hBrw := hB4.trans (hBr.mono hB4.size)
        have hB6w := below_new (below_new hBrw hB5) hB6
        have hB7w : Below w.heap.size w w7 := hB6w.trans ⟨hO7.os, hO7.tape, hO7.output, hO7.size, fun k hk => hO7.block k (by have := hB6w.size; omega) (fun e => by have := hms k e.symm; have := hB1.size; omega)⟩
        exact below_new (below_new hB7w hB8) hB9
end Go.Proofs.Ytkbpoplodfihoaa
