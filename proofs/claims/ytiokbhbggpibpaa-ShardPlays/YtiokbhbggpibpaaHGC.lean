/-
  Texts of this claim, put together.
-/
import Derived.Test.YtiokbhbggpibpaaHAppW
/-
  What Cut does of chunks that are a set's.
-/
namespace Go.Proofs.Ytiokbhbggpibpaa
open Go Go.RowKit

/-- What is below a number. -/
def lessF (f : Int) (l : List Nat) : List Nat := l.filter fun x : Nat => decide ((x : Int) < f)
theorem lessF_sub (f : Int) (l : List Nat) : (lessF f l).Sublist l := List.filter_sublist
theorem cut_ofN {p : List Nat} (hp : Nums p) (f : Int) : memFrom (cutM (ofN p) f.toNat) 0 = lessF f p := by
  rw [← cut_eq (ofN_bound hp.bound) f, hp.mem]
  rfl
theorem less_all {f : Int} {l : List Nat} (h : ∀ x ∈ l, (x : Int) < f) : lessF f l = l := List.filter_eq_self.2 fun x hx => decide_eq_true (h x hx)
theorem less_app (f : Int) (a b : List Nat) : lessF f (a ++ b) = lessF f a ++ lessF f b := List.filter_append ..
theorem less_mem {f : Int} {l : List Nat} {x : Nat} (h : x ∈ lessF f l) : x ∈ l ∧ (x : Int) < f := by
  obtain ⟨h1, h2⟩ := List.mem_filter.1 h
  exact ⟨h1, of_decide_eq_true h2⟩
theorem less_flat {f : Int} : ∀ {ps : List (List Nat)}, (∀ p ∈ ps, lessF f p = []) → lessF f ps.flatten = []
  | [], _ => rfl
  | p :: ps, h => by
    rw [List.flatten_cons, less_app, h p List.mem_cons_self, less_flat fun q hq => h q (List.mem_cons_of_mem _ hq)]
    rfl
/-- The parts ahead of the last one that keeps a member stay. -/
theorem cut_split {ps : List (List Nat)} (hg : Good ps) {k : Nat} {p : List Nat} (hp : ps[k]? = some p) {f : Int} (hne : lessF f p ≠ []) (hr : ∀ (i : Nat) q, k < i → ps[i]? = some q → lessF f q = []) {L : List Ck} (hL : SplitOf (lessF f p) L) :
    SplitOf (lessF f ps.flatten) (fulls (ps.take k) ++ L) ∧ (chk ps).take k = fulls (ps.take k) := by
  have hk := (List.getElem?_eq_some_iff.1 hp).1
  have hdec : ps = ps.take k ++ (p :: ps.drop (k + 1)) := by
    rw [← (List.getElem?_eq_some_iff.1 hp).2, ← List.drop_eq_getElem_cons hk, List.take_append_drop]
  obtain ⟨x, hx⟩ := List.exists_mem_of_ne_nil _ hne
  obtain ⟨hxp, hxf⟩ := less_mem hx
  have h1 : lessF f (ps.take k).flatten = (ps.take k).flatten := less_all fun y hy => by
    obtain ⟨q, hq, hyq⟩ := List.mem_flatten.1 hy
    obtain ⟨i, hi⟩ := List.mem_iff_getElem?.1 hq
    rw [List.getElem?_take] at hi
    split at hi
    · have := hg.rise (by assumption) hi hp y hyq x hxp
      omega
    · cases hi
  have h2 : lessF f (ps.drop (k + 1)).flatten = [] := less_flat fun q hq => by
    obtain ⟨i, hi⟩ := List.mem_iff_getElem?.1 hq
    rw [List.getElem?_drop] at hi
    exact hr (k + 1 + i) q (by omega) hi
  have h3 : lessF f ps.flatten = (ps.take k).flatten ++ lessF f p := by
    rw [hdec, List.flatten_append, List.flatten_cons, less_app, less_app, ← List.append_assoc]
    have e : (ps.take k ++ p :: ps.drop (k + 1)).take k = ps.take k := by rw [← hdec]
    have e2 : (ps.take k ++ p :: ps.drop (k + 1)).drop (k + 1) = ps.drop (k + 1) := by rw [← hdec]
    rw [e, h1, h2, List.append_nil]
  refine ⟨?_, ?_⟩
  · rw [h3]
    refine splitOf_app (fun q hq => ?_) hL hne
    obtain ⟨i, hi⟩ := List.mem_iff_getElem?.1 hq
    rw [List.getElem?_take] at hi
    split at hi
    · exact hg.parted.full hi (by omega)
    · cases hi
  · have e : chk ps = fulls (ps.take k) ++ chk (p :: ps.drop (k + 1)) := by
      rw [← chk_app (ps.take k) (by simp), ← hdec]
    have hl : (fulls (ps.take k)).length = k := by unfold fulls; rw [List.length_map, List.length_take]; omega
    rw [e]
    generalize fulls (ps.take k) = FK at hl
    rw [← hl]
    exact List.take_left
theorem SetsAt.cut {w w' : World} {lo j : Nat} {Bs : List (Nat × Option Nat)} {ps : List (List Nat)} (h : SetsAt w lo Bs ps) {x : Nat × Option Nat} (hx : Bs[j]? = some x) (o : OnlyM x.2 w w') : SetsAt w' lo (Bs.take j) (ps.take j) := by
  have hj := (List.getElem?_eq_some_iff.1 hx).1
  refine ⟨by rw [List.length_take, List.length_take, h.len], fun i y p hy hp => ?_, fun y hy => h.low y (List.mem_of_mem_take hy), h.apart.sublist (List.take_sublist _ _)⟩
  rw [List.getElem?_take] at hy hp
  split at hy
  · rename_i hij
    rw [if_pos hij] at hp
    have hs := h.sets i y p hy hp
    have hap : ∀ k, Own2 y k → ∀ l, Own2 x l → k < l := by
      obtain ⟨h1, e1⟩ := List.getElem?_eq_some_iff.1 hy
      obtain ⟨h2, e2⟩ := List.getElem?_eq_some_iff.1 hx
      have := List.pairwise_iff_getElem.1 h.apart i j h1 h2 hij
      rw [e1, e2] at this
      exact this
    refine ⟨o.holds hs.ptr fun e => ?_, hs.map.block fun m hm => o.block m (hs.map.lt m hm) fun e => ?_⟩
    · have := hap y.1 (.inl rfl) y.1 (.inr e.symm); omega
    · have := hap m (.inr hm) m (.inr e.symm); omega
  · cases hy
theorem onlyM_below {w0 w w' : World} {mo : Option Nat} (h : Below w0.heap.size w0 w) (o : OnlyM mo w w') (hm : ∀ m, mo = some m → w0.heap.size ≤ m) : Below w0.heap.size w0 w' :=
  ⟨o.os.trans h.os, o.tape.trans h.tape, o.output.trans h.output, Nat.le_trans h.size o.size, fun k hk => (o.block k (Nat.lt_of_lt_of_le hk h.size) (fun e => by have := hm k e.symm; omega)).trans (h.block k hk)⟩
theorem SetAt.neH {w : World} {b q : Nat} {mo : Option Nat} {M : Nat → Bool} {t : TypeId} {cs : Array Value} (h : SetAt w b mo M) (hq : Holds w q t cs) : some q ≠ mo := fun e => by
  have hm := h.map
  rw [← e] at hm
  obtain ⟨es, clock, hob⟩ := MapAt.obj hm
  unfold Holds at hq
  rw [hob] at hq
  cases hq
end Go.Proofs.Ytiokbhbggpibpaa
/-
  What Cut does of chunks that are a set's.
-/
namespace Go.Proofs.Ytiokbhbggpibpaa
open Go Go.RowKit

set_option maxRecDepth 8000 in
set_option maxHeartbeats 8000000 in
theorem hcut_ok {w : World} {v : Value} {ps : List (List Nat)} (hv : ChunksAt w v (chk ps)) (hg : Good ps) (hl : ps.length ≤ 10000) (f : Int) (hf : f ≤ 9223372036854775807) :
    Calls Try.prog 20 #[v, .int .i64 f] w fun e w' => ∃ v' L, e = .returned (.tuple #[v', .int .i64 0]) ∧ SplitOf (lessF f ps.flatten) L ∧ OwnChunks w' w.heap.size v' L ∧ Below w.heap.size w w' := by
  have hrd := hread_ok hv hg (by omega)
  obtain ⟨p0, c0, rfl⟩ := hv.shape
  rw [chk_len] at hv hrd ⊢
  obtain ⟨m, hm⟩ : ∃ m, ps.length = m := ⟨_, rfl⟩
  have HM : Hid (ps.length = m) := hm
  rw [hm] at hv hrd hl ⊢
  clear hm
  have hmi : (m : Int) ≤ 10000 := by omega
  go_enter Try.func20, Try.ntmps20
  go_wp2_with fail
  refine hrd.mono ?_
  rintro e w1 ⟨q, Bs, rfl, hq, hS, hB1⟩
  clear hrd
  have F0 : Hid (Holds w1 q 29 (ptrs Bs).toArray ∧ SetsAt w1 w.heap.size Bs ps ∧ Below w.heap.size w w1) := ⟨hq, hS, hB1⟩
  have hbl : Bs.length = m := by rw [hS.len, HM.out]
  have HBL : Hid (Bs.length = m) := hbl
  clear hq hS hB1 hbl
  go_wp2_with fail
  go_loopw [8] (fun y wr => ∃ j : Nat, y = .int .i64 ((j : Int) - 1) ∧ j ≤ m ∧ Holds wr q 29 (ptrs Bs).toArray ∧ SetsAt wr w.heap.size (Bs.take j) (ps.take j) ∧ Hid (∀ (i : Nat) p, j ≤ i → ps[i]? = some p → lessF f p = []) ∧ Below w.heap.size w wr) (fun y _ => (intOf y + 1).toNat)
  case atStart => exact ⟨m, by go_num, Nat.le_refl _, F0.out.1, by rw [List.take_of_length_le (by rw [HBL.out]; exact Nat.le_refl _), List.take_of_length_le (by rw [HM.out]; exact Nat.le_refl _)]; exact F0.out.2.1, fun i p hi hp => by (have := (List.getElem?_eq_some_iff.1 hp).1; rw [HM.out] at this; omega), F0.out.2.2⟩
  case round =>
    clear F0
    obtain ⟨j, rfl, hj, hq, hS, HR, hB⟩ := hrel
    by_cases hz : j = 0
    · have hji : (j : Int) - 1 = -1 := by omega
      have HF : Hid (SplitOf (lessF f ps.flatten) []) := by
        refine ⟨[], trivial, ?_, rfl⟩
        rw [less_flat fun p hp => ?_]
        · rfl
        · obtain ⟨i, hi⟩ := List.mem_iff_getElem?.1 hp
          exact HR.out i p (by omega) hi
      clear hz hq hS HR
      go_wp2_with fail
      go_ret2
      exact ⟨_, _, rfl, HF.out, OwnChunks.nil _ _, hB⟩
    · obtain ⟨k, hk⟩ : ∃ k, j - 1 = k := ⟨_, rfl⟩
      have hji : (j : Int) - 1 = (k : Int) := by omega
      have hkm : (k : Int) < m := by omega
      have hk0 : (k : Int) ≥ 0 := by omega
      have hkj : k < j := by omega
      have HKJ : Hid (k + 1 = j) := by show _ = _; omega
      have hkl : k < m := by omega
      obtain ⟨p, hp⟩ : ∃ p, ps[k]? = some p := ⟨_, List.getElem?_eq_getElem (by rw [HM.out]; exact hkl)⟩
      obtain ⟨⟨bt, mt⟩, hbt⟩ : ∃ x, Bs[k]? = some x := ⟨_, List.getElem?_eq_getElem (by rw [HBL.out]; exact hkl)⟩
      obtain ⟨hpn, hp1, hp64⟩ := hg.at hp
      have hbtj : (Bs.take j)[k]? = some (bt, mt) := by rw [List.getElem?_take, if_pos hkj]; exact hbt
      have hset := hS.sets k _ _ hbtj (by rw [List.getElem?_take, if_pos hkj]; exact hp)
      have hlo := hS.low _ (List.mem_of_getElem? hbtj)
      have hlowm : ∀ m, mt = some m → w.heap.size ≤ m := fun m h => hlo m (.inr h)
      have hcq : wr.cell? ⟨q, k, none⟩ = some (.pointer (some ⟨bt, 0, none⟩)) := by
        rw [hq.cell k]
        unfold ptrs
        simp [hbt]
      have hct := cut_any hset.view f hf
      generalize ((card (ofN p) : Nat) : Int) - ((card (cutM (ofN p) f.toNat) : Nat) : Int) = cc at hct
      rw [hji]
      clear hz hk hji
      go_wp2_with fail
      refine hct.mono ?_
      rintro e w2 ⟨rfl, hv2, hO2⟩
      clear hct
      have hmem := cut_ofN hpn f
      have hln := len_any hv2
      rw [card_len, hmem] at hln
      have hq2 := hO2.holds hq (hset.neH hq)
      have hS2 := hS.cut hbtj hO2
      rw [List.take_take, List.take_take, Nat.min_eq_left (by omega)] at hS2
      have hB2 := onlyM_below hB hO2 hlowm
      have hll : (lessF f p).length ≤ 64 := Nat.le_trans (lessF_sub f p).length_le hp64
      by_cases hne : lessF f p = []
      · have hl0 : (lessF f p).length = 0 := by rw [hne]; rfl
        rw [hl0] at hln
        have HR2 : Hid (∀ (i : Nat) p, k ≤ i → ps[i]? = some p → lessF f p = []) := fun i p' hi hp' => by
          rcases Nat.lt_or_ge k i with h | h
          · exact HR.out i p' (by have := HKJ.out; omega) hp'
          · have : i = k := by omega
            subst this
            have e := Option.some.inj (hp.symm.trans hp')
            rw [← e]; exact hne
        clear hne hl0 HR hS hq hset hlo hB hcq hmem
        go_wp2_with fail
        refine hln.mono ?_
        rintro e w3 ⟨rfl, hB3⟩
        clear hln
        have F3 : Hid (Holds w3 q 29 (ptrs Bs).toArray ∧ SetsAt w3 w.heap.size (Bs.take k) (ps.take k) ∧ Below w.heap.size w w3) := ⟨below_holds hB3 hq2, hS2.below hB3, below_new hB2 hB3⟩
        clear hq2 hS2 hB2 hB3 hv2
        go_wp2_with fail
        go_roundw
        case rel => exact ⟨k, by go_num, by omega, F3.out.1, F3.out.2.1, HR2, F3.out.2.2⟩
        case measure => simp [intOf]
      · have hpos : 0 < (lessF f p).length := List.length_pos_iff.2 hne
        have hsp := fun W (hW : Below w2.heap.size w2 W) => hsplit_any (hv2.below hW) (by rw [hmem]; omega)
        rw [hmem] at hsp
        have HS := fun L (h : SplitOf (lessF f p) L) => cut_split hg hp hne (fun i q hi hq => HR.out i q (by have := HKJ.out; omega) hq) h
        obtain ⟨hsl, hrow⟩ := chunks_to hv k (by rw [chk_len, HM.out]; omega)
        have hspl : ∀ L, SplitOf (lessF f p) L → L.length ≤ 1000 := fun L h => split_len h (by omega)
        generalize hlf : (lessF f p).length = ln at hln hpos hll
        generalize lessF f p = pf at hsp HS hspl
        clear hlf hne HR hS hq hset hlo hB hcq hmem hS2 hq2
        go_wp2_with fail
        refine hln.mono ?_
        rintro e w3 ⟨rfl, hB3⟩
        clear hln
        go_wp2_with fail
        refine wp_region_plan (fun _ => True) [.take 0, .take 1, .take 2, .take 3, .one 4, .one 5, .one 6, .one 7, .one 8] mixedP (by kernel_rfl) rfl (by kernel_rfl) (fun _ _ _ d _ h => by cases d <;> exact h) trivial ?_
        refine plan_valG (some 35) rfl rfl rfl (.slice p0 m c0) (fun _ => by go_simp) ?_
        go_frame
        refine plan_valG (some 36) rfl rfl rfl (.int .i64 (k : Int)) (fun _ => by go_simp) ?_
        go_frame
        refine plan_valG (some 37) rfl rfl rfl (.slice p0 k c0) (fun _ => by go_simp) ?_
        go_frame
        refine plan_valG (some 38) rfl rfl rfl (.pointer (some ⟨bt, 0, none⟩)) (fun _ => by go_simp) ?_
        go_frame
        refine plan_callG (some 39) rfl rfl rfl (f := 12) (vs := #[.pointer (some ⟨bt, 0, none⟩)]) (by go_simp) ((hsp _ (below_new hB3 (below_drewH _))).mono ?_)
        rintro e w5 ⟨v5, L5, rfl, hs5, ho5, hB5⟩
        clear hsp
        refine ⟨_, rfl, trivial, ?_⟩
        go_frame
        obtain ⟨p5, c5, rfl⟩ := ho5.at.shape
        have hB5' := below_new (below_new (below_new hB2 hB3) (below_drewH w3)) hB5
        obtain ⟨hfin, hfull⟩ := HS L5 hs5
        rw [hfull] at hrow
        have hl5 := hspl L5 hs5
        have hfl : (fulls (ps.take k)).length ≤ 10000 := by unfold fulls; rw [List.length_map, List.length_take]; omega
        generalize fulls (ps.take k) = FK at hrow hfin hfl
        refine plan_one (some 40) rfl rfl rfl (v := .slice (some ⟨w5.heap.size, 0, none⟩) 2 2) (w' := w5.alloc (.cells #[.slice p0 k c0, .slice p5 L5.length c5] 23)) (by go_simp) trivial ?_
        go_frame
        have hB6 := below_new1 w5 (.cells #[.slice p0 k c0, .slice p5 L5.length c5] 23)
        have hrow0 := (hrow.below hB5').below hB6
        have hcc := concat_any (w := w5.alloc (.cells #[.slice p0 k c0, .slice p5 L5.length c5] 23)) (q := w5.heap.size) (vs := [.slice p0 k c0, .slice p5 L5.length c5]) (ls := [FK, L5]) (Holds.new _ _ _) rfl (fun i v l hv hl => by
          match i with
          | 0 => simp at hv hl; rw [← hv, ← hl]; exact hrow0
          | 1 => simp at hv hl; rw [← hv, ← hl]; exact ho5.at.below hB6
          | j + 2 => simp at hv) (by simp; omega) (by simp)
        refine plan_callG (some 41) rfl rfl rfl (f := 40) (vs := #[.slice (some ⟨w5.heap.size, 0, none⟩) 2 2]) (by go_simp) (hcc.mono ?_)
        rintro e w7 ⟨v7, rfl, ho7, hB7⟩
        clear hcc
        refine ⟨_, rfl, trivial, ?_⟩
        go_frame
        refine plan_one (some 4) rfl rfl rfl (v := v7) (w' := w7) rfl trivial ?_
        go_frame
        refine plan_one (some 5) rfl rfl rfl (v := .int .i64 0) (w' := w7) rfl trivial ?_
        go_frame
        have HF : Hid (SplitOf (lessF f ps.flatten) (FK ++ L5) ∧ OwnChunks w7 w.heap.size v7 (FK ++ L5) ∧ Below w.heap.size w w7) := by
          have hsz := hB5'.size
          have hsz6 := hB6.size
          refine ⟨hfin, ?_, below_new (below_new hB5' hB6) hB7⟩
          have : [FK, L5].flatten = FK ++ L5 := by simp
          rw [← this]
          exact ho7.mono (by omega)
        clear ho7 hs5 ho5 hB7 hB6 hB5' hB5 hfin
        refine then_normalH ?_
        go_at_K
        go_wp2_with fail
        go_ret2
        exact ⟨_, _, rfl, HF.out.1, HF.out.2.1, HF.out.2.2⟩
end Go.Proofs.Ytiokbhbggpibpaa
