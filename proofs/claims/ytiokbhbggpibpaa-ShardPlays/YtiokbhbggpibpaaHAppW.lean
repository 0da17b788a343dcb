/-
  What Append does of chunks that are a set's.
-/
import Derived.Test.YtiokbhbggpibpaaHGD
namespace Go.Proofs.Ytiokbhbggpibpaa
open Go Go.RowKit

theorem splitOf_app {qs : List (List Nat)} {T : List Nat} {L : List Ck} (hq : ∀ q ∈ qs, q.length = 64) (h : SplitOf T L) (hT : T ≠ []) : SplitOf (qs.flatten ++ T) (fulls qs ++ L) := by
  obtain ⟨rs, h1, h2, rfl⟩ := h
  have hr : rs ≠ [] := fun e => hT (by rw [← h2, e]; rfl)
  exact ⟨qs ++ rs, (parted_app qs hr).2 ⟨hq, h1⟩, by rw [List.flatten_append, h2], (chk_app qs hr).symm⟩
theorem nums_more {l : List Nat} (h : Nums l) {n : Nat} (hn : n < 2147483648) (ha : ∀ x ∈ l, x < n) : Nums (l ++ [n]) := by
  refine ⟨List.pairwise_append.2 ⟨h.rises, List.pairwise_singleton _ _, fun x hx y hy => by rw [List.mem_singleton.1 hy]; exact ha x hx⟩, fun x hx => ?_⟩
  rcases List.mem_append.1 hx with hx | hx
  · exact h.bound x hx
  · rw [List.mem_singleton.1 hx]; exact hn
theorem addM_ofN (p : List Nat) {n : Nat} (hn : n < 2147483648) : addM (ofN p) (n : Int) = ofN (p ++ [n]) := by
  funext k
  unfold addM
  rw [if_pos (by omega), Int.toNat_natCast]
  unfold insN ofN
  rw [Bool.eq_iff_iff, Bool.or_eq_true, decide_eq_true_eq, decide_eq_true_eq, decide_eq_true_eq, List.mem_append, List.mem_singleton]
  exact Or.comm
theorem addB_ofN {p : List Nat} {n : Nat} (hn : n < 2147483648) (ha : ∀ x ∈ p, x < n) : addB (ofN p) (n : Int) = true := by
  unfold addB
  rw [decide_eq_true (by omega), Int.toNat_natCast]
  have : ofN p n = false := decide_eq_false fun h => by have := ha n h; omega
  rw [this]
  rfl
theorem least_noneH {p : List Nat} {n x : Nat} {b : Bool} (ha : ∀ x ∈ p, x < n) (h : LeastOf (ofN p) n x b) : b = false := by
  cases b with
  | false => rfl
  | true =>
    obtain ⟨h1, h2, _⟩ := h
    have := ha x (of_decide_eq_true h1)
    omega
theorem elemChunks : Try.prog.elem 23 = 44 := by kernel_rfl
theorem htChunks : Try.prog.underlying 23 = some (.slice (Try.prog.elem 23)) := by rw [elemChunks]; exact underChunks
theorem sizeChunk (w : World) : (Go.sizeOf 44).run Try.prog w = .ok 2 w := Try.sizeOf44 w
/-- The first chunks of a row. -/
theorem chunks_to {w : World} {p : Option Addr} {n c : Nat} {L : List Ck} (h : ChunksAt w (.slice p n c) L) (m : Nat) (hm : m ≤ L.length) :
    (∀ W, (Instr.sliceAt 23 (.slice p n c) none (some (.int .i64 (m : Int))) none).run Try.prog W = .ok (.slice p m c) W) ∧ ChunksAt w (.slice p m c) (L.take m) := by
  have hmc : m ≤ c := by
    rcases h with ⟨rfl, _⟩ | ⟨b, o, c', e, h2, _⟩
    · simp at hm; omega
    · injection e with _ _ e3
      omega
  refine ⟨fun W => ?_, ?_⟩
  · rw [run_sliceAt_slice W _ _ _ _ _ htChunks, run_slice_h W _ _ _ _ htChunks .i64 (m : Int) (by omega) (by omega), elemChunks, sizeChunk, Result.andThen_ok]
    unfold sliced
    simp
    intro _
    cases p with
    | none => rfl
    | some a =>
      show some (a.add 0) = some a
      unfold Addr.add
      obtain ⟨b, o, sp⟩ := a
      cases sp <;> simp
  · rcases h with ⟨rfl, q, c', e⟩ | ⟨b, o, c', e, h2, h3⟩
    · have : m = 0 := by simpa using hm
      subst this
      exact .inl ⟨rfl, p, c, rfl⟩
    · injection e with e1 e2 e3
      subst e1 e3
      have hl : (L.take m).length = m := by rw [List.length_take]; omega
      refine .inr ⟨b, o, c, by rw [hl], by rw [hl]; exact hmc, fun i x hx => ?_⟩
      rw [List.getElem?_take] at hx
      split at hx
      · exact h3 i x hx
      · cases hx
/-- The last part, and those ahead of it. -/
theorem Good.last {ps : List (List Nat)} (h : Good ps) (hp : ps ≠ []) : ∃ qs p, ps = qs ++ [p] ∧ (∀ q ∈ qs, q.length = 64) ∧ Nums p ∧ 1 ≤ p.length ∧ p.length ≤ 64 ∧ qs.length + 1 = ps.length ∧ (chk ps).take qs.length = fulls qs := by
  obtain ⟨qs, p, e⟩ : ∃ qs p, ps = qs ++ [p] := ⟨ps.dropLast, ps.getLast hp, (List.dropLast_concat_getLast hp).symm⟩
  have hpp : ps[qs.length]? = some p := by rw [e]; simp
  refine ⟨qs, p, e, ?_, (h.at hpp).1, (h.at hpp).2.1, (h.at hpp).2.2, by rw [e]; simp, ?_⟩
  · have := h.parted
    rw [e] at this
    exact ((parted_app qs (by simp)).1 this).1
  · rw [e, chk_app qs (by simp)]
    have : (fulls qs).length = qs.length := by unfold fulls; simp
    rw [← this, List.take_left]
theorem split_len {m : List Nat} {L : List Ck} (h : SplitOf m L) (hm : m.length ≤ 1000) : L.length ≤ 1000 := by
  obtain ⟨ps, h1, h2, rfl⟩ := h
  rw [chk_len]
  have : ∀ ps : List (List Nat), (∀ p ∈ ps, 1 ≤ p.length) → ps.length ≤ ps.flatten.length := fun ps hp => by
    induction ps with
    | nil => simp
    | cons a l ih =>
      rw [List.flatten_cons, List.length_append, List.length_cons]
      have := hp a List.mem_cons_self
      have := ih fun p hp' => hp p (List.mem_cons_of_mem _ hp')
      omega
  have := this ps fun p hp => (h1.one p hp).1
  rw [h2] at this
  omega

set_option maxRecDepth 8000 in
set_option maxHeartbeats 8000000 in
theorem happend_ok {w : World} {v : Value} {ps : List (List Nat)} (hv : ChunksAt w v (chk ps)) (hg : Good ps) (hl : ps.length ≤ 10000) {n : Nat} (hn : n < 2147483648) (ha : ∀ x ∈ ps.flatten, x < n) :
    Calls Try.prog 18 #[v, .int .i64 (n : Int)] w fun e w' => ∃ v' L, e = .returned (.tuple #[v', .int .i64 0]) ∧ SplitOf (ps.flatten ++ [n]) L ∧ OwnChunks w' w.heap.size v' L ∧ Below w.heap.size w w' := by
  have hnot := run_notH
  have hrd := hread_ok hv hg (by omega)
  obtain ⟨p0, c0, rfl⟩ := hv.shape
  rw [chk_len] at hv hrd ⊢
  obtain ⟨m, hm⟩ : ∃ m, ps.length = m := ⟨_, rfl⟩
  have HM : Hid (ps.length = m) := hm
  rw [hm] at hv hrd hl ⊢
  clear hm
  have hmi : (m : Int) ≤ 10000 := by omega
  have hni : (n : Int) < 2147483648 := by omega
  have hnn : ¬ (n : Int) < 0 := by omega
  go_enter Try.func18, Try.ntmps18
  go_wp2_with fail
  refine hrd.mono ?_
  rintro e w1 ⟨q, Bs, rfl, hq, hS, hB1⟩
  clear hrd
  go_wp2_with fail
  refine (new_any (w := w1) (v := .slice none 0 0) (l := []) (.inl ⟨rfl, none, 0, rfl⟩) (by simp) (by simp)).mono ?_
  rintro e w2 ⟨b0, rfl, mo0, hs0, hb0, hm0, hB2⟩
  have e0 : ofInts [] = ofN [] := ofInts_ofN (p := []) ⟨List.Pairwise.nil, fun x hx => by simp at hx⟩
  rw [e0] at hs0
  clear e0
  have hBw := below_new hB1 hB2
  by_cases hz : ps = []
  · subst hz
    have hm0' : m = 0 := HM.out.symm
    subst hm0'
    have hT : ([] : List (List Nat)).flatten ++ [n] = ([] : List (List Nat)).flatten ++ ([] ++ [n]) := rfl
    have hst := chunks_to (hv.below hBw) 0 (Nat.zero_le _)
    obtain ⟨hsl, hrow⟩ := hst
    have hq64 : ∀ q ∈ ([] : List (List Nat)), q.length = 64 := fun q hq => by simp at hq
    have hfull : (chk []).take 0 = fulls [] := rfl
    have hnp : Nums ([] : List Nat) := ⟨List.Pairwise.nil, fun x hx => by simp at hx⟩
    have hap : ∀ x ∈ ([] : List Nat), x < n := fun x hx => by simp at hx
    have hlow : w.heap.size ≤ b0 := by have := hB1.size; omega
    have hlowm : ∀ m, mo0 = some m → w.heap.size ≤ m := fun m h => by have := hm0 m h; have := hB1.size; omega
    have HT : Hid (([] : List (List Nat)).flatten ++ [n] = ([] : List (List Nat)).flatten ++ ([] ++ [n])) := hT
    clear hS hq hb0 hm0 hT hfull
    have hrow0x : ChunksAt w (.slice p0 0 c0) (fulls []) := (chunks_to hv 0 (Nat.zero_le _)).2
    have hlt := fun W (hW : Below w2.heap.size w2 W) => least_any (hs0.below hW).view (n : Int) n (by omega) (by omega)
    go_wp2_with fail
    refine (hlt w2 (Below.refl _ _)).mono ?_
    rintro e w3 ⟨x3, b3, rfl, hle, hB3⟩
    obtain rfl := least_noneH hap hle
    clear hle hlt
    have hst3 := hs0.below hB3
    have had := add_any hst3 (n : Int) (by omega)
    rw [addB_ofN hn hap, addM_ofN [] hn] at had
    go_wp2_with fail
    refine had.mono ?_
    rintro e w4 ⟨rfl, mo4, hs4, hn4, ho4⟩
    clear had
    have hB4 := OnlyS.fresh (below_new hBw hB3) ho4 hlow hlowm
    have hnm := nums_more hnp hn hap
    have hsp := fun W (hW : Below w4.heap.size w4 W) => hsplit_any (hs4.below hW).view (by rw [hnm.mem, List.length_append]; have := Nat.zero_le 1; simp <;> omega)
    rw [hnm.mem] at hsp
    go_wp2_with fail
    refine wp_region_plan (fun _ => True) [.take 0, .take 1, .take 2, .take 3, .one 4, .one 5, .one 6, .one 7, .one 8] mixedP (by kernel_rfl) rfl (by kernel_rfl) (fun _ _ _ d _ h => by cases d <;> exact h) trivial ?_
    refine plan_valG (some 44) rfl rfl rfl (.slice p0 0 c0) (fun _ => by go_simp) ?_
    go_frame
    refine plan_valG (some 45) rfl rfl rfl (.int .i64 0) (fun _ => by go_simp) ?_
    go_frame
    refine plan_valG (some 46) rfl rfl rfl (.slice p0 0 c0) (fun _ => by go_simp) ?_
    go_frame
    refine plan_valG (some 47) rfl rfl rfl (.pointer (some ⟨b0, 0, none⟩)) (fun _ => by go_simp) ?_
    go_frame
    refine plan_callG (some 48) rfl rfl rfl (f := 12) (vs := #[.pointer (some ⟨b0, 0, none⟩)]) (by go_simp) ((hsp _ (below_drewH _)).mono ?_)
    rintro e w5 ⟨v5, L5, rfl, hs5, ho5, hB5⟩
    clear hsp
    refine ⟨_, rfl, trivial, ?_⟩
    go_frame
    obtain ⟨p5, c5, rfl⟩ := ho5.at.shape
    have hB5' := below_new (below_new hB4 (below_drewH w4)) hB5
    refine plan_one (some 49) rfl rfl rfl (v := .slice (some ⟨w5.heap.size, 0, none⟩) 2 2) (w' := w5.alloc (.cells #[.slice p0 0 c0, .slice p5 L5.length c5] 23)) (by go_simp) trivial ?_
    go_frame
    have hB6 := below_new1 w5 (.cells #[.slice p0 0 c0, .slice p5 L5.length c5] 23)
    have hrow0 := (hrow0x.below hB5').below hB6
    have hl5 : L5.length ≤ 1000 := split_len hs5 (by simp)
    have hcc := concat_any (w := w5.alloc (.cells #[.slice p0 0 c0, .slice p5 L5.length c5] 23)) (q := w5.heap.size) (vs := [.slice p0 0 c0, .slice p5 L5.length c5]) (ls := [fulls [], L5]) (Holds.new _ _ _) rfl (fun i v l hv hl => by
      match i with
      | 0 => simp at hv hl; rw [← hv, ← hl]; exact hrow0
      | 1 => simp at hv hl; rw [← hv, ← hl]; exact ho5.at.below hB6
      | j + 2 => simp at hv) (by simp [fulls]; omega) (by simp)
    refine plan_callG (some 50) rfl rfl rfl (f := 40) (vs := #[.slice (some ⟨w5.heap.size, 0, none⟩) 2 2]) (by go_simp) (hcc.mono ?_)
    rintro e w7 ⟨v7, rfl, ho7, hB7⟩
    clear hcc
    refine ⟨_, rfl, trivial, ?_⟩
    go_frame
    refine plan_one (some 4) rfl rfl rfl (v := v7) (w' := w7) rfl trivial ?_
    go_frame
    refine plan_one (some 5) rfl rfl rfl (v := .int .i64 0) (w' := w7) rfl trivial ?_
    go_frame
    have HF : Hid (SplitOf (([] : List (List Nat)).flatten ++ [n]) (fulls [] ++ L5) ∧ OwnChunks w7 w.heap.size v7 (fulls [] ++ L5) ∧ Below w.heap.size w w7) := by
      have hsz := hB5'.size
      have hsz6 := hB6.size
      refine ⟨by rw [HT.out]; exact splitOf_app hq64 hs5 (by simp), ?_, below_new (below_new hB5' hB6) hB7⟩
      have : [fulls [], L5].flatten = fulls [] ++ L5 := by simp
      rw [← this]
      exact ho7.mono (by omega)
    clear ho7 hs5 ho5 hB7 hB6 hB5' hB5 hB4
    refine then_normalH ?_
    go_at_K
    go_wp2_with fail
    go_ret2
    exact ⟨_, _, rfl, HF.out.1, HF.out.2.1, HF.out.2.2⟩
  · obtain ⟨qs, pt, hps, hq64, hnp, hp1, hp64, hlen, hfull⟩ := hg.last hz
    rw [HM.out] at hlen
    obtain ⟨k, hk⟩ : ∃ k, qs.length = k := ⟨_, rfl⟩
    rw [hk] at hlen hfull
    have hki : (m : Int) - 1 = (k : Int) := by omega
    have hkm : (k : Int) < m := by omega
    have hmpos : 0 < m := by omega
    have hpk : ps[k]? = some pt := by rw [hps, ← hk]; simp
    obtain ⟨⟨bt, mt⟩, hbt⟩ : ∃ x, Bs[k]? = some x := ⟨_, List.getElem?_eq_getElem (by rw [hS.len, HM.out]; omega)⟩
    have hst0 := (hS.sets k _ _ hbt hpk).below hB2
    have hlo := hS.low _ (List.mem_of_getElem? hbt)
    have hlow : w.heap.size ≤ bt := hlo bt (.inl rfl)
    have hlowm : ∀ m, mt = some m → w.heap.size ≤ m := fun m h => hlo m (.inr h)
    have hcq : w2.cell? ⟨q, k, none⟩ = some (.pointer (some ⟨bt, 0, none⟩)) := by
      rw [(below_holds hB2 hq).cell k]
      unfold ptrs
      simp [hbt]
    have hap : ∀ x ∈ pt, x < n := fun x hx => ha x (by rw [hps]; simp; exact .inr hx)
    have hT : ps.flatten ++ [n] = qs.flatten ++ (pt ++ [n]) := by rw [hps, List.flatten_append]; simp
    obtain ⟨hsl, hrow⟩ := chunks_to (hv.below hBw) k (by rw [chk_len, HM.out]; omega)
    have HT : Hid (ps.flatten ++ [n] = qs.flatten ++ (pt ++ [n])) := hT
    have hrow0x : ChunksAt w (.slice p0 k c0) (fulls qs) := by
      have := (chunks_to hv k (by rw [chk_len, HM.out]; omega)).2
      rw [hfull] at this
      exact this
    have hqk : qs.length ≤ 10000 := by omega
    clear hS hq hb0 hm0 hs0 hps hlo hk hpk hbt hlen hfull hT
    have hlt := fun W (hW : Below w2.heap.size w2 W) => least_any (hst0.below hW).view (n : Int) n (by omega) (by omega)
    go_wp2_with fail
    refine (hlt w2 (Below.refl _ _)).mono ?_
    rintro e w3 ⟨x3, b3, rfl, hle, hB3⟩
    obtain rfl := least_noneH hap hle
    clear hle hlt
    have hst3 := hst0.below hB3
    have had := add_any hst3 (n : Int) (by omega)
    rw [addB_ofN hn hap, addM_ofN pt hn] at had
    go_wp2_with fail
    refine had.mono ?_
    rintro e w4 ⟨rfl, mo4, hs4, hn4, ho4⟩
    clear had
    have hB4 := OnlyS.fresh (below_new hBw hB3) ho4 hlow hlowm
    have hnm := nums_more hnp hn hap
    have hsp := fun W (hW : Below w4.heap.size w4 W) => hsplit_any (hs4.below hW).view (by rw [hnm.mem, List.length_append]; have := hp64; simp <;> omega)
    rw [hnm.mem] at hsp
    go_wp2_with fail
    refine wp_region_plan (fun _ => True) [.take 0, .take 1, .take 2, .take 3, .one 4, .one 5, .one 6, .one 7, .one 8] mixedP (by kernel_rfl) rfl (by kernel_rfl) (fun _ _ _ d _ h => by cases d <;> exact h) trivial ?_
    refine plan_valG (some 44) rfl rfl rfl (.slice p0 m c0) (fun _ => by go_simp) ?_
    go_frame
    refine plan_valG (some 45) rfl rfl rfl (.int .i64 (k : Int)) (fun _ => by go_simp) ?_
    go_frame
    refine plan_valG (some 46) rfl rfl rfl (.slice p0 k c0) (fun _ => by go_simp) ?_
    go_frame
    refine plan_valG (some 47) rfl rfl rfl (.pointer (some ⟨bt, 0, none⟩)) (fun _ => by go_simp) ?_
    go_frame
    refine plan_callG (some 48) rfl rfl rfl (f := 12) (vs := #[.pointer (some ⟨bt, 0, none⟩)]) (by go_simp) ((hsp _ (below_drewH _)).mono ?_)
    rintro e w5 ⟨v5, L5, rfl, hs5, ho5, hB5⟩
    clear hsp
    refine ⟨_, rfl, trivial, ?_⟩
    go_frame
    obtain ⟨p5, c5, rfl⟩ := ho5.at.shape
    have hB5' := below_new (below_new hB4 (below_drewH w4)) hB5
    refine plan_one (some 49) rfl rfl rfl (v := .slice (some ⟨w5.heap.size, 0, none⟩) 2 2) (w' := w5.alloc (.cells #[.slice p0 k c0, .slice p5 L5.length c5] 23)) (by go_simp) trivial ?_
    go_frame
    have hB6 := below_new1 w5 (.cells #[.slice p0 k c0, .slice p5 L5.length c5] 23)
    have hrow0 := (hrow0x.below hB5').below hB6
    have hl5 : L5.length ≤ 1000 := split_len hs5 (by simp; omega)
    have hcc := concat_any (w := w5.alloc (.cells #[.slice p0 k c0, .slice p5 L5.length c5] 23)) (q := w5.heap.size) (vs := [.slice p0 k c0, .slice p5 L5.length c5]) (ls := [fulls qs, L5]) (Holds.new _ _ _) rfl (fun i v l hv hl => by
      match i with
      | 0 => simp at hv hl; rw [← hv, ← hl]; exact hrow0
      | 1 => simp at hv hl; rw [← hv, ← hl]; exact ho5.at.below hB6
      | j + 2 => simp at hv) (by simp [fulls]; omega) (by simp)
    refine plan_callG (some 50) rfl rfl rfl (f := 40) (vs := #[.slice (some ⟨w5.heap.size, 0, none⟩) 2 2]) (by go_simp) (hcc.mono ?_)
    rintro e w7 ⟨v7, rfl, ho7, hB7⟩
    clear hcc
    refine ⟨_, rfl, trivial, ?_⟩
    go_frame
    refine plan_one (some 4) rfl rfl rfl (v := v7) (w' := w7) rfl trivial ?_
    go_frame
    refine plan_one (some 5) rfl rfl rfl (v := .int .i64 0) (w' := w7) rfl trivial ?_
    go_frame
    have HF : Hid (SplitOf (ps.flatten ++ [n]) (fulls qs ++ L5) ∧ OwnChunks w7 w.heap.size v7 (fulls qs ++ L5) ∧ Below w.heap.size w w7) := by
      have hsz := hB5'.size
      have hsz6 := hB6.size
      refine ⟨by rw [HT.out]; exact splitOf_app hq64 hs5 (by simp), ?_, below_new (below_new hB5' hB6) hB7⟩
      have : [fulls qs, L5].flatten = fulls qs ++ L5 := by simp
      rw [← this]
      exact ho7.mono (by omega)
    clear ho7 hs5 ho5 hB7 hB6 hB5' hB5 hB4
    refine then_normalH ?_
    go_at_K
    go_wp2_with fail
    go_ret2
    exact ⟨_, _, rfl, HF.out.1, HF.out.2.1, HF.out.2.2⟩
end Go.Proofs.Ytiokbhbggpibpaa
