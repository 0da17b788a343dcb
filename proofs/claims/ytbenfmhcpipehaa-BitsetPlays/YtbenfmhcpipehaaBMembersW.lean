/-
  What Members does; who ranges over a set's members and collects them.
-/
import Derived.Test.YtbenfmhcpipehaaBEach1
import Derived.Maps.AppendAt
import Derived.Laws.OwnMore
namespace Go.Proofs.Ytbenfmhcpipehaa
open Go Go.RowKit Go.Maps
attribute [local go_sem] Oper.semAt_some

/-- An append that also tells where the row lies then. -/
theorem append_where {P : Program} {w w' : World} {base : Nat} {t ty e : TypeId} {i : TypeInfo} {z v v' : Value} (ht : P.underlying t = some (.slice e)) (hi : P.info? e = some i) (hz : i.zero = some z)
    {n : Nat} {xs : List Value} (hown : w.ownsRow base e i.size v n xs) {a : Addr} {m c : Nat} {news : List Value} (hl : news.length = m * i.size)
    (hnews : ∀ j u, news[j]? = some u → w.cell? (a.add j) = some u) (h1 : ∀ u ∈ news, u.oneCell' = true) (hm : 0 < m) (h63 : n + m ≤ maxLen) (hbytes : (n + m) * i.bytes ≤ 140737488355328)
    (hr : (Builtin.append_ #[t, t] ty #[v, .slice (some a) m c]).run P w = .ok v' w') : v'.ownBlock = v.ownBlock ∨ v'.ownBlock = some w.heap.size := by
  have hsmall : n + m ≤ 9223372036854775807 := by simp only [maxLen] at h63; omega
  rcases hown.2 with ⟨rfl, rfl⟩ | ⟨g, cap, cur, rfl, hbg, hg, hnc, hcm, hcs, htake⟩
  · have h2 := run_append_nil (P := P) w t ty e i z ht hi hz a m c news hl hnews (by omega) (by omega) (by have hb := hbytes; simp only [Nat.zero_add] at hb; omega)
    rw [hr] at h2
    injection h2 with h3 h4
    right; rw [h3]; rfl
  · by_cases hroom : n + m ≤ cap
    · have hfit : n * i.size + news.length ≤ cur.size := by rw [hl, hcs, ← Nat.add_mul]; exact Nat.mul_le_mul_right _ hroom
      have h2 := run_append_room (P := P) w t ty e i ht hi g n cap cur hg a m c news hl hnews h1 hroom hfit
      rw [hr] at h2
      injection h2 with h3 h4
      left; rw [h3]; rfl
    · have h2 := run_append_grow (P := P) w t ty e i z ht hi hz ⟨g, 0, none⟩ n cap xs hown.1 (hown.cells (g := g) rfl) a m c news hl hnews (by omega) (by omega) (growslice_fits (by omega) hbytes)
      rw [hr] at h2
      injection h2 with h3 h4
      right; rw [h3]; rfl

theorem wpListIn_append_own2 {F : Fence} {nF : Nat} {P : Program} (w : World) {ops : Array Oper} {rest : List Oper} {o : Oper} {a : Act} {Q : Exit → Act → World → Prop} (hgd : o.guard = none) (s x : Operand) (t : TypeId)
    (ho : o.op = .call { callee := .builtin .append, args := #[s, x], argTypes := #[t, t] })
    (base : Nat) (e : TypeId) (i : TypeInfo) (z : Value) (size bytes : Nat) (ht : P.underlying t = some (.slice e)) (hi : P.info? e = some i) (hz : i.zero = some z)
    (hsize : i.size = size) (hby : i.bytes = bytes) (hzs : z.cells.size = size) (hsz : 0 < size)
    (v : Value) (n : Nat) (xs : List Value) (hs : a.eval s = v) (hown : w.ownsRow base e size v n xs)
    (ad : Addr) (m c : Nat) (news : List Value) (hx : a.eval x = .slice (some ad) m c) (hl : news.length = m * size) (hnews : ∀ j u, news[j]? = some u → w.cell? (ad.add j) = some u) (h1 : ∀ u ∈ news, u.oneCell' = true)
    (hm : 0 < m) (h63 : n + m ≤ maxLen) (hbytes : (n + m) * bytes ≤ 140737488355328) (hbase : base ≤ w.heap.size)
    (h : ∀ v' w', w'.ownsRow base e size v' (n + m) (xs ++ news) → w.grownBy w' v.ownBlock → (v'.ownBlock = v.ownBlock ∨ v'.ownBlock = some w.heap.size) → wpListIn F nF P ops Q rest (a.put o.dst v') w') : wpListIn F nF P ops Q (o :: rest) a w := by
  refine wpListIn_plain hgd fun K hK' => ?_
  obtain ⟨v', w', hrun, r1, r2, r3⟩ := run_append_own (P := P) w base t o.type e i z size bytes ht hi hz hsize hby hzs hsz v n xs hown ad m c news hl hnews h1 h63 hbytes hbase
  subst hsize
  subst hby
  have hwh := append_where ht hi hz hown hl hnews h1 hm h63 hbytes hrun
  unfold Oper.wpIn
  refine ⟨?_, ?_⟩
  · simp [Oper.about, ho, resolve, Target.leads, Sem.run_pure]
  · rw [Oper.semAt_plain F _ _ (by rw [ho]; intro c hc'; cases hc')]
    simp [execOp, ho, resolve, invoke, builtin, hs, hx, hrun, Result.andThen]
    exact hK' _ _ (h v' w' r1 r2 hwh)

/-- The block of a row that was made in the rounds. -/
def rowO (v : Value) (B : Nat) (k : Nat) : Prop := v.ownBlock = some k ∧ B ≤ k
theorem rowO_cells {w : World} {base n : Nat} {e : TypeId} {size : Nat} {v : Value} {xs : List Value} (h : w.ownsRow base e size v n xs) {B k : Nat} (hk : rowO v B k) : ∃ o : Obj, w.heap[k]? = some o ∧ o.isCells = true := by
  rcases h.2 with ⟨rfl, _⟩ | ⟨g, cap, cur, rfl, _, hcur, _⟩
  · obtain ⟨h1, _⟩ := hk; cases h1
  · obtain ⟨h1, _⟩ := hk
    simp only [Value.ownBlock] at h1
    injection h1 with h1
    subst h1
    exact ⟨_, hcur, rfl⟩
theorem keepO_append {B0 B : Nat} {W w1 : World} {tmp : Obj} {v : Value} (hg : (W.alloc tmp).grownBy w1 v.ownBlock) (u : Value) (hB : B < B0) : KeepO (B0 + 2) (rowO v B0) W (w1.setCell ⟨B, 0, none⟩ u) := by
  refine ⟨by have := hg.size; simp at this ⊢; omega, fun k h1 h2 h3 => ?_⟩
  rw [Below.heap_setCell _ _ _ _ (by show k ≠ B; omega), hg.block k (by simp; omega) (fun e => h3 ⟨e.symm, by omega⟩), Below.heap_alloc _ _ _ h2]
theorem rowO_next {W : World} {tmp : Obj} {v v' : Value} {B0 : Nat} (hw : v'.ownBlock = v.ownBlock ∨ v'.ownBlock = some (W.alloc tmp).heap.size) : ∀ k, rowO v' B0 k → rowO v B0 k ∨ W.heap.size ≤ k := fun k ⟨h1, h2⟩ => by
  rcases hw with h | h
  · exact .inl ⟨by rw [← h]; exact h1, h2⟩
  · rw [h] at h1
    injection h1 with h1
    simp at h1
    exact .inr (by omega)

/-- What Each hands back. -/
theorem each_seq {w : World} {M : Nat → Bool} {f bl bf : Nat} {v : Value} {us : List Nat} (hl : Holds w bl 89 #[v]) (hF : Holds w bf 3 #[.int .i64 (f : Nat)]) (hP : PartsAt w v M us) (hus : ∀ u ∈ us, u < NU) (hlen : us.length ≤ 8388608) (hfm : f ≤ 9223372036854775807) :
    SeqO Try.prog 68 #[.pointer (some ⟨bl, 0, none⟩), .pointer (some ⟨bf, 0, none⟩)] (fun x : Nat => .int .i64 (x : Nat)) (fun k => k = bf ∨ v.ownBlock = some k) (us.flatMap (ofU M f)) w := by
  intro l J Jx W hW hJ hJx hOc hY h0
  rcases hP with ⟨rfl, rfl⟩ | ⟨g, cap, rfl, hgl, hin⟩
  · have hl' := below_holds hW hl
    obtain ⟨W0, hW0⟩ : ∃ W0, World.alloc W (.cells #[.func (.yield l) #[] #[]] 35) = W0 := ⟨_, rfl⟩
    have hy : Holds W0 W.heap.size 35 #[.func (.yield l) #[] #[]] := by rw [← hW0]; exact Holds.new _ _ _
    have hB0 : Below W.heap.size W W0 := by rw [← hW0]; exact below_new1 _ _
    have hyc : W0.cell? ⟨W.heap.size, 0, none⟩ = some (.func (.yield l) #[] #[]) := hy.cell 0
    have hlc : W0.cell? ⟨bl, 0, none⟩ = some (.slice none 0 0) := (below_holds hB0 hl').cell 0
    have hef := eql_func l
    have hj0 := OwnFrom.grow (hJ _) (s := []) h0 hB0
    clear hY h0
    show Calls _ _ #[.func (.yield l) #[] #[], .pointer (some ⟨bl, 0, none⟩), .pointer (some ⟨bf, 0, none⟩)] _ _
    go_enter Try.func68, Try.ntmps68
    go_wp2_with fail
    go_loopw [12] (fun y wr => y = .int .i64 0 ∧ wr = W0) (fun _ _ => 0)
    case atStart => exact ⟨rfl, rfl⟩
    case round =>
      obtain ⟨rfl, rfl⟩ := hrel
      go_wp2_with fail
      go_end0
      exact ⟨⟨_, rfl⟩, .inl ⟨_, hj0⟩⟩
  · exact each_in M f bl bf g cap l us J Jx W (below_holds hW hl) (below_holds hW hF) (hin.keep (hW.block g hgl)) hus hfm (Nat.lt_of_lt_of_le hgl hW.size) hlen hJ hJx hOc
      (fun pre x rest O W1 hL hj => by
        obtain ⟨fn, tmps, assign, body, hy, hR⟩ := hY pre x rest O W1 hL hj
        refine ⟨fn, tmps, assign, body, hy, hR.mono fun e W' h => ?_⟩
        rcases h with ⟨he, O', h1, h2, h3, h4⟩ | h
        · refine .inl ⟨he, O', h1, h2, ⟨h3.size, fun k hk => h3.same k ?_⟩, h4⟩
          rcases hk with hk | hk
          · exact .inl hk
          · exact .inr (by rw [hk]; rfl)
        · exact .inr h) h0

theorem ofU_lt {M : Nat → Bool} {f u n : Nat} (h : n ∈ ofU M f u) : f ≤ n ∧ n / 256 = u ∧ M n = true := by
  unfold ofU at h
  obtain ⟨l, hl, rfl⟩ := List.mem_map.1 h
  obtain ⟨h1, h2, h3⟩ := lowsL_lt hl
  exact ⟨by omega, by omega, h3⟩
theorem mem_ofU {M : Nat → Bool} {f u n : Nat} : n ∈ ofU M f u ↔ f ≤ n ∧ n / 256 = u ∧ M n = true := by
  refine ⟨ofU_lt, fun ⟨h1, h2, h3⟩ => ?_⟩
  unfold ofU
  refine List.mem_map.2 ⟨n % 256, mem_lowsL.2 ⟨by omega, by omega, ?_⟩, by omega⟩
  unfold atU
  rw [show 256 * u + n % 256 = n by omega]
  exact h3
theorem mem_memFrom {M : Nat → Bool} (hM : ∀ n, M n = true → n < 2147483648) {f n : Nat} : n ∈ memFrom M f ↔ f ≤ n ∧ M n = true := by
  unfold memFrom
  rw [List.mem_flatMap]
  constructor
  · rintro ⟨u, _, h⟩
    obtain ⟨h1, _, h3⟩ := ofU_lt h
    exact ⟨h1, h3⟩
  · rintro ⟨h1, h2⟩
    refine ⟨n / 256, mem_uppers.2 ⟨?_, by omega, n % 256, by omega, ?_⟩, mem_ofU.2 ⟨h1, rfl, h2⟩⟩
    · have := hM n h2; rw [NU_eq]; omega
    · rw [show 256 * (n / 256) + n % 256 = n by omega]; exact h2
theorem flat_rises {M : Nat → Bool} {f : Nat} : ∀ {us : List Nat}, us.Pairwise (· < ·) → (us.flatMap (ofU M f)).Pairwise (· < ·)
  | [], _ => List.Pairwise.nil
  | u :: us, h => by
    obtain ⟨h1, h2⟩ := List.pairwise_cons.1 h
    rw [List.flatMap_cons, List.pairwise_append]
    refine ⟨?_, flat_rises h2, fun a ha b hb => ?_⟩
    · unfold ofU
      rw [List.pairwise_map]
      exact (lowsL_rises _ _).imp fun h => by omega
    · obtain ⟨v, hv, hb⟩ := List.mem_flatMap.1 hb
      have := (ofU_lt ha).2.1
      have := (ofU_lt hb).2.1
      have := h1 v hv
      omega
theorem memFrom_rises (M : Nat → Bool) (f : Nat) : (memFrom M f).Pairwise (· < ·) := flat_rises (uppers_rises M _)
theorem rising_nodup {l : List Nat} (h : l.Pairwise (· < ·)) : l.Nodup := by
  rw [List.nodup_iff_pairwise_ne]
  exact h.imp fun h => by omega
theorem memFrom_len {M : Nat → Bool} (hM : ∀ n, M n = true → n < 2147483648) (f : Nat) : (memFrom M f).length ≤ 2147483648 :=
  nodup_len _ _ (rising_nodup (memFrom_rises M f)) fun x hx => hM x ((mem_memFrom hM).1 hx).2
theorem each_seqM {w : World} {M : Nat → Bool} {f bl bf : Nat} {v : Value} (hl : Holds w bl 89 #[v]) (hF : Holds w bf 3 #[.int .i64 (f : Nat)]) (hP : PartsAt w v M (uppers M (f / 256))) (hfm : f ≤ 9223372036854775807) :
    SeqO Try.prog 68 #[.pointer (some ⟨bl, 0, none⟩), .pointer (some ⟨bf, 0, none⟩)] (fun x : Nat => .int .i64 (x : Nat)) (fun k => k = bf ∨ v.ownBlock = some k) (memFrom M f) w :=
  each_seq hl hF hP (fun _ hu => (mem_uppers.1 hu).1) (uppers_len M _) hfm

theorem underInts : Try.prog.underlying 26 = some (.slice 3) := by kernel_rfl

theorem ownsRow_shut {B : Nat} {w w' : World} (hs : Shut B w w') {base : Nat} {e : TypeId} {size n : Nat} {v : Value} {xs : List Value} (h : w.ownsRow base e size v n xs) : w'.ownsRow base e size v n xs := by
  obtain ⟨h1, h2⟩ := h
  refine ⟨h1, ?_⟩
  rcases h2 with h | ⟨g, cap, cur, h3, h4, h5, h6⟩
  · exact .inl h
  · exact .inr ⟨g, cap, cur, h3, h4, hs.cells g _ h5 (fun _ e => by cases e), h6⟩

/-- A slice of integers that is a call's own. -/
def OwnInts (w : World) (base : Nat) (v : Value) (l : List Nat) : Prop := w.ownsRow base 3 1 v l.length (l.map fun x => .int .i64 ((x : Nat) : Int))

set_option maxRecDepth 8000 in
set_option maxHeartbeats 1000000 in
theorem members_any {w : World} {s : Value} {mo : Option Nat} {M : Nat → Bool} (h : View w s mo M) :
    Calls Try.prog 19 #[s] w fun e w' => ∃ v, e = .returned v ∧ OwnInts w' w.heap.size v (memFrom M 0) ∧ Below w.heap.size w w' := by
  obtain ⟨i0, hi, hz0, hz1, hz2⟩ := info_parts info3
  have hln := len_any h
  have hcl := card_le M
  have hML := memFrom_len h.map.bound 0
  generalize card M = cd at hln hcl
  refine calls_of_wp_marks Try.func19 rfl ?_
  simp only [Try.ntmps19, List.size_toArray, List.length_cons, List.length_nil, Nat.reduceAdd, Nat.reduceSub, Array.replicate_succ, Array.replicate_zero, List.push_toArray, List.append_toArray, List.nil_append, List.cons_append]
  go_wp2_with (first
    | (go_at_call 17; refine hln.mono ?_; rintro e w1 ⟨rfl, hB1⟩; have hz : w.heap.size ≤ w1.heap.size := hB1.size)
    | (at_make; refine wpList_make_own _ rfl _ _ 26 rfl w.heap.size 3 i0 (.int .i64 0) 1 underInts hi hz0 hz1 .i64 .i64 _ cd rfl rfl rfl (by rw [hz2]; omega) (by unfold maxLen; omega) hz ?_; intro w2 hrow hg2; have hB2 : Below w.heap.size w w2 := hB1.grown hg2 hz (fun k e => by cases e); have hea : ∀ o, _ := fun o => each_any ((h.below hB2).below (below_new1 w2 o)) 0 (by decide))
    | (go_at_call 54; refine (hea _).mono ?_; rintro e w3 ⟨bl, bf, rfl, vp, hl, hF, hP, hB3, hbl, hbf, hob⟩))
  rw [World.size_alloc] at hbl hbf hob
  have hB02 : Below w.heap.size w (w2.alloc (.cells #[.slice (some ⟨w1.heap.size, 0, none⟩) 0 cd] 26)) := hB2.alloc hB2.size _
  have hBw := below_new hB02 hB3
  have hbx : Boxed w3 w2.heap.size 26 (.slice (some ⟨w1.heap.size, 0, none⟩) 0 cd) := below_holds hB3 (Boxed.new w2 _ _)
  have hrw : w3.ownsRow w.heap.size 3 1 (.slice (some ⟨w1.heap.size, 0, none⟩) 0 cd) 0 [] := ownsRow_below hB3 (hrow.alloc _)
  have hw2 : w.heap.size ≤ w2.heap.size := hB2.size
  have hw12 : w1.heap.size < w2.heap.size := (hrow.lt _ rfl).2
  have hw3 : w2.heap.size < w3.heap.size := hbx.lt
  have hbfl := hF.lt
  have hpl : ∀ k, vp.ownBlock = some k → k < w3.heap.size := fun k e => by
    rcases hP with ⟨rfl, _⟩ | ⟨g, cap, rfl, hg, _⟩
    · cases e
    · simp [Value.ownBlock] at e; omega
  have hSl : ∀ k, (k = bf ∨ vp.ownBlock = some k) → k < w3.heap.size := fun k hk => by
    rcases hk with rfl | hk
    · exact hbfl
    · exact hpl k hk
  have hSg : ∀ k, (k = bf ∨ vp.ownBlock = some k) → w2.heap.size < k := fun k hk => by
    rcases hk with rfl | hk
    · omega
    · have := hob k hk; omega
  clear hea hrow hg2 hB3 hB02
  refine wp_rangeSeqO rfl (enters_of Try.func68 (by kernel_rfl) rfl) (each_seqM (f := 0) hl hF hP (by decide)) (Below.refl _ _) hSl
    (fun pre O W => (∃ v, Boxed W w2.heap.size 26 v ∧ OwnInts W w.heap.size v pre ∧ O = rowO v w3.heap.size ∧ (∀ k, (k = bf ∨ vp.ownBlock = some k) → v.ownBlock ≠ some k)) ∧ Below w.heap.size w W ∧ w3.heap.size ≤ W.heap.size)
    (fun _ _ _ => False)
    (fun O s A B row hs hg hr => by
      obtain ⟨⟨v, h1, h2, h3, h4⟩, h5, h6⟩ := hs
      exact ⟨⟨v, holds_kept hg hr h1, ownsRow_kept hg hr h2, h3, h4⟩, below_kept hg hr (by omega) (Nat.le_refl _) h5, Nat.le_trans h6 hg.size⟩)
    (fun c s A B row hs hg hr => hs)
    ⟨⟨_, hbx, hrw, by funext k; simp [rowO, Value.ownBlock]; omega, fun k hk e => by have := hSg k hk; simp [Value.ownBlock] at e; omega⟩, hBw, Nat.le_refl _⟩
    (fun pre O W hs k hk => by
      obtain ⟨⟨v, h1, h2, rfl, h4⟩, _⟩ := hs
      exact rowO_cells h2 hk)
    (fun x => { tmps := #[s, undef, .slice none 0 0, .pointer (some ⟨w2.heap.size, 0, none⟩), .int .i64 (x : Nat), s, .int .i64 (cd : Nat), .slice (some ⟨w1.heap.size, 0, none⟩) 0 cd, s, .func (.func 68) #[] #[.pointer (some ⟨bl, 0, none⟩), .pointer (some ⟨bf, 0, none⟩)], .int .i64 (x : Nat), undef, undef, undef, undef, undef], defers := [] }) ?assign ?body ?done ?stop
  case assign =>
    intro l x W K hK
    gi_wp2
    exact hK
  case body =>
    rintro l pre x rest O W hL hsz ⟨⟨v, hv, hr, rfl, hne⟩, gB, gs⟩
    have hlen : pre.length < 2147483648 := by
      have e : (memFrom M 0).length = pre.length + (rest.length + 1) := by rw [hL]; simp
      omega
    have hc := hv.cell
    have hxw : IntKind.i64.wrap (x : Int) = x := by
      have := h.map.bound x ((mem_memFrom h.map.bound (f := 0)).1 (by rw [hL]; simp)).2
      rw [IntKind.wrap_i64]; omega
    clear hL hl hF hP hbx hrw
    gi_wp2_with (gi_at_builtin; refine wpListIn_append_own2 _ rfl _ _ 26 rfl w.heap.size 3 i0 (.int .i64 0) 1 8 underInts hi hz0 hz1 hz2 rfl (by decide) _ _ _ rfl (hr.alloc _) ⟨W.heap.size, 0, none⟩ 1 1 [.int .i64 ((x : Nat) : Int)] rfl rfl (cell_one_new _ _ _) (by simp [Value.oneCell']) (by decide) (by unfold maxLen; omega) (by omega) (by have := gB.size; simp; omega) ?_; intro v' w5 hown' hgrow hwh; obtain ⟨g', cap', rfl⟩ := ownsRow_succ hown'; obtain ⟨hv1, hv2, hr2, hk2, hb2⟩ := hv.appended (by decide) hr gB.size hw2 hown' hgrow; have hc1 := hv1.cell; have hf1 := hv1.frozen)
    refine ⟨hk2.from _, keepB_append hgrow _ (fun k hk => ⟨by have := hSl k hk; omega, fun e => hne k hk e.symm, by have := hSg k hk; omega⟩), keepO_append hgrow _ hw3, rowO (.slice (some ⟨g', 0, none⟩) (pre.length + 1) cap') w3.heap.size, rowO_next hwh, ⟨_, hv2, ?_, rfl, fun k hk e => ?_⟩, gB.trans hb2, ?_⟩
    · unfold OwnInts
      rw [List.length_append, List.map_append]
      exact hr2
    · rcases hwh with q | q
      · rw [q] at e; exact hne k hk e
      · rw [q] at e
        injection e with e
        have := hSl k hk
        simp at e
        omega
    · have := hgrow.size
      simp at this ⊢
      omega
  case done =>
    rintro D O W hD ⟨⟨v, hv, hr, rfl, hne⟩, gB, gs⟩ hK
    have hc := hv.cell
    clear hl hF hP hbx hrw
    go_wp2_with fail
    refine leaves_marks (Marks.one (B := w.heap.size) (by omega) hK) fun w' hw' => ⟨_, results_tmp rfl _ _ _, _, rfl, ?_, gB.trans hw'.below⟩
    exact ownsRow_shut hw' hr
  case stop =>
    rintro D c pre x rest W _ _ h _
    exact h.elim
end Go.Proofs.Ytbenfmhcpipehaa
