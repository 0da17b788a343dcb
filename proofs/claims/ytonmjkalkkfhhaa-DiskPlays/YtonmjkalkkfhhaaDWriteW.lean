/-
  What Write does.
-/
import Derived.Test.YtonmjkalkkfhhaaDPutW
namespace Go.Proofs.Ytonmjkalkkfhhaa
open Go Go.RowKit Go.Maps

/-- The block into which an append may write. -/
def Room (v : Value) (k : Nat) : Prop := ∃ n c, v = .slice (some ⟨k, 0, none⟩) n c ∧ n < c
theorem infoWr : ∃ i, Try.prog.info? 73 = some i ∧ i.zero = some (.agg #[.int .i64 0, .string ⟨#[]⟩]) ∧ i.size = 2 ∧ i.bytes = 24 := by
  have h : (Try.prog.info? 73).map (fun i => (i.zero, i.size, i.bytes)) = some (some (.agg #[.int .i64 0, .string ⟨#[]⟩]), 2, 24) := by kernel_rfl
  cases hi : Try.prog.info? 73 with
  | none => rw [hi] at h; cases h
  | some i =>
    rw [hi] at h
    simp only [Option.map_some, Option.some.injEq, Prod.mk.injEq] at h
    exact ⟨i, rfl, h⟩
theorem underWr : Try.prog.underlying 55 = some (.slice 73) := Try.underlying55

/-- A write is appended. -/
theorem run_append_w {w : World} {v : Value} {L : List (Int × ByteArray)} (h : WRow w v L) (hL : L.length ≤ 1000000000) (ty : TypeId) (ad : Addr) (c : Nat) (p : Int × ByteArray)
    (h0 : w.cell? (ad.add 0) = some (.int .i64 p.1)) (h1 : w.cell? (ad.add 1) = some (.string p.2)) :
    ∃ v' w', (Builtin.append_ #[55, 55] ty #[v, .slice (some ad) 1 c]).run Try.prog w = .ok v' w' ∧ WRow w' v' (L ++ [p]) ∧ Keep (Room v) w w' ∧ WRow w' v L ∧ ∀ k, v'.ownBlock = some k → Room v k ∨ w.heap.size ≤ k := by
  obtain ⟨i, hi, hz, hs, hb⟩ := infoWr
  have hnews : ∀ j u, ([.int .i64 p.1, .string p.2] : List Value)[j]? = some u → w.cell? (ad.add j) = some u := by
    intro j u hu
    match j with
    | 0 => simp at hu; rw [h0, hu]
    | 1 => simp at hu; rw [h1, hu]
    | j + 2 => simp at hu
  have hone : ∀ u ∈ ([.int .i64 p.1, .string p.2] : List Value), u.oneCell' = true := by
    intro u hu
    simp at hu
    rcases hu with rfl | rfl <;> rfl
  have hlw := wcells_len L
  have grow : ∀ (b : Addr) (cap : Nat), cap < L.length + 1 → (∀ j u, (wcells L)[j]? = some u → w.cell? (b.add j) = some u) →
      (Builtin.append_ #[55, 55] ty #[.slice (some b) L.length cap, .slice (some ad) 1 c]).run Try.prog w = .ok (.slice (some ⟨w.heap.size, 0, none⟩) (L.length + 1) (grownCap w (L.length + 1) cap 73)) (w.drew.alloc (.cells ((wcells L).toArray ++ ([.int .i64 p.1, .string p.2] : List Value).toArray ++ Builtin.zeroCells (Value.agg #[.int .i64 0, .string ⟨#[]⟩]).cells (grownCap w (L.length + 1) cap 73 - (L.length + 1))) 73)) := fun b cap hc hold =>
    run_append_grow (P := Try.prog) w 55 ty 73 i _ underWr hi hz b L.length cap (wcells L) (by rw [hs]; exact hlw) hold ad 1 c _ (by rw [hs]; rfl) hnews (by omega) (by omega) (growslice_fits (by omega) (by rw [hb]; omega))
  have row : ∀ cap, WRow (w.drew.alloc (.cells ((wcells L).toArray ++ ([.int .i64 p.1, .string p.2] : List Value).toArray ++ Builtin.zeroCells (Value.agg #[.int .i64 0, .string ⟨#[]⟩]).cells (grownCap w (L.length + 1) cap 73 - (L.length + 1))) 73)) (.slice (some ⟨w.heap.size, 0, none⟩) (L.length + 1) (grownCap w (L.length + 1) cap 73)) (L ++ [p]) := fun cap => by
    have hge := grownCap_ge w (L.length + 1) cap 73
    have hle := grownCap_le_maxLen w (L.length + 1) cap 73 (by unfold maxLen; omega)
    refine .inr ⟨w.heap.size, _, _, by simp, heap_alloc_new w.drew _, by simpa using hge, hle, .inl ?_, ?_⟩
    · simp only [Array.size_append, List.size_toArray, size_zeroCells, hlw, List.length_cons, List.length_nil]
      have : (Value.agg #[.int .i64 0, .string ⟨#[]⟩]).cells.size = 2 := rfl
      rw [this]
      omega
    · rw [wcells_app]
      simp only [Array.toList_append, List.append_assoc]
      rw [← List.append_assoc]
      exact List.take_left' (by simp [hlw]; omega)
  have kp : ∀ (S : Nat → Prop) (o : Obj), Keep S w (w.drew.alloc o) := fun S o => ⟨rfl, rfl, rfl, by simp, fun k hk _ => Below.heap_alloc w.drew _ k hk⟩
  rcases h with ⟨rfl, rfl⟩ | ⟨g, cap, cur, rfl, hg, hlc, hcm, hcs, htk⟩
  · have hr := run_append_nil (P := Try.prog) w 55 ty 73 i _ underWr hi hz ad 1 c _ (by rw [hs]; rfl) hnews (by omega) (by omega) (by rw [hb]; omega)
    refine ⟨_, _, hr, ?_, kp _ _, .inl ⟨rfl, rfl⟩, fun k hk => .inr (by simp [Value.ownBlock] at hk; omega)⟩
    have := row 0
    simp only [List.length_nil, Nat.zero_add, wcells, List.flatMap_nil, Array.empty_append, List.nil_append] at this ⊢
    exact this
  · have holds : ∀ j u, (wcells L)[j]? = some u → w.cell? ((⟨g, 0, none⟩ : Addr).add j) = some u := fun j u hu => by
      rw [Addr.add_mid, Nat.zero_add, cell_of_row w g _ cur _ (0, 0) hg]
      rw [← htk] at hu
      have hj : j < L.length * 2 := by
        have := (List.getElem?_eq_some_iff.1 hu).1
        rw [List.length_take] at this
        omega
      rw [List.getElem?_take_of_lt hj] at hu
      simpa using hu
    by_cases hroom : L.length + 1 ≤ cap
    · have hcs : cur.size = cap * 2 := by
        rcases hcs with h | h
        · exact h
        · omega
      have hfit : L.length * i.size + ([.int .i64 p.1, .string p.2] : List Value).length ≤ cur.size := by rw [hs, hcs]; simp; omega
      have hr := run_append_room (P := Try.prog) w 55 ty 73 i underWr hi g L.length cap cur hg ad 1 c _ (by rw [hs]; rfl) hnews hone hroom hfit
      have hhp := setRow_heap w g cur (cur.toList.take (L.length * i.size) ++ ([.int .i64 p.1, .string p.2] : List Value) ++ cur.toList.drop (L.length * i.size + ([.int .i64 p.1, .string p.2] : List Value).length)).toArray 73 (0, 0) hg
      refine ⟨_, _, hr, .inr ⟨g, cap, _, by simp, hhp, by simpa using hroom, hcm, .inl ?_, ?_⟩, ?_, .inr ⟨g, cap, _, rfl, hhp, hlc, hcm, .inl ?_, ?_⟩, ?_⟩
      · rw [hs]
        simp only [List.size_toArray, List.length_append, List.length_take, List.length_drop, Array.length_toList, List.length_cons, List.length_nil]
        omega
      · rw [hs, htk, wcells_app]
        exact List.take_left' (by simp [hlw]; omega)
      · exact ⟨rfl, rfl, rfl, by simp, fun k _ hk => setRow_other w g k _ (fun e => hk (by rw [e]; exact ⟨_, _, rfl, by omega⟩))⟩
      · rw [hs]
        simp only [List.size_toArray, List.length_append, List.length_take, List.length_drop, Array.length_toList, List.length_cons, List.length_nil]
        omega
      · rw [hs, htk, List.append_assoc]
        exact List.take_left' hlw
      · intro k hk
        simp [Value.ownBlock] at hk
        subst hk
        exact .inl ⟨_, _, rfl, by omega⟩
    · have hr := grow ⟨g, 0, none⟩ cap (by omega) holds
      refine ⟨_, _, hr, row cap, kp _ _, .inr ⟨g, cap, cur, rfl, ?_, hlc, hcm, hcs, htk⟩, fun k hk => .inr (by simp [Value.ownBlock] at hk; omega)⟩
      rw [Below.heap_alloc w.drew _ g (Array.getElem?_eq_some_iff.1 hg).1]
      exact hg

theorem wpList_append_w {w : World} {ops : Array Oper} {rest : List Oper} {o : Oper} {a : Act} {Q : Exit → Act → World → Prop} (hgd : o.guard = none) (s x : Operand)
    (ho : o.op = .call { callee := .builtin .append, args := #[s, x], argTypes := #[55, 55] }) {v : Value} {L : List (Int × ByteArray)} (hs : a.eval s = v) (hrow : WRow w v L) (hL : L.length ≤ 1000000000)
    (ad : Addr) (c : Nat) (p : Int × ByteArray) (hx : a.eval x = .slice (some ad) 1 c) (h0 : w.cell? (ad.add 0) = some (.int .i64 p.1)) (h1 : w.cell? (ad.add 1) = some (.string p.2))
    (h : ∀ v' w', WRow w' v' (L ++ [p]) → Keep (Room v) w w' → WRow w' v L → (∀ k, v'.ownBlock = some k → Room v k ∨ w.heap.size ≤ k) → wpList Try.prog ops Q rest (a.put o.dst v') w') : wpList Try.prog ops Q (o :: rest) a w :=
  wpList_plain hgd fun _ hK => by
    obtain ⟨v', w', hr, h2, h3, h4, h5⟩ := run_append_w hrow hL o.type ad c p h0 h1
    unfold Oper.wp execOp
    simp only [ho, resolve, invoke, builtin, Sem.run_bind, Sem.run_pure, Result.andThen_ok, List.map_toArray, List.map_cons, List.map_nil, hs, hx, hr]
    exact hK _ _ (h v' w' h2 h3 h4 h5)
theorem fieldP1 (x y : ByteArray) (w : World) : (Instr.field 66 (.agg #[.string x, .string y]) 1).run Try.prog w = .ok (.string y) w := by
  simp [Instr.field, go_sem, asAgg]
theorem buildP (x y : ByteArray) (w : World) : (Instr.build 66 #[(0, .string x), (1, .string y)]).run Try.prog w = .ok (.agg #[.string x, .string y]) w := run_build w _ _ _ (by kernel_rfl)
theorem buildW (n : Int) (y : ByteArray) (w : World) : (Instr.build 73 #[(0, .int .i64 n), (1, .string y)]).run Try.prog w = .ok (.agg #[.int .i64 n, .string y]) w := run_build w _ _ _ (by kernel_rfl)

theorem WRow.shape {w : World} {v : Value} {L : List (Int × ByteArray)} (h : WRow w v L) : ∃ p n c, v = .slice p n c := by
  rcases h with ⟨rfl, _⟩ | ⟨g, cap, cur, rfl, _⟩
  · exact ⟨_, _, _, rfl⟩
  · exact ⟨_, _, _, rfl⟩
theorem not_room {w : World} {h : Hd} {D : Dev} (a : DiskAt w h D) : ¬ Room h.wv h.b := by
  rintro ⟨n, c, e, _⟩
  obtain ⟨cur, hq⟩ := a.writes.obj h.b (by rw [e]; rfl)
  have := a.ptr
  unfold Holds at this
  rw [this] at hq
  injection hq with hq
  injection hq with _ hq
  exact absurd hq (by decide)

/-- Another row of writes. -/
theorem Done.wrote {w w' : World} {h : Hd} {D : Dev} {v : Value} {L : List (Int × ByteArray)} (a : DiskAt w h D) (hK : Keep (Room h.wv) w w') (hr : WRow w' v L) (hn : ∀ k, Room v k → Room h.wv k ∨ w.heap.size ≤ k) :
    Done w h (w'.setCell ⟨h.b, 2, none⟩ v) { h with wv := v } { D with writes := L } := by
  have hcell : ∀ k, Room h.wv k → ∃ cur, w.heap[k]? = some (.cells cur 73 (0, 0)) := by
    rintro k ⟨n, c, e, _⟩
    exact a.writes.obj k (by rw [e]; rfl)
  have hb : ¬ Room h.wv h.b := fun q => by
    obtain ⟨cur, hq⟩ := hcell _ q
    have := a.ptr
    unfold Holds at this
    rw [this] at hq
    injection hq with hq
    injection hq with _ hq
    exact absurd hq (by decide)
  have hp' := hK.holds a.ptr hb
  have hO : Only h.b w' (w'.setCell ⟨h.b, 2, none⟩ v) := (Only.refl _ _).set 2 _
  have mp : ∀ m, (∃ es clock, w.heap[m]? = some (.map es clock)) → m < w.heap.size → (w'.setCell ⟨h.b, 2, none⟩ v).heap[m]? = w.heap[m]? := by
    rintro m ⟨es, clock, hq⟩ hlt
    have h1 : m ≠ h.b := by
      rintro rfl
      have := a.ptr
      unfold Holds at this
      rw [this] at hq
      cases hq
    have h2 : ¬ Room h.wv m := fun q => by
      obtain ⟨cur, hq2⟩ := hcell _ q
      rw [hq] at hq2
      cases hq2
    exact (hO.block m (by have := hK.size; omega) h1).trans (hK.block m hlt h2)
  refine ⟨⟨(hp'.set 2 _).congr rfl, ?_, ?_, ?_, a.apart⟩, ⟨rfl, ?_⟩, ?_⟩
  · exact a.pages.block fun m e => mp m (a.pages.obj m e) (a.pages.lt m e)
  · refine hr.block fun k hk => hO.block k (hr.lt k hk) ?_
    rintro rfl
    obtain ⟨cur, hq⟩ := hr.obj _ hk
    unfold Holds at hp'
    rw [hp'] at hq
    injection hq with hq
    injection hq with _ hq
    exact absurd hq (by decide)
  · obtain ⟨n, hf⟩ := a.fails
    exact ⟨n, hf.block fun m e => mp m (hf.obj m e) (hf.lt m e)⟩
  · rintro k (hk | hk | hk)
    · exact .inl (.inl hk)
    · exact .inl (.inr (.inl hk))
    · rcases hn k hk with q | q
      · exact .inl (.inr (.inr q))
      · exact .inr q
  · exact (hK.mono (fun k hk => .inr (.inr hk))).trans (Keep.only hO (S := Foot h) (.inl rfl)) fun _ => .inl

/-- A page is written. -/
def Dev.write (D : Dev) (n : Int) (s : ByteArray) : Int × Dev :=
  if (D.begin (D.has n && decide (s.size = 1024))).1 = 0 then
    (0, { (D.begin (D.has n && decide (s.size = 1024))).2 with pages := setM D.pages n (some (s, ((D.pages n).getD (⟨#[]⟩, ⟨#[]⟩)).2)), writes := D.writes ++ [(n, s)] })
  else D.begin (D.has n && decide (s.size = 1024))
theorem begin_pages (D : Dev) (r : Bool) : (D.begin r).2.pages = D.pages ∧ (D.begin r).2.writes = D.writes ∧ (D.begin r).2.fails = D.fails ∧ (D.begin r).2.size = D.size := by
  have h : D.next.2.pages = D.pages ∧ D.next.2.writes = D.writes ∧ D.next.2.fails = D.fails ∧ D.next.2.size = D.size := by unfold Dev.next; split <;> exact ⟨rfl, rfl, rfl, rfl⟩
  unfold Dev.begin
  split
  · exact ⟨rfl, rfl, rfl, rfl⟩
  · split
    · exact h
    · exact ⟨rfl, rfl, rfl, rfl⟩
theorem begin_zero {D : Dev} {r : Bool} (h : (D.begin r).1 = 0) : r = true ∧ D.off = false := by
  unfold Dev.begin at h
  split at h
  · cases h
  · rename_i ho
    split at h
    · rename_i hr
      exact ⟨hr, by simpa using ho⟩
    · cases h

theorem lookP {w : World} {h : Hd} {D : Dev} (a : DiskAt w h D) {u : Int} (h0 : 0 ≤ u) (h1 : u ≤ 9223372036854775807) :
    (Instr.lookup 54 (.map h.po) (.int .i64 u) false).run Try.prog w = .ok (.agg #[.string ((D.pages u).getD (⟨#[]⟩, ⟨#[]⟩)).1, .string ((D.pages u).getD (⟨#[]⟩, ⟨#[]⟩)).2]) w := by
  have := a.pages.look elemP Try.underlying54 (zeroP w) (wfI (u := u) (by omega) h1) false
  simpa [mkP] using this

theorem write_ok {D : Dev} {N : Nat} (ok : D.ok N) (n : Int) (s : ByteArray) : (D.write n s).2.ok (N + 1) := by
  have hb := begin_ok ok (D.has n && decide (s.size = 1024))
  have hp := begin_pages D (D.has n && decide (s.size = 1024))
  unfold Dev.write
  split
  · rename_i h0
    have h1 := (begin_zero h0).1
    simp only [Bool.and_eq_true, decide_eq_true_eq] at h1
    have h2 := h1.1
    unfold Dev.has at h2
    simp only [Bool.and_eq_true, decide_eq_true_eq] at h2
    have hsz := ok.size
    refine ⟨hb.size, ?_, ?_, ?_, ?_, hb.ops, hb.left, hb.count⟩
    · intro u x hu
      dsimp only at hu
      unfold setM at hu
      split at hu
      · rename_i e; omega
      · exact ok.keys u x hu
    · intro u x hu
      dsimp only at hu
      unfold setM at hu
      split at hu
      · injection hu with hu
        rw [← hu]
        refine ⟨h1.2, ?_⟩
        dsimp only
        cases hq : D.pages n with
        | none => exact .inl rfl
        | some y => exact (ok.texts n y hq).2
      · exact ok.texts u x hu
    · intro q hq
      dsimp only at hq
      rcases List.mem_append.1 hq with hq | hq
      · exact ok.writes q hq
      · rw [List.mem_singleton.1 hq]
        exact ⟨h2.1, by omega, h1.2⟩
    · dsimp only
      have := ok.many
      simp; omega
  · exact hb

set_option maxRecDepth 8000 in
set_option maxHeartbeats 2000000 in
/-- Write. The writes as they were are still there. -/
theorem write_any {w : World} {h : Hd} {D : Dev} (a : DiskAt w h D) {N : Nat} (ok : D.ok N) (hN : N < 1000000000) (n : Int) (hn : -9223372036854775808 ≤ n ∧ n ≤ 9223372036854775807) (s : ByteArray) :
    Calls Try.prog 28 #[.pointer (some ⟨h.b, 0, none⟩), .int .i64 n, .string s] w fun e w' => e = .returned (.int .i64 (D.write n s).1) ∧ WRow w' h.wv D.writes ∧ ∃ h', Done w h w' h' (D.write n s).2 := by
  have hh := has_any a n
  have hbg := begin_any a ok hN (D.has n && decide (s.size = 1024))
  have hp := begin_pages D (D.has n && decide (s.size = 1024))
  have hz := @begin_zero D (D.has n && decide (s.size = 1024))
  have hok := begin_ok ok (D.has n && decide (s.size = 1024))
  have hdec : (((s.size : Int)) == 1024) = decide (s.size = 1024) := by rw [Bool.eq_iff_iff]; simp; omega
  unfold Dev.write
  generalize hE : D.begin (D.has n && decide (s.size = 1024)) = E at hbg hp hz hok ⊢
  clear hE
  have hN0 : (0 : Int) ≤ N := by omega
  have HW : Hid (WRow w h.wv D.writes) := a.writes
  by_cases he : E.1 = 0
  · rw [if_pos he]
    rw [he] at hbg
    have hr := (hz he).1
    simp only [Bool.and_eq_true, decide_eq_true_eq] at hr
    obtain ⟨hr1, hr2⟩ := hr
    have hr3 := hr1
    unfold Dev.has at hr3
    simp only [Bool.and_eq_true, decide_eq_true_eq] at hr3
    have hsz := ok.size
    have hn1 : n < 65536 := by omega
    have hn0 : 0 ≤ n := hr3.1
    rw [hr1, hr2] at hbg
    rw [hr1] at hh
    have hkeys := ok.keys
    clear hz hr3
    simp only [decide_true, Bool.and_true] at hbg
    have hsi : (s.size : Int) = 1024 := by omega
    have hfl := fieldP1
    have hb1 := buildP
    have hb2 := buildW
    go_enter Try.func28, Try.ntmps28
    go_wp2_with (first
      | (go_at_call 38; refine hh.mono ?_; rintro e w1 ⟨rfl, rfl⟩)
      | (go_at_call 37; refine hbg.mono ?_; rintro e w2 ⟨rfl, hd⟩; clear hbg; have a2 := hd.at_; have c1 : w2.cell? ⟨h.b, 1, none⟩ = some (.map h.po) := a2.ptr.cell 1; have hlk := lookP a2 (u := n) hn0 (by omega); rw [hp.1] at hlk; have hpt := put_any a2 (by rw [hp.1]; exact hkeys) hn0 hn1 (s, ((D.pages n).getD (⟨#[]⟩, ⟨#[]⟩)).2); unfold mkP at hpt; rw [hp.1] at hpt)
      | (go_at_call 42; refine hpt.mono ?_; rintro e w3 ⟨rfl, ⟨b3, p3, v3, f3⟩, hv3, hf3, hd3⟩; clear hpt hlk c1; dsimp only at hv3 hf3; have hb3 : b3 = h.b := hd3.newer.1; subst hv3 hf3 hb3; have a3 := hd3.at_.below (below_new1 w3 (.cells #[.int .i64 n, .string s] 73)); have c2 : w3.cell? ⟨h.b, 2, none⟩ = some h.wv := hd3.at_.ptr.cell 2)
      | (at_builtin; go_loud (refine wpList_append_w rfl _ _ rfl rfl a3.writes (by have := ok.many; rw [hp.2.1]; omega) ⟨w3.heap.size, 0, none⟩ 1 (n, s) rfl (by exact (Holds.new w3 73 _).cell 0) (by exact (Holds.new w3 73 _).cell 1) ?_; intro v4 w4 hr4 hk4 ho4 hn4; have hnr := not_room a3; have hp4 := hk4.holds a3.ptr hnr; have c24 : w4.cell? ⟨h.b, 2, none⟩ = some h.wv := hp4.cell 2; have f24 := hp4.frozen 2; obtain ⟨p4, n4, k4, rfl⟩ := hr4.shape)))
    go_ret
    have hd5 := Done.wrote a3 hk4 hr4 (fun k hk => hn4 k (by obtain ⟨n', c', e, _⟩ := hk; rw [e]; rfl))
    rw [hp.2.1] at hd5 ho4
    have hdA := (hd.trans (hd3.below (below_new1 _ _))).trans hd5
    simp only [hp.2.2.1, hp.2.2.2] at hdA
    refine ⟨rfl, ?_, _, hdA⟩
    refine ho4.block fun k hk => ?_
    have : k ≠ h.b := by
      rintro rfl
      obtain ⟨cur, hq⟩ := ho4.obj _ hk
      unfold Holds at hp4
      rw [hp4] at hq
      injection hq with hq
      injection hq with _ hq
      exact absurd hq (by decide)
    exact Below.heap_setCell _ _ _ _ this
  · rw [if_neg he]
    have hne : (E.1 == 0) = false := beq_eq_false_iff_ne.2 he
    cases h1 : D.has n with
    | true =>
      rw [h1] at hh hbg
      simp only [Bool.true_and] at hbg
      go_enter Try.func28, Try.ntmps28
      go_wp2_with (first
        | (go_at_call 38; refine hh.mono ?_; rintro e w1 ⟨rfl, rfl⟩)
        | (go_at_call 37; refine hbg.mono ?_; rintro e w2 ⟨rfl, hd⟩; clear hbg))
      go_ret
      exact ⟨rfl, (hp.2.1 ▸ hd.at_.writes), h, hd⟩
    | false =>
      rw [h1] at hh hbg
      simp only [Bool.false_and] at hbg
      go_enter Try.func28, Try.ntmps28
      go_wp2_with (first
        | (go_at_call 38; refine hh.mono ?_; rintro e w1 ⟨rfl, rfl⟩)
        | (go_at_call 37; refine hbg.mono ?_; rintro e w2 ⟨rfl, hd⟩; clear hbg))
      go_ret
      exact ⟨rfl, (hp.2.1 ▸ hd.at_.writes), h, hd⟩
end Go.Proofs.Ytonmjkalkkfhhaa
