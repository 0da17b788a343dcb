/-
  Texts of this claim, put together.
-/
import Derived.Test.YtjklcnknbcmgoaaGreatDoorDB
import Derived.Test.YtjklcnknbcmgoaaGreatDoorShelf
import Derived.Deep.OwnRows
import Derived.Lib.BufferRead
/-
  What Write does.
-/
namespace Go.Proofs.YtjklcnknbcmgoaaGreatDoor
open Go Go.RowKit Go.Maps

/-- The block into which an append may write. -/
def Room (v : Value) (k : Nat) : Prop := ∃ n c, v = .slice (some ⟨k, 0, none⟩) n c ∧ n < c
theorem infoWr : ∃ i, Tryz.prog.info? 94 = some i ∧ i.zero = some (.agg #[.int .i64 0, .string ⟨#[]⟩]) ∧ i.size = 2 ∧ i.bytes = 24 := by
  have h : (Tryz.prog.info? 94).map (fun i => (i.zero, i.size, i.bytes)) = some (some (.agg #[.int .i64 0, .string ⟨#[]⟩]), 2, 24) := by kernel_rfl
  cases hi : Tryz.prog.info? 94 with
  | none => rw [hi] at h; cases h
  | some i =>
    rw [hi] at h
    simp only [Option.map_some, Option.some.injEq, Prod.mk.injEq] at h
    exact ⟨i, rfl, h⟩
theorem underWr : Tryz.prog.underlying 59 = some (.slice 94) := Tryz.underlying59

/-- A write is appended. -/
theorem run_append_w {w : World} {v : Value} {L : List (Int × ByteArray)} (h : WRow w v L) (hL : L.length ≤ 1000000000) (ty : TypeId) (ad : Addr) (c : Nat) (p : Int × ByteArray)
    (h0 : w.cell? (ad.add 0) = some (.int .i64 p.1)) (h1 : w.cell? (ad.add 1) = some (.string p.2)) :
    ∃ v' w', (Builtin.append_ #[59, 59] ty #[v, .slice (some ad) 1 c]).run Tryz.prog w = .ok v' w' ∧ WRow w' v' (L ++ [p]) ∧ Keep (Room v) w w' ∧ WRow w' v L ∧ ∀ k, v'.ownBlock = some k → Room v k ∨ w.heap.size ≤ k := by
  obtain ⟨i, hi, hz, hs, hb⟩ := infoWr
  have hnews : ∀ j u, ([.int .i64 p.1, .string p.2] : List Value)[j]? = some u → w.cell? (ad.add j) = some u := by
    intro j u hu
    match j with
    | 0 => simp at hu; rw [h0, hu]
    | 1 => simp at hu; rw [h1, hu]
    | j + 2 => simp at hu
  have hone : ∀ u ∈ ([.int .i64 p.1, .string p.2] : List Value), u.oneCell' = true := by
    intro u hu
    simp at hu
    rcases hu with rfl | rfl <;> rfl
  have hlw := wcells_len L
  have grow : ∀ (b : Addr) (cap : Nat), cap < L.length + 1 → (∀ j u, (wcells L)[j]? = some u → w.cell? (b.add j) = some u) →
      (Builtin.append_ #[59, 59] ty #[.slice (some b) L.length cap, .slice (some ad) 1 c]).run Tryz.prog w = .ok (.slice (some ⟨w.heap.size, 0, none⟩) (L.length + 1) (grownCap w (L.length + 1) cap 94)) (w.drew.alloc (.cells ((wcells L).toArray ++ ([.int .i64 p.1, .string p.2] : List Value).toArray ++ Builtin.zeroCells (Value.agg #[.int .i64 0, .string ⟨#[]⟩]).cells (grownCap w (L.length + 1) cap 94 - (L.length + 1))) 94)) := fun b cap hc hold =>
    run_append_grow (P := Tryz.prog) w 59 ty 94 i _ underWr hi hz b L.length cap (wcells L) (by rw [hs]; exact hlw) hold ad 1 c _ (by rw [hs]; rfl) hnews (by omega) (by omega) (growslice_fits (by omega) (by rw [hb]; omega))
  have row : ∀ cap, WRow (w.drew.alloc (.cells ((wcells L).toArray ++ ([.int .i64 p.1, .string p.2] : List Value).toArray ++ Builtin.zeroCells (Value.agg #[.int .i64 0, .string ⟨#[]⟩]).cells (grownCap w (L.length + 1) cap 94 - (L.length + 1))) 94)) (.slice (some ⟨w.heap.size, 0, none⟩) (L.length + 1) (grownCap w (L.length + 1) cap 94)) (L ++ [p]) := fun cap => by
    have hge := grownCap_ge w (L.length + 1) cap 94
    have hle := grownCap_le_maxLen w (L.length + 1) cap 94 (by unfold maxLen; omega)
    refine .inr ⟨w.heap.size, _, _, by simp, heap_alloc_new w.drew _, by simpa using hge, hle, .inl ?_, ?_⟩
    · simp only [Array.size_append, List.size_toArray, size_zeroCells, hlw, List.length_cons, List.length_nil]
      have : (Value.agg #[.int .i64 0, .string ⟨#[]⟩]).cells.size = 2 := rfl
      rw [this]
      omega
    · rw [wcells_app]
      simp only [Array.toList_append, List.append_assoc]
      rw [← List.append_assoc]
      exact List.take_left' (by simp [hlw]; omega)
  have kp : ∀ (S : Nat → Prop) (o : Obj), Keep S w (w.drew.alloc o) := fun S o => ⟨rfl, rfl, rfl, by simp, fun k hk _ => Below.heap_alloc w.drew _ k hk⟩
  rcases h with ⟨rfl, rfl⟩ | ⟨g, cap, cur, rfl, hg, hlc, hcm, hcs, htk⟩
  · have hr := run_append_nil (P := Tryz.prog) w 59 ty 94 i _ underWr hi hz ad 1 c _ (by rw [hs]; rfl) hnews (by omega) (by omega) (by rw [hb]; omega)
    refine ⟨_, _, hr, ?_, kp _ _, .inl ⟨rfl, rfl⟩, fun k hk => .inr (by simp [Value.ownBlock] at hk; omega)⟩
    have := row 0
    simp only [List.length_nil, Nat.zero_add, wcells, List.flatMap_nil, Array.empty_append, List.nil_append] at this ⊢
    exact this
  · have holds : ∀ j u, (wcells L)[j]? = some u → w.cell? ((⟨g, 0, none⟩ : Addr).add j) = some u := fun j u hu => by
      rw [Addr.add_mid, Nat.zero_add, cell_of_row w g _ cur _ (0, 0) hg]
      rw [← htk] at hu
      have hj : j < L.length * 2 := by
        have := (List.getElem?_eq_some_iff.1 hu).1
        rw [List.length_take] at this
        omega
      rw [List.getElem?_take_of_lt hj] at hu
      simpa using hu
    by_cases hroom : L.length + 1 ≤ cap
    · have hcs : cur.size = cap * 2 := by
        rcases hcs with h | h
        · exact h
        · omega
      have hfit : L.length * i.size + ([.int .i64 p.1, .string p.2] : List Value).length ≤ cur.size := by rw [hs, hcs]; simp; omega
      have hr := run_append_room (P := Tryz.prog) w 59 ty 94 i underWr hi g L.length cap cur hg ad 1 c _ (by rw [hs]; rfl) hnews hone hroom hfit
      have hhp := setRow_heap w g cur (cur.toList.take (L.length * i.size) ++ ([.int .i64 p.1, .string p.2] : List Value) ++ cur.toList.drop (L.length * i.size + ([.int .i64 p.1, .string p.2] : List Value).length)).toArray 94 (0, 0) hg
      refine ⟨_, _, hr, .inr ⟨g, cap, _, by simp, hhp, by simpa using hroom, hcm, .inl ?_, ?_⟩, ?_, .inr ⟨g, cap, _, rfl, hhp, hlc, hcm, .inl ?_, ?_⟩, ?_⟩
      · rw [hs]
        simp only [List.size_toArray, List.length_append, List.length_take, List.length_drop, Array.length_toList, List.length_cons, List.length_nil]
        omega
      · rw [hs, htk, wcells_app]
        exact List.take_left' (by simp [hlw]; omega)
      · exact ⟨rfl, rfl, rfl, by simp, fun k _ hk => setRow_other w g k _ (fun e => hk (by rw [e]; exact ⟨_, _, rfl, by omega⟩))⟩
      · rw [hs]
        simp only [List.size_toArray, List.length_append, List.length_take, List.length_drop, Array.length_toList, List.length_cons, List.length_nil]
        omega
      · rw [hs, htk, List.append_assoc]
        exact List.take_left' hlw
      · intro k hk
        simp [Value.ownBlock] at hk
        subst hk
        exact .inl ⟨_, _, rfl, by omega⟩
    · have hr := grow ⟨g, 0, none⟩ cap (by omega) holds
      refine ⟨_, _, hr, row cap, kp _ _, .inr ⟨g, cap, cur, rfl, ?_, hlc, hcm, hcs, htk⟩, fun k hk => .inr (by simp [Value.ownBlock] at hk; omega)⟩
      rw [Below.heap_alloc w.drew _ g (Array.getElem?_eq_some_iff.1 hg).1]
      exact hg

theorem wpList_append_w {w : World} {ops : Array Oper} {rest : List Oper} {o : Oper} {a : Act} {Q : Exit → Act → World → Prop} (hgd : o.guard = none) (s x : Operand)
    (ho : o.op = .call { callee := .builtin .append, args := #[s, x], argTypes := #[59, 59] }) {v : Value} {L : List (Int × ByteArray)} (hs : a.eval s = v) (hrow : WRow w v L) (hL : L.length ≤ 1000000000)
    (ad : Addr) (c : Nat) (p : Int × ByteArray) (hx : a.eval x = .slice (some ad) 1 c) (h0 : w.cell? (ad.add 0) = some (.int .i64 p.1)) (h1 : w.cell? (ad.add 1) = some (.string p.2))
    (h : ∀ v' w', WRow w' v' (L ++ [p]) → Keep (Room v) w w' → WRow w' v L → (∀ k, v'.ownBlock = some k → Room v k ∨ w.heap.size ≤ k) → wpList Tryz.prog ops Q rest (a.put o.dst v') w') : wpList Tryz.prog ops Q (o :: rest) a w :=
  wpList_plain hgd fun _ hK => by
    obtain ⟨v', w', hr, h2, h3, h4, h5⟩ := run_append_w hrow hL o.type ad c p h0 h1
    unfold Oper.wp execOp
    simp only [ho, resolve, invoke, builtin, Sem.run_bind, Sem.run_pure, Result.andThen_ok, List.map_toArray, List.map_cons, List.map_nil, hs, hx, hr]
    exact hK _ _ (h v' w' h2 h3 h4 h5)
theorem fieldP1 (x y : ByteArray) (w : World) : (Instr.field 114 (.agg #[.string x, .string y]) 1).run Tryz.prog w = .ok (.string y) w := by
  simp [Instr.field, go_sem, asAgg]
theorem buildP (x y : ByteArray) (w : World) : (Instr.build 114 #[(0, .string x), (1, .string y)]).run Tryz.prog w = .ok (.agg #[.string x, .string y]) w := run_build w _ _ _ (by kernel_rfl)
theorem buildW (n : Int) (y : ByteArray) (w : World) : (Instr.build 94 #[(0, .int .i64 n), (1, .string y)]).run Tryz.prog w = .ok (.agg #[.int .i64 n, .string y]) w := run_build w _ _ _ (by kernel_rfl)

theorem WRow.shape {w : World} {v : Value} {L : List (Int × ByteArray)} (h : WRow w v L) : ∃ p n c, v = .slice p n c := by
  rcases h with ⟨rfl, _⟩ | ⟨g, cap, cur, rfl, _⟩
  · exact ⟨_, _, _, rfl⟩
  · exact ⟨_, _, _, rfl⟩
theorem not_room {w : World} {h : Hd} {D : Dev} (a : DiskAt w h D) : ¬ Room h.wv h.b := by
  rintro ⟨n, c, e, _⟩
  obtain ⟨cur, hq⟩ := a.writes.obj h.b (by rw [e]; rfl)
  have := a.ptr
  unfold Holds at this
  rw [this] at hq
  injection hq with hq
  injection hq with _ hq
  exact absurd hq (by decide)

/-- Another row of writes. -/
theorem Done.wrote {w w' : World} {h : Hd} {D : Dev} {v : Value} {L : List (Int × ByteArray)} (a : DiskAt w h D) (hK : Keep (Room h.wv) w w') (hr : WRow w' v L) (hn : ∀ k, Room v k → Room h.wv k ∨ w.heap.size ≤ k) :
    Done w h (w'.setCell ⟨h.b, 2, none⟩ v) { h with wv := v } { D with writes := L } := by
  have hcell : ∀ k, Room h.wv k → ∃ cur, w.heap[k]? = some (.cells cur 94 (0, 0)) := by
    rintro k ⟨n, c, e, _⟩
    exact a.writes.obj k (by rw [e]; rfl)
  have hb : ¬ Room h.wv h.b := fun q => by
    obtain ⟨cur, hq⟩ := hcell _ q
    have := a.ptr
    unfold Holds at this
    rw [this] at hq
    injection hq with hq
    injection hq with _ hq
    exact absurd hq (by decide)
  have hp' := hK.holds a.ptr hb
  have hO : Only h.b w' (w'.setCell ⟨h.b, 2, none⟩ v) := (Only.refl _ _).set 2 _
  have mp : ∀ m, (∃ es clock, w.heap[m]? = some (.map es clock)) → m < w.heap.size → (w'.setCell ⟨h.b, 2, none⟩ v).heap[m]? = w.heap[m]? := by
    rintro m ⟨es, clock, hq⟩ hlt
    have h1 : m ≠ h.b := by
      rintro rfl
      have := a.ptr
      unfold Holds at this
      rw [this] at hq
      cases hq
    have h2 : ¬ Room h.wv m := fun q => by
      obtain ⟨cur, hq2⟩ := hcell _ q
      rw [hq] at hq2
      cases hq2
    exact (hO.block m (by have := hK.size; omega) h1).trans (hK.block m hlt h2)
  refine ⟨⟨(hp'.set 2 _).congr rfl, ?_, ?_, ?_, a.apart⟩, ⟨rfl, ?_⟩, ?_, fun _ => .inl⟩
  · exact a.pages.block fun m e => mp m (a.pages.obj m e) (a.pages.lt m e)
  · refine hr.block fun k hk => hO.block k (hr.lt k hk) ?_
    rintro rfl
    obtain ⟨cur, hq⟩ := hr.obj _ hk
    unfold Holds at hp'
    rw [hp'] at hq
    injection hq with hq
    injection hq with _ hq
    exact absurd hq (by decide)
  · obtain ⟨n, hf⟩ := a.fails
    exact ⟨n, hf.block fun m e => mp m (hf.obj m e) (hf.lt m e)⟩
  · rintro k (hk | hk | hk)
    · exact .inl (.inl hk)
    · exact .inl (.inr (.inl hk))
    · rcases hn k hk with q | q
      · exact .inl (.inr (.inr q))
      · exact .inr q
  · exact (hK.mono (fun k hk => .inr (.inr hk))).trans (Keep.only hO (S := Foot h) (.inl rfl)) fun _ => .inl

/-- A page is written. -/
def Dev.write (D : Dev) (n : Int) (s : ByteArray) : Int × Dev :=
  if (D.begin (D.has n && decide (s.size = 1024))).1 = 0 then
    (0, { (D.begin (D.has n && decide (s.size = 1024))).2 with pages := setM D.pages n (some (s, ((D.pages n).getD (⟨#[]⟩, ⟨#[]⟩)).2)), writes := D.writes ++ [(n, s)] })
  else D.begin (D.has n && decide (s.size = 1024))
theorem begin_pages (D : Dev) (r : Bool) : (D.begin r).2.pages = D.pages ∧ (D.begin r).2.writes = D.writes ∧ (D.begin r).2.fails = D.fails ∧ (D.begin r).2.size = D.size := by
  have h : D.next.2.pages = D.pages ∧ D.next.2.writes = D.writes ∧ D.next.2.fails = D.fails ∧ D.next.2.size = D.size := by unfold Dev.next; split <;> exact ⟨rfl, rfl, rfl, rfl⟩
  unfold Dev.begin
  split
  · exact ⟨rfl, rfl, rfl, rfl⟩
  · split
    · exact h
    · exact ⟨rfl, rfl, rfl, rfl⟩
theorem begin_zero {D : Dev} {r : Bool} (h : (D.begin r).1 = 0) : r = true ∧ D.off = false := by
  unfold Dev.begin at h
  split at h
  · cases h
  · rename_i ho
    split at h
    · rename_i hr
      exact ⟨hr, by simpa using ho⟩
    · cases h

theorem lookP {w : World} {h : Hd} {D : Dev} (a : DiskAt w h D) {u : Int} (h0 : 0 ≤ u) (h1 : u ≤ 9223372036854775807) :
    (Instr.lookup 58 (.map h.po) (.int .i64 u) false).run Tryz.prog w = .ok (.agg #[.string ((D.pages u).getD (⟨#[]⟩, ⟨#[]⟩)).1, .string ((D.pages u).getD (⟨#[]⟩, ⟨#[]⟩)).2]) w := by
  have := a.pages.look elemP Tryz.underlying58 (zeroP w) (wfI (u := u) (by omega) h1) false
  simpa [mkP] using this

theorem write_ok {D : Dev} {N : Nat} (ok : D.ok N) (n : Int) (s : ByteArray) : (D.write n s).2.ok (N + 1) := by
  have hb := begin_ok ok (D.has n && decide (s.size = 1024))
  have hp := begin_pages D (D.has n && decide (s.size = 1024))
  unfold Dev.write
  split
  · rename_i h0
    have h1 := (begin_zero h0).1
    simp only [Bool.and_eq_true, decide_eq_true_eq] at h1
    have h2 := h1.1
    unfold Dev.has at h2
    simp only [Bool.and_eq_true, decide_eq_true_eq] at h2
    have hsz := ok.size
    refine ⟨hb.size, ?_, ?_, ?_, ?_, hb.ops, hb.left, hb.count⟩
    · intro u x hu
      dsimp only at hu
      unfold setM at hu
      split at hu
      · rename_i e; omega
      · exact ok.keys u x hu
    · intro u x hu
      dsimp only at hu
      unfold setM at hu
      split at hu
      · injection hu with hu
        rw [← hu]
        refine ⟨h1.2, ?_⟩
        dsimp only
        cases hq : D.pages n with
        | none => exact .inl rfl
        | some y => exact (ok.texts n y hq).2
      · exact ok.texts u x hu
    · intro q hq
      dsimp only at hq
      rcases List.mem_append.1 hq with hq | hq
      · exact ok.writes q hq
      · rw [List.mem_singleton.1 hq]
        exact ⟨h2.1, by omega, h1.2⟩
    · dsimp only
      have := ok.many
      simp; omega
  · exact hb

set_option maxRecDepth 8000 in
set_option maxHeartbeats 2000000 in
/-- Write. The writes as they were are still there. -/
theorem write_any {w : World} {h : Hd} {D : Dev} (a : DiskAt w h D) {N : Nat} (ok : D.ok N) (hN : N < 1000000000) (n : Int) (hn : -9223372036854775808 ≤ n ∧ n ≤ 9223372036854775807) (s : ByteArray) :
    Calls Tryz.prog 49 #[.pointer (some ⟨h.b, 0, none⟩), .int .i64 n, .string s] w fun e w' => e = .returned (.int .i64 (D.write n s).1) ∧ WRow w' h.wv D.writes ∧ ∃ h', Done w h w' h' (D.write n s).2 := by
  have hh := has_any a n
  have hbg := begin_any a ok hN (D.has n && decide (s.size = 1024))
  have hp := begin_pages D (D.has n && decide (s.size = 1024))
  have hz := @begin_zero D (D.has n && decide (s.size = 1024))
  have hok := begin_ok ok (D.has n && decide (s.size = 1024))
  have hdec : (((s.size : Int)) == 1024) = decide (s.size = 1024) := by rw [Bool.eq_iff_iff]; simp; omega
  unfold Dev.write
  generalize hE : D.begin (D.has n && decide (s.size = 1024)) = E at hbg hp hz hok ⊢
  clear hE
  have hN0 : (0 : Int) ≤ N := by omega
  have HW : Hid (WRow w h.wv D.writes) := a.writes
  by_cases he : E.1 = 0
  · rw [if_pos he]
    rw [he] at hbg
    have hr := (hz he).1
    simp only [Bool.and_eq_true, decide_eq_true_eq] at hr
    obtain ⟨hr1, hr2⟩ := hr
    have hr3 := hr1
    unfold Dev.has at hr3
    simp only [Bool.and_eq_true, decide_eq_true_eq] at hr3
    have hsz := ok.size
    have hn1 : n < 65536 := by omega
    have hn0 : 0 ≤ n := hr3.1
    rw [hr1, hr2] at hbg
    rw [hr1] at hh
    have hkeys := ok.keys
    clear hz hr3
    simp only [decide_true, Bool.and_true] at hbg
    have hsi : (s.size : Int) = 1024 := by omega
    have hfl := fieldP1
    have hb1 := buildP
    have hb2 := buildW
    go_enter Tryz.func49, Tryz.ntmps49
    go_wp2_with (first
      | (go_at_call 68; refine hh.mono ?_; rintro e w1 ⟨rfl, rfl⟩)
      | (go_at_call 58; refine hbg.mono ?_; rintro e w2 ⟨rfl, hd⟩; clear hbg; have a2 := hd.at_; have c1 : w2.cell? ⟨h.b, 1, none⟩ = some (.map h.po) := a2.ptr.cell 1; have hlk := lookP a2 (u := n) hn0 (by omega); rw [hp.1] at hlk; have hpt := put_any a2 (by rw [hp.1]; exact hkeys) hn0 hn1 (s, ((D.pages n).getD (⟨#[]⟩, ⟨#[]⟩)).2); unfold mkP at hpt; rw [hp.1] at hpt)
      | (go_at_call 59; refine hpt.mono ?_; rintro e w3 ⟨rfl, ⟨b3, p3, v3, f3⟩, hv3, hf3, hd3⟩; clear hpt hlk c1; dsimp only at hv3 hf3; have hb3 : b3 = h.b := hd3.newer.1; subst hv3 hf3 hb3; have a3 := hd3.at_.below (below_new1 w3 (.cells #[.int .i64 n, .string s] 94)); have c2 : w3.cell? ⟨h.b, 2, none⟩ = some h.wv := hd3.at_.ptr.cell 2)
      | (at_builtin; go_loud (refine wpList_append_w rfl _ _ rfl rfl a3.writes (by have := ok.many; rw [hp.2.1]; omega) ⟨w3.heap.size, 0, none⟩ 1 (n, s) rfl (by exact (Holds.new w3 94 _).cell 0) (by exact (Holds.new w3 94 _).cell 1) ?_; intro v4 w4 hr4 hk4 ho4 hn4; have hnr := not_room a3; have hp4 := hk4.holds a3.ptr hnr; have c24 : w4.cell? ⟨h.b, 2, none⟩ = some h.wv := hp4.cell 2; have f24 := hp4.frozen 2; obtain ⟨p4, n4, k4, rfl⟩ := hr4.shape)))
    go_ret
    have hd5 := Done.wrote a3 hk4 hr4 (fun k hk => hn4 k (by obtain ⟨n', c', e, _⟩ := hk; rw [e]; rfl))
    rw [hp.2.1] at hd5 ho4
    have hdA := (hd.trans (hd3.below (below_new1 _ _))).trans hd5
    simp only [hp.2.2.1, hp.2.2.2] at hdA
    refine ⟨rfl, ?_, _, hdA⟩
    refine ho4.block fun k hk => ?_
    have : k ≠ h.b := by
      rintro rfl
      obtain ⟨cur, hq⟩ := ho4.obj _ hk
      unfold Holds at hp4
      rw [hp4] at hq
      injection hq with hq
      injection hq with _ hq
      exact absurd hq (by decide)
    exact Below.heap_setCell _ _ _ _ this
  · rw [if_neg he]
    have hne : (E.1 == 0) = false := beq_eq_false_iff_ne.2 he
    cases h1 : D.has n with
    | true =>
      rw [h1] at hh hbg
      simp only [Bool.true_and] at hbg
      go_enter Tryz.func49, Tryz.ntmps49
      go_wp2_with (first
        | (go_at_call 68; refine hh.mono ?_; rintro e w1 ⟨rfl, rfl⟩)
        | (go_at_call 58; refine hbg.mono ?_; rintro e w2 ⟨rfl, hd⟩; clear hbg))
      go_ret
      exact ⟨rfl, (hp.2.1 ▸ hd.at_.writes), h, hd⟩
    | false =>
      rw [h1] at hh hbg
      simp only [Bool.false_and] at hbg
      go_enter Tryz.func49, Tryz.ntmps49
      go_wp2_with (first
        | (go_at_call 68; refine hh.mono ?_; rintro e w1 ⟨rfl, rfl⟩)
        | (go_at_call 58; refine hbg.mono ?_; rintro e w2 ⟨rfl, hd⟩; clear hbg))
      go_ret
      exact ⟨rfl, (hp.2.1 ▸ hd.at_.writes), h, hd⟩
end Go.Proofs.YtjklcnknbcmgoaaGreatDoor
/-
  What Read, Sync and Clear do; New.
-/
namespace Go.Proofs.YtjklcnknbcmgoaaGreatDoor
open Go Go.RowKit Go.Maps

/-- A page of one byte. -/
def fillOf (n : Nat) (b : UInt8) : ByteArray := ⟨(List.replicate n b).toArray⟩
theorem fillOf_size (n : Nat) (b : UInt8) : (fillOf n b).size = n := by
  show (List.replicate n b).toArray.size = n
  rw [List.size_toArray, List.length_replicate]
/-- A page of zeros. -/
def zeros : ByteArray := fillOf 1024 0
theorem repeat_zeros (n : Nat) : (⟨(Lib.repeatL [0] n).toArray⟩ : ByteArray) = fillOf n 0 := by
  have : ∀ n, Lib.repeatL [0] n = List.replicate n 0 := fun n => by
    induction n with
    | zero => rfl
    | succ n ih => simp [Lib.repeatL, List.replicate_succ, ih]
  unfold fillOf
  rw [this]
theorem zeros_size : zeros.size = 1024 := fillOf_size _ _

/-- A page is read. -/
def Dev.read (D : Dev) (n : Int) : ByteArray × Int × Dev :=
  if (D.begin (D.has n)).1 = 0 then (((D.pages n).map (·.1)).getD zeros, 0, (D.begin (D.has n)).2) else (⟨#[]⟩, D.begin (D.has n))

theorem lookPok {w : World} {h : Hd} {D : Dev} (a : DiskAt w h D) {u : Int} (h0 : 0 ≤ u) (h1 : u ≤ 9223372036854775807) :
    (Instr.lookup 58 (.map h.po) (.int .i64 u) true).run Tryz.prog w = .ok (.tuple #[.agg #[.string ((D.pages u).getD (⟨#[]⟩, ⟨#[]⟩)).1, .string ((D.pages u).getD (⟨#[]⟩, ⟨#[]⟩)).2], .bool (D.pages u).isSome]) w := by
  have := a.pages.look elemP Tryz.underlying58 (zeroP w) (wfI (u := u) (by omega) h1) true
  simpa [mkP] using this

set_option maxRecDepth 8000 in
set_option maxHeartbeats 2000000 in
theorem read_any {w : World} {h : Hd} {D : Dev} (a : DiskAt w h D) {N : Nat} (ok : D.ok N) (hN : N < 1000000000) (n : Int) (hn : -9223372036854775808 ≤ n ∧ n ≤ 9223372036854775807) :
    Calls Tryz.prog 44 #[.pointer (some ⟨h.b, 0, none⟩), .int .i64 n] w fun e w' => e = .returned (.tuple #[.string (D.read n).1, .int .i64 (D.read n).2.1]) ∧ Done w h w' h (D.read n).2.2 := by
  have hh := has_any a n
  have hbg := begin_any a ok hN (D.has n)
  have hp := begin_pages D (D.has n)
  have hz := @begin_zero D (D.has n)
  unfold Dev.read
  generalize hE : D.begin (D.has n) = E at hbg hp hz ⊢
  clear hE
  by_cases he : E.1 = 0
  · rw [if_pos he]
    rw [he] at hbg
    have hr1 := (hz he).1
    have hr3 := hr1
    unfold Dev.has at hr3
    simp only [Bool.and_eq_true, decide_eq_true_eq] at hr3
    have hsz := ok.size
    have hn0 : 0 ≤ n := hr3.1
    rw [hr1] at hh hbg
    have hpg := hp.1
    clear hz hr3 hp
    cases hq : D.pages n with
    | some x =>
      obtain ⟨x1, x2⟩ := x
      simp only [Option.map_some, Option.getD_some]
      have HQ : Hid (D.pages n = some (x1, x2)) := hq
      clear hq
      have HP : Hid (E.2.pages = D.pages) := hpg
      clear hpg
      go_enter Tryz.func44, Tryz.ntmps44
      go_wp2_with (first
        | (go_at_call 68; refine hh.mono ?_; rintro e w1 ⟨rfl, rfl⟩)
        | (go_at_call 58; refine hbg.mono ?_; rintro e w2 ⟨rfl, hd⟩; clear hbg; have a2 := hd.at_; have c1 : w2.cell? ⟨h.b, 1, none⟩ = some (.map h.po) := a2.ptr.cell 1; have hlk := lookPok a2 (u := n) hn0 (by omega); rw [HP.out, HQ.out] at hlk; simp only [Option.getD_some, Option.isSome_some] at hlk))
      go_ret2
      exact ⟨rfl, hd.below (below_new1 _ _)⟩
    | none =>
      simp only [Option.map_none, Option.getD_none]
      have HQ : Hid (D.pages n = none) := hq
      clear hq
      have HP : Hid (E.2.pages = D.pages) := hpg
      clear hpg
      have hrep := fun W => Tryz.strings_Repeat ⟨#[0]⟩ 1024 W (by omega) (by decide)
      rw [show (⟨#[0]⟩ : ByteArray).data.toList = [0] from rfl, repeat_zeros] at hrep
      unfold zeros
      generalize fillOf 1024 0 = zz at hrep ⊢
      go_enter Tryz.func44, Tryz.ntmps44
      go_wp2_with (first
        | (go_at_call 68; refine hh.mono ?_; rintro e w1 ⟨rfl, rfl⟩)
        | (go_at_call 58; refine hbg.mono ?_; rintro e w2 ⟨rfl, hd⟩; clear hbg; have a2 := hd.at_; have c1 : w2.cell? ⟨h.b, 1, none⟩ = some (.map h.po) := a2.ptr.cell 1; have hlk := lookPok a2 (u := n) hn0 (by omega); rw [HP.out, HQ.out] at hlk; simp only [Option.getD_none, Option.isSome_none] at hlk)
        | (go_at_call 56; refine (hrep _).mono ?_; rintro e w3 ⟨rfl, hB3⟩; have hd3 := (hd.below (below_new1 _ (.cells #[.string ⟨#[]⟩, .string ⟨#[]⟩] 114))).below hB3))
      go_ret2
      exact ⟨rfl, hd3⟩
  · rw [if_neg he]
    have hne : (E.1 == 0) = false := beq_eq_false_iff_ne.2 he
    go_enter Tryz.func44, Tryz.ntmps44
    go_wp2_with (first
      | (go_at_call 68; refine hh.mono ?_; rintro e w1 ⟨rfl, rfl⟩)
      | (go_at_call 58; refine hbg.mono ?_; rintro e w2 ⟨rfl, hd⟩; clear hbg))
    go_ret2
    exact ⟨rfl, hd⟩

/-- All writes so far last. -/
def Dev.syncTo (D : Dev) : List (Int × ByteArray) → (Int → Option Pg) → (Int → Option Pg)
  | [], M => M
  | p :: L, M => D.syncTo L (setM M p.1 (some (p.2, p.2)))
def Dev.sync (D : Dev) : Int × Dev :=
  if (D.begin true).1 = 0 then (0, { (D.begin true).2 with pages := D.syncTo D.writes D.pages, writes := [] }) else D.begin true
theorem syncTo_app (D : Dev) (L : List (Int × ByteArray)) (p : Int × ByteArray) (M : Int → Option Pg) : D.syncTo (L ++ [p]) M = setM (D.syncTo L M) p.1 (some (p.2, p.2)) := by
  induction L generalizing M with
  | nil => rfl
  | cons q L ih => simp only [List.cons_append, Dev.syncTo, ih]
theorem syncTo_keys (D : Dev) : ∀ (L : List (Int × ByteArray)) (M : Int → Option Pg), (∀ p ∈ L, 0 ≤ p.1 ∧ p.1 < 65536) → (∀ u x, M u = some x → 0 ≤ u ∧ u < 65536) → ∀ u x, D.syncTo L M u = some x → 0 ≤ u ∧ u < 65536
  | [], _, _, h => h
  | p :: L, M, hL, h => syncTo_keys D L _ (fun q hq => hL q (by simp [hq])) (fun u x hu => by
    unfold setM at hu
    split at hu
    · rename_i e; rw [e]; exact hL p (by simp)
    · exact h u x hu)
theorem syncTo_texts (D : Dev) : ∀ (L : List (Int × ByteArray)) (M : Int → Option Pg), (∀ p ∈ L, p.2.size = 1024) → (∀ u x, M u = some x → x.1.size = 1024 ∧ (x.2.size = 0 ∨ x.2.size = 1024)) → ∀ u x, D.syncTo L M u = some x → x.1.size = 1024 ∧ (x.2.size = 0 ∨ x.2.size = 1024)
  | [], _, _, h => h
  | p :: L, M, hL, h => syncTo_texts D L _ (fun q hq => hL q (by simp [hq])) (fun u x hu => by
    unfold setM at hu
    split at hu
    · injection hu with hu
      rw [← hu]
      exact ⟨hL p (by simp), .inr (hL p (by simp))⟩
    · exact h u x hu)
theorem sync_ok {D : Dev} {N : Nat} (ok : D.ok N) : D.sync.2.ok (N + 1) := by
  have hb := begin_ok ok true
  unfold Dev.sync
  split
  · exact ⟨hb.size, syncTo_keys D _ _ (fun p hp => ⟨(ok.writes p hp).1, (ok.writes p hp).2.1⟩) ok.keys, syncTo_texts D _ _ (fun p hp => (ok.writes p hp).2.2) ok.texts, fun p hp => by simp at hp, by simp, hb.ops, hb.left, hb.count⟩
  · exact hb
theorem read_ok {D : Dev} {N : Nat} (ok : D.ok N) (n : Int) : (D.read n).2.2.ok (N + 1) := by
  have hb := begin_ok ok (D.has n)
  unfold Dev.read
  split <;> exact hb

theorem WRow.len {w : World} {v : Value} {L : List (Int × ByteArray)} (h : WRow w v L) : ∃ p c, v = .slice p L.length c := by
  rcases h with ⟨rfl, rfl⟩ | ⟨g, cap, cur, rfl, _⟩
  · exact ⟨_, _, rfl⟩
  · exact ⟨_, _, rfl⟩

set_option maxRecDepth 8000 in
set_option maxHeartbeats 2000000 in
theorem sync_any {w : World} {h : Hd} {D : Dev} (a : DiskAt w h D) {N : Nat} (ok : D.ok N) (hN : N < 1000000000) :
    Calls Tryz.prog 32 #[.pointer (some ⟨h.b, 0, none⟩)] w fun e w' => e = .returned (.int .i64 D.sync.1) ∧ ∃ h', Done w h w' h' D.sync.2 := by
  have hbg := begin_any a ok hN true
  have hp := begin_pages D true
  unfold Dev.sync
  generalize hE : D.begin true = E at hbg hp ⊢
  clear hE
  by_cases he : E.1 = 0
  · rw [if_pos he]
    rw [he] at hbg
    have hb1 := buildP
    obtain ⟨b, po, wv, fo⟩ := h
    obtain ⟨p0, c0, hv⟩ := a.writes.len
    dsimp only at hv
    subst hv
    have HP : Hid (E.2.pages = D.pages ∧ E.2.writes = D.writes ∧ E.2.fails = D.fails ∧ E.2.size = D.size) := hp
    clear hp
    have hwr := ok.writes
    have hky := ok.keys
    have hmany := ok.many
    have hLi : (D.writes.length : Int) ≤ 1000000000 := by omega
    go_enter Tryz.func32, Tryz.ntmps32
    go_wp2_with (first
      | (go_at_call 58; refine hbg.mono ?_; rintro e w2 ⟨rfl, hd⟩; clear hbg; have a2 := hd.at_; have c2 : w2.cell? ⟨b, 2, none⟩ = some (.slice p0 D.writes.length c0) := a2.ptr.cell 2))
    go_loopw [16] (fun y wr => ∃ k : Nat, y = .int .i64 (k : Nat) ∧ k ≤ D.writes.length ∧ ∃ h', h'.wv = .slice p0 D.writes.length c0 ∧ Done w ⟨b, po, .slice p0 D.writes.length c0, fo⟩ wr h' { E.2 with pages := D.syncTo (D.writes.take k) D.pages }) (fun y _ => D.writes.length - (intOf y).toNat)
    case atStart => exact ⟨0, rfl, Nat.zero_le _, _, rfl, by have := hd; have e : E.2 = { E.2 with pages := D.syncTo (D.writes.take 0) D.pages } := (by show E.2 = { E.2 with pages := D.pages }; rw [← HP.out.1]); rw [← e]; exact hd⟩
    case round =>
      obtain ⟨k, rfl, hkL, ⟨b', po', wv', fo'⟩, hv', hdk⟩ := hrel
      dsimp only at hv'
      subst hv'
      have hb' : b' = b := hdk.newer.1
      subst hb'
      by_cases hk : k < D.writes.length
      · have hki : (k : Int) < D.writes.length := by omega
        obtain ⟨p, hpk⟩ : ∃ p, D.writes[k]? = some p := ⟨_, List.getElem?_eq_getElem hk⟩
        have hpm := hwr p (List.mem_of_getElem? hpk)
        have ak := hdk.at_
        have hrow := ak.writes
        dsimp only at hrow
        rw [HP.out.2.1] at hrow
        obtain ⟨g, cap, e0, hlc, hcm, hgl, q0, q1⟩ := hrow.at hpk
        injection e0 with e1 e2 e3
        subst e1 e3
        have hpt := put_any (ak.below (below_new1 wr (.cells #[.int .i64 p.1, .string p.2] 94))) (syncTo_keys D _ _ (fun q hq => ⟨(hwr q (List.mem_of_mem_take hq)).1, (hwr q (List.mem_of_mem_take hq)).2.1⟩) hky) hpm.1 hpm.2.1 (p.2, p.2)
        unfold mkP at hpt
        dsimp only at hpt
        have hs : setM (D.syncTo (D.writes.take k) D.pages) p.1 (some (p.2, p.2)) = D.syncTo (D.writes.take (k + 1)) D.pages := by
          rw [List.take_add_one, hpk, Option.toList_some, syncTo_app]
        rw [hs] at hpt
        clear hs
        clear hrow ak hd a2 a e2
        go_wp2_with (first
          | (go_at_call 59; refine hpt.mono ?_; rintro e w3 ⟨rfl, h3, hv3, _, hd3⟩; clear hpt))
        go_roundw
        case rel => exact ⟨k + 1, by go_num, by omega, h3, hv3, (hdk.below (below_new1 _ _)).trans hd3⟩
        case measure => simp [intOf]; omega
      · have hkl : k = D.writes.length := by omega
        have ak := hdk.at_
        have c2 : wr.cell? ⟨b', 2, none⟩ = some (.slice p0 D.writes.length c0) := ak.ptr.cell 2
        have f2 := frozenD ak 2
        have hni : ¬ (k : Int) < D.writes.length := by omega
        have hdw := Done.wrote ak (Keep.refl _ _) (v := .slice none 0 0) (L := []) (.inl ⟨rfl, rfl⟩) (fun k hk => by obtain ⟨n, c, e, _⟩ := hk; cases e)
        have HX : Hid (Done w ⟨b', po, .slice p0 D.writes.length c0, fo⟩ (wr.setCell ⟨b', 2, none⟩ (.slice none 0 0)) ⟨b', po', .slice none 0 0, fo'⟩ { E.2 with pages := D.syncTo D.writes D.pages, writes := [] }) := by
          have := hdk.trans hdw
          rw [hkl, List.take_length] at this
          exact this
        clear hdw hdk ak hd a2 a
        go_wp2_with fail
        go_ret
        exact ⟨rfl, _, HX.out⟩
  · rw [if_neg he]
    have hne : (E.1 == 0) = false := beq_eq_false_iff_ne.2 he
    go_enter Tryz.func32, Tryz.ntmps32
    go_wp2_with (first
      | (go_at_call 58; refine hbg.mono ?_; rintro e w2 ⟨rfl, hd⟩; clear hbg))
    go_ret
    exact ⟨rfl, h, hd⟩
end Go.Proofs.YtjklcnknbcmgoaaGreatDoor
/-
  What fill, New and Clear do.
-/
namespace Go.Proofs.YtjklcnknbcmgoaaGreatDoor
open Go Go.RowKit Go.Maps

theorem underBytes : Tryz.prog.underlying 120 = some (.slice 5) := Tryz.underlying120
theorem info5 : ∃ i, Tryz.prog.info? 5 = some i ∧ i.zero = some (.int .u8 0) ∧ i.size = 1 ∧ i.bytes = 1 := by
  have h : (Tryz.prog.info? 5).map (fun i => (i.zero, i.size, i.bytes)) = some (some (.int .u8 0), 1, 1) := by kernel_rfl
  cases hi : Tryz.prog.info? 5 with
  | none => rw [hi] at h; cases h
  | some i =>
    rw [hi] at h
    simp only [Option.map_some, Option.some.injEq, Prod.mk.injEq] at h
    exact ⟨i, rfl, h⟩
theorem add_plain (b o j : Nat) : (⟨b, o, none⟩ : Addr).add j = ⟨b, o + j, none⟩ := by rw [Addr.add_mid]
theorem convert_row {w : World} {b cap : Nat} {l : List UInt8} (h : w.rowIs b 5 l.length (fun j => .int .u8 ((l.getD j 0).toNat : Int))) :
    (convert 120 9 (.slice (some ⟨b, 0, none⟩) l.length cap)).run Tryz.prog w = .ok (.string ⟨l.toArray⟩) w :=
  run_convert_bytes_back w 120 9 5 ⟨b, 0, none⟩ cap l underBytes (by kernel_rfl) (by kernel_rfl) (fun j hj => by
    have := h.cell hj
    rw [add_plain, Nat.zero_add, this, List.getD_eq_getElem?_getD, List.getElem?_eq_getElem hj]
    rfl)



/-- A device of no pages. -/
def Dev.none : Dev := { size := 0, pages := fun _ => Option.none, writes := [], ops := 0, off := false, armed := false, left := 0, fails := fun _ => Option.none, count := 0 }
def Dev.new (n : Int) : Dev := { Dev.none with size := keptP n }
theorem Dev.none_ok (N : Nat) : Dev.none.ok N := ⟨⟨by decide, by decide⟩, fun u x h => (by cases h), fun u x h => (by cases h), fun p h => (by cases h), Nat.zero_le _, ⟨by decide, by show (0 : Int) ≤ N; omega⟩, ⟨by decide, by decide⟩, ⟨by decide, by show (0 : Int) ≤ N; omega⟩⟩
theorem Dev.new_ok (n : Int) (N : Nat) : (Dev.new n).ok N :=
  ⟨by unfold Dev.new keptP; dsimp only; omega, (Dev.none_ok N).keys, (Dev.none_ok N).texts, (Dev.none_ok N).writes, (Dev.none_ok N).many, (Dev.none_ok N).ops, (Dev.none_ok N).left, (Dev.none_ok N).count⟩
theorem zero_at (w : World) : DiskAt (w.alloc (.cells (dcells ⟨w.heap.size, none, .slice none 0 0, none⟩ Dev.none) 64)) ⟨w.heap.size, none, .slice none 0 0, none⟩ Dev.none :=
  ⟨Holds.new _ _ _, fun _ => rfl, .inl ⟨rfl, rfl⟩, ⟨0, fun _ => rfl⟩, fun m h => by cases h⟩

set_option maxRecDepth 8000 in
theorem new_any (n : Int) (w : World) :
    Calls Tryz.prog 9 #[.int .i64 n] w fun e w' => ∃ h, e = .returned (.pointer (some ⟨h.b, 0, none⟩)) ∧ DiskAt w' h (Dev.new n) ∧ (∀ k, Blk h k → w.heap.size ≤ k) ∧ Below w.heap.size w w' := by
  have a0 := zero_at w
  have hB := below_new1 w (.cells (dcells ⟨w.heap.size, none, .slice none 0 0, none⟩ Dev.none) 64)
  have hl := limit_any a0 n
  unfold dcells Dev.none at hl a0 hB
  dsimp only at hl a0 hB
  go_enter Tryz.func9, Tryz.ntmps9
  go_wp2_with (go_at_call 29; refine hl.mono ?_; rintro e w1 ⟨rfl, hd⟩)
  go_ret
  refine ⟨⟨w.heap.size, none, .slice none 0 0, none⟩, rfl, hd.at_, ?_, Keep.fresh hB hd.keep ?_⟩
  · rintro k (rfl | hk | hk | hk)
    · exact Nat.le_refl _
    · cases hk
    · cases hk
    · cases hk
  · rintro k (rfl | hk | ⟨_, _, hk, _⟩)
    · exact Nat.le_refl _
    · cases hk
    · cases hk

/-- Its block alone has turned; other faults. -/
theorem Done.turnF {w0 w w' : World} {h : Hd} {D D' : Dev} {f : Option Nat} (hB0 : Below w0.heap.size w0 w) (hfo : ∀ k, f = some k → h.fo = some k ∨ w0.heap.size ≤ k) (a : DiskAt w h D) (hO : Only h.b w w') (hp : Holds w' h.b 64 (dcells { h with fo := f } D')) (h1 : D'.pages = D.pages) (h2 : D'.writes = D.writes) (hf : ∃ n, MapV unitElem encU w' n f D'.fails) (hap : ∀ m, f = some m → h.po ≠ some m) : Done w0 h w' { h with fo := f } D' := by
  have hm : ∀ m, (∃ es clock, w.heap[m]? = some (.map es clock)) → m ≠ h.b := by
    rintro m ⟨es, clock, hq⟩ rfl
    have := a.ptr
    unfold Holds at this
    rw [this] at hq
    cases hq
  refine ⟨⟨hp, ?_, ?_, hf, hap⟩, ⟨rfl, fun k => .inl⟩, (Keep.below hB0).trans' (Keep.only hO (.inl rfl)), hfo⟩
  · rw [h1]
    exact a.pages.block fun m e => hO.block m (a.pages.lt m e) (hm m (a.pages.obj m e))
  · rw [h2]
    refine a.writes.block fun k hk => hO.block k (a.writes.lt k hk) ?_
    rintro rfl
    obtain ⟨cur, hq⟩ := a.writes.obj _ hk
    have := a.ptr
    unfold Holds at this
    rw [this] at hq
    injection hq with hq
    injection hq with _ hq
    exact absurd hq (by decide)

set_option maxRecDepth 8000 in
theorem clear_any {w : World} {h : Hd} {D : Dev} (a : DiskAt w h D) :
    Calls Tryz.prog 15 #[.pointer (some ⟨h.b, 0, none⟩)] w fun e w' => e = .returned (.tuple #[]) ∧ ∃ h', h'.wv = h.wv ∧ h'.fo = none ∧ Done w h w' h' { D with armed := false, left := 0, fails := fun _ => none, count := 0 } := by
  have hq := ptr_neq
  have c5 : w.cell? ⟨h.b, 5, none⟩ = some (.bool D.armed) := a.ptr.cell 5
  have c6 : w.cell? ⟨h.b, 6, none⟩ = some (.int .i64 D.left) := a.ptr.cell 6
  have c7 : w.cell? ⟨h.b, 7, none⟩ = some (.map h.fo) := a.ptr.cell 7
  have c8 : w.cell? ⟨h.b, 8, none⟩ = some (.int .i64 D.count) := a.ptr.cell 8
  have f5 := frozenD a 5
  have f6 := frozenD a 6
  have f7 := frozenD a 7
  have f8 := frozenD a 8
  go_enter Tryz.func15, Tryz.ntmps15
  go_wp2_with fail
  go_end0
  exact ⟨rfl, { h with fo := none }, rfl, rfl, Done.turnF (Below.refl _ _) (fun _ e => by cases e) a (((((Only.refl _ _).set 5 _).set 6 _).set 7 _).set 8 _) (((((a.ptr.set 5 _).set 6 _).set 7 _).set 8 _).congr rfl) rfl rfl ⟨0, fun _ => rfl⟩ (fun m e => by cases e)⟩
theorem clear_nil (w : World) : Calls Tryz.prog 15 #[.pointer none] w fun e w' => e = .returned (.tuple #[]) ∧ w' = w := by
  have hq := ptr_neq
  go_enter Tryz.func15, Tryz.ntmps15
  go_wp2_with fail
  go_end0
  exact ⟨rfl, rfl⟩

/-- A slice of integers, as it lies in memory. -/
def IntsAt (w : World) (v : Value) (l : List Int) : Prop :=
  (l = [] ∧ ∃ p c, v = .slice p 0 c) ∨ ∃ b o c, v = .slice (some ⟨b, o, none⟩) l.length c ∧ ∀ i, i < l.length → w.cell? ⟨b, o + i, none⟩ = some (.int .i64 (l.getD i 0))
theorem IntsAt.len {w : World} {v : Value} {l : List Int} (h : IntsAt w v l) : ∃ p c, v = .slice p l.length c := by
  rcases h with ⟨rfl, p, c, rfl⟩ | ⟨b, o, c, rfl, _⟩
  · exact ⟨p, c, rfl⟩
  · exact ⟨_, c, rfl⟩
theorem IntsAt.at {w : World} {p : Option Addr} {n c : Nat} {l : List Int} (h : IntsAt w (.slice p n c) l) {i : Nat} {x : Int} (hx : l[i]? = some x) : ∃ b o, p = some ⟨b, o, none⟩ ∧ n = l.length ∧ w.cell? ⟨b, o + i, none⟩ = some (.int .i64 x) := by
  have hi := (List.getElem?_eq_some_iff.1 hx).1
  rcases h with ⟨rfl, _⟩ | ⟨b, o, c', e, h2⟩
  · simp at hx
  · injection e with e1 e2 _
    refine ⟨b, o, e1, e2, ?_⟩
    rw [h2 i hi, List.getD_eq_getElem?_getD, hx]; rfl
theorem IntsAt.block {w w' : World} {v : Value} {l : List Int} (h : IntsAt w v l) (hb : ∀ k, v.ownBlock = some k → w'.heap[k]? = w.heap[k]?) : IntsAt w' v l := by
  rcases h with h | ⟨b, o, c, rfl, h2⟩
  · exact .inl h
  · exact .inr ⟨b, o, c, rfl, fun i hi => (World.cell?_of_block (hb b rfl)).trans (h2 i hi)⟩

/-- The faults' map alone has turned. -/
theorem DiskAt.fmap {w w' : World} {h : Hd} {D : Dev} {m n : Nat} {F : Int → Option Unit} (a : DiskAt w h D) (hm : h.fo = some m) (hO : Only m w w') (hp : MapAt unitElem encU w' m n F) : DiskAt w' h { D with fails := F } := by
  obtain ⟨n0, hf⟩ := a.fails
  obtain ⟨es, clock, hob⟩ := hf.obj m hm
  have hbm : h.b ≠ m := by
    rintro rfl
    have := a.ptr
    unfold Holds at this
    rw [this] at hob
    cases hob
  refine ⟨hO.holds a.ptr hbm, ?_, ?_, ⟨n, by rw [hm]; exact hp⟩, a.apart⟩
  · exact a.pages.block fun k e => hO.block k (a.pages.lt k e) (fun q => a.apart m hm (by rw [← q]; exact e))
  · refine a.writes.block fun k hk => hO.block k (a.writes.lt k hk) ?_
    rintro rfl
    obtain ⟨cur, hq⟩ := a.writes.obj _ hk
    rw [hq] at hob
    cases hob

/-- The numbers of a list. -/
def failsOf (l : List Int) (u : Int) : Option Unit := if u ∈ l then some () else none
theorem failsOf_app (l : List Int) (x : Int) : setM (failsOf l) x (some ()) = failsOf (l ++ [x]) := by
  funext u
  unfold setM failsOf
  by_cases e : u = x
  · rw [if_pos e, if_pos (by simp [e])]
  · rw [if_neg e]
    by_cases h : u ∈ l
    · rw [if_pos h, if_pos (by simp [h])]
    · rw [if_neg h, if_neg (by simp [h, e])]
theorem buildU (w : World) : (Instr.build 73 #[]).run Tryz.prog w = .ok (.agg #[]) w := run_build w _ _ _ (by kernel_rfl)

theorem run_makeF (n : Int) (w : World) : (Instr.makeMap 60 (some (.int .i64 n))).run Tryz.prog w = .ok (.map (some w.heap.size)) (w.alloc (.map #[] 0)) := by
  have h := Tryz.underlying60
  simp [Instr.makeMap, run_underlying h, asInt, asIntOf, newObj, go_sem]
  rfl

set_option maxRecDepth 8000 in
set_option maxHeartbeats 2000000 in
theorem fail_any {w : World} {h : Hd} {D : Dev} (a : DiskAt w h D) {v : Value} {l : List Int} (hl : ∀ W, Keep (Foot h) w W → IntsAt W v l) (hlm : l.length ≤ 9223372036854775807) (hin : ∀ x ∈ l, -9223372036854775808 ≤ x ∧ x ≤ 9223372036854775807) :
    Calls Tryz.prog 13 #[.pointer (some ⟨h.b, 0, none⟩), v] w fun e w' => e = .returned (.tuple #[]) ∧ ∃ h', h'.wv = h.wv ∧ Done w h w' h' { D with fails := failsOf l, count := 0 } := by
  have hq := ptr_eql
  obtain ⟨p, c, rfl⟩ := (hl w (Keep.refl _ _)).len
  have hbu := buildU
  have hli : (l.length : Int) ≤ 9223372036854775807 := by omega
  have c7 : w.cell? ⟨h.b, 7, none⟩ = some (.map h.fo) := a.ptr.cell 7
  have c8 : w.cell? ⟨h.b, 8, none⟩ = some (.int .i64 D.count) := a.ptr.cell 8
  have f7 := frozenD a 7
  have f8 := frozenD a 8
  have hmm := run_makeF l.length w
  have hB1 := below_new1 w (.map #[] 0)
  have m0 := MapAt.made (R := unitElem) (enc := encU) w
  obtain ⟨m, hm⟩ : ∃ m, w.heap.size = m := ⟨_, rfl⟩
  have HM : Hid (w.heap.size = m) := hm
  have hbl : h.b < m := by rw [← hm]; exact a.ptr.lt
  have hpl : ∀ k, h.po = some k → k < m := by rw [← hm]; exact a.pages.lt
  obtain ⟨W0, hW0⟩ : ∃ W, w.alloc (.map #[] 0) = W := ⟨_, rfl⟩
  rw [hW0] at hmm hB1 m0
  rw [hm] at hmm m0
  clear hW0 hm
  have a1 := a.below hB1
  have c71 : W0.cell? ⟨h.b, 7, none⟩ = some (.map h.fo) := a1.ptr.cell 7
  have c81 : W0.cell? ⟨h.b, 8, none⟩ = some (.int .i64 D.count) := a1.ptr.cell 8
  have f71 := frozenD a1 7
  have f81 := frozenD a1 8
  have m1 : MapAt unitElem encU ((W0.setCell ⟨h.b, 7, none⟩ (.map (some m))).setCell ⟨h.b, 8, none⟩ (.int .i64 0)) m 0 (failsOf []) := by
    refine MapAt.block (w := W0) (m0.congr fun u => by unfold failsOf; simp) ?_
    rw [Below.heap_setCell _ _ _ _ (by dsimp only; omega), Below.heap_setCell _ _ _ _ (by dsimp only; omega)]
  have d1 : Done w h ((W0.setCell ⟨h.b, 7, none⟩ (.map (some m))).setCell ⟨h.b, 8, none⟩ (.int .i64 0)) { h with fo := some m } { D with fails := failsOf [], count := 0 } := by
    refine Done.turnF hB1 (fun k e => .inr (by injection e with e; have := HM.out; omega)) a1 (((Only.refl _ _).set 7 _).set 8 _) (((a1.ptr.set 7 _).set 8 _).congr rfl) rfl rfl ⟨0, m1⟩ (fun k e => ?_)
    injection e with e
    intro q
    have := hpl k q
    omega
  obtain ⟨W1, hW1⟩ : ∃ W, (W0.setCell ⟨h.b, 7, none⟩ (.map (some m))).setCell ⟨h.b, 8, none⟩ (.int .i64 0) = W := ⟨_, rfl⟩
  rw [hW1] at d1 m1
  have D1 : Hid (Done w h W1 { h with fo := some m } { D with fails := failsOf [], count := 0 }) := d1
  clear d1 a1 hB1 m0 hpl c7 c8 f7 f8
  go_enter Tryz.func13, Tryz.ntmps13
  go_wp2_with fail
  go_loopw [21] (fun y wr => ∃ k : Nat, y = .int .i64 (k : Nat) ∧ k ≤ l.length ∧ Done w h wr { h with fo := some m } { D with fails := failsOf (l.take k), count := 0 } ∧ MapAt unitElem encU wr m k (failsOf (l.take k))) (fun y _ => l.length - (intOf y).toNat)
  case atStart => exact ⟨0, rfl, Nat.zero_le _, D1.out, m1⟩
  case round =>
    obtain ⟨k, rfl, hkl, hdk, hmk⟩ := hrel
    by_cases hk : k < l.length
    · have hki : (k : Int) < l.length := by omega
      obtain ⟨x, hx⟩ : ∃ x, l[k]? = some x := ⟨_, List.getElem?_eq_getElem hk⟩
      obtain ⟨g, o, rfl, _, hcx⟩ := (hl wr hdk.keep).at hx
      have hxr := hin x (List.mem_of_getElem? hx)
      have ck : wr.cell? ⟨h.b, 7, none⟩ = some (.map (some m)) := hdk.at_.ptr.cell 7
      obtain ⟨w', hrun, r1, r2, r3⟩ := hmk.upd elemU Tryz.underlying60 (by unfold maxLen; omega) (wfI hxr.1 hxr.2) ()
      rw [failsOf_app, show l.take k ++ [x] = l.take (k + 1) by rw [List.take_add_one, hx, Option.toList_some]] at r1
      have HX : Hid (Done w h w' { h with fo := some m } { D with fails := failsOf (l.take (k + 1)), count := 0 }) :=
        ⟨hdk.at_.fmap rfl r2 r1, hdk.newer, hdk.keep.trans (Keep.only (S := fun i => i = m) r2 rfl) (fun i e => .inr (by have := HM.out; omega)), hdk.fo⟩
      have HR : Hid (MapAt unitElem encU w' m (k + 1) (failsOf (l.take (k + 1)))) := r1
      clear r1 r2 r3 hdk hmk m1
      unfold mkU at hrun
      go_wp2_with fail
      go_roundw
      case rel => exact ⟨k + 1, by go_num, by omega, HX.out, HR.out⟩
      case measure => simp [intOf]; omega
    · have hni : ¬ (k : Int) < l.length := by omega
      have HX : Hid (Done w h wr { h with fo := some m } { D with fails := failsOf l, count := 0 }) := by
        rw [show l.take k = l from List.take_of_length_le (by omega)] at hdk
        exact hdk
      clear hdk hmk m1
      go_wp2_with fail
      go_end0
      exact ⟨rfl, { h with fo := some m }, rfl, HX.out⟩
theorem fail_nil (v : Value) (w : World) : Calls Tryz.prog 13 #[.pointer none, v] w fun e w' => e = .returned (.tuple #[]) ∧ w' = w := by
  have hq := ptr_eql
  go_enter Tryz.func13, Tryz.ntmps13
  go_wp2_with fail
  exact bodyPost_ret (results_none rfl _ _ _) rfl ⟨rfl, rfl⟩
end Go.Proofs.YtjklcnknbcmgoaaGreatDoor
