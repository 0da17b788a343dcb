/-
  Texts of this claim, put together.
-/
import Derived.Test.YtjklcnknbcmgoaaGreatDoorGSeq
import Derived.Test.YtjklcnknbcmgoaaGreatDoorGCommitW
import Derived.Test.YtjklcnknbcmgoaaGreatDoorShelfC
/-
  No numbers, sorted; the spare pages of a pager of which no page is told to be used.
-/
namespace Go.Proofs.YtjklcnknbcmgoaaGreatDoor
open Go Go.RowKit Go.Maps

theorem holds_keptG {A B : World} {row : Option Nat} {Bd : Nat} (hg : A.grownBy B row) (hr : ∀ r, row = some r → Bd ≤ r ∧ ∃ o : Obj, A.heap[r]? = some o ∧ o.isCells = false) {b : Nat} {t : TypeId} {cs : Array Value} (h : Holds A b t cs) : Holds B b t cs := by
  unfold Holds at *
  refine (hg.block b (Array.getElem?_eq_some_iff.1 h).1 (fun e => ?_)).trans h
  obtain ⟨_, o, ho, hc⟩ := hr b e.symm
  rw [h] at ho; cases ho; cases hc
theorem below_keptG {A B w : World} {row : Option Nat} {Bd n : Nat} (hg : A.grownBy B row) (hr : ∀ r, row = some r → Bd ≤ r ∧ ∃ o : Obj, A.heap[r]? = some o ∧ o.isCells = false) (hn : n ≤ Bd) (hw : n ≤ w.heap.size) (h : Below n w A) : Below n w B :=
  h.grown hg (Nat.le_trans hw h.size) (fun k e => Nat.le_trans hn (hr k e).1)
set_option maxRecDepth 8000 in
theorem ins_none (w : World) : Calls Tryz.prog 124 #[.slice none 0 0, .int .i64 0, .int .i64 0] w fun e w' => e = .returned (.tuple #[]) ∧ w' = w := by
  go_enter Tryz.func124, Tryz.ntmps124
  go_wp2_with fail
  go_loopw [6] (fun y wr => y = .int .i64 1 ∧ wr = w) (fun _ _ => 0)
  case atStart => exact ⟨rfl, rfl⟩
  case round =>
    obtain ⟨rfl, rfl⟩ := hrel
    go_wp2_with fail
    go_end0
    exact ⟨rfl, rfl⟩
set_option maxRecDepth 8000 in
set_option maxHeartbeats 1000000 in
theorem pdq_none (k : Int) (w : World) : Calls Tryz.prog 108 #[.slice none 0 0, .int .i64 0, .int .i64 0, .int .i64 k] w fun e w' => e = .returned (.tuple #[]) ∧ w' = w := by
  have hi := ins_none w
  go_enter Tryz.func108, Tryz.ntmps108
  go_wp2_with fail
  go_loopw [1, 2, 3, 8, 9] (fun y1 y2 _ _ _ wr => y1 = .int .i64 0 ∧ y2 = .int .i64 0 ∧ wr = w) (fun _ _ _ _ _ _ => 0)
  case atStart => exact ⟨rfl, rfl, rfl⟩
  case round =>
    obtain ⟨rfl, rfl, rfl⟩ := hrel
    go_wp2_with fail
    refine hi.mono ?_
    rintro e w1 ⟨rfl, hw1⟩
    have hw2 := hw1.symm
    clear hi hw1
    subst hw2
    go_wp2_with fail
    refine bodyPost_ret (results_none rfl _ _ _) rfl ?_
    exact ⟨rfl, rfl⟩
set_option maxRecDepth 8000 in
/-- The values of no row. -/
theorem vals_none {w0 : World} {bs : Nat} (hbs : Holds w0 bs 31 #[.slice none 0 0]) : SeqW Tryz.prog 89 #[.pointer (some ⟨bs, 0, none⟩)] (fun z : Empty => z.elim) (fun k => k = bs) [] w0 := by
  intro l J Jx W hB hJ hJx hy h0
  have c : W.cell? ⟨bs, 0, none⟩ = some (.slice none 0 0) := (below_holds hB hbs).cell 0
  clear hy
  go_enter Tryz.func89, Tryz.ntmps89
  go_wp2_with fail
  go_loopw [4, 7] (fun _ y wr => y = .int .i64 0 ∧ wr = W) (fun _ _ _ => 0)
  case atStart => exact ⟨rfl, rfl⟩
  case round =>
    obtain ⟨rfl, rfl⟩ := hrel
    go_wp2_with fail
    go_end0
    exact ⟨⟨_, rfl⟩, .inl h0⟩
set_option maxRecDepth 8000 in
set_option maxHeartbeats 1000000 in
theorem appseq_none {w : World} {bs : Nat} (hbs : Holds w bs 31 #[.slice none 0 0]) : Calls Tryz.prog 107 #[.slice none 0 0, .func (.func 89) #[] #[.pointer (some ⟨bs, 0, none⟩)]] w fun e w' => e = .returned (.slice none 0 0) ∧ Below w.heap.size w w' := by
  refine calls_of_wp_marks Tryz.func107 rfl ?_
  simp only [Tryz.ntmps107, List.size_toArray, List.length_cons, List.length_nil, Nat.reduceAdd, Nat.reduceSub, Array.replicate_succ, Array.replicate_zero, List.push_toArray, List.append_toArray, List.nil_append, List.cons_append]
  obtain ⟨g, hg⟩ : ∃ g, w.heap.size = g := ⟨_, rfl⟩
  obtain ⟨W0, hW⟩ : ∃ W0, World.alloc w (.cells #[.slice none 0 0] 31) = W0 := ⟨_, rfl⟩
  have h1 : Holds W0 g 31 #[.slice none 0 0] := by rw [← hW, ← hg]; exact Holds.new _ _ _
  have hB : Below w.heap.size w W0 := by rw [← hW]; exact below_new1 _ _
  have hs := below_holds hB hbs
  go_wp2_with fail
  refine wp_rangeSeq rfl (enters_of Tryz.func89 (by kernel_rfl) rfl) (vals_none hs) (Below.refl _ _) (fun k hk => by subst hk; exact hs.lt)
    (fun _ W => Holds W g 31 #[.slice none 0 0] ∧ Below w.heap.size w W) (fun _ _ _ => False)
    (fun s A B row hs hg' hr => ⟨holds_keptG hg' hr hs.1, below_keptG hg' hr (by have := hB.size; omega) (Nat.le_refl _) hs.2⟩)
    (fun c s A B row hs hg' hr => hs) ⟨h1, hB⟩ (fun x => x.elim) ?_ ?_ ?_ ?_
  · intro l x
    exact x.elim
  · intro l pre x rest W hL
    simp at hL
  · rintro D W hD ⟨g1, gB⟩ hK
    have c1 : W.cell? ⟨g, 0, none⟩ = some (.slice none 0 0) := g1.cell 0
    go_wp2_with fail
    refine leaves_marks (Marks.one (B := w.heap.size) (by have := hB.size; omega) hK) fun w' hw' => ⟨_, results_tmp rfl _ _ _, ?_⟩
    exact ⟨rfl, gB.trans hw'.below⟩
  · rintro D c pre x rest W hD hL
    simp at hL
set_option maxRecDepth 8000 in
theorem sorted_none {w : World} {bs : Nat} (hbs : Holds w bs 31 #[.slice none 0 0]) : Calls Tryz.prog 62 #[.func (.func 89) #[] #[.pointer (some ⟨bs, 0, none⟩)]] w fun e w' => e = .returned (.slice none 0 0) ∧ Below w.heap.size w w' := by
  have hap := appseq_none hbs
  have hco : Calls Tryz.prog 87 #[.func (.func 89) #[] #[.pointer (some ⟨bs, 0, none⟩)]] w fun e w' => e = .returned (.slice none 0 0) ∧ Below w.heap.size w w' := by
    go_enter Tryz.func87, Tryz.ntmps87
    go_wp2_with fail
    refine hap.mono ?_
    rintro e w1 ⟨rfl, hB⟩
    clear hap
    go_wp2_with fail
    go_ret
    exact ⟨rfl, hB⟩
  clear hap
  go_enter Tryz.func62, Tryz.ntmps62
  go_wp2_with fail
  refine hco.mono ?_
  rintro e w1 ⟨rfl, hB⟩
  have hso : Calls Tryz.prog 88 #[.slice none 0 0] w1 fun e w' => e = .returned (.tuple #[]) ∧ w' = w1 := by
    have hp := fun k => pdq_none k w1
    have hl : Calls Tryz.prog 109 #[.int .u64 0] w1 fun e w' => e = .returned (.int .i64 0) ∧ w' = w1 := by
      have hl6 := Tryz.bits_Len64 0 w1 (by decide) (by decide)
      have e0 : Lib.bitLen (Int.toNat 0) = 0 := by decide
      rw [e0] at hl6
      go_enter Tryz.func109, Tryz.ntmps109
      go_wp2_with fail
      refine hl6.mono ?_
      rintro e w2 ⟨rfl, rfl⟩
      clear hl6
      go_wp2_with fail
      go_ret
      exact ⟨rfl, rfl⟩
    go_enter Tryz.func88, Tryz.ntmps88
    go_wp2_with fail
    refine hl.mono ?_
    rintro e w2 ⟨rfl, hw2⟩
    have hw3 := hw2.symm
    clear hl hw2
    subst hw3
    have hp0 := hp 0
    clear hp
    go_wp2_with fail
    refine hp0.mono ?_
    rintro e w3 ⟨rfl, rfl⟩
    go_wp2_with fail
    go_end0
    exact ⟨rfl, rfl⟩
  clear hco
  go_wp2_with fail
  refine hso.mono ?_
  rintro e w2 ⟨rfl, hw2⟩
  have hw3 := hw2.symm
  clear hso hw2
  subst hw3
  go_wp2_with fail
  go_ret
  exact ⟨rfl, hB⟩
theorem values_none (w : World) : Calls Tryz.prog 63 #[.slice none 0 0] w fun e w' => ∃ bs, e = .returned (.func (.func 89) #[] #[.pointer (some ⟨bs, 0, none⟩)]) ∧ Holds w' bs 31 #[.slice none 0 0] ∧ Below w.heap.size w w' := by
  obtain ⟨W0, hW0⟩ : ∃ W0, w.alloc (.cells #[.slice none 0 0] 31) = W0 := ⟨_, rfl⟩
  obtain ⟨g0, hg0⟩ : ∃ g, w.heap.size = g := ⟨_, rfl⟩
  have hB0 : Below w.heap.size w W0 := by rw [← hW0]; exact below_new1 _ _
  have hh0 : Holds W0 g0 31 #[.slice none 0 0] := by rw [← hW0, ← hg0]; exact Holds.new _ _ _
  go_enter Tryz.func63, Tryz.ntmps63
  go_wp2_with fail
  go_ret
  exact ⟨g0, rfl, hh0, hB0⟩
theorem infoSpG : (Tryz.prog.info? 72).map (·.size) = some 3 := by kernel_rfl
/-- The spare pages from one on to below another one. -/
theorem addI_nil (x y : Int) : addI [] x y = if x < y then [(x, y)] else [] := by unfold addI; rw [addR_nil]
set_option maxRecDepth 8000 in
set_option maxHeartbeats 1000000 in
theorem sbetween_none (w : World) (y : Int) (hy : y ≤ topPg) : Calls Tryz.prog 36 #[.int .i64 2, .int .i64 y, .slice none 0 0] w fun e w' => ∃ r f, e = .returned (.agg #[.map r, f, .int .i64 (totR (addI [] 2 y))]) ∧ SpAt w' r f (totR (addI [] 2 y)) (addI [] 2 y) ∧ Below w.heap.size w w' ∧ SpNew w none (.slice none 0 0) r f := by
  obtain ⟨W0, hW0⟩ : ∃ W0, w.alloc (.cells #[.map none, .slice none 0 0, .int .i64 0] 72) = W0 := ⟨_, rfl⟩
  obtain ⟨g0, hg0⟩ : ∃ g, w.heap.size = g := ⟨_, rfl⟩
  have hB0 : Below w.heap.size w W0 := by rw [← hW0]; exact below_new1 _ _
  have hh0 : Holds W0 g0 72 #[.map none, .slice none 0 0, .int .i64 0] := by rw [← hW0, ← hg0]; exact Holds.new _ _ _
  obtain ⟨W1, hW1⟩ : ∃ W1, W0.alloc (.cells #[.map none, .slice none 0 0, .int .i64 0] 72) = W1 := ⟨_, rfl⟩
  obtain ⟨g1, hg1⟩ : ∃ g, W0.heap.size = g := ⟨_, rfl⟩
  have hB1 : Below W0.heap.size W0 W1 := by rw [← hW1]; exact below_new1 _ _
  have hh1 : Holds W1 g1 72 #[.map none, .slice none 0 0, .int .i64 0] := by rw [← hW1, ← hg1]; exact Holds.new _ _ _
  have hh01 := below_holds hB1 hh0
  have hva := values_none W1
  have hn0 : ∀ n, 2 ≤ n → n < y → ¬ inR [] n := fun n _ _ h => h
  have HB1 : Hid (Below w.heap.size w W1) := below_new hB0 hB1
  have HG : Hid (g0 < W1.heap.size ∧ g1 < W1.heap.size ∧ g0 < g1 ∧ w.heap.size ≤ g0) := ⟨by have := hh01.lt; omega, hh1.lt, by have := hh0.lt; omega, by omega⟩
  clear hB0 hB1 hh0
  go_enter Tryz.func36, Tryz.ntmps36
  go_wp2_with fail
  refine hva.mono ?_
  rintro e w2 ⟨bs, rfl, hbs, hB2⟩
  have hso := sorted_none hbs
  clear hva
  go_wp2_with fail
  refine hso.mono ?_
  rintro e w3 ⟨rfl, hB3⟩
  have hB23 := below_new hB2 hB3
  have hh3 := below_holds hB23 hh1
  have hh03 := below_holds hB23 hh01
  have HB3 : Hid (Below w.heap.size w w3 ∧ W1.heap.size ≤ w3.heap.size) := ⟨below_new HB1.out hB23, hB23.size⟩
  have hadd := sadd_any (o := 0) hh3 (by decide) rfl rfl rfl (SpAt.empty w3) 2 y (by decide) hy hn0
  clear hso hbs hB2 hB3 hB23 hh1 hh01 HB1
  go_wp2_with fail
  go_loopw [0, 9, 14] (fun x _ i wr => x = .int .i64 2 ∧ i = .int .i64 0 ∧ wr = w3) (fun _ _ _ _ => 0)
  case atStart => exact ⟨rfl, rfl, rfl⟩
  case round =>
    obtain ⟨rfl, rfl, rfl⟩ := hrel
    go_wp2_with fail
    refine hadd.mono ?_
    rintro e w4 ⟨rfl, r, f, hh4, hs4, hk4, hn4⟩
    have hg01 : g0 ≠ g1 := by have := HG.out; omega
    have hh04 : Holds w4 g0 72 #[.map none, .slice none 0 0, .int .i64 0] := hk4.holds hh03 (by rintro (h | h | h); exact hg01 h; cases h; cases h)
    have hh4' : Holds w4 g1 72 #[.map r, f, .int .i64 (totR (addI [] 2 y))] := hh4
    obtain ⟨pf, nf, cf, rfl⟩ := hs4.row.shape
    have HK : Hid _ := hk4
    have HS : Hid _ := hs4
    have HN : Hid _ := hn4
    clear hadd hk4 hn4 hs4 hh4
    go_wp2_with (first
      | ((with_reducible show wpList _ _ _ (Oper.mk _ (Op.load 72 _) _ _ _ _ :: _) _ _); go_must (refine wpList_loadH rfl 72 _ rfl _ rfl 72 _ _ hh4' Tryz.underlying72 rfl infoSpG ?_))
      | ((with_reducible show wpList _ _ _ (Oper.mk _ (Op.store 72 _ _) _ _ _ _ :: _) _ _); go_must (refine wpList_storeH rfl 72 _ _ rfl g0 #[.map r, .slice pf nf cf, .int .i64 (totR (addI [] 2 y))] rfl rfl 72 _ hh04 infoSpG rfl (by simp [Value.oneCell']) ?_; intro w5 hH5 hO5 hs5)))
    refine bodyPost_ret (results_cellH (p := 6) rfl _ w5 g0 72 _ _ rfl hH5 Tryz.underlying72 rfl infoSpG) rfl ?_
    have hHg : Holds w4 g0 72 #[.map none, .slice none 0 0, .int .i64 0] := hh04
    have h34 := HK.out.size
    refine ⟨r, .slice pf nf cf, rfl, HS.out.kept (fun i hi => hO5.block i (HS.out.map.lt i hi) ?_) (fun i hi => hO5.block i (HS.out.row.lt i hi) ?_), ?_, ⟨fun i hi => ?_, fun i hi => ?_⟩⟩
    · rintro rfl
      have := HS.out.map
      rw [hi] at this
      exact hHg.neMap this rfl
    · rintro rfl
      obtain ⟨cur, hc⟩ := HS.out.row.obj _ hi
      exact hc.ne hHg (by decide) rfl
    · have hk5 : Below w.heap.size w w4 := HK.out.fresh HB3.out.1 (by
        rintro i (h | h | h)
        · have := HG.out; omega
        · cases h
        · cases h)
      exact Only.fresh hk5 hO5 HG.out.2.2.2
    · rcases HN.out.1 i hi with h | h
      · cases h
      · exact .inr (by have := HB3.out; have := HG.out; omega)
    · rcases HN.out.2 i hi with h | h
      · cases h
      · exact .inr (by have := HB3.out; have := HG.out; omega)
end Go.Proofs.YtjklcnknbcmgoaaGreatDoor
/-
  A pager's Use of no pages, the first time.
-/
namespace Go.Proofs.YtjklcnknbcmgoaaGreatDoor
open Go Go.RowKit Go.Maps

theorem op_storeM {ops : Array Oper} {Q : Exit → Act → World → Prop} {K : Act → World → Prop} {k : Nat} {op : Oper} {a : Act} {w : World} (d : Option Tmp) (hdd : op.dst = d) (hk : ops[k]? = some op) (hw : Region.wanted op (yielded ops a.tmps) = true) (ty : TypeId) (x y : Operand) (ho : op.op = .store ty x y)
    {ad : Addr} {v : Value} (hx : a.eval x = .pointer (some ad)) (hy : a.eval y = v) {w' : World} (hst : (storeVar ty ad v).run Tryz.prog w = .ok () w') (h : K (a.put d undef) w') : wpOp Tryz.prog ops Q k K a w := by
  unfold wpOp
  rw [hk]
  dsimp only
  rw [if_pos hw]
  left
  unfold Oper.wp execOp
  simp only [ho, hx, hy, Instr.storeAt, Instr.sureAddr, Sem.run_bind, Sem.run_pure, Result.andThen_ok, hst]
  show K (a.put op.dst undef) _
  rw [hdd]
  exact h
/-- The pager's cells while Use is at it. -/
def lockC (h : Pgh) (P : Pgr) : Array Value := (pgCells h P).setIfInBounds 13 (.int .i32 1)
set_option maxRecDepth 8000 in
set_option maxHeartbeats 1000000 in
theorem guse1_none {w : World} {b bp bq bc : Nat} {h : Pgh} {P : Pgr} (hb : Holds w b 89 (lockC h P)) (hbp : Holds w bp 26 #[.pointer (some ⟨b, 0, none⟩)]) (hbq : Holds w bq 31 #[.slice none 0 0]) (hbc : Holds w bc 3 #[.int .i64 0]) (hpg : P.pages ≤ topPg) :
    Calls Tryz.prog 35 #[.pointer (some ⟨bp, 0, none⟩), .pointer (some ⟨bq, 0, none⟩), .pointer (some ⟨bc, 0, none⟩)] w fun e w' => e = .returned (.tuple #[]) ∧ ∃ r f, Holds w' b 89 (lockC { h with runs := r, firsts := f } { P with count := totR (addI [] 2 P.pages) }) ∧ SpAt w' r f (totR (addI [] 2 P.pages)) (addI [] 2 P.pages) ∧ Keep (fun k => k = b ∨ k = bc) w w' ∧ SpNew w none (.slice none 0 0) r f ∧ Holds w' bc 3 #[.int .i64 (totR (addI [] 2 P.pages))] := by
  have cp : w.cell? ⟨bp, 0, none⟩ = some (.pointer (some ⟨b, 0, none⟩)) := hbp.cell 0
  have cq : w.cell? ⟨bq, 0, none⟩ = some (.slice none 0 0) := hbq.cell 0
  have cg : w.cell? ⟨b, 1 + 3, none⟩ = some (.int .i64 P.pages) := hb.cell 4
  have hbt := sbetween_none w.drew P.pages hpg
  have nbp : bp ≠ b := hbp.ne hb (by decide)
  have nbc : bc ≠ b := hbc.ne hb (by decide)
  have nbpc : bp ≠ bc := hbp.ne hbc (by decide)
  have hbpd : Holds w.drew bp 26 #[.pointer (some ⟨b, 0, none⟩)] := hbp
  have hbd : Holds w.drew b 89 (lockC h P) := hb
  have hbcd : Holds w.drew bc 3 #[.int .i64 0] := hbc
  have Kd : Keep (fun k => k = b ∨ k = bc) w w.drew := Keep.drew _ _
  go_enter Tryz.func35, Tryz.ntmps35
  go_wp2_with fail
  refine wp_region_tree (fun W => W.cell? ⟨bp, 0, none⟩ = some (.pointer (some ⟨b, 0, none⟩)) ∧ W.cell? ⟨b, 4, none⟩ = some (.int .i64 P.pages) ∧ W.cell? ⟨bq, 0, none⟩ = some (.slice none 0 0)) [0, 1, 2, 3, 4, 5, 6] (.one 7 (.one 8 (.one 9 (.one 10 .nil)))) mixedP (by kernel_rfl) rfl (by kernel_rfl) (fun _ _ _ d _ h => by cases d <;> exact h) ?_ ?_
  · exact ⟨cp, cg, cq⟩
  · have HKd : Hid _ := Kd
    have hbqd : Holds w.drew bq 31 #[.slice none 0 0] := hbq
    clear Kd cp cq cg hbp hb hbc hbq
    generalize w.drew = X at *
    refine tk_ld (some 3) rfl rfl rfl _ _ rfl rfl (fun W hW => ldPP hW.1) ?_
    go_frame
    refine tk_ld (some 4) rfl rfl rfl _ _ rfl rfl (fun W hW => ldPP hW.1) ?_
    go_frame
    refine tk_val (some 5) rfl rfl rfl (.pointer (some ⟨b, 0, none⟩)) (fun _ => by go_simp) ?_
    go_frame
    refine tk_val (some 6) rfl rfl rfl (.pointer (some ⟨b, 1, none⟩)) (fun _ => by go_simp) ?_
    go_frame
    refine tk_val (some 7) rfl rfl rfl (.pointer (some ⟨b, 4, none⟩)) (fun _ => by go_simp) ?_
    go_frame
    refine tk_ld (some 8) rfl rfl rfl _ _ rfl rfl (fun W hW => ldIntG hW.2.1) ?_
    go_frame
    refine tk_ld (some 9) rfl rfl rfl _ _ rfl rfl (fun W hW => ldSl hW.2.2) ?_
    go_frame
    refine tk_nil ?_
    refine op_call (some 10) rfl rfl rfl (f := 36) (vs := #[.int .i64 2, .int .i64 P.pages, .slice none 0 0]) (by go_simp) ?_
    refine hbt.mono ?_
    rintro e w1 ⟨r, f, rfl, hs1, hB1, hn1⟩
    have hbq1 := below_holds hB1 hbqd
    have hb1 := below_holds hB1 hbd
    have hbp1 := below_holds hB1 hbpd
    have hbc1 := below_holds hB1 hbcd
    obtain ⟨pf, nf, cf, rfl⟩ := hs1.row.shape
    have hth : w1.there b 6 3 := fun j hj => by
      refine ⟨?_, hb1.frozen _⟩
      have hc := hb1.cell (6 + j)
      rcases (by omega : j = 0 ∨ j = 1 ∨ j = 2) with rfl | rfl | rfl <;> (rw [hc]; rfl)
    obtain ⟨w2, hw2⟩ : ∃ w2, w1.setCells b 6 [.map r, .slice pf nf cf, .int .i64 (totR (addI [] 2 P.pages))] = w2 := ⟨_, rfl⟩
    have hb2 : Holds w2 b 89 (lockC { h with runs := r, firsts := .slice pf nf cf } { P with count := totR (addI [] 2 P.pages) }) := by
      rw [← hw2]
      exact (((hb1.set 6 _).set 7 _).set 8 _).congr rfl
    have hO2 : Only b w1 w2 := by rw [← hw2]; exact (((Only.refl b w1).set 6 _).set 7 _).set 8 _
    have hbp2 := hO2.holds hbp1 nbp
    have nbq : bq ≠ b := hbq1.ne hb1 (by decide)
    have hbq2 := hO2.holds hbq1 nbq
    have hbc2 := hO2.holds hbc1 nbc
    have cp2 : w2.cell? ⟨bp, 0, none⟩ = some (.pointer (some ⟨b, 0, none⟩)) := hbp2.cell 0
    have cc2 : w2.cell? ⟨b, 6 + 2, none⟩ = some (.int .i64 (totR (addI [] 2 P.pages))) := hb2.cell 8
    have cb2 : w2.cell? ⟨bc, 0, none⟩ = some (.int .i64 0) := hbc2.cell 0
    have zb2 := hbc2.frozen 0
    obtain ⟨w3, hw3⟩ : ∃ w3, w2.setCell ⟨bc, 0, none⟩ (.int .i64 (totR (addI [] 2 P.pages))) = w3 := ⟨_, rfl⟩
    have hbc3 : Holds w3 bc 3 #[.int .i64 (totR (addI [] 2 P.pages))] := by rw [← hw3]; exact (hbc2.set 0 _).congr rfl
    have hO3 : Only bc w2 w3 := by rw [← hw3]; exact (Only.refl bc w2).set _ _
    have hb3 := hO3.holds hb2 (Ne.symm nbc)
    have HF : Hid (∃ r f, Holds w3 b 89 (lockC { h with runs := r, firsts := f } { P with count := totR (addI [] 2 P.pages) }) ∧ SpAt w3 r f (totR (addI [] 2 P.pages)) (addI [] 2 P.pages) ∧ Keep (fun k => k = b ∨ k = bc) w w3 ∧ SpNew w none (.slice none 0 0) r f ∧ Holds w3 bc 3 #[.int .i64 (totR (addI [] 2 P.pages))]) := by
      have hsz := HKd.out.size
      refine ⟨r, .slice pf nf cf, hb3, hs1.kept (fun i hi => ?_) (fun i hi => ?_), ((HKd.out.trans' (Keep.below hB1)).trans' (Keep.only hO2 (.inl rfl))).trans' (Keep.only hO3 (.inr rfl)), ⟨fun i hi => ?_, fun i hi => ?_⟩, hbc3⟩
      · have hm := hs1.map
        rw [hi] at hm
        have hlt := hs1.map.lt i hi
        rw [hO3.block i (Nat.lt_of_lt_of_le hlt hO2.size) (Ne.symm (hbc1.neMap hm)), hO2.block i hlt (Ne.symm (hb1.neMap hm))]
      · obtain ⟨cur, hc⟩ := hs1.row.obj i hi
        have hlt := hs1.row.lt i hi
        have hne : i ≠ bc := fun e => by
          rcases hn1.2 i hi with q | q
          · cases q
          · have := hbcd.lt; omega
        rw [hO3.block i (Nat.lt_of_lt_of_le hlt hO2.size) hne, hO2.block i hlt (hc.ne hb1 (by decide))]
      · rcases hn1.1 i hi with q | q
        · cases q
        · exact .inr (Nat.le_trans hsz q)
      · rcases hn1.2 i hi with q | q
        · cases q
        · exact .inr (Nat.le_trans hsz q)
    have C1 : w1.cell? ⟨bp, 0, none⟩ = some (.pointer (some ⟨b, 0, none⟩)) ∧ w1.cell? ⟨b, 4, none⟩ = some (.int .i64 P.pages) ∧ w1.cell? ⟨bq, 0, none⟩ = some (.slice none 0 0) := ⟨hbp1.cell 0, hb1.cell 4, hbq1.cell 0⟩
    have C2 : w2.cell? ⟨bp, 0, none⟩ = some (.pointer (some ⟨b, 0, none⟩)) ∧ w2.cell? ⟨b, 4, none⟩ = some (.int .i64 P.pages) ∧ w2.cell? ⟨bq, 0, none⟩ = some (.slice none 0 0) := ⟨hbp2.cell 0, hb2.cell 4, hbq2.cell 0⟩
    have hst : (storeVar 72 ⟨b, 6, none⟩ (.agg #[.map r, .slice pf nf cf, .int .i64 (totR (addI [] 2 P.pages))])).run Tryz.prog w1 = .ok () w2 := by
      have := run_storeVar_mid (P := Tryz.prog) w1 b 6 72 #[.map r, .slice pf nf cf, .int .i64 (totR (addI [] 2 P.pages))] hth infoSpG (by simp [Value.oneCell'])
      rw [show (#[Value.map r, Value.slice pf nf cf, Value.int .i64 (totR (addI [] 2 P.pages))] : Array Value).toList = [Value.map r, Value.slice pf nf cf, Value.int .i64 (totR (addI [] 2 P.pages))] from rfl, hw2] at this
      exact this
    clear hbt hs1 hB1 hn1 hb1 hbp1 hbc1 hb2 hO2 hbp2 hbc2 hbc3 hO3 hb3 HKd hbq1 hbq2 hth
    refine ⟨_, rfl, C1, ?_⟩
    go_frame
    refine op_val (some 11) rfl rfl rfl (v := .pointer (some ⟨b, 0, none⟩)) (w' := w1) (by go_simp) ?_
    refine ⟨C1, ?_⟩
    go_frame
    refine op_val (some 12) rfl rfl rfl (v := .pointer (some ⟨b, 6, none⟩)) (w' := w1) (by go_simp) ?_
    refine ⟨C1, ?_⟩
    go_frame
    refine op_storeM none rfl rfl rfl 72 _ _ rfl rfl rfl hst ?_
    refine ⟨C2, ?_⟩
    go_frame
    refine then_normalS ?_
    go_at_K
    go_wp2_with fail
    go_end0
    exact ⟨rfl, HF.out⟩
/-- The pager then. -/
def St.useS (S : St) : St := { S with P := { S.P with used := true, count := totR (addI [] 2 S.P.pages) }, L := addI [] 2 S.P.pages }
set_option maxRecDepth 8000 in
set_option maxHeartbeats 1000000 in
theorem guse_none {w : World} {b : Nat} {H : Hs} {S : St} (a : PgAt w b H S) (hu : S.P.used = false) (hpg : S.P.pages ≤ topPg) :
    Calls Tryz.prog 11 #[.pointer (some ⟨b, 0, none⟩), .slice none 0 0] w fun e w' => e = .returned (.int .i64 (totR (addI [] 2 S.P.pages))) ∧ ∃ H', PgAt w' b H' S.useS ∧ PgDone w b H w' H' := by
  have hq := pg_neq
  obtain ⟨bp, hbp⟩ : ∃ g, w.heap.size = g := ⟨_, rfl⟩
  obtain ⟨W1, hW1⟩ : ∃ W, w.alloc (.cells #[.pointer (some ⟨b, 0, none⟩)] 26) = W := ⟨_, rfl⟩
  have hB1 : Below w.heap.size w W1 := by rw [← hW1]; exact below_new1 _ _
  have h1 : Holds W1 bp 26 #[.pointer (some ⟨b, 0, none⟩)] := by rw [← hW1, ← hbp]; exact Holds.new _ _ _
  obtain ⟨bq, hbq⟩ : ∃ g, W1.heap.size = g := ⟨_, rfl⟩
  obtain ⟨W2, hW2⟩ : ∃ W, W1.alloc (.cells #[.slice none 0 0] 31) = W := ⟨_, rfl⟩
  have hB2 : Below W1.heap.size W1 W2 := by rw [← hW2]; exact below_new1 _ _
  have h2 : Holds W2 bq 31 #[.slice none 0 0] := by rw [← hW2, ← hbq]; exact Holds.new _ _ _
  obtain ⟨bc, hbc⟩ : ∃ g, W2.heap.size = g := ⟨_, rfl⟩
  obtain ⟨W3, hW3⟩ : ∃ W, W2.alloc (.cells #[.int .i64 0] 3) = W := ⟨_, rfl⟩
  have hB3 : Below W2.heap.size W2 W3 := by rw [← hW3]; exact below_new1 _ _
  have h3 : Holds W3 bc 3 #[.int .i64 0] := by rw [← hW3, ← hbc]; exact Holds.new _ _ _
  obtain ⟨W4, hW4⟩ : ∃ W, W3.setCell ⟨bc, 0, none⟩ (.int .i64 0) = W := ⟨_, rfl⟩
  have hO4 : Only bc W3 W4 := by rw [← hW4]; exact (Only.refl bc W3).set _ _
  have h4 : Holds W4 bc 3 #[.int .i64 0] := by rw [← hW4]; exact (h3.set 0 _).congr rfl
  have c3 : W3.cell? ⟨bc, 0, none⟩ = some (.int .i64 0) := h3.cell 0
  have z3 := h3.frozen 0
  have hbl := a.cells.lt
  have hs1 : W1.heap.size = bp + 1 := by rw [← hW1, ← hbp]; simp
  have hs2 : W2.heap.size = bq + 1 := by rw [← hW2, ← hbq]; simp
  have h14 : Holds W4 bp 26 #[.pointer (some ⟨b, 0, none⟩)] := hO4.holds (below_holds hB3 (below_holds hB2 h1)) (by omega)
  have h24 : Holds W4 bq 31 #[.slice none 0 0] := hO4.holds (below_holds hB3 h2) (by omega)
  have hB4 : Below w.heap.size w W4 := Only.fresh (below_new hB1 (below_new hB2 hB3)) hO4 (by omega)
  have a4 := a.below hB4
  have cp4 : W4.cell? ⟨bp, 0, none⟩ = some (.pointer (some ⟨b, 0, none⟩)) := h14.cell 0
  have hdo : Calls Tryz.prog 34 #[.pointer (some ⟨b, 12, none⟩), .func (.func 35) #[] #[.pointer (some ⟨bp, 0, none⟩), .pointer (some ⟨bq, 0, none⟩), .pointer (some ⟨bc, 0, none⟩)]] W4 fun e w' => e = .returned (.tuple #[]) ∧ ∃ H', PgAt w' b H' S.useS ∧ PgDone w b H w' H' ∧ Holds w' bc 3 #[.int .i64 (totR (addI [] 2 S.P.pages))] := by
    have c12 : W4.cell? ⟨b, 12, none⟩ = some (.int .u32 0) := by have := a4.cells.cell 12; rw [this]; show some (Value.int .u32 (if S.P.used then 1 else 0)) = _; rw [hu]; rfl
    have c13 : W4.cell? ⟨b, 12 + 1, none⟩ = some (.int .i32 0) := a4.cells.cell 13
    have z13 := a4.cells.frozen (12 + 1)
    obtain ⟨n1, n2, n3, n4, n5⟩ := a4.apartB
    obtain ⟨X, hX⟩ : ∃ X, W4.setCell ⟨b, 12 + 1, none⟩ (.int .i32 1) = X := ⟨_, rfl⟩
    have hbX : Holds X b 89 (lockC H.h S.P) := by rw [← hX]; exact a4.cells.set 13 _
    have hOX : Only b W4 X := by rw [← hX]; exact (Only.refl b W4).set _ _
    have h1X := hOX.holds h14 (by omega)
    have h2X := hOX.holds h24 (by omega)
    have h3X := hOX.holds h4 (by omega)
    have hu1 := guse1_none hbX h1X h2X h3X hpg
    rw [← hX] at hu1
    refine (do_use b 12 _ _ _ W4 _ c12 c13 z13 hu1 ?_).mono ?_
    · rintro w2 ⟨r, f, hb2, _⟩
      exact ⟨⟨by have := hb2.cell 12; rw [this]; show some (Value.int .u32 (if S.P.used then 1 else 0)) = _; rw [hu]; rfl, hb2.cell 13⟩, hb2.frozen _, hb2.frozen _⟩
    · rintro e w' ⟨rfl, w2, ⟨r, f, hb2, hs2, hk2, hn2, hc2⟩, hw'⟩
      rw [hX] at hk2 hn2
      have hO' : Only b w2 w' := by rw [hw']; exact ((Only.refl b w2).drew.set _ _).set _ _
      have hcells : PgCells w' b { H.h with runs := r, firsts := f } S.useS.P := by
        rw [hw']
        exact ((hb2.drew.set 12 _).set 13 _).congr rfl
      have hsX : W4.heap.size ≤ X.heap.size := hOX.size
      have h34 : W3.heap.size ≤ W4.heap.size := hO4.size
      have hs3 : W3.heap.size = bc + 1 := by rw [← hW3, ← hbc]; simp
      have hwX : w.heap.size ≤ X.heap.size := Nat.le_trans hB4.size hsX
      -- all but the pager's cells and the count's are as they were
      have K1 : Keep (fun k => k = b) w w' := by
        have q1 : Keep (fun k => k = b) w X := (Keep.below hB4).trans' (Keep.only hOX rfl)
        have q2 : Keep (fun k => k = b) w w2 := q1.trans hk2 (fun i hi => by
          rcases hi with h | h
          · exact .inl h
          · exact .inr (by omega))
        exact q2.trans' (Keep.only hO' rfl)
      have hb' : ∀ k, k < w.heap.size → k ≠ b → w'.heap[k]? = w.heap[k]? := fun k hk hne => K1.block k hk hne
      obtain ⟨m1, m2, m3, m4, m5⟩ := a.apartB
      have hrn : ∀ i, r = some i → w.heap.size ≤ i := fun i hi => by
        rcases hn2.1 i hi with q | q
        · cases q
        · exact Nat.le_trans hwX q
      have hfn : ∀ i, f.ownBlock = some i → w.heap.size ≤ i := fun i hi => by
        rcases hn2.2 i hi with q | q
        · cases q
        · exact Nat.le_trans hwX q
      have hs' : SpAt w' r f (totR (addI [] 2 S.P.pages)) (addI [] 2 S.P.pages) := hs2.kept (fun i hi => hO'.block i (hs2.map.lt i hi) (by have := hrn i hi; omega)) (fun i hi => hO'.block i (hs2.row.lt i hi) (by have := hfn i hi; omega))
      refine ⟨rfl, { H with h := { H.h with runs := r, firsts := f } }, ⟨hcells, a.dev, a.disk.kept (fun k hk => hb' k (a.disk.lt k hk) (fun e => m1 (e ▸ hk))), hs', a.fresh.block (hb' _ a.fresh.lt (Ne.symm m4)), a.freed.block (hb' _ a.freed.lt (Ne.symm m5)), a.ff, ⟨fun e => ?_, fun e => ?_⟩, a.df, fun m e hb => ?_⟩, ⟨K1.mono (fun k hk => .inl hk), ?_⟩, hO'.holds hc2 (by omega)⟩
      · exact absurd a.fresh.lt (Nat.not_lt.2 (hrn _ e))
      · exact absurd a.freed.lt (Nat.not_lt.2 (hrn _ e))
      · exact absurd (a.disk.lt m hb) (Nat.not_lt.2 (hrn _ e))
      · rintro k (q | q | q | q | q | q)
        · exact .inl (.inl q)
        · exact .inr (hrn k q)
        · exact .inr (hfn k q)
        · exact .inl (.inr (.inr (.inr (.inl q))))
        · exact .inl (.inr (.inr (.inr (.inr (.inl q)))))
        · exact .inl (.inr (.inr (.inr (.inr (.inr q)))))
  clear a a4 hB1 hB2 hB3 hB4 h1 h2 h3 h4 hO4 h14 h24 hs1 hs2
  go_enter Tryz.func11, Tryz.ntmps11
  go_wp2_with fail
  refine hdo.mono ?_
  rintro e w5 ⟨rfl, H', a5, d5, h5⟩
  have c5 : w5.cell? ⟨bc, 0, none⟩ = some (.int .i64 (totR (addI [] 2 S.P.pages))) := h5.cell 0
  have HA : Hid (PgAt w5 b H' S.useS ∧ PgDone w b H w5 H') := ⟨a5, d5⟩
  clear hdo a5 d5 h5
  go_wp2_with fail
  go_ret
  exact ⟨rfl, H', HA.out⟩
end Go.Proofs.YtjklcnknbcmgoaaGreatDoor
