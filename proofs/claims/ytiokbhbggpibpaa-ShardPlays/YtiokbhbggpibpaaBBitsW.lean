/-
  What reads a container's bits.
-/
import Derived.Test.YtiokbhbggpibpaaBSplitW
import Derived.Test.YtiokbhbggpibpaaBTake
import Derived.Lib.BufferWrite
namespace Go.Proofs.Ytiokbhbggpibpaa
open Go Go.RowKit Go.Maps

section
variable {P : Program} {ops : Array Oper} {C : World → Prop} {Q : Exit → Act → World → Prop} {t : List Plan} {k : Nat} {op : Oper} {a : Act} {w : World}

/-- A whole row is loaded. -/
theorem plan_ldR (d : Option Tmp) (hdd : op.dst = d) (hk : ops[k]?.getD default = op) (hgd : op.guard = none) (ty : TypeId) (x : Operand) (ho : op.op = .load ty x) {b : Nat} (hx : a.eval x = .pointer (some ⟨b, 0, none⟩)) {t' : TypeId} {cs : Array Value} {dd : TypeDesc} (hh : ∀ w, C w → Holds w b t' cs)
    (hu : P.underlying ty = some dd) (hd : dd.isRow = true) (hi : (P.info? ty).map (·.size) = some cs.size) (h : wpPlan P ops C Q t (a.put d (.agg cs)) w) : wpPlan P ops C Q (.take k :: t) a w := by
  refine ⟨by rw [hk]; simp [Region.wanted, hgd], .agg cs, fun w' hw => ?_, by rw [hk, hdd]; exact h⟩
  rw [hk]
  unfold execOp
  simp only [ho, hx, Instr.loadAt, Instr.sureAddr, Sem.run_bind, Sem.run_pure, Result.andThen_ok, run_loadVar_row w' b t' ty cs (0, 0) dd (hh w' hw) hu (by cases dd <;> simp_all) hi]
/-- What looks at no memory. -/
theorem plan_val (d : Option Tmp) (hdd : op.dst = d) (hk : ops[k]?.getD default = op) (hgd : op.guard = none) (v : Value) (hv : ∀ w, (execOp a.eval op).run P w = .ok (.value v) w) (h : wpPlan P ops C Q t (a.put d v) w) : wpPlan P ops C Q (.take k :: t) a w :=
  ⟨by rw [hk]; simp [Region.wanted, hgd], v, fun w' _ => by rw [hk]; exact hv w', by rw [hk, hdd]; exact h⟩
/-- A call. -/
theorem plan_call (d : Option Tmp) (hdd : op.dst = d) (hk : ops[k]? = some op) (hgd : op.guard = none) {f : FuncId} {vs : Array Value} (hf : (execOp a.eval op).run P w = .ok (.enter f vs) w) (hc : Calls P f vs w fun e w' => ∃ v, e = .returned v ∧ C w' ∧ wpPlan P ops C Q t (a.put d v) w') : wpPlan P ops C Q (.one k :: t) a w := by
  show wpOp P ops Q k _ a w
  unfold wpOp
  rw [hk]
  dsimp only
  rw [if_pos (by simp [Region.wanted, hgd])]
  left
  unfold Oper.wp
  rw [hf]
  refine Calls.mono hc ?_
  rintro e w' ⟨v, rfl, h1, h2⟩
  rw [← hdd] at h2
  exact ⟨h1, h2⟩
/-- A value, or a store. -/
theorem plan_one (d : Option Tmp) (hdd : op.dst = d) (hk : ops[k]? = some op) (hgd : op.guard = none) {v : Value} {w' : World} (hv : (execOp a.eval op).run P w = .ok (.value v) w') (hC : C w') (h : wpPlan P ops C Q t (a.put d v) w') : wpPlan P ops C Q (.one k :: t) a w := by
  show wpOp P ops Q k _ a w
  unfold wpOp
  rw [hk]
  dsimp only
  rw [if_pos (by simp [Region.wanted, hgd])]
  left
  unfold Oper.wp
  rw [hv]
  rw [← hdd] at h
  exact ⟨hC, h⟩
theorem plan_skip (d : Option Tmp) (hdd : op.dst = d) (hk : ops[k]? = some op) (hgd : op.guard = none) {w' : World} (hv : (execOp a.eval op).run P w = .ok .skip w') (hC : C w') (h : wpPlan P ops C Q t (a.put d undef) w') : wpPlan P ops C Q (.one k :: t) a w := by
  show wpOp P ops Q k _ a w
  unfold wpOp
  rw [hk]
  dsimp only
  rw [if_pos (by simp [Region.wanted, hgd])]
  left
  unfold Oper.wp
  rw [hv]
  rw [← hdd] at h
  exact ⟨hC, h⟩
theorem plan_ldI {ops : Array Oper} (d : Option Tmp) (hdd : op.dst = d) (hk : ops[k]?.getD default = op) (hgd : op.guard = none) (x : Operand) (ho : op.op = .load 3 x) {ad : Addr} (hx : a.eval x = .pointer (some ad)) {v : Value} (hh : ∀ w, C w → w.cell? ad = some v)
    (h : wpPlan Try.prog ops C Q t (a.put d v) w) : wpPlan Try.prog ops C Q (.take k :: t) a w := by
  refine ⟨by rw [hk]; simp [Region.wanted, hgd], v, fun w' hw => ?_, by rw [hk, hdd]; exact h⟩
  rw [hk]
  have hl : (loadVar 3 ad).run Try.prog w' = .ok v w' := by simp [go_sem, hh w' hw]
  unfold execOp
  simp only [ho, hx, Instr.loadAt, Instr.sureAddr, Sem.run_bind, Sem.run_pure, Result.andThen_ok, hl]
theorem plan_ldC {ops : Array Oper} (d : Option Tmp) (hdd : op.dst = d) (hk : ops[k]?.getD default = op) (hgd : op.guard = none) (x : Operand) (ho : op.op = .load 76 x) {b : Nat} (hx : a.eval x = .pointer (some ⟨b, 0, none⟩)) {t' : TypeId} {p : Nat → Bool} (hh : ∀ w, C w → Holds w b t' (contA p))
    (h : wpPlan Try.prog ops C Q t (a.put d (.agg (contA p))) w) : wpPlan Try.prog ops C Q (.take k :: t) a w :=
  plan_ldR d hdd hk hgd 76 x ho hx hh Try.underlying76 rfl (infoC p) h
theorem plan_stC {ops : Array Oper} (d : Option Tmp) (hdd : op.dst = d) (hk : ops[k]? = some op) (hgd : op.guard = none) (x y : Operand) (ho : op.op = .store 76 x y) {b : Nat} {q p : Nat → Bool} (hx : a.eval x = .pointer (some ⟨b, 0, none⟩)) (hy : a.eval y = .agg (contA q)) {t' : TypeId} (hh : Holds w b t' (contA p))
    (h : ∀ w', Holds w' b t' (contA q) → Only b w w' → w'.heap.size = w.heap.size → C w' ∧ wpPlan Try.prog ops C Q t (a.put d undef) w') : wpPlan Try.prog ops C Q (.one k :: t) a w := by
  have hw := h _ (setRow_heap w b _ (contA q) t' (0, 0) hh) ⟨rfl, rfl, rfl, by simp [World.setRow], fun k _ hb => World.setRow_other w b k _ hb⟩ (by simp [World.setRow])
  refine plan_skip d hdd hk hgd ?_ hw.1 hw.2
  unfold execOp
  simp only [ho, hx, hy, Instr.storeAt, Instr.sureAddr, Sem.run_bind, Sem.run_pure, Result.andThen_ok, run_storeVar_row w b t' 76 _ (contA q) hh (infoC q) (by rw [contA_size, contA_size]) (contA_one q)]
end

theorem bits_cells (x : ByteArray) (hx : x.size = 32) : (Lib.byteCells x.data.toList).toArray = contA (bitsP (numsB x)) := by
  refine Array.ext_getElem? fun i => ?_
  by_cases hi : i < 32
  · rw [contA_get _ i hi]
    have hg := get_of x i (by omega)
    have hb : bt (bitsP (numsB x)) i = (x[i]'(by omega)).toNat := by
      unfold bitsP
      rw [bt_ofBytes _ _ (by rw [hg]; exact (x[i]'(by omega)).toNat_lt), hg]
    rw [hb]
    simp [Lib.byteCells]
    exact ⟨x[i]'(by omega), Array.getElem?_eq_getElem (show i < x.data.size from by have : x.data.size = x.size := rfl; omega), rfl⟩
  · rw [Array.getElem?_eq_none (by simp [Lib.byteCells]; omega), Array.getElem?_eq_none (by rw [contA_size]; omega)]

set_option maxRecDepth 100000 in
set_option maxHeartbeats 2000000 in
theorem reads_bits : ReadsBits := by
  intro x m b w hx hm hm2
  have hbl := hm.lt
  obtain ⟨W0, hW0⟩ : ∃ W0, World.alloc w (.cells (contA fun _ => false) 76) = W0 := ⟨_, rfl⟩
  have h0 : Holds W0 w.heap.size 76 (contA fun _ => false) := by rw [← hW0]; exact Holds.new _ _ _
  have hB0 : Below w.heap.size w W0 := by rw [← hW0]; exact below_new1 _ _
  obtain ⟨W1, hW1⟩ : ∃ W1, World.alloc W0 (.cells (contA fun _ => false) 76) = W1 := ⟨_, rfl⟩
  have h1 : Holds W1 W0.heap.size 76 (contA fun _ => false) := by rw [← hW1]; exact Holds.new _ _ _
  have hB1 : Below W0.heap.size W0 W1 := by rw [← hW1]; exact below_new1 _ _
  have hs0 : w.heap.size < W0.heap.size := h0.lt
  have hcp := Lib.run_copy_row_string (P := Try.prog) W1 86 9 3 5 W0.heap.size 0 32 32 x (contA fun _ => false) 76 underBytes (by kernel_rfl) h1 (by omega) (by rw [contA_size]; omega)
  have hrow : ((contA fun _ => false).toList.take 0 ++ Lib.byteCells x.data.toList ++ (contA fun _ => false).toList.drop (0 + x.size)).toArray = contA (bitsP (numsB x)) := by
    rw [List.take_zero, List.nil_append, List.drop_of_length_le (by rw [Array.length_toList, contA_size]; omega), List.append_nil]
    exact bits_cells x hx
  rw [hrow, hx] at hcp
  obtain ⟨W2, hW2⟩ : ∃ W2, W1.setRow W0.heap.size (contA (bitsP (numsB x))) = W2 := ⟨_, rfl⟩
  have h2 : Holds W2 W0.heap.size 76 (contA (bitsP (numsB x))) := by rw [← hW2]; exact setRow_heap W1 W0.heap.size _ _ 76 (0, 0) h1
  have hO2 : Only W0.heap.size W1 W2 := by rw [← hW2]; exact ⟨rfl, rfl, rfl, by simp [World.setRow], fun k _ hb => World.setRow_other _ _ k _ hb⟩
  rw [hW2] at hcp
  have h20 : Holds W2 w.heap.size 76 (contA fun _ => false) := hO2.holds (below_holds hB1 h0) (by omega)
  have h2m : Holds W2 b 3 #[.int .i64 (m : Nat)] := hO2.holds (below_holds hB1 (below_holds hB0 hm)) (by omega)
  have hB2 : Below w.heap.size w W2 := Only.fresh (hB0.trans (hB1.mono hB0.size)) hO2 hB0.size
  rw [zeroC] at hW0 hW1
  have hct := count5 (bitsP (numsB x))
  generalize hq : bitsP (numsB x) = q at *
  have HQ : Hid (bitsP (numsB x) = q) := hq
  clear hq hrow
  go_enter Try.func72, Try.ntmps72
  go_wp2_with fail
  refine wp_region_plan (fun w' => Holds w' W0.heap.size 76 (contA q) ∧ Holds w' b 3 #[.int .i64 (m : Nat)] ∧ (∃ z, Holds w' w.heap.size 76 (contA z)) ∧ Below w.heap.size w w') [.take 0, .take 1, .take 3, .one 2, .take 4, .one 5, .one 6] mixedP (by kernel_rfl) rfl (by kernel_rfl) (fun _ _ _ d _ h => by cases d <;> exact h) ⟨h2.drew, h2m.drew, ⟨_, h20.drew⟩, hB2.drew⟩ ?_
  refine plan_ldC (some 10) rfl rfl rfl _ rfl rfl (fun _ h => h.1) ?_
  go_frame
  refine plan_ldC (some 11) rfl rfl rfl _ rfl rfl (fun _ h => h.1) ?_
  go_frame
  refine plan_ldI (some 13) rfl rfl rfl _ rfl rfl (v := .int .i64 (m : Nat)) (fun _ h => h.2.1.cell 0) ?_
  go_frame
  refine plan_call (some 12) rfl (f := 45) (vs := #[.agg (contA q)]) rfl rfl (by go_simp) ((hct _).mono ?_)
  rintro e w3 ⟨rfl, hB3⟩
  have k1 := below_holds hB3 h2.drew
  have k2 := below_holds hB3 h2m.drew
  have k3 := below_holds hB3 h20.drew
  have k4 := hB2.drew.trans (hB3.mono hB2.drew.size)
  refine ⟨_, rfl, ⟨k1, k2, ⟨_, k3⟩, k4⟩, ?_⟩
  go_frame
  refine plan_val (some 14) rfl rfl rfl (.bool (decide (cnt q = m))) (fun _ => by go_simp; rw [Bool.eq_iff_iff]; simp; omega) ?_
  go_frame
  refine plan_stC none rfl rfl rfl _ _ rfl rfl rfl k3 ?_
  intro w4 h4 hO4 hs4
  have hB4 : Below w.heap.size w w4 := Only.fresh k4 hO4 (Nat.le_refl _)
  have hC4 : Holds w4 W0.heap.size 76 (contA q) ∧ Holds w4 b 3 #[.int .i64 (m : Nat)] ∧ (∃ z, Holds w4 w.heap.size 76 (contA z)) ∧ Below w.heap.size w w4 := ⟨hO4.holds k1 (by omega), hO4.holds k2 (by omega), ⟨_, h4⟩, hB4⟩
  refine ⟨hC4, ?_⟩
  go_frame
  refine plan_one (some 4) rfl rfl rfl (v := .bool (decide (cnt q = m))) rfl hC4 ?_
  go_frame
  show Exit.then _ _ Exit.normal _ _
  simp only [Exit.then]
  go_at_K
  go_wp2_with fail
  refine bodyPost_ret (results_contT rfl _ _ _ _ _ _ rfl rfl h4) rfl ?_
  refine ⟨_, rfl, ?_, hB4⟩
  unfold bitsV
  rw [HQ.out]
  rfl
end Go.Proofs.Ytiokbhbggpibpaa
