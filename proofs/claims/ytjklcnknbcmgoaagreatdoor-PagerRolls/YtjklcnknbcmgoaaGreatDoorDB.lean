/-
  Texts of this claim, put together.
-/
import Derived.Test.YtjklcnknbcmgoaaGreatDoorDA
import Derived.Laws.Cover3
import Derived.Laws.Pointers
/-
  What On, Pages, Ops, has, next, begin, Limit, Arm and Clear do.
-/
namespace Go.Proofs.YtjklcnknbcmgoaaGreatDoor
open Go Go.RowKit Go.Maps

theorem under24 : Tryz.prog.underlying 24 = some (.pointer (Tryz.prog.pointee 24)) := by kernel_rfl
theorem ptr_neq (p : Option Addr) (w : World) : (binOp .neq 24 (.pointer p) (.pointer none)).run Tryz.prog w = .ok (.bool (!p.isNone)) w := run_neq_pointer_nil w _ _ under24
theorem ptr_eql (p : Option Addr) (w : World) : (binOp .eql 24 (.pointer p) (.pointer none)).run Tryz.prog w = .ok (.bool p.isNone) w := run_eql_pointer_nil w _ _ under24

theorem run_not (o : Bool) (w : World) : (Op.unary UnOp.not (.bool o)).run Tryz.prog w = .ok (.bool (!o)) w := rfl

theorem on_any {w : World} {h : Hd} {D : Dev} (a : DiskAt w h D) : Calls Tryz.prog 16 #[.pointer (some ⟨h.b, 0, none⟩)] w fun e w' => e = .returned (.bool (!D.off)) ∧ w' = w := by
  have hc : w.cell? ⟨h.b, 4, none⟩ = some (.bool D.off) := a.ptr.cell 4
  have hq := ptr_neq
  have hn := run_not
  go_enter Tryz.func16, Tryz.ntmps16
  go_wp2_with fail
  go_ret
  exact ⟨rfl, rfl⟩
theorem on_nil (w : World) : Calls Tryz.prog 16 #[.pointer none] w fun e w' => e = .returned (.bool false) ∧ w' = w := by
  have hq := ptr_neq
  go_enter Tryz.func16, Tryz.ntmps16
  go_wp2_with fail
  go_ret
  exact ⟨rfl, rfl⟩
theorem pages_any {w : World} {h : Hd} {D : Dev} (a : DiskAt w h D) : Calls Tryz.prog 30 #[.pointer (some ⟨h.b, 0, none⟩)] w fun e w' => e = .returned (.int .i64 D.size) ∧ w' = w := by
  have hc : w.cell? ⟨h.b, 0, none⟩ = some (.int .i64 D.size) := a.ptr.cell 0
  have hq := ptr_eql
  go_enter Tryz.func30, Tryz.ntmps30
  go_wp2_with fail
  go_ret
  exact ⟨rfl, rfl⟩
theorem pages_nil (w : World) : Calls Tryz.prog 30 #[.pointer none] w fun e w' => e = .returned (.int .i64 0) ∧ w' = w := by
  have hq := ptr_eql
  go_enter Tryz.func30, Tryz.ntmps30
  go_wp2_with fail
  go_ret
  exact ⟨rfl, rfl⟩

/-- Is there such a page? -/
def Dev.has (D : Dev) (n : Int) : Bool := decide (0 ≤ n) && decide (n < D.size)
theorem has_any {w : World} {h : Hd} {D : Dev} (a : DiskAt w h D) (n : Int) : Calls Tryz.prog 68 #[.pointer (some ⟨h.b, 0, none⟩), .int .i64 n] w fun e w' => e = .returned (.bool (D.has n)) ∧ w' = w := by
  have hp := pages_any a
  unfold Dev.has
  by_cases h0 : 0 ≤ n
  · rw [decide_eq_true h0, Bool.true_and]
    go_enter Tryz.func68, Tryz.ntmps68
    go_wp2_with (go_at_call 30; refine hp.mono ?_; rintro e w1 ⟨rfl, rfl⟩)
    go_ret
    exact ⟨rfl, rfl⟩
  · rw [decide_eq_false h0, Bool.false_and]
    go_enter Tryz.func68, Tryz.ntmps68
    go_wp2_with fail
    go_ret
    exact ⟨rfl, rfl⟩
theorem has_nil (n : Int) (w : World) : Calls Tryz.prog 68 #[.pointer none, .int .i64 n] w fun e w' => e = .returned (.bool (decide (0 ≤ n) && decide (n < 0))) ∧ w' = w := by
  have hp := pages_nil w
  by_cases h0 : 0 ≤ n
  · rw [decide_eq_true h0, Bool.true_and]
    go_enter Tryz.func68, Tryz.ntmps68
    go_wp2_with (go_at_call 30; refine hp.mono ?_; rintro e w1 ⟨rfl, rfl⟩)
    go_ret
    exact ⟨rfl, rfl⟩
  · rw [decide_eq_false h0, Bool.false_and]
    go_enter Tryz.func68, Tryz.ntmps68
    go_wp2_with fail
    go_ret
    exact ⟨rfl, rfl⟩

theorem frozenD {w : World} {h : Hd} {D : Dev} (a : DiskAt w h D) (i : Nat) : w.frozen? ⟨h.b, i, none⟩ = false := a.ptr.frozen i

/-- A number of pages, kept. -/
def keptP (n : Int) : Int := min (max n 0) 65536
theorem limit_any {w : World} {h : Hd} {D : Dev} (a : DiskAt w h D) (n : Int) : Calls Tryz.prog 29 #[.pointer (some ⟨h.b, 0, none⟩), .int .i64 n] w fun e w' => e = .returned (.tuple #[]) ∧ Done w h w' h { D with size := keptP n } := by
  have hc : w.cell? ⟨h.b, 0, none⟩ = some (.int .i64 D.size) := a.ptr.cell 0
  have hf := frozenD a 0
  have hq := ptr_neq
  go_enter Tryz.func29, Tryz.ntmps29
  go_wp2_with fail
  all_goals
    go_end0
    exact ⟨rfl, Done.turn a ((Only.refl _ _).set 0 _) ((a.ptr.set 0 _).congr (by unfold dcells keptP; simp; omega)) rfl rfl rfl⟩
theorem limit_nil (n : Int) (w : World) : Calls Tryz.prog 29 #[.pointer none, .int .i64 n] w fun e w' => e = .returned (.tuple #[]) ∧ w' = w := by
  have hq := ptr_neq
  go_enter Tryz.func29, Tryz.ntmps29
  go_wp2_with fail
  go_end0
  exact ⟨rfl, rfl⟩
theorem arm_any {w : World} {h : Hd} {D : Dev} (a : DiskAt w h D) (n : Int) : Calls Tryz.prog 12 #[.pointer (some ⟨h.b, 0, none⟩), .int .i64 n] w fun e w' => e = .returned (.tuple #[]) ∧ Done w h w' h { D with armed := true, left := max n 0 } := by
  have hc : w.cell? ⟨h.b, 5, none⟩ = some (.bool D.armed) := a.ptr.cell 5
  have hc6 : w.cell? ⟨h.b, 6, none⟩ = some (.int .i64 D.left) := a.ptr.cell 6
  have hf := frozenD a 5
  have hf6 := frozenD a 6
  have hq := ptr_neq
  go_enter Tryz.func12, Tryz.ntmps12
  go_wp2_with fail
  all_goals
    go_end0
    exact ⟨rfl, Done.turn a (((Only.refl _ _).set 5 _).set 6 _) (((a.ptr.set 5 _).set 6 _).congr (by unfold dcells; simp; omega)) rfl rfl rfl⟩
theorem arm_nil (n : Int) (w : World) : Calls Tryz.prog 12 #[.pointer none, .int .i64 n] w fun e w' => e = .returned (.tuple #[]) ∧ w' = w := by
  have hq := ptr_neq
  go_enter Tryz.func12, Tryz.ntmps12
  go_wp2_with fail
  go_end0
  exact ⟨rfl, rfl⟩
end Go.Proofs.YtjklcnknbcmgoaaGreatDoor
/-
  What next and begin do.
-/
namespace Go.Proofs.YtjklcnknbcmgoaaGreatDoor
open Go Go.RowKit Go.Maps

/-- An operation is counted. -/
def Dev.next (D : Dev) : Int × Dev :=
  if D.armed = true ∧ D.left = 0 then (15, D)
  else (if (D.fails (D.count + 1)).isSome then 14 else 0, { D with left := if D.armed then D.left - 1 else D.left, count := D.count + 1 })
/-- What an operation asks ahead. -/
def Dev.begin (D : Dev) (right : Bool) : Int × Dev :=
  if D.off then (15, D) else if right then
    (D.next.1, { D.next.2 with ops := if D.next.1 = 0 then D.next.2.ops + 1 else D.next.2.ops, off := decide (D.next.1 = 15) })
  else (1, D)

theorem lookF {w : World} {h : Hd} {D : Dev} (a : DiskAt w h D) {u : Int} (h0 : 0 ≤ u) (h1 : u ≤ 9223372036854775807) :
    (Instr.lookup 60 (.map h.fo) (.int .i64 u) true).run Tryz.prog w = .ok (.tuple #[.agg #[], .bool (D.fails u).isSome]) w := by
  obtain ⟨n, hf⟩ := a.fails
  have := hf.look elemU Tryz.underlying60 (zeroU w) (wfI (u := u) (by omega) h1) true
  simpa [mkU] using this

section
variable {ops : Array Oper} {C : World → Prop} {Q : Exit → Act → World → Prop} {t : List Plan} {k : Nat} {op : Oper} {a : Act} {w : World}
theorem plan_ldF (d : Option Tmp) (hdd : op.dst = d) (hk : ops[k]?.getD default = op) (hgd : op.guard = none) (x : Operand) (ho : op.op = .load 60 x) {ad : Addr} (hx : a.eval x = .pointer (some ad)) {v : Value} (hh : ∀ w, C w → w.cell? ad = some v)
    (h : wpPlan Tryz.prog ops C Q t (a.put d v) w) : wpPlan Tryz.prog ops C Q (.take k :: t) a w := by
  refine ⟨by rw [hk]; simp [Region.wanted, hgd], v, fun w' hw => ?_, by rw [hk, hdd]; exact h⟩
  rw [hk]
  have hl : (loadVar 60 ad).run Tryz.prog w' = .ok v w' := by simp [go_sem, hh w' hw]
  unfold execOp
  simp only [ho, hx, Instr.loadAt, Instr.sureAddr, Sem.run_bind, Sem.run_pure, Result.andThen_ok, hl]
/-- What yields one value in all worlds of the class. -/
theorem plan_run (d : Option Tmp) (hdd : op.dst = d) (hk : ops[k]?.getD default = op) (hgd : op.guard = none) (v : Value) (hv : ∀ w, C w → (execOp a.eval op).run Tryz.prog w = .ok (.value v) w) (h : wpPlan Tryz.prog ops C Q t (a.put d v) w) : wpPlan Tryz.prog ops C Q (.take k :: t) a w :=
  ⟨by rw [hk]; simp [Region.wanted, hgd], v, fun w' hw => by rw [hk]; exact hv w' hw, by rw [hk, hdd]; exact h⟩
end

set_option maxRecDepth 8000 in
set_option maxHeartbeats 1000000 in
/-- Behind the power's test, with power that will go. -/
theorem next_arm {w : World} {h : Hd} {D : Dev} (a : DiskAt w h D) {N : Nat} (ok : D.ok N) (hN : N < 1000000000) (ha : D.armed = true) (hl0 : ¬ D.left = 0) :
    Calls Tryz.prog 82 #[.pointer (some ⟨h.b, 5, none⟩)] w fun e w' => e = .returned (.int .i64 (if (D.fails (D.count + 1)).isSome then 14 else 0)) ∧ Done w h w' h { D with left := D.left - 1, count := D.count + 1 } := by
  have hcnt := ok.count
  have hleft := ok.left
  have c5 : w.cell? ⟨h.b, 5, none⟩ = some (.bool D.armed) := a.ptr.cell 5
  have c6 : w.cell? ⟨h.b, 6, none⟩ = some (.int .i64 D.left) := a.ptr.cell 6
  have f6 := frozenD a 6
  have hl1 : (D.left == 0) = false := beq_eq_false_iff_ne.2 hl0
  obtain ⟨W1, hW1⟩ : ∃ W, w.setCell ⟨h.b, 6, none⟩ (.int .i64 (D.left - 1)) = W := ⟨_, rfl⟩
  have a1 : DiskAt W1 h { D with left := D.left - 1 } := by rw [← hW1]; exact a.turn ((Only.refl _ _).set 6 _) ((a.ptr.set 6 _).congr rfl) rfl rfl rfl
  have o1 : Only h.b w W1 := by rw [← hW1]; exact (Only.refl _ _).set 6 _
  have c81 : W1.cell? ⟨h.b, 8, none⟩ = some (.int .i64 D.count) := a1.ptr.cell 8
  have f81 := frozenD a1 8
  obtain ⟨W2, hW2⟩ : ∃ W, W1.setCell ⟨h.b, 8, none⟩ (.int .i64 (D.count + 1)) = W := ⟨_, rfl⟩
  have a2 : DiskAt W2 h { D with left := D.left - 1, count := D.count + 1 } := by rw [← hW2]; exact a1.turn ((Only.refl _ _).set 8 _) ((a1.ptr.set 8 _).congr rfl) rfl rfl rfl
  have o2 : Only h.b w W2 := by rw [← hW2]; exact o1.set 8 _
  have DN : Hid (Done w h W2 h { D with left := D.left - 1, count := D.count + 1 }) := ⟨a2, Newer.refl _ _, Keep.only o2 (.inl rfl), fun _ => .inl⟩
  rw [ha] at c5
  clear ha a2 o2 a1 o1 ok
  obtain ⟨q, hq⟩ : ∃ q, (D.fails (D.count + 1)).isSome = q := ⟨_, rfl⟩
  rw [hq]
  have HQ : Hid ((D.fails (D.count + 1)).isSome = q) := hq
  clear hq
  go_enter Tryz.func82, Tryz.ntmps82
  go_wp2_with fail
  have C7 : ∀ W, Done w h W h { D with left := D.left - 1, count := D.count + 1 } → W.cell? ⟨h.b, 7, none⟩ = some (.map h.fo) := fun W hd => hd.at_.ptr.cell 7
  have C8 : ∀ W, Done w h W h { D with left := D.left - 1, count := D.count + 1 } → W.cell? ⟨h.b, 8, none⟩ = some (.int .i64 (D.count + 1)) := fun W hd => hd.at_.ptr.cell 8
  have CL : ∀ W, Done w h W h { D with left := D.left - 1, count := D.count + 1 } → (Instr.lookup 60 (.map h.fo) (.int .i64 (D.count + 1)) true).run Tryz.prog W = .ok (.tuple #[.agg #[], .bool q]) W := fun W hd => by rw [← HQ.out]; exact lookF hd.at_ (by omega) (by omega)
  refine wp_region_plan (fun W => Done w h W h { D with left := D.left - 1, count := D.count + 1 }) [.take 0, .take 1, .take 2, .take 3, .take 4, .take 5, .take 6, .take 7, .take 8, .take 9, .take 10, .take 11, .one 12, .one 13, .one 14] mixedP (by kernel_rfl) rfl (by kernel_rfl) (fun _ _ _ d _ h => by cases d <;> exact h) DN.out.drew ?_
  refine plan_val (some 29) rfl rfl rfl (.pointer (some ⟨h.b, 5, none⟩)) (fun _ => by go_simp) ?_
  go_frame
  refine plan_val (some 30) rfl rfl rfl (.pointer (some ⟨h.b, 5, none⟩)) (fun _ => by go_simp) ?_
  go_frame
  refine plan_val (some 31) rfl rfl rfl (.pointer (some ⟨h.b, 7, none⟩)) (fun _ => by go_simp) ?_
  go_frame
  refine plan_ldF (some 32) rfl rfl rfl _ rfl rfl C7 ?_
  go_frame
  refine plan_val (some 33) rfl rfl rfl (.pointer (some ⟨h.b, 5, none⟩)) (fun _ => by go_simp) ?_
  go_frame
  refine plan_val (some 34) rfl rfl rfl (.pointer (some ⟨h.b, 5, none⟩)) (fun _ => by go_simp) ?_
  go_frame
  refine plan_val (some 35) rfl rfl rfl (.pointer (some ⟨h.b, 8, none⟩)) (fun _ => by go_simp) ?_
  go_frame
  refine plan_ldI (some 36) rfl rfl rfl _ rfl rfl C8 ?_
  go_frame
  refine plan_run (some 37) rfl rfl rfl (.tuple #[.agg #[], .bool q]) (fun W hd => by have := CL W hd; go_simp) ?_
  go_frame
  refine plan_val (some 28) rfl rfl rfl (.tuple #[.agg #[], .bool q]) (fun _ => by go_simp) ?_
  go_frame
  refine plan_val (some 38) rfl rfl rfl (.agg #[]) (fun _ => by go_simp) ?_
  go_frame
  refine plan_val (some 39) rfl rfl rfl (.bool q) (fun _ => by go_simp) ?_
  go_frame
  refine plan_one (some 3) rfl rfl rfl (v := .pointer (some ⟨W2.heap.size, 0, none⟩)) (w' := W2.drew.alloc (.cells #[] 73)) (by go_simp) (DN.out.drew.below (below_new1 _ _)) ?_
  go_frame
  refine plan_skip none rfl rfl rfl (w' := W2.drew.alloc (.cells #[] 73)) (by go_simp) (DN.out.drew.below (below_new1 _ _)) ?_
  go_frame
  refine plan_one (some 4) rfl rfl rfl (v := .bool q) (w' := W2.drew.alloc (.cells #[] 73)) (by go_simp) (DN.out.drew.below (below_new1 _ _)) ?_
  go_frame
  have DX : Hid (Done w h (W2.drew.alloc (.cells #[] 73)) h { D with left := D.left - 1, count := D.count + 1 }) := DN.out.drew.below (below_new1 _ _)
  show Exit.then _ _ Exit.normal _ _
  simp only [Exit.then]
  go_at_K
  cases q
  all_goals go_wp2_with fail
  all_goals go_ret
  all_goals exact ⟨rfl, DX.out⟩

set_option maxRecDepth 8000 in
set_option maxHeartbeats 1000000 in
/-- Nothing is armed. -/
theorem next_free {w : World} {h : Hd} {D : Dev} (a : DiskAt w h D) {N : Nat} (ok : D.ok N) (hN : N < 1000000000) (ha : D.armed = false) :
    Calls Tryz.prog 82 #[.pointer (some ⟨h.b, 5, none⟩)] w fun e w' => e = .returned (.int .i64 (if (D.fails (D.count + 1)).isSome then 14 else 0)) ∧ Done w h w' h { D with count := D.count + 1 } := by
  have hcnt := ok.count
  have c5 : w.cell? ⟨h.b, 5, none⟩ = some (.bool D.armed) := a.ptr.cell 5
  have c8 : w.cell? ⟨h.b, 8, none⟩ = some (.int .i64 D.count) := a.ptr.cell 8
  have f8 := frozenD a 8
  obtain ⟨W2, hW2⟩ : ∃ W, w.setCell ⟨h.b, 8, none⟩ (.int .i64 (D.count + 1)) = W := ⟨_, rfl⟩
  have a2 : DiskAt W2 h { D with count := D.count + 1 } := by rw [← hW2]; exact a.turn ((Only.refl _ _).set 8 _) ((a.ptr.set 8 _).congr rfl) rfl rfl rfl
  have o2 : Only h.b w W2 := by rw [← hW2]; exact (Only.refl _ _).set 8 _
  have DN : Hid (Done w h W2 h { D with count := D.count + 1 }) := ⟨a2, Newer.refl _ _, Keep.only o2 (.inl rfl), fun _ => .inl⟩
  rw [ha] at c5
  clear ha a2 o2 ok
  obtain ⟨q, hq⟩ : ∃ q, (D.fails (D.count + 1)).isSome = q := ⟨_, rfl⟩
  rw [hq]
  have HQ : Hid ((D.fails (D.count + 1)).isSome = q) := hq
  clear hq
  go_enter Tryz.func82, Tryz.ntmps82
  go_wp2_with fail
  have C7 : ∀ W, Done w h W h { D with count := D.count + 1 } → W.cell? ⟨h.b, 7, none⟩ = some (.map h.fo) := fun W hd => hd.at_.ptr.cell 7
  have C8 : ∀ W, Done w h W h { D with count := D.count + 1 } → W.cell? ⟨h.b, 8, none⟩ = some (.int .i64 (D.count + 1)) := fun W hd => hd.at_.ptr.cell 8
  have CL : ∀ W, Done w h W h { D with count := D.count + 1 } → (Instr.lookup 60 (.map h.fo) (.int .i64 (D.count + 1)) true).run Tryz.prog W = .ok (.tuple #[.agg #[], .bool q]) W := fun W hd => by rw [← HQ.out]; exact lookF hd.at_ (by omega) (by omega)
  refine wp_region_plan (fun W => Done w h W h { D with count := D.count + 1 }) [.take 0, .take 1, .take 2, .take 3, .take 4, .take 5, .take 6, .take 7, .take 8, .take 9, .take 10, .take 11, .one 12, .one 13, .one 14] mixedP (by kernel_rfl) rfl (by kernel_rfl) (fun _ _ _ d _ h => by cases d <;> exact h) DN.out.drew ?_
  refine plan_val (some 29) rfl rfl rfl (.pointer (some ⟨h.b, 5, none⟩)) (fun _ => by go_simp) ?_
  go_frame
  refine plan_val (some 30) rfl rfl rfl (.pointer (some ⟨h.b, 5, none⟩)) (fun _ => by go_simp) ?_
  go_frame
  refine plan_val (some 31) rfl rfl rfl (.pointer (some ⟨h.b, 7, none⟩)) (fun _ => by go_simp) ?_
  go_frame
  refine plan_ldF (some 32) rfl rfl rfl _ rfl rfl C7 ?_
  go_frame
  refine plan_val (some 33) rfl rfl rfl (.pointer (some ⟨h.b, 5, none⟩)) (fun _ => by go_simp) ?_
  go_frame
  refine plan_val (some 34) rfl rfl rfl (.pointer (some ⟨h.b, 5, none⟩)) (fun _ => by go_simp) ?_
  go_frame
  refine plan_val (some 35) rfl rfl rfl (.pointer (some ⟨h.b, 8, none⟩)) (fun _ => by go_simp) ?_
  go_frame
  refine plan_ldI (some 36) rfl rfl rfl _ rfl rfl C8 ?_
  go_frame
  refine plan_run (some 37) rfl rfl rfl (.tuple #[.agg #[], .bool q]) (fun W hd => by have := CL W hd; go_simp) ?_
  go_frame
  refine plan_val (some 28) rfl rfl rfl (.tuple #[.agg #[], .bool q]) (fun _ => by go_simp) ?_
  go_frame
  refine plan_val (some 38) rfl rfl rfl (.agg #[]) (fun _ => by go_simp) ?_
  go_frame
  refine plan_val (some 39) rfl rfl rfl (.bool q) (fun _ => by go_simp) ?_
  go_frame
  refine plan_one (some 3) rfl rfl rfl (v := .pointer (some ⟨W2.heap.size, 0, none⟩)) (w' := W2.drew.alloc (.cells #[] 73)) (by go_simp) (DN.out.drew.below (below_new1 _ _)) ?_
  go_frame
  refine plan_skip none rfl rfl rfl (w' := W2.drew.alloc (.cells #[] 73)) (by go_simp) (DN.out.drew.below (below_new1 _ _)) ?_
  go_frame
  refine plan_one (some 4) rfl rfl rfl (v := .bool q) (w' := W2.drew.alloc (.cells #[] 73)) (by go_simp) (DN.out.drew.below (below_new1 _ _)) ?_
  go_frame
  have DX : Hid (Done w h (W2.drew.alloc (.cells #[] 73)) h { D with count := D.count + 1 }) := DN.out.drew.below (below_new1 _ _)
  show Exit.then _ _ Exit.normal _ _
  simp only [Exit.then]
  go_at_K
  cases q
  all_goals go_wp2_with fail
  all_goals go_ret
  all_goals exact ⟨rfl, DX.out⟩

set_option maxRecDepth 8000 in
theorem next_dead {w : World} {h : Hd} {D : Dev} (a : DiskAt w h D) (ha : D.armed = true) (hl : D.left = 0) :
    Calls Tryz.prog 82 #[.pointer (some ⟨h.b, 5, none⟩)] w fun e w' => e = .returned (.int .i64 15) ∧ w' = w := by
  have c5 : w.cell? ⟨h.b, 5, none⟩ = some (.bool D.armed) := a.ptr.cell 5
  have c6 : w.cell? ⟨h.b, 6, none⟩ = some (.int .i64 D.left) := a.ptr.cell 6
  rw [ha] at c5
  rw [hl] at c6
  clear ha hl
  go_enter Tryz.func82, Tryz.ntmps82
  go_wp2_with fail
  go_ret
  exact ⟨rfl, rfl⟩

theorem next_any {w : World} {h : Hd} {D : Dev} (a : DiskAt w h D) {N : Nat} (ok : D.ok N) (hN : N < 1000000000) :
    Calls Tryz.prog 82 #[.pointer (some ⟨h.b, 5, none⟩)] w fun e w' => e = .returned (.int .i64 D.next.1) ∧ Done w h w' h D.next.2 := by
  unfold Dev.next
  by_cases hl : D.armed = true ∧ D.left = 0
  · rw [if_pos hl]
    refine (next_dead a hl.1 hl.2).mono ?_
    rintro e w' ⟨rfl, rfl⟩
    exact ⟨rfl, Done.refl a⟩
  · rw [if_neg hl]
    cases ha : D.armed with
    | true =>
      refine (next_arm a ok hN ha (fun e => hl ⟨ha, e⟩)).mono ?_
      rintro e w' ⟨rfl, hd⟩
      rw [ha] at hd
      exact ⟨rfl, hd⟩
    | false =>
      refine (next_free a ok hN ha).mono ?_
      rintro e w' ⟨rfl, hd⟩
      rw [ha] at hd
      exact ⟨rfl, hd⟩

theorem next_which (D : Dev) : (D.next.1 = 15 ∧ D.next.2 = D) ∨ D.next.1 = 14 ∨ D.next.1 = 0 := by
  unfold Dev.next
  split
  · exact .inl ⟨rfl, rfl⟩
  · split
    · exact .inr (.inl rfl)
    · exact .inr (.inr rfl)
theorem next_ok {D : Dev} {N : Nat} (ok : D.ok N) : D.next.2.ok (N + 1) := by
  unfold Dev.next
  split
  · exact ok.mono (by omega)
  · rename_i hl
    refine ⟨ok.size, ok.keys, ok.texts, ok.writes, Nat.le_trans ok.many (by omega), by have := ok.ops; dsimp only; omega, ?_, by have := ok.count; dsimp only; omega⟩
    have := ok.left
    dsimp only
    split
    · rename_i ha
      have : ¬ D.left = 0 := fun e => hl ⟨ha, e⟩
      omega
    · exact this
theorem begin_ok {D : Dev} {N : Nat} (ok : D.ok N) (r : Bool) : (D.begin r).2.ok (N + 1) := by
  unfold Dev.begin
  have h1 := next_ok ok
  split
  · exact ok.mono (by omega)
  · split
    · refine ⟨h1.size, h1.keys, h1.texts, h1.writes, h1.many, ?_, h1.left, h1.count⟩
      have h2 : D.next.2.ops = D.ops := by unfold Dev.next; split <;> rfl
      have := ok.ops
      dsimp only
      rw [h2]
      split <;> omega
    · exact ok.mono (by omega)

set_option maxRecDepth 8000 in
set_option maxHeartbeats 1000000 in
theorem begin_any {w : World} {h : Hd} {D : Dev} (a : DiskAt w h D) {N : Nat} (ok : D.ok N) (hN : N < 1000000000) (r : Bool) :
    Calls Tryz.prog 58 #[.pointer (some ⟨h.b, 0, none⟩), .bool r] w fun e w' => e = .returned (.int .i64 (D.begin r).1) ∧ Done w h w' h (D.begin r).2 := by
  have hon := on_any a
  have hnx := next_any a ok hN
  have hnot := run_not
  have hops : 0 ≤ D.next.2.ops ∧ D.next.2.ops ≤ N + 1 := (next_ok ok).ops
  unfold Dev.begin
  cases ho : D.off with
  | true =>
    rw [ho] at hon
    simp only [Bool.not_true] at hon
    rw [if_pos rfl]
    go_enter Tryz.func58, Tryz.ntmps58
    go_wp2_with (go_at_call 16; refine hon.mono ?_; rintro e w1 ⟨rfl, rfl⟩)
    go_ret
    exact ⟨rfl, Done.refl a⟩
  | false =>
    rw [ho] at hon
    simp only [Bool.not_false] at hon
    rw [if_neg (by decide)]
    cases r with
    | false =>
      rw [if_neg (by decide)]
      go_enter Tryz.func58, Tryz.ntmps58
      go_wp2_with (go_at_call 16; refine hon.mono ?_; rintro e w1 ⟨rfl, rfl⟩)
      go_ret
      exact ⟨rfl, Done.refl a⟩
    | true =>
      rw [if_pos rfl]
      rcases next_which D with ⟨e1, _⟩ | e1 | e1
      all_goals
        rw [e1] at hnx ⊢
        generalize D.next.2 = E at hnx hops ⊢
        go_enter Tryz.func58, Tryz.ntmps58
        go_wp2_with (first
          | (go_at_call 16; refine hon.mono ?_; rintro e w1 ⟨rfl, rfl⟩)
          | (go_at_call 82; refine hnx.mono ?_; rintro e w2 ⟨rfl, hd⟩; clear hnx; have a2 := hd.at_; have c3 : w2.cell? ⟨h.b, 3, none⟩ = some (.int .i64 E.ops) := a2.ptr.cell 3; have f3 := frozenD a2 3; have c4 : w2.cell? ⟨h.b, 4, none⟩ = some (.bool E.off) := a2.ptr.cell 4; have f4 := frozenD a2 4))
        go_ret
      · exact ⟨rfl, hd.trans (Done.turn a2 ((Only.refl _ _).set 4 _) ((a2.ptr.set 4 _).congr rfl) rfl rfl rfl)⟩
      · exact ⟨rfl, hd.trans (Done.turn a2 ((Only.refl _ _).set 4 _) ((a2.ptr.set 4 _).congr rfl) rfl rfl rfl)⟩
      · exact ⟨rfl, hd.trans (Done.turn a2 (((Only.refl _ _).set 3 _).set 4 _) (((a2.ptr.set 3 _).set 4 _).congr rfl) rfl rfl rfl)⟩
end Go.Proofs.YtjklcnknbcmgoaaGreatDoor
/-
  What put and delete do to a device's pages; New and Clear.
-/
namespace Go.Proofs.YtjklcnknbcmgoaaGreatDoor
open Go Go.RowKit Go.Maps

theorem nodup_len : ∀ (N : Nat) (l : List Nat), l.Nodup → (∀ x ∈ l, x < N) → l.length ≤ N
  | 0, l, _, h => by
    cases l with
    | nil => simp
    | cons x l => have := h x (by simp); omega
  | N + 1, l, hn, h => by
    have h1 := nodup_len N (l.erase N) (hn.erase N) (fun x hx => by
      have h2 := h x (List.mem_of_mem_erase hx)
      have h3 : x ≠ N := fun e => by subst e; exact (List.Nodup.not_mem_erase hn) hx
      omega)
    have h2 := List.length_erase (a := N) (l := l)
    split at h2 <;> omega
def litN : Lit → Nat
  | .int _ n => n.toNat
  | _ => 0
theorem keys_len {l : List (Lit × DataW Unit)} {N : Nat} (hp : l.Pairwise (fun p q => p.1 ≠ q.1)) (h : ∀ p ∈ l, ∃ u : Int, (0 ≤ u ∧ u < N) ∧ p.1 = keyI u) : l.length ≤ N := by
  have := nodup_len N (l.map fun p => litN p.1) (by
    unfold List.Nodup
    rw [List.pairwise_map]
    refine hp.imp_of_mem fun {p q} hpm hqm hne e => ?_
    obtain ⟨u, _, hu⟩ := h p hpm
    obtain ⟨v, _, hv⟩ := h q hqm
    rw [hu, hv] at e
    simp [litN, keyI] at e
    rw [hu, hv] at hne
    exact hne (by rw [show u = v by omega])) (by
    intro x hx
    obtain ⟨p, hpm, rfl⟩ := List.mem_map.1 hx
    obtain ⟨u, hu, e⟩ := h p hpm
    rw [e]
    simp [litN, keyI]
    omega)
  simpa using this
theorem MapAt.small {α : Type} {enc : α → DataW Unit} {R : Value → Option (DataW Unit × List MemPlace)} {w : World} {m n : Nat} {M : Int → Option α} (h : MapAt R enc w m n M) (hk : ∀ u x, M u = some x → 0 ≤ u ∧ u < 65536) : MapAt R enc w m 65536 M := by
  obtain ⟨D, ho, hr⟩ := h
  obtain ⟨es0, he, hp, hl⟩ := ho.entries keyed3
  obtain ⟨es, clock, hb, F, _, hD⟩ := ho
  refine ⟨D, ⟨es, clock, hb, F, ?_, hD⟩, hr⟩
  have e1 : es.size = es0.length := by
    rw [hD] at he
    injection he with he
    rw [← he, length_read]
  rw [e1]
  refine keys_len hp fun p hpm => ?_
  have hh : Maps.has D p.1 = true := by
    rw [he]
    exact List.any_eq_true.2 ⟨p, hpm, WideAt.sameKey_self (hl p hpm)⟩
  obtain ⟨u, x, hu, hx⟩ := (hr.has p.1).1 hh
  exact ⟨u, hk u x hx, hu⟩

theorem eql_pages (mo : Option Nat) (w : World) : (binOp .eql 58 (.map mo) (.map none)).run Tryz.prog w = .ok (.bool mo.isNone) w := by
  have h := run_equal_map_nil (w := w) 58 3 114 mo Tryz.underlying58
  simp [binOp, h, Result.andThen]
theorem infoPg (x : Pg) : (Tryz.prog.info? 114).map (·.size) = some (#[.string x.1, .string x.2] : Array Value).size := by kernel_rfl

/-- The pages' map alone has turned. -/
theorem Done.map {w w' : World} {h : Hd} {D : Dev} {m : Nat} {P : Int → Option Pg} (a : DiskAt w h D) (hm : h.po = some m) (hO : Only m w w') (hp : MapAt RP encP w' m 65536 P) : Done w h w' h { D with pages := P } := by
  have hob : ∃ es clock, w.heap[m]? = some (.map es clock) := a.pages.obj m hm
  obtain ⟨es, clock, hob⟩ := hob
  have hbm : h.b ≠ m := by
    rintro rfl
    have := a.ptr
    unfold Holds at this
    rw [this] at hob
    cases hob
  refine ⟨⟨hO.holds a.ptr hbm, ?_, ?_, ?_, a.apart⟩, Newer.refl _ _, Keep.only hO (.inr (.inl hm)), fun _ => .inl⟩
  · rw [hm]; exact hp
  · refine a.writes.block fun k hk => hO.block k (a.writes.lt k hk) ?_
    rintro rfl
    obtain ⟨cur, hq⟩ := a.writes.obj _ hk
    rw [hq] at hob
    cases hob
  · obtain ⟨n, hf⟩ := a.fails
    exact ⟨n, hf.block fun k e => hO.block k (hf.lt k e) (fun q => a.apart k e (by rw [q]; exact hm))⟩
/-- A map is made. -/
theorem Done.made {w : World} {h : Hd} {D : Dev} (a : DiskAt w h D) (hm : h.po = none) : Done w h ((w.alloc (.map #[] 0)).setCell ⟨h.b, 1, none⟩ (.map (some w.heap.size))) { h with po := some w.heap.size } D := by
  have a1 := a.below (below_new1 w (.map #[] 0))
  have hO : Only h.b (w.alloc (.map #[] 0)) ((w.alloc (.map #[] 0)).setCell ⟨h.b, 1, none⟩ (.map (some w.heap.size))) := (Only.refl _ _).set 1 _
  have hbl := a.ptr.lt
  refine ⟨⟨(a1.ptr.set 1 _).congr rfl, ?_, ?_, ?_, ?_⟩, ⟨rfl, ?_⟩, ?_, fun _ => .inl⟩
  · have hp := a.pages
    rw [hm] at hp
    refine MapAt.block (w := w.alloc (.map #[] 0)) ?_ (hO.block _ (by simp) (by omega))
    refine ((MapAt.made w).mono (Nat.zero_le _)).congr fun u => (hp u).symm
  · refine a1.writes.block fun k hk => hO.block k (a1.writes.lt k hk) ?_
    rintro rfl
    obtain ⟨cur, hq⟩ := a1.writes.obj _ hk
    have := a1.ptr
    unfold Holds at this
    rw [this] at hq
    injection hq with hq
    injection hq with _ hq
    exact absurd hq (by decide)
  · obtain ⟨n, hf⟩ := a1.fails
    refine ⟨n, hf.block fun k e => hO.block k (hf.lt k e) ?_⟩
    rintro rfl
    obtain ⟨es, clock, hq⟩ := hf.obj _ e
    have := a1.ptr
    unfold Holds at this
    rw [this] at hq
    cases hq
  · intro m hf e
    injection e with e
    obtain ⟨n, hfl⟩ := a.fails
    have := hfl.lt m hf
    omega
  · rintro k (rfl | hk | hk)
    · exact .inl (.inl rfl)
    · injection hk with hk
      exact .inr (by omega)
    · exact .inl (.inr (.inr hk))
  · exact (Keep.below (below_new1 w _)).trans (Keep.only hO (S := Foot h) (.inl rfl)) fun _ => .inl

set_option maxRecDepth 8000 in
set_option maxHeartbeats 1000000 in
theorem put_any {w : World} {h : Hd} {D : Dev} (a : DiskAt w h D) (hk : ∀ u x, D.pages u = some x → 0 ≤ u ∧ u < 65536) {n : Int} (h0 : 0 ≤ n) (h1 : n < 65536) (x : Pg) :
    Calls Tryz.prog 59 #[.pointer (some ⟨h.b, 0, none⟩), .int .i64 n, mkP x] w fun e w' => e = .returned (.tuple #[]) ∧ ∃ h', h'.wv = h.wv ∧ h'.fo = h.fo ∧ Done w h w' h' { D with pages := setM D.pages n (some x) } := by
  have hk2 : ∀ u y, setM D.pages n (some x) u = some y → 0 ≤ u ∧ u < 65536 := fun u y hy => by
    unfold setM at hy
    split at hy
    · rename_i e; omega
    · exact hk u y hy
  have hwf := wfI (u := n) (by omega) (by omega)
  obtain ⟨W0, hW⟩ : ∃ W0, World.alloc w (.cells #[.string x.1, .string x.2] 114) = W0 := ⟨_, rfl⟩
  have hB : Below w.heap.size w W0 := by rw [← hW]; exact below_new1 _ _
  have q1 : Holds W0 w.heap.size 114 #[.string x.1, .string x.2] := by rw [← hW]; exact Holds.new _ _ _
  have a0 := a.below hB
  have c1 : W0.cell? ⟨h.b, 1, none⟩ = some (.map h.po) := a0.ptr.cell 1
  have f1 := frozenD a0 1
  have heq := eql_pages h.po
  have hbl := a.ptr.lt
  cases hpo : h.po with
  | some m =>
    have hmp : MapAt RP encP W0.drew m 65536 D.pages := by have := a0.drew.pages; rw [hpo] at this; exact this
    obtain ⟨w', hrun, r1, r2, r3⟩ := hmp.upd elemP Tryz.underlying58 (by unfold maxLen; omega) hwf x
    have DN : Hid (Done w h w' h { D with pages := setM D.pages n (some x) }) := Done.ahead hB ((Done.refl a0).drew.trans (Done.map a0.drew hpo r2 (r1.small hk2)))
    rw [hpo] at c1 heq
    clear r1 r2 r3 hmp a0 a hk hk2
    unfold mkP at *
    go_enter Tryz.func59, Tryz.ntmps59
    go_wp2_with fail
    refine wp_region_qtail 6 mixedP (by kernel_rfl) ?_
    simp only [List.take_succ_cons, List.take_zero, List.drop_succ_cons, List.drop_zero]
    go_big_quiet_step (fail)
    go_big_quiet_step (fail)
    go_big_quiet_step (fail)
    go_big_quiet_step (fail)
    go_big_quiet_step (fail)
    refine wpQ_load rfl 114 _ rfl _ rfl 114 _ _ (fun w' hw' => by subst hw'; exact q1.drew) Tryz.underlying114 rfl (infoPg x) ?_
    refine wpQuiet_nil ?_
    go_wp2_with fail
    go_end0
    exact ⟨rfl, h, rfl, rfl, DN.out⟩
  | none =>
    obtain ⟨W1, hW1⟩ : ∃ W, (W0.alloc (.map #[] 0)).setCell ⟨h.b, 1, none⟩ (.map (some W0.heap.size)) = W := ⟨_, rfl⟩
    have d1 : Done W0 h W1 { h with po := some W0.heap.size } D := by rw [← hW1]; exact Done.made a0 hpo
    have hf1' : (W0.alloc (.map #[] 0)).frozen? ⟨h.b, 1, none⟩ = false := frozenD (a0.below (below_new1 _ _)) 1
    have hc1' : (W0.alloc (.map #[] 0)).cell? ⟨h.b, 1, none⟩ = some (.map none) := by have := (a0.below (below_new1 W0 (.map #[] 0))).ptr.cell 1; rw [this]; show some (Value.map h.po) = _; rw [hpo]
    have c11 : W1.cell? ⟨h.b, 1, none⟩ = some (.map (some W0.heap.size)) := d1.at_.ptr.cell 1
    have q2 : Holds W1 w.heap.size 114 #[.string x.1, .string x.2] := by
      rw [← hW1]
      exact (q1.alloc _).other _ _ (by dsimp only; omega)
    have hmp : MapAt RP encP W1.drew W0.heap.size 65536 D.pages := d1.at_.drew.pages
    obtain ⟨w', hrun, r1, r2, r3⟩ := hmp.upd elemP Tryz.underlying58 (by unfold maxLen; omega) hwf x
    have DN : Hid (Done w h w' { h with po := some W0.heap.size } { D with pages := setM D.pages n (some x) }) := Done.ahead hB (d1.trans ((Done.refl d1.at_).drew.trans (Done.map d1.at_.drew rfl r2 (r1.small hk2))))
    have hmm := @run_makeMap Tryz.prog
    rw [hpo] at c1 heq
    clear r1 r2 r3 hmp a0 a hk hk2 d1
    unfold mkP at *
    go_enter Tryz.func59, Tryz.ntmps59
    go_wp2_with fail
    refine wp_region_qtail 6 mixedP (by kernel_rfl) ?_
    simp only [List.take_succ_cons, List.take_zero, List.drop_succ_cons, List.drop_zero]
    go_big_quiet_step (fail)
    go_big_quiet_step (fail)
    go_big_quiet_step (fail)
    go_big_quiet_step (fail)
    go_big_quiet_step (fail)
    refine wpQ_load rfl 114 _ rfl _ rfl 114 _ _ (fun w' hw' => by subst hw'; exact q2.drew) Tryz.underlying114 rfl (infoPg x) ?_
    refine wpQuiet_nil ?_
    go_wp2_with fail
    go_end0
    exact ⟨rfl, { h with po := some W0.heap.size }, rfl, rfl, DN.out⟩
end Go.Proofs.YtjklcnknbcmgoaaGreatDoor
