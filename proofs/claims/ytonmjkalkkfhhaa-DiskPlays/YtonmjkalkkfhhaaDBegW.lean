/-
  What next and begin do.
-/
import Derived.Test.YtonmjkalkkfhhaaDNextW
namespace Go.Proofs.Ytonmjkalkkfhhaa
open Go Go.RowKit Go.Maps

/-- An operation is counted. -/
def Dev.next (D : Dev) : Int × Dev :=
  if D.armed = true ∧ D.left = 0 then (15, D)
  else (if (D.fails (D.count + 1)).isSome then 14 else 0, { D with left := if D.armed then D.left - 1 else D.left, count := D.count + 1 })
/-- What an operation asks ahead. -/
def Dev.begin (D : Dev) (right : Bool) : Int × Dev :=
  if D.off then (15, D) else if right then
    (D.next.1, { D.next.2 with ops := if D.next.1 = 0 then D.next.2.ops + 1 else D.next.2.ops, off := decide (D.next.1 = 15) })
  else (1, D)

theorem lookF {w : World} {h : Hd} {D : Dev} (a : DiskAt w h D) {u : Int} (h0 : 0 ≤ u) (h1 : u ≤ 9223372036854775807) :
    (Instr.lookup 56 (.map h.fo) (.int .i64 u) true).run Try.prog w = .ok (.tuple #[.agg #[], .bool (D.fails u).isSome]) w := by
  obtain ⟨n, hf⟩ := a.fails
  have := hf.look elemU Try.underlying56 (zeroU w) (wfI (u := u) (by omega) h1) true
  simpa [mkU] using this

section
variable {ops : Array Oper} {C : World → Prop} {Q : Exit → Act → World → Prop} {t : List Plan} {k : Nat} {op : Oper} {a : Act} {w : World}
theorem plan_ldF (d : Option Tmp) (hdd : op.dst = d) (hk : ops[k]?.getD default = op) (hgd : op.guard = none) (x : Operand) (ho : op.op = .load 56 x) {ad : Addr} (hx : a.eval x = .pointer (some ad)) {v : Value} (hh : ∀ w, C w → w.cell? ad = some v)
    (h : wpPlan Try.prog ops C Q t (a.put d v) w) : wpPlan Try.prog ops C Q (.take k :: t) a w := by
  refine ⟨by rw [hk]; simp [Region.wanted, hgd], v, fun w' hw => ?_, by rw [hk, hdd]; exact h⟩
  rw [hk]
  have hl : (loadVar 56 ad).run Try.prog w' = .ok v w' := by simp [go_sem, hh w' hw]
  unfold execOp
  simp only [ho, hx, Instr.loadAt, Instr.sureAddr, Sem.run_bind, Sem.run_pure, Result.andThen_ok, hl]
/-- What yields one value in all worlds of the class. -/
theorem plan_run (d : Option Tmp) (hdd : op.dst = d) (hk : ops[k]?.getD default = op) (hgd : op.guard = none) (v : Value) (hv : ∀ w, C w → (execOp a.eval op).run Try.prog w = .ok (.value v) w) (h : wpPlan Try.prog ops C Q t (a.put d v) w) : wpPlan Try.prog ops C Q (.take k :: t) a w :=
  ⟨by rw [hk]; simp [Region.wanted, hgd], v, fun w' hw => by rw [hk]; exact hv w' hw, by rw [hk, hdd]; exact h⟩
end

set_option maxRecDepth 8000 in
set_option maxHeartbeats 1000000 in
/-- Behind the power's test, with power that will go. -/
theorem next_arm {w : World} {h : Hd} {D : Dev} (a : DiskAt w h D) {N : Nat} (ok : D.ok N) (hN : N < 1000000000) (ha : D.armed = true) (hl0 : ¬ D.left = 0) :
    Calls Try.prog 46 #[.pointer (some ⟨h.b, 5, none⟩)] w fun e w' => e = .returned (.int .i64 (if (D.fails (D.count + 1)).isSome then 14 else 0)) ∧ Done w h w' h { D with left := D.left - 1, count := D.count + 1 } := by
  have hcnt := ok.count
  have hleft := ok.left
  have c5 : w.cell? ⟨h.b, 5, none⟩ = some (.bool D.armed) := a.ptr.cell 5
  have c6 : w.cell? ⟨h.b, 6, none⟩ = some (.int .i64 D.left) := a.ptr.cell 6
  have f6 := frozenD a 6
  have hl1 : (D.left == 0) = false := beq_eq_false_iff_ne.2 hl0
  obtain ⟨W1, hW1⟩ : ∃ W, w.setCell ⟨h.b, 6, none⟩ (.int .i64 (D.left - 1)) = W := ⟨_, rfl⟩
  have a1 : DiskAt W1 h { D with left := D.left - 1 } := by rw [← hW1]; exact a.turn ((Only.refl _ _).set 6 _) ((a.ptr.set 6 _).congr rfl) rfl rfl rfl
  have o1 : Only h.b w W1 := by rw [← hW1]; exact (Only.refl _ _).set 6 _
  have c81 : W1.cell? ⟨h.b, 8, none⟩ = some (.int .i64 D.count) := a1.ptr.cell 8
  have f81 := frozenD a1 8
  obtain ⟨W2, hW2⟩ : ∃ W, W1.setCell ⟨h.b, 8, none⟩ (.int .i64 (D.count + 1)) = W := ⟨_, rfl⟩
  have a2 : DiskAt W2 h { D with left := D.left - 1, count := D.count + 1 } := by rw [← hW2]; exact a1.turn ((Only.refl _ _).set 8 _) ((a1.ptr.set 8 _).congr rfl) rfl rfl rfl
  have o2 : Only h.b w W2 := by rw [← hW2]; exact o1.set 8 _
  have DN : Hid (Done w h W2 h { D with left := D.left - 1, count := D.count + 1 }) := ⟨a2, Newer.refl _ _, Keep.only o2 (.inl rfl)⟩
  rw [ha] at c5
  clear ha a2 o2 a1 o1 ok
  obtain ⟨q, hq⟩ : ∃ q, (D.fails (D.count + 1)).isSome = q := ⟨_, rfl⟩
  rw [hq]
  have HQ : Hid ((D.fails (D.count + 1)).isSome = q) := hq
  clear hq
  go_enter Try.func46, Try.ntmps46
  go_wp2_with fail
  have C7 : ∀ W, Done w h W h { D with left := D.left - 1, count := D.count + 1 } → W.cell? ⟨h.b, 7, none⟩ = some (.map h.fo) := fun W hd => hd.at_.ptr.cell 7
  have C8 : ∀ W, Done w h W h { D with left := D.left - 1, count := D.count + 1 } → W.cell? ⟨h.b, 8, none⟩ = some (.int .i64 (D.count + 1)) := fun W hd => hd.at_.ptr.cell 8
  have CL : ∀ W, Done w h W h { D with left := D.left - 1, count := D.count + 1 } → (Instr.lookup 56 (.map h.fo) (.int .i64 (D.count + 1)) true).run Try.prog W = .ok (.tuple #[.agg #[], .bool q]) W := fun W hd => by rw [← HQ.out]; exact lookF hd.at_ (by omega) (by omega)
  refine wp_region_plan (fun W => Done w h W h { D with left := D.left - 1, count := D.count + 1 }) [.take 0, .take 1, .take 2, .take 3, .take 4, .take 5, .take 6, .take 7, .take 8, .take 9, .take 10, .take 11, .one 12, .one 13, .one 14] mixedP (by kernel_rfl) rfl (by kernel_rfl) (fun _ _ _ d _ h => by cases d <;> exact h) DN.out.drew ?_
  refine plan_val (some 29) rfl rfl rfl (.pointer (some ⟨h.b, 5, none⟩)) (fun _ => by go_simp) ?_
  go_frame
  refine plan_val (some 30) rfl rfl rfl (.pointer (some ⟨h.b, 5, none⟩)) (fun _ => by go_simp) ?_
  go_frame
  refine plan_val (some 31) rfl rfl rfl (.pointer (some ⟨h.b, 7, none⟩)) (fun _ => by go_simp) ?_
  go_frame
  refine plan_ldF (some 32) rfl rfl rfl _ rfl rfl C7 ?_
  go_frame
  refine plan_val (some 33) rfl rfl rfl (.pointer (some ⟨h.b, 5, none⟩)) (fun _ => by go_simp) ?_
  go_frame
  refine plan_val (some 34) rfl rfl rfl (.pointer (some ⟨h.b, 5, none⟩)) (fun _ => by go_simp) ?_
  go_frame
  refine plan_val (some 35) rfl rfl rfl (.pointer (some ⟨h.b, 8, none⟩)) (fun _ => by go_simp) ?_
  go_frame
  refine plan_ldI (some 36) rfl rfl rfl _ rfl rfl C8 ?_
  go_frame
  refine plan_run (some 37) rfl rfl rfl (.tuple #[.agg #[], .bool q]) (fun W hd => by have := CL W hd; go_simp) ?_
  go_frame
  refine plan_val (some 28) rfl rfl rfl (.tuple #[.agg #[], .bool q]) (fun _ => by go_simp) ?_
  go_frame
  refine plan_val (some 38) rfl rfl rfl (.agg #[]) (fun _ => by go_simp) ?_
  go_frame
  refine plan_val (some 39) rfl rfl rfl (.bool q) (fun _ => by go_simp) ?_
  go_frame
  refine plan_one (some 3) rfl rfl rfl (v := .pointer (some ⟨W2.heap.size, 0, none⟩)) (w' := W2.drew.alloc (.cells #[] 77)) (by go_simp) (DN.out.drew.below (below_new1 _ _)) ?_
  go_frame
  refine plan_skip none rfl rfl rfl (w' := W2.drew.alloc (.cells #[] 77)) (by go_simp) (DN.out.drew.below (below_new1 _ _)) ?_
  go_frame
  refine plan_one (some 4) rfl rfl rfl (v := .bool q) (w' := W2.drew.alloc (.cells #[] 77)) (by go_simp) (DN.out.drew.below (below_new1 _ _)) ?_
  go_frame
  have DX : Hid (Done w h (W2.drew.alloc (.cells #[] 77)) h { D with left := D.left - 1, count := D.count + 1 }) := DN.out.drew.below (below_new1 _ _)
  show Exit.then _ _ Exit.normal _ _
  simp only [Exit.then]
  go_at_K
  cases q
  all_goals go_wp2_with fail
  all_goals go_ret
  all_goals exact ⟨rfl, DX.out⟩

set_option maxRecDepth 8000 in
set_option maxHeartbeats 1000000 in
/-- Nothing is armed. -/
theorem next_free {w : World} {h : Hd} {D : Dev} (a : DiskAt w h D) {N : Nat} (ok : D.ok N) (hN : N < 1000000000) (ha : D.armed = false) :
    Calls Try.prog 46 #[.pointer (some ⟨h.b, 5, none⟩)] w fun e w' => e = .returned (.int .i64 (if (D.fails (D.count + 1)).isSome then 14 else 0)) ∧ Done w h w' h { D with count := D.count + 1 } := by
  have hcnt := ok.count
  have c5 : w.cell? ⟨h.b, 5, none⟩ = some (.bool D.armed) := a.ptr.cell 5
  have c8 : w.cell? ⟨h.b, 8, none⟩ = some (.int .i64 D.count) := a.ptr.cell 8
  have f8 := frozenD a 8
  obtain ⟨W2, hW2⟩ : ∃ W, w.setCell ⟨h.b, 8, none⟩ (.int .i64 (D.count + 1)) = W := ⟨_, rfl⟩
  have a2 : DiskAt W2 h { D with count := D.count + 1 } := by rw [← hW2]; exact a.turn ((Only.refl _ _).set 8 _) ((a.ptr.set 8 _).congr rfl) rfl rfl rfl
  have o2 : Only h.b w W2 := by rw [← hW2]; exact (Only.refl _ _).set 8 _
  have DN : Hid (Done w h W2 h { D with count := D.count + 1 }) := ⟨a2, Newer.refl _ _, Keep.only o2 (.inl rfl)⟩
  rw [ha] at c5
  clear ha a2 o2 ok
  obtain ⟨q, hq⟩ : ∃ q, (D.fails (D.count + 1)).isSome = q := ⟨_, rfl⟩
  rw [hq]
  have HQ : Hid ((D.fails (D.count + 1)).isSome = q) := hq
  clear hq
  go_enter Try.func46, Try.ntmps46
  go_wp2_with fail
  have C7 : ∀ W, Done w h W h { D with count := D.count + 1 } → W.cell? ⟨h.b, 7, none⟩ = some (.map h.fo) := fun W hd => hd.at_.ptr.cell 7
  have C8 : ∀ W, Done w h W h { D with count := D.count + 1 } → W.cell? ⟨h.b, 8, none⟩ = some (.int .i64 (D.count + 1)) := fun W hd => hd.at_.ptr.cell 8
  have CL : ∀ W, Done w h W h { D with count := D.count + 1 } → (Instr.lookup 56 (.map h.fo) (.int .i64 (D.count + 1)) true).run Try.prog W = .ok (.tuple #[.agg #[], .bool q]) W := fun W hd => by rw [← HQ.out]; exact lookF hd.at_ (by omega) (by omega)
  refine wp_region_plan (fun W => Done w h W h { D with count := D.count + 1 }) [.take 0, .take 1, .take 2, .take 3, .take 4, .take 5, .take 6, .take 7, .take 8, .take 9, .take 10, .take 11, .one 12, .one 13, .one 14] mixedP (by kernel_rfl) rfl (by kernel_rfl) (fun _ _ _ d _ h => by cases d <;> exact h) DN.out.drew ?_
  refine plan_val (some 29) rfl rfl rfl (.pointer (some ⟨h.b, 5, none⟩)) (fun _ => by go_simp) ?_
  go_frame
  refine plan_val (some 30) rfl rfl rfl (.pointer (some ⟨h.b, 5, none⟩)) (fun _ => by go_simp) ?_
  go_frame
  refine plan_val (some 31) rfl rfl rfl (.pointer (some ⟨h.b, 7, none⟩)) (fun _ => by go_simp) ?_
  go_frame
  refine plan_ldF (some 32) rfl rfl rfl _ rfl rfl C7 ?_
  go_frame
  refine plan_val (some 33) rfl rfl rfl (.pointer (some ⟨h.b, 5, none⟩)) (fun _ => by go_simp) ?_
  go_frame
  refine plan_val (some 34) rfl rfl rfl (.pointer (some ⟨h.b, 5, none⟩)) (fun _ => by go_simp) ?_
  go_frame
  refine plan_val (some 35) rfl rfl rfl (.pointer (some ⟨h.b, 8, none⟩)) (fun _ => by go_simp) ?_
  go_frame
  refine plan_ldI (some 36) rfl rfl rfl _ rfl rfl C8 ?_
  go_frame
  refine plan_run (some 37) rfl rfl rfl (.tuple #[.agg #[], .bool q]) (fun W hd => by have := CL W hd; go_simp) ?_
  go_frame
  refine plan_val (some 28) rfl rfl rfl (.tuple #[.agg #[], .bool q]) (fun _ => by go_simp) ?_
  go_frame
  refine plan_val (some 38) rfl rfl rfl (.agg #[]) (fun _ => by go_simp) ?_
  go_frame
  refine plan_val (some 39) rfl rfl rfl (.bool q) (fun _ => by go_simp) ?_
  go_frame
  refine plan_one (some 3) rfl rfl rfl (v := .pointer (some ⟨W2.heap.size, 0, none⟩)) (w' := W2.drew.alloc (.cells #[] 77)) (by go_simp) (DN.out.drew.below (below_new1 _ _)) ?_
  go_frame
  refine plan_skip none rfl rfl rfl (w' := W2.drew.alloc (.cells #[] 77)) (by go_simp) (DN.out.drew.below (below_new1 _ _)) ?_
  go_frame
  refine plan_one (some 4) rfl rfl rfl (v := .bool q) (w' := W2.drew.alloc (.cells #[] 77)) (by go_simp) (DN.out.drew.below (below_new1 _ _)) ?_
  go_frame
  have DX : Hid (Done w h (W2.drew.alloc (.cells #[] 77)) h { D with count := D.count + 1 }) := DN.out.drew.below (below_new1 _ _)
  show Exit.then _ _ Exit.normal _ _
  simp only [Exit.then]
  go_at_K
  cases q
  all_goals go_wp2_with fail
  all_goals go_ret
  all_goals exact ⟨rfl, DX.out⟩

set_option maxRecDepth 8000 in
theorem next_dead {w : World} {h : Hd} {D : Dev} (a : DiskAt w h D) (ha : D.armed = true) (hl : D.left = 0) :
    Calls Try.prog 46 #[.pointer (some ⟨h.b, 5, none⟩)] w fun e w' => e = .returned (.int .i64 15) ∧ w' = w := by
  have c5 : w.cell? ⟨h.b, 5, none⟩ = some (.bool D.armed) := a.ptr.cell 5
  have c6 : w.cell? ⟨h.b, 6, none⟩ = some (.int .i64 D.left) := a.ptr.cell 6
  rw [ha] at c5
  rw [hl] at c6
  clear ha hl
  go_enter Try.func46, Try.ntmps46
  go_wp2_with fail
  go_ret
  exact ⟨rfl, rfl⟩

theorem next_any {w : World} {h : Hd} {D : Dev} (a : DiskAt w h D) {N : Nat} (ok : D.ok N) (hN : N < 1000000000) :
    Calls Try.prog 46 #[.pointer (some ⟨h.b, 5, none⟩)] w fun e w' => e = .returned (.int .i64 D.next.1) ∧ Done w h w' h D.next.2 := by
  unfold Dev.next
  by_cases hl : D.armed = true ∧ D.left = 0
  · rw [if_pos hl]
    refine (next_dead a hl.1 hl.2).mono ?_
    rintro e w' ⟨rfl, rfl⟩
    exact ⟨rfl, Done.refl a⟩
  · rw [if_neg hl]
    cases ha : D.armed with
    | true =>
      refine (next_arm a ok hN ha (fun e => hl ⟨ha, e⟩)).mono ?_
      rintro e w' ⟨rfl, hd⟩
      rw [ha] at hd
      exact ⟨rfl, hd⟩
    | false =>
      refine (next_free a ok hN ha).mono ?_
      rintro e w' ⟨rfl, hd⟩
      rw [ha] at hd
      exact ⟨rfl, hd⟩

theorem next_which (D : Dev) : (D.next.1 = 15 ∧ D.next.2 = D) ∨ D.next.1 = 14 ∨ D.next.1 = 0 := by
  unfold Dev.next
  split
  · exact .inl ⟨rfl, rfl⟩
  · split
    · exact .inr (.inl rfl)
    · exact .inr (.inr rfl)
theorem next_ok {D : Dev} {N : Nat} (ok : D.ok N) : D.next.2.ok (N + 1) := by
  unfold Dev.next
  split
  · exact ok.mono (by omega)
  · rename_i hl
    refine ⟨ok.size, ok.keys, ok.texts, ok.writes, Nat.le_trans ok.many (by omega), by have := ok.ops; dsimp only; omega, ?_, by have := ok.count; dsimp only; omega⟩
    have := ok.left
    dsimp only
    split
    · rename_i ha
      have : ¬ D.left = 0 := fun e => hl ⟨ha, e⟩
      omega
    · exact this
theorem begin_ok {D : Dev} {N : Nat} (ok : D.ok N) (r : Bool) : (D.begin r).2.ok (N + 1) := by
  unfold Dev.begin
  have h1 := next_ok ok
  split
  · exact ok.mono (by omega)
  · split
    · refine ⟨h1.size, h1.keys, h1.texts, h1.writes, h1.many, ?_, h1.left, h1.count⟩
      have h2 : D.next.2.ops = D.ops := by unfold Dev.next; split <;> rfl
      have := ok.ops
      dsimp only
      rw [h2]
      split <;> omega
    · exact ok.mono (by omega)

set_option maxRecDepth 8000 in
set_option maxHeartbeats 1000000 in
theorem begin_any {w : World} {h : Hd} {D : Dev} (a : DiskAt w h D) {N : Nat} (ok : D.ok N) (hN : N < 1000000000) (r : Bool) :
    Calls Try.prog 37 #[.pointer (some ⟨h.b, 0, none⟩), .bool r] w fun e w' => e = .returned (.int .i64 (D.begin r).1) ∧ Done w h w' h (D.begin r).2 := by
  have hon := on_any a
  have hnx := next_any a ok hN
  have hnot := run_not
  have hops : 0 ≤ D.next.2.ops ∧ D.next.2.ops ≤ N + 1 := (next_ok ok).ops
  unfold Dev.begin
  cases ho : D.off with
  | true =>
    rw [ho] at hon
    simp only [Bool.not_true] at hon
    rw [if_pos rfl]
    go_enter Try.func37, Try.ntmps37
    go_wp2_with (go_at_call 31; refine hon.mono ?_; rintro e w1 ⟨rfl, rfl⟩)
    go_ret
    exact ⟨rfl, Done.refl a⟩
  | false =>
    rw [ho] at hon
    simp only [Bool.not_false] at hon
    rw [if_neg (by decide)]
    cases r with
    | false =>
      rw [if_neg (by decide)]
      go_enter Try.func37, Try.ntmps37
      go_wp2_with (go_at_call 31; refine hon.mono ?_; rintro e w1 ⟨rfl, rfl⟩)
      go_ret
      exact ⟨rfl, Done.refl a⟩
    | true =>
      rw [if_pos rfl]
      rcases next_which D with ⟨e1, _⟩ | e1 | e1
      all_goals
        rw [e1] at hnx ⊢
        generalize D.next.2 = E at hnx hops ⊢
        go_enter Try.func37, Try.ntmps37
        go_wp2_with (first
          | (go_at_call 31; refine hon.mono ?_; rintro e w1 ⟨rfl, rfl⟩)
          | (go_at_call 46; refine hnx.mono ?_; rintro e w2 ⟨rfl, hd⟩; clear hnx; have a2 := hd.at_; have c3 : w2.cell? ⟨h.b, 3, none⟩ = some (.int .i64 E.ops) := a2.ptr.cell 3; have f3 := frozenD a2 3; have c4 : w2.cell? ⟨h.b, 4, none⟩ = some (.bool E.off) := a2.ptr.cell 4; have f4 := frozenD a2 4))
        go_ret
      · exact ⟨rfl, hd.trans (Done.turn a2 ((Only.refl _ _).set 4 _) ((a2.ptr.set 4 _).congr rfl) rfl rfl rfl)⟩
      · exact ⟨rfl, hd.trans (Done.turn a2 ((Only.refl _ _).set 4 _) ((a2.ptr.set 4 _).congr rfl) rfl rfl rfl)⟩
      · exact ⟨rfl, hd.trans (Done.turn a2 (((Only.refl _ _).set 3 _).set 4 _) (((a2.ptr.set 3 _).set 4 _).congr rfl) rfl rfl rfl)⟩
end Go.Proofs.Ytonmjkalkkfhhaa
