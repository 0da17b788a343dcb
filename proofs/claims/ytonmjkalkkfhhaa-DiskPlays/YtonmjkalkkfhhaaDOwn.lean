/-
  A device of a call's own: what its calls do.
-/
import Derived.Test.YtonmjkalkkfhhaaDCrashW
namespace Go.Proofs.Ytonmjkalkkfhhaa
open Go Go.RowKit Go.Maps

/-- A device at block b, all of whose blocks are newer than the world w0. -/
def Own (w0 w : World) (b : Nat) (D : Dev) : Prop := ∃ h : Hd, h.b = b ∧ DiskAt w h D ∧ (∀ k, Foot h k → w0.heap.size ≤ k) ∧ Below w0.heap.size w0 w
theorem Own.step {w0 w w' : World} {h h' : Hd} {D' : Dev} (hf : ∀ k, Foot h k → w0.heap.size ≤ k) (hB : Below w0.heap.size w0 w) (d : Done w h w' h' D') : Own w0 w' h.b D' :=
  ⟨h', d.newer.1, d.at_, fun k hk => by
    rcases d.newer.2 k hk with q | q
    · exact hf k q
    · have := hB.size; omega, Keep.fresh hB d.keep hf⟩
theorem Own.below {w0 w w' : World} {b : Nat} {D : Dev} (o : Own w0 w b D) (hB : Below w.heap.size w w') : Own w0 w' b D := by
  obtain ⟨h, h1, h2, h3, h4⟩ := o
  exact ⟨h, h1, h2.below hB, h3, below_new h4 hB⟩
theorem Own.drew {w0 w : World} {b : Nat} {D : Dev} (o : Own w0 w b D) : Own w0 w.drew b D := by
  obtain ⟨h, h1, h2, h3, h4⟩ := o
  exact ⟨h, h1, h2.drew, h3, h4.drew⟩
theorem Own.all {w0 w : World} {b : Nat} {D : Dev} (o : Own w0 w b D) : Below w0.heap.size w0 w := by
  obtain ⟨h, h1, h2, h3, h4⟩ := o
  exact h4

theorem own_new (n : Int) (w : World) : Calls Try.prog 10 #[.int .i64 n] w fun e w' => ∃ b, e = .returned (.pointer (some ⟨b, 0, none⟩)) ∧ Own w w' b (Dev.new n) :=
  (new_any n w).mono fun _ _ ⟨h, he, h1, h2, h3⟩ => ⟨h.b, he, h, rfl, h1, fun k hk => h2 k hk.blk, h3⟩

section
variable {w0 w : World} {b : Nat} {D : Dev} {N : Nat}
theorem own_write (o : Own w0 w b D) (ok : D.ok N) (hN : N < 1000000000) (n : Int) (hn : -9223372036854775808 ≤ n ∧ n ≤ 9223372036854775807) (s : ByteArray) :
    Calls Try.prog 28 #[.pointer (some ⟨b, 0, none⟩), .int .i64 n, .string s] w fun e w' => e = .returned (.int .i64 (D.write n s).1) ∧ Own w0 w' b (D.write n s).2 := by
  obtain ⟨h, rfl, a, hf, hB⟩ := o
  exact (write_any a ok hN n hn s).mono fun e w' ⟨he, _, h', d⟩ => ⟨he, Own.step hf hB d⟩
theorem own_read (o : Own w0 w b D) (ok : D.ok N) (hN : N < 1000000000) (n : Int) (hn : -9223372036854775808 ≤ n ∧ n ≤ 9223372036854775807) :
    Calls Try.prog 12 #[.pointer (some ⟨b, 0, none⟩), .int .i64 n] w fun e w' => e = .returned (.tuple #[.string (D.read n).1, .int .i64 (D.read n).2.1]) ∧ Own w0 w' b (D.read n).2.2 := by
  obtain ⟨h, rfl, a, hf, hB⟩ := o
  exact (read_any a ok hN n hn).mono fun e w' ⟨he, d⟩ => ⟨he, Own.step hf hB d⟩
theorem own_sync (o : Own w0 w b D) (ok : D.ok N) (hN : N < 1000000000) :
    Calls Try.prog 14 #[.pointer (some ⟨b, 0, none⟩)] w fun e w' => e = .returned (.int .i64 D.sync.1) ∧ Own w0 w' b D.sync.2 := by
  obtain ⟨h, rfl, a, hf, hB⟩ := o
  exact (sync_any a ok hN).mono fun e w' ⟨he, h', d⟩ => ⟨he, Own.step hf hB d⟩
theorem own_on (o : Own w0 w b D) : Calls Try.prog 31 #[.pointer (some ⟨b, 0, none⟩)] w fun e w' => e = .returned (.bool (!D.off)) ∧ w' = w := by
  obtain ⟨h, rfl, a, hf, hB⟩ := o
  exact on_any a
theorem own_pages (o : Own w0 w b D) : Calls Try.prog 32 #[.pointer (some ⟨b, 0, none⟩)] w fun e w' => e = .returned (.int .i64 D.size) ∧ w' = w := by
  obtain ⟨h, rfl, a, hf, hB⟩ := o
  exact pages_any a
theorem own_ops (o : Own w0 w b D) : Calls Try.prog 35 #[.pointer (some ⟨b, 0, none⟩)] w fun e w' => e = .returned (.int .i64 D.ops) ∧ w' = w := by
  obtain ⟨h, rfl, a, hf, hB⟩ := o
  exact ops_any a
theorem own_limit (o : Own w0 w b D) (n : Int) : Calls Try.prog 24 #[.pointer (some ⟨b, 0, none⟩), .int .i64 n] w fun e w' => e = .returned (.tuple #[]) ∧ Own w0 w' b { D with size := keptP n } := by
  obtain ⟨h, rfl, a, hf, hB⟩ := o
  exact (limit_any a n).mono fun e w' ⟨he, d⟩ => ⟨he, Own.step hf hB d⟩
theorem own_arm (o : Own w0 w b D) (n : Int) : Calls Try.prog 18 #[.pointer (some ⟨b, 0, none⟩), .int .i64 n] w fun e w' => e = .returned (.tuple #[]) ∧ Own w0 w' b { D with armed := true, left := max n 0 } := by
  obtain ⟨h, rfl, a, hf, hB⟩ := o
  exact (arm_any a n).mono fun e w' ⟨he, d⟩ => ⟨he, Own.step hf hB d⟩
theorem own_clear (o : Own w0 w b D) : Calls Try.prog 22 #[.pointer (some ⟨b, 0, none⟩)] w fun e w' => e = .returned (.tuple #[]) ∧ Own w0 w' b { D with armed := false, left := 0, fails := fun _ => none, count := 0 } := by
  obtain ⟨h, rfl, a, hf, hB⟩ := o
  exact (clear_any a).mono fun e w' ⟨he, h', _, _, d⟩ => ⟨he, Own.step hf hB d⟩

theorem ints_kept {v : Value} {l : List Int} {h : Hd} (hl : IntsAt w v l) (hb : ∀ k, v.ownBlock = some k → k < w.heap.size ∧ ¬ Foot h k) : ∀ W, Keep (Foot h) w W → IntsAt W v l := fun _ hW =>
  hl.block fun k hk => hW.block k (hb k hk).1 (hb k hk).2
theorem ints_lt {v : Value} {l : List Int} (hl : IntsAt w v l) (h0 : l ≠ []) : ∀ k, v.ownBlock = some k → k < w.heap.size := by
  rintro k hk
  rcases hl with ⟨rfl, _⟩ | ⟨b, o, c, rfl, h2⟩
  · exact absurd rfl h0
  · simp [Value.ownBlock] at hk
    subst hk
    exact World.block_lt_of_cell? w _ (h2 0 (List.length_pos_iff.2 h0))
theorem ints_arg {v : Value} {l : List Int} {h : Hd} (hl : IntsAt w0 v l) (hf : ∀ k, Foot h k → w0.heap.size ≤ k) (hB : Below w0.heap.size w0 w) : ∀ W, Keep (Foot h) w W → IntsAt W v l := fun W hW => by
  by_cases h0 : l = []
  · rcases hl with q | ⟨b, o, c, rfl, h2⟩
    · exact .inl q
    · exact .inl ⟨h0, _, _, by rw [h0]; rfl⟩
  · refine hl.block fun k hk => ?_
    have hk0 := ints_lt hl h0 k hk
    exact (hW.block k (by have := hB.size; omega) (fun q => by have := hf k q; omega)).trans (hB.block k hk0)
/-- With a slice that was there ahead. -/
theorem own_crash (o : Own w0 w b D) (ok : D.ok N) (hN : N < 1000000000) {p : Option Addr} {n c : Nat} {l : List Int} (hl : IntsAt w0 (.slice p n c) l) (hnl : n = l.length) (hnc : n ≤ c) (hlm : l.length ≤ 9223372036854775807) :
    Calls Try.prog 16 #[.pointer (some ⟨b, 0, none⟩), .slice p n c] w fun e w' => e = .returned (.tuple #[]) ∧ Own w0 w' b (D.crash l) := by
  obtain ⟨h, rfl, a, hf, hB⟩ := o
  exact (crash_any a ok hN (ints_arg hl hf hB) hnl hnc hlm).mono fun e w' ⟨he, _, h', _, _, d⟩ => ⟨he, Own.step hf hB d⟩
theorem own_fail (o : Own w0 w b D) {v : Value} {l : List Int} (hl : IntsAt w0 v l) (hlm : l.length ≤ 9223372036854775807) (hin : ∀ x ∈ l, -9223372036854775808 ≤ x ∧ x ≤ 9223372036854775807) :
    Calls Try.prog 20 #[.pointer (some ⟨b, 0, none⟩), v] w fun e w' => e = .returned (.tuple #[]) ∧ Own w0 w' b { D with fails := failsOf l, count := 0 } := by
  obtain ⟨h, rfl, a, hf, hB⟩ := o
  exact (fail_any a (ints_arg hl hf hB) hlm hin).mono fun e w' ⟨he, h', _, d⟩ => ⟨he, Own.step hf hB d⟩
/-- With a slice that was made behind the device. -/
theorem own_crash_new (o : Own w0 w b D) (ok : D.ok N) (hN : N < 1000000000) (cs : Array Value) (t : TypeId) {l : List Int} (hcs : cs = (l.map fun x => Value.int .i64 x).toArray) (hlm : l.length ≤ 9223372036854775807) :
    Calls Try.prog 16 #[.pointer (some ⟨b, 0, none⟩), .slice (some ⟨w.heap.size, 0, none⟩) l.length l.length] (w.alloc (.cells cs t)) fun e w' => e = .returned (.tuple #[]) ∧ Own w0 w' b (D.crash l) := by
  obtain ⟨h, rfl, a, hf, hB⟩ := o
  have hB1 := below_new1 w (.cells cs t)
  have hI : IntsAt (w.alloc (.cells cs t)) (.slice (some ⟨w.heap.size, 0, none⟩) l.length l.length) l := .inr ⟨_, 0, _, rfl, fun i hi => by
    rw [(Holds.new w t cs).cell, hcs]
    simp [hi]⟩
  refine (crash_any (a.below hB1) ok hN (ints_kept hI ?_) rfl (Nat.le_refl _) hlm).mono fun e w' ⟨he, _, h', _, _, d⟩ => ⟨he, Own.step hf (below_new hB hB1) d⟩
  intro k hk
  simp [Value.ownBlock] at hk
  subst hk
  exact ⟨by simp, fun q => by have := a.lt _ q.blk; omega⟩
theorem own_fail_new (o : Own w0 w b D) (cs : Array Value) (t : TypeId) {l : List Int} (hcs : cs = (l.map fun x => Value.int .i64 x).toArray) (hlm : l.length ≤ 9223372036854775807) (hin : ∀ x ∈ l, -9223372036854775808 ≤ x ∧ x ≤ 9223372036854775807) :
    Calls Try.prog 20 #[.pointer (some ⟨b, 0, none⟩), .slice (some ⟨w.heap.size, 0, none⟩) l.length l.length] (w.alloc (.cells cs t)) fun e w' => e = .returned (.tuple #[]) ∧ Own w0 w' b { D with fails := failsOf l, count := 0 } := by
  obtain ⟨h, rfl, a, hf, hB⟩ := o
  have hB1 := below_new1 w (.cells cs t)
  have hI : IntsAt (w.alloc (.cells cs t)) (.slice (some ⟨w.heap.size, 0, none⟩) l.length l.length) l := .inr ⟨_, 0, _, rfl, fun i hi => by
    rw [(Holds.new w t cs).cell, hcs]
    simp [hi]⟩
  refine (fail_any (a.below hB1) (ints_kept hI ?_) hlm hin).mono fun e w' ⟨he, h', _, d⟩ => ⟨he, Own.step hf (below_new hB hB1) d⟩
  intro k hk
  simp [Value.ownBlock] at hk
  subst hk
  exact ⟨by simp, fun q => by have := a.lt _ q.blk; omega⟩
end

/-! No device. -/
theorem begin_nil (r : Bool) (w : World) : Calls Try.prog 37 #[.pointer none, .bool r] w fun e w' => e = .returned (.int .i64 15) ∧ w' = w := by
  have hon := on_nil w
  go_enter Try.func37, Try.ntmps37
  go_wp2_with (go_at_call 31; refine hon.mono ?_; rintro e w1 ⟨rfl, rfl⟩)
  go_ret
  exact ⟨rfl, rfl⟩
theorem read_nil (n : Int) (w : World) : Calls Try.prog 12 #[.pointer none, .int .i64 n] w fun e w' => e = .returned (.tuple #[.string ⟨#[]⟩, .int .i64 15]) ∧ w' = w := by
  have hh := has_nil n w
  have hb := fun r => begin_nil r w
  go_enter Try.func12, Try.ntmps12
  go_wp2_with (first
    | (go_at_call 38; refine hh.mono ?_; rintro e w1 ⟨rfl, rfl⟩)
    | (go_at_call 37; refine (hb _).mono ?_; rintro e w1 ⟨rfl, rfl⟩))
  go_ret2
  exact ⟨rfl, rfl⟩
theorem write_nil (n : Int) (s : ByteArray) (w : World) : Calls Try.prog 28 #[.pointer none, .int .i64 n, .string s] w fun e w' => e = .returned (.int .i64 15) ∧ w' = w := by
  have hf : (decide (0 ≤ n) && decide (n < 0)) = false := by
    by_cases h : 0 ≤ n
    · rw [decide_eq_false (show ¬ n < 0 by omega), Bool.and_false]
    · rw [decide_eq_false h]; rfl
  have hh := has_nil n w
  rw [hf] at hh
  have hb := fun r => begin_nil r w
  go_enter Try.func28, Try.ntmps28
  go_wp2_with (first
    | (go_at_call 38; refine hh.mono ?_; rintro e w1 ⟨rfl, rfl⟩)
    | (go_at_call 37; refine (hb _).mono ?_; rintro e w1 ⟨rfl, rfl⟩))
  go_ret
  exact ⟨rfl, rfl⟩
theorem sync_nil (w : World) : Calls Try.prog 14 #[.pointer none] w fun e w' => e = .returned (.int .i64 15) ∧ w' = w := by
  have hb := fun r => begin_nil r w
  go_enter Try.func14, Try.ntmps14
  go_wp2_with (first
    | (go_at_call 37; refine (hb _).mono ?_; rintro e w1 ⟨rfl, rfl⟩))
  go_ret
  exact ⟨rfl, rfl⟩
theorem used_nil (w : World) : Calls Try.prog 33 #[.pointer none] w fun e w' => e = .returned (.int .i64 0) ∧ w' = w := by
  have hq := ptr_neq
  go_enter Try.func33, Try.ntmps33
  go_wp2_with fail
  go_ret
  exact ⟨rfl, rfl⟩
theorem copy_nil (w : World) : Calls Try.prog 26 #[.pointer none] w fun e w' => e = .returned (.pointer none) ∧ w' = w := by
  have hq := ptr_eql
  go_enter Try.func26, Try.ntmps26
  go_wp2_with fail
  go_ret
  exact ⟨rfl, rfl⟩
end Go.Proofs.Ytonmjkalkkfhhaa
