/-
  The program's device and the document's side by side, both newer than the law's own start: what each call makes of the two.
-/
import Derived.Test.YtonmjkalkkfhhaaDSync2
namespace Go.Proofs.Ytonmjkalkkfhhaa
open Go Go.RowKit Go.Maps

theorem IntsAt.older {w w' : World} {v : Value} {l : List Int} (h : IntsAt w v l) (hb : Below w.heap.size w w') : IntsAt w' v l := by
  rcases h with h | ⟨b, o, c, h1, h2⟩
  · exact .inl h
  · exact .inr ⟨b, o, c, h1, fun i hi => (hb.cell (p := ⟨b, o + i, none⟩) (World.block_lt_of_cell? w _ (h2 i hi))).trans (h2 i hi)⟩
/-- The two devices, and nothing older has turned. -/
def Duo (w0 w : World) (b rb : Nat) (D : Dev) (R : RDev) : Prop :=
  ∃ (h : Hd) (vl vp vf : Value), h.b = b ∧ DiskAt w h D ∧ RAt w w0.heap.size rb vl vp vf R ∧ (∀ k, Foot h k → w0.heap.size ≤ k) ∧ Below w0.heap.size w0 w
/-- What a call of either device leaves: the law's own copies of its script's calls. -/
def KeepOp (w w' : World) : Prop := ∀ g cs, Holds w g 30 cs → Holds w' g 30 cs
section
variable {w0 w w' : World} {b rb : Nat} {D : Dev} {R : RDev} {N : Nat}
theorem Duo.all (d : Duo w0 w b rb D R) : Below w0.heap.size w0 w := by
  obtain ⟨_, _, _, _, _, _, _, _, h⟩ := d
  exact h
theorem Duo.next (d : Duo w0 w b rb D R) (hB : Below w.heap.size w w') : Duo w0 w' b rb D R := by
  obtain ⟨h, vl, vp, vf, h1, h2, h3, h4, h5⟩ := d
  exact ⟨h, vl, vp, vf, h1, h2.below hB, h3.below hB, h4, below_new h5 hB⟩
theorem Duo.stepD {h h' : Hd} {vl vp vf : Value} {D' : Dev} (a : DiskAt w h D) (r : RAt w w0.heap.size rb vl vp vf R) (hf : ∀ k, Foot h k → w0.heap.size ≤ k) (hB : Below w0.heap.size w0 w) (d : Done w h w' h' D') : Duo w0 w' h.b rb D' R ∧ KeepOp w w' :=
  ⟨⟨h', vl, vp, vf, d.newer.1, d.at_, r.side a d, fun k hk => by
    rcases d.newer.2 k hk with q | q
    · exact hf k q
    · have := hB.size; omega, Keep.fresh hB d.keep hf⟩, fun g cs q => d.keep.holds q fun f => by rcases a.obj f.blk _ _ _ q with e | e <;> exact absurd e (by decide)⟩
theorem rkeep_below (hB : Below w0.heap.size w0 w) (k : RKeep w0.heap.size w w') : Below w0.heap.size w0 w' :=
  ⟨k.os.trans hB.os, k.tape.trans hB.tape, k.output.trans hB.output, Nat.le_trans hB.size k.size, fun i hi => (k.block i (by have := hB.size; omega) (.inl hi)).trans (hB.block i hi)⟩
theorem Duo.stepR {h : Hd} {vl vp vf : Value} {rb' : Nat} {R' : RDev} (a : DiskAt w h D) (hf : ∀ k, Foot h k → w0.heap.size ≤ k) (hB : Below w0.heap.size w0 w) (k : RKeep w0.heap.size w w') (r : RAt w' w0.heap.size rb' vl vp vf R') : Duo w0 w' h.b rb' D R' ∧ KeepOp w w' :=
  ⟨⟨h, vl, vp, vf, rfl, a.side k, r, hf, rkeep_below hB k⟩, fun g cs q => by
    have e := k.block g q.lt (.inr fun cur t f e => by
      unfold Holds at q
      rw [q] at e
      injection e with e
      injection e with _ e
      exact .inr (.inr e.symm))
    unfold Holds at *
    rw [e]; exact q⟩
theorem Duo.cells (d : Duo w0 w b rb D R) : ∃ vl vp vf, Holds w rb 45 (rcells vl vp vf R) := by
  obtain ⟨h, vl, vp, vf, h1, h2, h3, h4, h5⟩ := d
  exact ⟨vl, vp, vf, h3.cells⟩
theorem Duo.ints {v : Value} {l : List Int} (d : Duo w0 w b rb D R) (hl : IntsAt w0 v l) : IntsAt w v l := IntsAt.older hl d.all
theorem duo_read (d : Duo w0 w b rb D R) (ok : D.ok N) (hN : N < 1000000000) (n : Int) (hn : -9223372036854775808 ≤ n ∧ n ≤ 9223372036854775807) :
    Calls Try.prog 12 #[.pointer (some ⟨b, 0, none⟩), .int .i64 n] w fun e w' => e = .returned (.tuple #[.string (D.read n).1, .int .i64 (D.read n).2.1]) ∧ Duo w0 w' b rb (D.read n).2.2 R ∧ KeepOp w w' := by
  obtain ⟨h, vl, vp, vf, rfl, a, r, hf, hB⟩ := d
  exact (read_any a ok hN n hn).mono fun e w' ⟨h1, h2⟩ => ⟨h1, Duo.stepD a r hf hB h2⟩
theorem duo_rread (d : Duo w0 w b rb D R) (ok : R.ok N) (hN : N < 1000000000) (n : Int) :
    Calls Try.prog 13 #[.pointer (some ⟨rb, 0, none⟩), .int .i64 n] w fun e w' => e = .returned (.tuple #[.string (R.read n).1, .int .i64 (R.read n).2.1]) ∧ Duo w0 w' b rb D (R.read n).2.2 ∧ KeepOp w w' := by
  obtain ⟨h, vl, vp, vf, rfl, a, r, hf, hB⟩ := d
  exact (rread_any r ok hN n).mono fun e w' ⟨h1, h2, h3⟩ => ⟨h1, Duo.stepR a hf hB (r.only h3) h2⟩
theorem duo_write (d : Duo w0 w b rb D R) (ok : D.ok N) (hN : N < 1000000000) (n : Int) (hn : -9223372036854775808 ≤ n ∧ n ≤ 9223372036854775807) (s : ByteArray) :
    Calls Try.prog 28 #[.pointer (some ⟨b, 0, none⟩), .int .i64 n, .string s] w fun e w' => e = .returned (.int .i64 (D.write n s).1) ∧ Duo w0 w' b rb (D.write n s).2 R ∧ KeepOp w w' := by
  obtain ⟨h, vl, vp, vf, rfl, a, r, hf, hB⟩ := d
  exact (write_any a ok hN n hn s).mono fun e w' ⟨h1, _, h', h2⟩ => ⟨h1, Duo.stepD a r hf hB h2⟩
theorem duo_rwrite (d : Duo w0 w b rb D R) (ok : R.ok N) (hN : N < 1000000000) (n : Int) (s : ByteArray) :
    Calls Try.prog 30 #[.pointer (some ⟨rb, 0, none⟩), .int .i64 n, .string s] w fun e w' => e = .returned (.int .i64 (R.write n s).1) ∧ Duo w0 w' b rb D (R.write n s).2 ∧ KeepOp w w' := by
  obtain ⟨h, vl, vp, vf, rfl, a, r, hf, hB⟩ := d
  exact (rwrite_any r ok hN n s).mono fun e w' ⟨h1, ⟨vp', h2⟩, h3⟩ => ⟨h1, Duo.stepR a hf hB (r.keep h3) h2⟩
theorem duo_sync (d : Duo w0 w b rb D R) (ok : D.ok N) (hN : N < 1000000000) :
    Calls Try.prog 14 #[.pointer (some ⟨b, 0, none⟩)] w fun e w' => e = .returned (.int .i64 D.sync.1) ∧ Duo w0 w' b rb D.sync.2 R ∧ KeepOp w w' := by
  obtain ⟨h, vl, vp, vf, rfl, a, r, hf, hB⟩ := d
  exact (sync_any a ok hN).mono fun e w' ⟨h1, h', h2⟩ => ⟨h1, Duo.stepD a r hf hB h2⟩
theorem duo_rsync (d : Duo w0 w b rb D R) (ok : R.ok N) (hN : N < 1000000000) :
    Calls Try.prog 15 #[.pointer (some ⟨rb, 0, none⟩)] w fun e w' => e = .returned (.int .i64 R.sync.1) ∧ Duo w0 w' b rb D R.sync.2 ∧ KeepOp w w' := by
  obtain ⟨h, vl, vp, vf, rfl, a, r, hf, hB⟩ := d
  exact (rsync_any r ok hN).mono fun e w' ⟨h1, h2, vl', vp', h3⟩ => ⟨h1, Duo.stepR a hf hB h2 h3⟩
theorem duo_crash (d : Duo w0 w b rb D R) (ok : D.ok N) (hN : N < 1000000000) {p : Option Addr} {n c : Nat} {l : List Int} (hl : IntsAt w0 (.slice p n c) l) (hnl : n = l.length) (hnc : n ≤ c) (hlm : l.length ≤ 9223372036854775807) :
    Calls Try.prog 16 #[.pointer (some ⟨b, 0, none⟩), .slice p n c] w fun e w' => e = .returned (.tuple #[]) ∧ Duo w0 w' b rb (D.crash l) R ∧ KeepOp w w' := by
  obtain ⟨h, vl, vp, vf, rfl, a, r, hf, hB⟩ := d
  exact (crash_any a ok hN (ints_arg hl hf hB) hnl hnc hlm).mono fun e w' ⟨h1, _, h', _, _, h2⟩ => ⟨h1, Duo.stepD a r hf hB h2⟩
theorem duo_rcrash (d : Duo w0 w b rb D R) (ok : R.ok N) (hN : N < 1000000000) {v : Value} {l : List Int} (hl : IntsAt w0 v l) (hlm : l.length ≤ 17592186044416) (hfu : ∀ u, 0 ≤ u → (lst R.lasts u).size = 0 ∨ (lst R.lasts u).size = 1024) :
    Calls Try.prog 17 #[.pointer (some ⟨rb, 0, none⟩), v] w fun e w' => e = .returned (.tuple #[]) ∧ Duo w0 w' b rb D (R.crash l) ∧ KeepOp w w' := by
  obtain ⟨h, vl, vp, vf, rfl, a, r, hf, hB⟩ := d
  exact (rcrash_any r ok hN (fun W hW => IntsAt.older hl (rkeep_below hB hW)) hlm hfu).mono fun e w' ⟨h1, h2, vl', vp', vf', h3⟩ => ⟨h1, Duo.stepR a hf hB h2 h3⟩
theorem duo_arm (d : Duo w0 w b rb D R) (n : Int) : Calls Try.prog 18 #[.pointer (some ⟨b, 0, none⟩), .int .i64 n] w fun e w' => e = .returned (.tuple #[]) ∧ Duo w0 w' b rb { D with armed := true, left := max n 0 } R ∧ KeepOp w w' := by
  obtain ⟨h, vl, vp, vf, rfl, a, r, hf, hB⟩ := d
  exact (arm_any a n).mono fun e w' ⟨h1, h2⟩ => ⟨h1, Duo.stepD a r hf hB h2⟩
theorem duo_rarm (d : Duo w0 w b rb D R) (n : Int) : Calls Try.prog 19 #[.pointer (some ⟨rb, 0, none⟩), .int .i64 n] w fun e w' => e = .returned (.tuple #[]) ∧ Duo w0 w' b rb D { R with armed := true, left := max n 0 } ∧ KeepOp w w' := by
  obtain ⟨h, vl, vp, vf, rfl, a, r, hf, hB⟩ := d
  exact (rarm_any r n).mono fun e w' ⟨h1, h2, h3⟩ => ⟨h1, Duo.stepR a hf hB (r.only h3) h2⟩
theorem duo_limit (d : Duo w0 w b rb D R) (n : Int) : Calls Try.prog 24 #[.pointer (some ⟨b, 0, none⟩), .int .i64 n] w fun e w' => e = .returned (.tuple #[]) ∧ Duo w0 w' b rb { D with size := keptP n } R ∧ KeepOp w w' := by
  obtain ⟨h, vl, vp, vf, rfl, a, r, hf, hB⟩ := d
  exact (limit_any a n).mono fun e w' ⟨h1, h2⟩ => ⟨h1, Duo.stepD a r hf hB h2⟩
theorem duo_rlimit (d : Duo w0 w b rb D R) (n : Int) : Calls Try.prog 25 #[.pointer (some ⟨rb, 0, none⟩), .int .i64 n] w fun e w' => e = .returned (.tuple #[]) ∧ Duo w0 w' b rb D { R with most := keptP n } ∧ KeepOp w w' := by
  obtain ⟨h, vl, vp, vf, rfl, a, r, hf, hB⟩ := d
  exact (rlimit_any r n).mono fun e w' ⟨h1, h2, h3⟩ => ⟨h1, Duo.stepR a hf hB (r.only h3) h2⟩
theorem duo_clear (d : Duo w0 w b rb D R) : Calls Try.prog 22 #[.pointer (some ⟨b, 0, none⟩)] w fun e w' => e = .returned (.tuple #[]) ∧ Duo w0 w' b rb { D with armed := false, left := 0, fails := fun _ => none, count := 0 } R ∧ KeepOp w w' := by
  obtain ⟨h, vl, vp, vf, rfl, a, r, hf, hB⟩ := d
  exact (clear_any a).mono fun e w' ⟨h1, h', _, _, h2⟩ => ⟨h1, Duo.stepD a r hf hB h2⟩
theorem duo_rclear (d : Duo w0 w b rb D R) : Calls Try.prog 23 #[.pointer (some ⟨rb, 0, none⟩)] w fun e w' => e = .returned (.tuple #[]) ∧ Duo w0 w' b rb D { R with armed := false, left := 0, fails := [] } ∧ KeepOp w w' := by
  obtain ⟨h, vl, vp, vf, rfl, a, r, hf, hB⟩ := d
  exact (rclear_any r).mono fun e w' ⟨h1, h2, h3⟩ => ⟨h1, Duo.stepR a hf hB (r.only h3) h2⟩
theorem duo_fail (d : Duo w0 w b rb D R) {v : Value} {l : List Int} (hl : IntsAt w0 v l) (hlm : l.length ≤ 9223372036854775807) (hin : ∀ x ∈ l, -9223372036854775808 ≤ x ∧ x ≤ 9223372036854775807) :
    Calls Try.prog 20 #[.pointer (some ⟨b, 0, none⟩), v] w fun e w' => e = .returned (.tuple #[]) ∧ Duo w0 w' b rb { D with fails := failsOf l, count := 0 } R ∧ KeepOp w w' := by
  obtain ⟨h, vl, vp, vf, rfl, a, r, hf, hB⟩ := d
  exact (fail_any a (ints_arg hl hf hB) hlm hin).mono fun e w' ⟨h1, h', _, h2⟩ => ⟨h1, Duo.stepD a r hf hB h2⟩
theorem duo_rfail (d : Duo w0 w b rb D R) {v : Value} {l : List Int} (hl : IntsAt w0 v l) (hlm : l.length ≤ 17592186044416) :
    Calls Try.prog 21 #[.pointer (some ⟨rb, 0, none⟩), v] w fun e w' => e = .returned (.tuple #[]) ∧ Duo w0 w' b rb D { R with fails := l, since := 0 } ∧ KeepOp w w' := by
  obtain ⟨h, vl, vp, vf, rfl, a, r, hf, hB⟩ := d
  exact (rfail_any r (fun W hW => IntsAt.older hl (rkeep_below hB (r.only hW))) hlm).mono fun e w' ⟨h1, h2, vf', h3⟩ => ⟨h1, Duo.stepR a hf hB (r.only h2) h3⟩
theorem duo_on (d : Duo w0 w b rb D R) : Calls Try.prog 31 #[.pointer (some ⟨b, 0, none⟩)] w fun e w' => e = .returned (.bool (!D.off)) ∧ w' = w := by
  obtain ⟨h, vl, vp, vf, rfl, a, r, hf, hB⟩ := d
  exact on_any a
theorem duo_pages (d : Duo w0 w b rb D R) : Calls Try.prog 32 #[.pointer (some ⟨b, 0, none⟩)] w fun e w' => e = .returned (.int .i64 D.size) ∧ w' = w := by
  obtain ⟨h, vl, vp, vf, rfl, a, r, hf, hB⟩ := d
  exact pages_any a
theorem duo_ops (d : Duo w0 w b rb D R) : Calls Try.prog 35 #[.pointer (some ⟨b, 0, none⟩)] w fun e w' => e = .returned (.int .i64 D.ops) ∧ w' = w := by
  obtain ⟨h, vl, vp, vf, rfl, a, r, hf, hB⟩ := d
  exact ops_any a
theorem duo_used (d : Duo w0 w b rb D R) (ok : D.ok N) : Calls Try.prog 33 #[.pointer (some ⟨b, 0, none⟩)] w fun e w' => ∃ n, e = .returned (.int .i64 n) ∧ UsedIs D.pages n ∧ Below w.heap.size w w' := by
  obtain ⟨h, vl, vp, vf, rfl, a, r, hf, hB⟩ := d
  exact used_any a ok.keys
theorem duo_rused (d : Duo w0 w b rb D R) (ok : R.ok N) (hN : N < 1000000000) (s : Sim D R) : Calls Try.prog 34 #[.pointer (some ⟨rb, 0, none⟩)] w fun e w' => ∃ n, e = .returned (.int .i64 n) ∧ UsedIs D.pages n ∧ w' = w := by
  obtain ⟨h, vl, vp, vf, rfl, a, r, hf, hB⟩ := d
  exact (rused_any r ok hN).mono fun e w' ⟨n, h1, h2, h3⟩ => ⟨n, h1, h2.is s, h3⟩
theorem duo_new (hB : Below w0.heap.size w0 w) (n : Int) : Calls Try.prog 10 #[.int .i64 n] w fun e w1 => ∃ h : Hd, e = .returned (.pointer (some ⟨h.b, 0, none⟩)) ∧ DiskAt w1 h (Dev.new n) ∧ (∀ k, Foot h k → w0.heap.size ≤ k) ∧ Below w0.heap.size w0 w1 :=
  (new_any n w).mono fun e w1 ⟨h, h1, h2, h3, h4⟩ => ⟨h, h1, h2, fun k hk => by have := h3 k hk.blk; have := hB.size; omega, below_new hB h4⟩
theorem duo_rnew {h : Hd} (a : DiskAt w h D) (hf : ∀ k, Foot h k → w0.heap.size ≤ k) (hB : Below w0.heap.size w0 w) (n : Int) : Calls Try.prog 11 #[.int .i64 n] w fun e w1 => ∃ rb, e = .returned (.pointer (some ⟨rb, 0, none⟩)) ∧ Duo w0 w1 h.b rb D (RDev.new n) :=
  (rnew_any n w w0.heap.size hB.size).mono fun _ _ ⟨h1, h2, h3⟩ => ⟨_, h1, (Duo.stepR a hf hB (RKeep.below h3) h2).1⟩
/-- A copy has been made: the old device, and the new one beside it. -/
def Trio (w0 w : World) (b c rb : Nat) (D : Dev) (R : RDev) : Prop :=
  ∃ (h g : Hd) (vl vp vf : Value), h.b = b ∧ g.b = c ∧ DiskAt w h D ∧ DiskAt w g D ∧ g.fo = h.fo ∧ g.wv = full h.wv ∧ (∀ k, Foot h k → ¬ (k = g.b ∨ g.po = some k)) ∧ RAt w w0.heap.size rb vl vp vf R ∧ (∀ k, Foot h k → w0.heap.size ≤ k) ∧ (∀ k, Foot g k → w0.heap.size ≤ k) ∧ Below w0.heap.size w0 w
theorem Trio.next {c : Nat} (d : Trio w0 w b c rb D R) (hB : Below w.heap.size w w') : Trio w0 w' b c rb D R := by
  obtain ⟨h, g, vl, vp, vf, h1, h2, h3, h4, h5, h6, h7, h8, h9, h10, h11⟩ := d
  exact ⟨h, g, vl, vp, vf, h1, h2, h3.below hB, h4.below hB, h5, h6, h7, h8.below hB, h9, h10, below_new h11 hB⟩
theorem duo_copy (d : Duo w0 w b rb D R) (ok : D.ok N) (hN : N < 1000000000) : Calls Try.prog 26 #[.pointer (some ⟨b, 0, none⟩)] w fun e w' => ∃ c, e = .returned (.pointer (some ⟨c, 0, none⟩)) ∧ Trio w0 w' b c rb D R := by
  obtain ⟨h, vl, vp, vf, rfl, a, r, hf, hB⟩ := d
  refine (copy_any a (by have := ok.many; omega)).mono ?_
  rintro e w' ⟨g, h1, h2, h3, h4, h5, h6⟩
  refine ⟨g.b, h1, h, g, vl, vp, vf, rfl, rfl, a.below h6, h2, h4, h5, fun k hk q => ?_, r.below h6, hf, fun k hk => ?_, below_new hB h6⟩
  · have i1 := a.lt k hk.blk
    have i2 : w.heap.size ≤ k := by
      rcases q with q | q
      · exact h3 k (.inl q)
      · exact h3 k (.inr (.inl q))
    omega
  · have := h3 k hk; have := hB.size; omega
theorem trio_rcopy {c : Nat} (d : Trio w0 w b c rb D R) (ok : R.ok N) (hN : N < 1000000000) (hfl : R.fails.length ≤ 17592186044416) : Calls Try.prog 27 #[.pointer (some ⟨rb, 0, none⟩)] w fun e w' => ∃ rc, e = .returned (.pointer (some ⟨rc, 0, none⟩)) ∧ Trio w0 w' b c rc D R := by
  obtain ⟨h, g, vl, vp, vf, h1, h2, h3, h4, h5, h6, h7, h8, h9, h10, h11⟩ := d
  exact (rcopy_any h8 ok hN hfl).mono fun e w' ⟨rc, vl', vp', vf', q1, q2, q3⟩ => ⟨rc, q1, h, g, vl', vp', vf', h1, h2, h3.below q3, h4.below q3, h5, h6, h7, q2, h9, h10, below_new h11 q3⟩
/-- The old one has been written to: it shares a row with the new one. -/
def Quad (w0 w : World) (b c rb : Nat) (D' D : Dev) (R : RDev) : Prop :=
  ∃ (h g : Hd) (v vl vp vf : Value), h.b = b ∧ g.b = c ∧ DiskAt w h D' ∧ DiskAt w g D ∧ g.wv = full v ∧ WRow w v D.writes ∧ (∃ E, D'.writes = D.writes ++ E) ∧ (∀ k, Foot h k → ¬ (k = g.b ∨ g.po = some k ∨ g.fo = some k)) ∧ RAt w w0.heap.size rb vl vp vf R ∧ (∀ k, Foot h k → w0.heap.size ≤ k) ∧ (∀ k, Foot g k → w0.heap.size ≤ k) ∧ Below w0.heap.size w0 w
theorem write_more (D : Dev) (n : Int) (s : ByteArray) : ∃ E, (D.write n s).2.writes = D.writes ++ E := by
  unfold Dev.write
  split
  · exact ⟨_, rfl⟩
  · exact ⟨[], by rw [(begin_pages D _).2.1, List.append_nil]⟩
theorem trio_write {c : Nat} (d : Trio w0 w b c rb D R) (ok : D.ok N) (hN : N < 1000000000) (n : Int) (hn : -9223372036854775808 ≤ n ∧ n ≤ 9223372036854775807) (s : ByteArray) :
    Calls Try.prog 28 #[.pointer (some ⟨b, 0, none⟩), .int .i64 n, .string s] w fun e w' => e = .returned (.int .i64 (D.write n s).1) ∧ Quad w0 w' b c rb (D.write n s).2 D R := by
  obtain ⟨h, g, vl, vp, vf, rfl, rfl, a, ag, hfo, hwv, hdis, r, hf, hg, hB⟩ := d
  refine (write_any a ok hN n hn s).mono ?_
  rintro e w' ⟨h1, hrow, h', hd⟩
  refine ⟨h1, h', g, h.wv, vl, vp, vf, hd.newer.1, rfl, hd.at_, crash_other a ag hfo hwv hdis hd.keep hrow, hwv, hrow, write_more D n s, fun k hk q => ?_, r.side a hd, fun k hk => ?_, hg, Keep.fresh hB hd.keep hf⟩
  · have hlt : k < w.heap.size := by
      rcases q with q | q | q
      · exact ag.lt k (.inl q)
      · exact ag.lt k (.inr (.inl q))
      · exact ag.lt k (.inr (.inr (.inl q)))
    rcases hd.newer.2 k hk with hk | hk
    · rcases q with q | q | q
      · exact hdis k hk (.inl q)
      · exact hdis k hk (.inr q)
      · obtain ⟨n, hmf⟩ := ag.fails
        obtain ⟨es, clock, hob⟩ := hmf.obj k q
        rcases hk with i | i | ⟨_, _, i, _⟩
        · have := a.ptr
          unfold Holds at this
          rw [← i, hob] at this
          cases this
        · exact a.apart k (by rw [← hfo]; exact q) i
        · obtain ⟨cur, hq⟩ := a.writes.obj k (by rw [i]; rfl)
          rw [hob] at hq
          cases hq
    · omega
  · rcases hd.newer.2 k hk with hk | hk
    · exact hf k hk
    · have := hB.size; omega
theorem quad_sync {c : Nat} {D' : Dev} (d : Quad w0 w b c rb D' D R) (ok : D'.ok N) (hN : N < 1000000000) :
    Calls Try.prog 14 #[.pointer (some ⟨b, 0, none⟩)] w fun e w' => e = .returned (.int .i64 D'.sync.1) ∧ Duo w0 w' c rb D R := by
  obtain ⟨h, g, v, vl, vp, vf, rfl, rfl, a, ag, hwv, hrow, hmore, hdis, r, hf, hg, hB⟩ := d
  refine (sync_row a ok hN).mono ?_
  rintro e w' ⟨h1, hr2, h', hd⟩
  have hrow' := row_prefix hrow a hmore hd.keep hr2
  refine ⟨h1, g, vl, vp, vf, rfl, ⟨hd.keep.holds ag.ptr fun q => hdis _ q (.inl rfl), ag.pages.block fun m e => hd.keep.block m (ag.pages.lt m e) fun q => hdis _ q (.inr (.inl e)), by rw [hwv]; exact full_row hrow', ?_, ag.apart⟩, r.side a hd, hg, Keep.fresh hB hd.keep hf⟩
  obtain ⟨n, hmf⟩ := ag.fails
  exact ⟨n, hmf.block fun m e => hd.keep.block m (hmf.lt m e) fun q => hdis _ q (.inr (.inr e))⟩
end
end Go.Proofs.Ytonmjkalkkfhhaa
