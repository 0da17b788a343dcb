/-
  A device of a call's own, beside other memory.
-/
import Derived.Test.YtonmjkalkkfhhaaDAwake
namespace Go.Proofs.Ytonmjkalkkfhhaa
open Go Go.RowKit Go.Maps

/-- A device at block b, all of whose blocks are newer than the world w0 and none of G. -/
def OwnG (G : Nat → Prop) (w0 w : World) (b : Nat) (D : Dev) : Prop :=
  ∃ h : Hd, h.b = b ∧ DiskAt w h D ∧ (∀ k, Foot h k → w0.heap.size ≤ k ∧ ¬ G k) ∧ Below w0.heap.size w0 w ∧ ∀ k, G k → k < w.heap.size
/-- These blocks are as they were. -/
def Same (G : Nat → Prop) (w w' : World) : Prop := ∀ k, G k → w'.heap[k]? = w.heap[k]?
theorem Same.trans {G : Nat → Prop} {w w1 w2 : World} (h : Same G w w1) (k : Same G w1 w2) : Same G w w2 := fun i hi => (k i hi).trans (h i hi)
theorem Same.refl (G : Nat → Prop) (w : World) : Same G w w := fun _ _ => rfl

section
variable {G : Nat → Prop} {w0 w : World} {b : Nat} {D : Dev} {N : Nat}
theorem OwnG.step {w' : World} {h h' : Hd} {D' : Dev} (hf : ∀ k, Foot h k → w0.heap.size ≤ k ∧ ¬ G k) (hB : Below w0.heap.size w0 w) (hG : ∀ k, G k → k < w.heap.size) (d : Done w h w' h' D') : OwnG G w0 w' h.b D' ∧ Same G w w' :=
  ⟨⟨h', d.newer.1, d.at_, fun k hk => by
    rcases d.newer.2 k hk with q | q
    · exact hf k q
    · exact ⟨by have := hB.size; omega, fun g => by have := hG k g; omega⟩, Keep.fresh hB d.keep (fun k hk => (hf k hk).1), fun k g => by have := hG k g; have := d.keep.size; omega⟩,
   fun k g => d.keep.block k (hG k g) (fun q => (hf k q).2 g)⟩
theorem OwnG.below {w' : World} (o : OwnG G w0 w b D) (hB : Below w.heap.size w w') : OwnG G w0 w' b D ∧ Same G w w' := by
  obtain ⟨h, h1, h2, h3, h4, h5⟩ := o
  exact ⟨⟨h, h1, h2.below hB, h3, below_new h4 hB, fun k g => by have := h5 k g; have := hB.size; omega⟩, fun k g => hB.block k (h5 k g)⟩
theorem OwnG.all (o : OwnG G w0 w b D) : Below w0.heap.size w0 w := by
  obtain ⟨h, h1, h2, h3, h4, h5⟩ := o
  exact h4
theorem OwnG.lt (o : OwnG G w0 w b D) : ∀ k, G k → k < w.heap.size := by
  obtain ⟨h, h1, h2, h3, h4, h5⟩ := o
  exact h5
/-- More is kept: what is new since then. -/
theorem OwnG.more {G' : Nat → Prop} {w' : World} (o : OwnG G w0 w b D) (hB : Below w.heap.size w w') (hG : ∀ k, G' k → G k ∨ w.heap.size ≤ k) (hlt : ∀ k, G' k → k < w'.heap.size) : OwnG G' w0 w' b D := by
  obtain ⟨h, h1, h2, h3, h4, h5⟩ := o
  refine ⟨h, h1, h2.below hB, fun k hk => ⟨(h3 k hk).1, fun g => ?_⟩, below_new h4 hB, hlt⟩
  rcases hG k g with q | q
  · exact (h3 k hk).2 q
  · have := h2.lt k hk.blk
    omega
theorem Own.toG (o : Own w0 w b D) : OwnG (fun _ => False) w0 w b D := by
  obtain ⟨h, h1, h2, h3, h4⟩ := o
  exact ⟨h, h1, h2, fun k hk => ⟨h3 k hk, fun q => q⟩, h4, fun k q => q.elim⟩
theorem OwnG.own (o : OwnG G w0 w b D) : Own w0 w b D := by
  obtain ⟨h, h1, h2, h3, h4, _⟩ := o
  exact ⟨h, h1, h2, fun k hk => (h3 k hk).1, h4⟩

theorem ownG_write (o : OwnG G w0 w b D) (ok : D.ok N) (hN : N < 1000000000) (n : Int) (hn : -9223372036854775808 ≤ n ∧ n ≤ 9223372036854775807) (s : ByteArray) :
    Calls Try.prog 28 #[.pointer (some ⟨b, 0, none⟩), .int .i64 n, .string s] w fun e w' => e = .returned (.int .i64 (D.write n s).1) ∧ OwnG G w0 w' b (D.write n s).2 ∧ Same G w w' := by
  obtain ⟨h, rfl, a, hf, hB, hG⟩ := o
  exact (write_any a ok hN n hn s).mono fun e w' ⟨he, _, h', d⟩ => ⟨he, OwnG.step hf hB hG d⟩
theorem ownG_read (o : OwnG G w0 w b D) (ok : D.ok N) (hN : N < 1000000000) (n : Int) (hn : -9223372036854775808 ≤ n ∧ n ≤ 9223372036854775807) :
    Calls Try.prog 12 #[.pointer (some ⟨b, 0, none⟩), .int .i64 n] w fun e w' => e = .returned (.tuple #[.string (D.read n).1, .int .i64 (D.read n).2.1]) ∧ OwnG G w0 w' b (D.read n).2.2 ∧ Same G w w' := by
  obtain ⟨h, rfl, a, hf, hB, hG⟩ := o
  exact (read_any a ok hN n hn).mono fun e w' ⟨he, d⟩ => ⟨he, OwnG.step hf hB hG d⟩
theorem ownG_sync (o : OwnG G w0 w b D) (ok : D.ok N) (hN : N < 1000000000) :
    Calls Try.prog 14 #[.pointer (some ⟨b, 0, none⟩)] w fun e w' => e = .returned (.int .i64 D.sync.1) ∧ OwnG G w0 w' b D.sync.2 ∧ Same G w w' := by
  obtain ⟨h, rfl, a, hf, hB, hG⟩ := o
  exact (sync_any a ok hN).mono fun e w' ⟨he, h', d⟩ => ⟨he, OwnG.step hf hB hG d⟩
theorem ownG_ops (o : OwnG G w0 w b D) : Calls Try.prog 35 #[.pointer (some ⟨b, 0, none⟩)] w fun e w' => e = .returned (.int .i64 D.ops) ∧ w' = w := own_ops o.own
theorem ownG_clear (o : OwnG G w0 w b D) : Calls Try.prog 22 #[.pointer (some ⟨b, 0, none⟩)] w fun e w' => e = .returned (.tuple #[]) ∧ OwnG G w0 w' b { D with armed := false, left := 0, fails := fun _ => none, count := 0 } ∧ Same G w w' := by
  obtain ⟨h, rfl, a, hf, hB, hG⟩ := o
  exact (clear_any a).mono fun e w' ⟨he, h', _, _, d⟩ => ⟨he, OwnG.step hf hB hG d⟩
theorem ownG_crash (o : OwnG G w0 w b D) (ok : D.ok N) (hN : N < 1000000000) {p : Option Addr} {n c : Nat} {l : List Int} (hl : IntsAt w0 (.slice p n c) l) (hnl : n = l.length) (hnc : n ≤ c) (hlm : l.length ≤ 9223372036854775807) :
    Calls Try.prog 16 #[.pointer (some ⟨b, 0, none⟩), .slice p n c] w fun e w' => e = .returned (.tuple #[]) ∧ OwnG G w0 w' b (D.crash l) ∧ Same G w w' := by
  obtain ⟨h, rfl, a, hf, hB, hG⟩ := o
  exact (crash_any a ok hN (ints_arg hl (fun k hk => (hf k hk).1) hB) hnl hnc hlm).mono fun e w' ⟨he, _, h', _, _, d⟩ => ⟨he, OwnG.step hf hB hG d⟩
end
end Go.Proofs.Ytonmjkalkkfhhaa
