/-
  The program's device and the document's side by side: a call of the one leaves the other.
-/
import Derived.Test.YtonmjkalkkfhhaaDUsed2
namespace Go.Proofs.Ytonmjkalkkfhhaa
open Go Go.RowKit Go.Maps

section
variable {w w' : World} {h h' : Hd} {D D' : Dev} {base rb : Nat} {vl vp vf : Value} {R : RDev}
theorem MapAt.noCells {α : Type} {F : Value → Option (DataW Unit × List MemPlace)} {enc : α → DataW Unit} {m n : Nat} {M : Int → Option α} (a : MapAt F enc w m n M) : ∀ cur t f, w.heap[m]? ≠ some (.cells cur t f) := fun cur t f q => by
  obtain ⟨D, ⟨es, clock, hm, _⟩, _⟩ := a
  rw [hm] at q
  cases q
/-- What stands in a device's blocks. -/
theorem DiskAt.obj (a : DiskAt w h D) {k : Nat} (hk : Blk h k) : ∀ cur t f, w.heap[k]? = some (.cells cur t f) → t = 60 ∨ t = 73 := fun cur t f q => by
  rcases hk with rfl | hk | hk | hk
  · have := a.ptr
    unfold Holds at this
    rw [this] at q
    injection q with q
    injection q with _ q
    exact .inl q.symm
  · have := a.pages
    rw [hk] at this
    exact absurd q (MapAt.noCells this cur t f)
  · obtain ⟨n, this⟩ := a.fails
    rw [hk] at this
    exact absurd q (MapAt.noCells this cur t f)
  · rcases a.writes with ⟨e, _⟩ | ⟨g, cap, c2, e, hg, _⟩
    · rw [e] at hk; cases hk
    · rw [e] at hk
      have : g = k := by simpa [Value.ownBlock] using hk
      subst this
      rw [hg] at q
      injection q with q
      injection q with _ q
      exact .inr q.symm
theorem RAt.apart (r : RAt w base rb vl vp vf R) (a : DiskAt w h D) {k : Nat} (hk : RB rb vl vp vf k) : ¬ Blk h k := fun q => by
  obtain ⟨_, cur, t, h2, h3, h4, _⟩ := r.obj hk
  rcases a.obj q _ _ _ h2 with e | e
  · exact h3 e
  · exact h4 e
/-- A call of the program's device leaves the document's. -/
theorem RAt.side (r : RAt w base rb vl vp vf R) (a : DiskAt w h D) (d : Done w h w' h' D') : RAt w' base rb vl vp vf R := r.same fun k hk => d.keep.block k (r.lt hk) fun f => r.apart a hk f.blk
/-- A call of the document's device leaves the program's. -/
theorem DiskAt.side (a : DiskAt w h D) (k : RKeep base w w') : DiskAt w' h D :=
  a.keep (S := fun k => ¬ Other base w k) ⟨k.os, k.tape, k.output, k.size, fun i hi ho => k.block i hi (Classical.not_not.1 ho)⟩ fun _ hi q => q (.inr fun cur t f e => (a.obj hi cur t f e).imp id .inl)
/-- The two side by side. -/
structure Pair (w : World) (base : Nat) (h : Hd) (D : Dev) (rb : Nat) (vl vp vf : Value) (R : RDev) (N : Nat) : Prop where
  dev : DiskAt w h D
  doc : RAt w base rb vl vp vf R
  sim : Sim D R
  dok : D.ok N
  rok : R.ok N
theorem Pair.below {N : Nat} (p : Pair w base h D rb vl vp vf R N) (b : Below w.heap.size w w') : Pair w' base h D rb vl vp vf R N := ⟨p.dev.below b, p.doc.below b, p.sim, p.dok, p.rok⟩
end
end Go.Proofs.Ytonmjkalkkfhhaa
