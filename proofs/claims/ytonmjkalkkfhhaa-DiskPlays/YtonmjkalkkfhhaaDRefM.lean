/-
  The document's device in memory, and what its small calls do.
-/
import Derived.Test.YtonmjkalkkfhhaaDPlaysP
import Derived.Test.YtonmjkalkkfhhaaDOwnG
import Derived.Laws.AppendOwn
namespace Go.Proofs.Ytonmjkalkkfhhaa
open Go Go.RowKit Go.Maps

def rcells (vl vp vf : Value) (R : RDev) : Array Value := #[.int .i64 R.most, vl, vp, .bool R.off, .int .i64 R.done, .bool R.armed, .int .i64 R.left, vf, .int .i64 R.since]
/-- It lies in a block of its own, and so do its three rows. -/
structure RAt (w : World) (base rb : Nat) (vl vp vf : Value) (R : RDev) : Prop where
  cells : Holds w rb 45 (rcells vl vp vf R)
  lasts : w.ownsRow base 9 1 vl R.lasts.length (R.lasts.map fun s => .string s)
  puts : w.ownsRow base 71 2 vp R.puts.length (wcells R.puts)
  fails : w.ownsRow base 3 1 vf R.fails.length (R.fails.map fun x => .int .i64 x)
  new : base ≤ rb
/-- Its blocks. -/
def RB (rb : Nat) (vl vp vf : Value) (k : Nat) : Prop := k = rb ∨ vl.ownBlock = some k ∨ vp.ownBlock = some k ∨ vf.ownBlock = some k
theorem owns_type {w : World} {base size n k : Nat} {t : TypeId} {v : Value} {xs : List Value} (h : w.ownsRow base t size v n xs) (hk : v.ownBlock = some k) : base ≤ k ∧ ∃ cur, w.heap[k]? = some (.cells cur t (0, 0)) := by
  rcases h.2 with ⟨rfl, _⟩ | ⟨g, cap, cur, rfl, h1, h2, _⟩
  · cases hk
  · have : g = k := by simpa [Value.ownBlock] using hk
    subst this
    exact ⟨h1, cur, h2⟩
theorem owns_keep {w w' : World} {base size n : Nat} {t : TypeId} {v : Value} {xs : List Value} (h : w.ownsRow base t size v n xs) (hb : ∀ k, v.ownBlock = some k → w'.heap[k]? = w.heap[k]?) : w'.ownsRow base t size v n xs := by
  refine ⟨h.1, ?_⟩
  rcases h.2 with q | ⟨g, cap, cur, rfl, h1, h2, h3⟩
  · exact .inl q
  · exact .inr ⟨g, cap, cur, rfl, h1, (hb g rfl).trans h2, h3⟩
section
variable {w w' : World} {base rb : Nat} {vl vp vf : Value} {R : RDev}
theorem RAt.same (h : RAt w base rb vl vp vf R) (hs : ∀ k, RB rb vl vp vf k → w'.heap[k]? = w.heap[k]?) : RAt w' base rb vl vp vf R := by
  refine ⟨?_, owns_keep h.lasts fun k hk => hs k (.inr (.inl hk)), owns_keep h.puts fun k hk => hs k (.inr (.inr (.inl hk))), owns_keep h.fails fun k hk => hs k (.inr (.inr (.inr hk))), h.new⟩
  have := h.cells
  unfold Holds at *
  rw [hs rb (.inl rfl)]
  exact this
/-- What stands in its blocks. -/
theorem RAt.obj (h : RAt w base rb vl vp vf R) {k : Nat} (hk : RB rb vl vp vf k) : base ≤ k ∧ ∃ cur t, w.heap[k]? = some (.cells cur t (0, 0)) ∧ t ≠ 60 ∧ t ≠ 73 ∧ t ≠ 30 := by
  rcases hk with rfl | hk | hk | hk
  · exact ⟨h.new, _, _, h.cells, by decide, by decide, by decide⟩
  · obtain ⟨h1, cur, h2⟩ := owns_type h.lasts hk
    exact ⟨h1, cur, _, h2, by decide, by decide, by decide⟩
  · obtain ⟨h1, cur, h2⟩ := owns_type h.puts hk
    exact ⟨h1, cur, _, h2, by decide, by decide, by decide⟩
  · obtain ⟨h1, cur, h2⟩ := owns_type h.fails hk
    exact ⟨h1, cur, _, h2, by decide, by decide, by decide⟩
theorem RAt.lt (h : RAt w base rb vl vp vf R) {k : Nat} (hk : RB rb vl vp vf k) : k < w.heap.size := by
  obtain ⟨_, cur, t, q, _⟩ := h.obj hk
  exact (Array.getElem?_eq_some_iff.1 q).1
theorem RAt.below (h : RAt w base rb vl vp vf R) (hB : Below w.heap.size w w') : RAt w' base rb vl vp vf R := h.same fun k hk => hB.block k (h.lt hk)
theorem RAt.ne (h : RAt w base rb vl vp vf R) : vl.ownBlock ≠ some rb ∧ vp.ownBlock ≠ some rb ∧ vf.ownBlock ≠ some rb := by
  have hc := h.cells
  unfold Holds at hc
  refine ⟨fun q => ?_, fun q => ?_, fun q => ?_⟩
  · obtain ⟨_, cur, e⟩ := owns_type h.lasts q
    rw [hc] at e
    injection e with e
    injection e with _ e
    revert e; decide
  · obtain ⟨_, cur, e⟩ := owns_type h.puts q
    rw [hc] at e
    injection e with e
    injection e with _ e
    revert e; decide
  · obtain ⟨_, cur, e⟩ := owns_type h.fails q
    rw [hc] at e
    injection e with e
    injection e with _ e
    revert e; decide
/-- Its own cells alone have turned. -/
theorem RAt.turn {R' : RDev} (h : RAt w base rb vl vp vf R) (o : Only rb w w') (hc : Holds w' rb 45 (rcells vl vp vf R')) (h1 : R'.lasts = R.lasts) (h2 : R'.puts = R.puts) (h3 : R'.fails = R.fails) : RAt w' base rb vl vp vf R' := by
  obtain ⟨n1, n2, n3⟩ := h.ne
  refine ⟨hc, ?_, ?_, ?_, h.new⟩
  · rw [h1]
    exact owns_keep h.lasts fun k hk => o.block k (h.lt (.inr (.inl hk))) (fun q => n1 (q ▸ hk))
  · rw [h2]
    exact owns_keep h.puts fun k hk => o.block k (h.lt (.inr (.inr (.inl hk)))) (fun q => n2 (q ▸ hk))
  · rw [h3]
    exact owns_keep h.fails fun k hk => o.block k (h.lt (.inr (.inr (.inr hk)))) (fun q => n3 (q ▸ hk))
end
set_option maxRecDepth 8000 in
theorem kept_any (n : Int) (w : World) : Calls Try.prog 36 #[.int .i64 n] w fun e w' => e = .returned (.int .i64 (keptP n)) ∧ w' = w := by
  unfold keptP
  by_cases h0 : n < 0
  · rw [show min (max n 0) 65536 = 0 by omega]
    go_enter Try.func36, Try.ntmps36
    go_wp2_with fail
    go_ret
    exact ⟨rfl, rfl⟩
  · by_cases h1 : 65536 < n
    · rw [show min (max n 0) 65536 = 65536 by omega]
      go_enter Try.func36, Try.ntmps36
      go_wp2_with fail
      go_ret
      exact ⟨rfl, rfl⟩
    · rw [show min (max n 0) 65536 = n by omega]
      go_enter Try.func36, Try.ntmps36
      go_wp2_with fail
      go_ret
      exact ⟨rfl, rfl⟩
section
variable {w : World} {base rb : Nat} {vl vp vf : Value} {R : RDev}
set_option maxRecDepth 8000 in
theorem rlimit_any (h : RAt w base rb vl vp vf R) (n : Int) : Calls Try.prog 25 #[.pointer (some ⟨rb, 0, none⟩), .int .i64 n] w fun e w' => e = .returned (.tuple #[]) ∧ RAt w' base rb vl vp vf { R with most := keptP n } ∧ Only rb w w' := by
  have hc : w.cell? ⟨rb, 0, none⟩ = some (.int .i64 R.most) := h.cells.cell 0
  have hf := h.cells.frozen 0
  go_enter Try.func25, Try.ntmps25
  go_wp2_with fail
  refine (kept_any n _).mono ?_
  rintro e w1 ⟨rfl, rfl⟩
  go_wp2_with fail
  go_end0
  exact ⟨rfl, h.turn ((Only.refl _ _).set 0 _) ((h.cells.set 0 _).congr rfl) rfl rfl rfl, (Only.refl _ _).set 0 _⟩
set_option maxRecDepth 8000 in
theorem rarm_any (h : RAt w base rb vl vp vf R) (n : Int) : Calls Try.prog 19 #[.pointer (some ⟨rb, 0, none⟩), .int .i64 n] w fun e w' => e = .returned (.tuple #[]) ∧ RAt w' base rb vl vp vf { R with armed := true, left := max n 0 } ∧ Only rb w w' := by
  have hc5 : w.cell? ⟨rb, 5, none⟩ = some (.bool R.armed) := h.cells.cell 5
  have hf5 := h.cells.frozen 5
  have hc6 : w.cell? ⟨rb, 6, none⟩ = some (.int .i64 R.left) := h.cells.cell 6
  have hf6 := h.cells.frozen 6
  by_cases h0 : n < 0
  · rw [show max n 0 = 0 by omega]
    go_enter Try.func19, Try.ntmps19
    go_wp2_with fail
    go_end0
    exact ⟨rfl, h.turn (((Only.refl _ _).set 5 _).set 6 _) (((h.cells.set 5 _).set 6 _).congr rfl) rfl rfl rfl, ((Only.refl _ _).set 5 _).set 6 _⟩
  · rw [show max n 0 = n by omega]
    go_enter Try.func19, Try.ntmps19
    go_wp2_with fail
    go_end0
    exact ⟨rfl, h.turn (((Only.refl _ _).set 5 _).set 6 _) (((h.cells.set 5 _).set 6 _).congr rfl) rfl rfl rfl, ((Only.refl _ _).set 5 _).set 6 _⟩
end
end Go.Proofs.Ytonmjkalkkfhhaa
