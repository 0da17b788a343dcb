/-
  awake: the chapter's examples.
-/
import Derived.Test.YtbenfmhcpipehaaBAwakeP
import Derived.Test.YtbenfmhcpipehaaBReadBad
namespace Go.Proofs.Ytbenfmhcpipehaa
open Go Go.RowKit Go.Maps

theorem read1 (w : World) : Calls Try.prog 38 #[.string ⟨#[0, 0, 0, 0]⟩] w fun e w' => e = .returned (.tuple #[.pointer none, .int .i64 10]) ∧ Below w.heap.size w w' := by
  refine read_bad _ (fun h => absurd h (by decide)) w (by decide) (by decide) fun u p r h => ?_
  have := h.size
  revert this
  decide
theorem read2 (w : World) : Calls Try.prog 38 #[.string ⟨#[0, 0, 0, 1, 5, 5]⟩] w fun e w' => e = .returned (.tuple #[.pointer none, .int .i64 10]) ∧ Below w.heap.size w w' := by
  refine read_bad _ (fun h => absurd h (by decide)) w (by decide) (by decide) fun u p r h => ?_
  have := (h.list (by decide)).1
  revert this
  unfold Rises
  decide

theorem OwnInts.two {w : World} {base : Nat} {v : Value} {a b : Nat} (h : OwnInts w base v [a, b]) : ∃ g cap, v = .slice (some ⟨g, 0, none⟩) 2 cap ∧ w.cell? ⟨g, 1, none⟩ = some (.int .i64 (b : Nat)) ∧ ∃ cs, w.heap[g]? = some (.cells cs 3 (0, 0)) := by
  have hc := h
  rcases h.2 with ⟨_, h0⟩ | ⟨g, cap, cur, hv, _, hb, _⟩
  · cases h0
  · subst hv
    refine ⟨g, cap, rfl, ?_, cur, hb⟩
    exact hc.cells (g := g) rfl 1 (.int .i64 (b : Nat)) rfl

theorem ints0 (w : World) : IntsAt (w.alloc (.cells #[.int .i64 5, .int .i64 300, .int .i64 5, .int .i64 (-1)] 3)) (.slice (some ⟨w.heap.size, 0, none⟩) 4 4) [5, 300, 5, -1] := by
  refine .inr ⟨w.heap.size, 0, 4, rfl, fun i hi => ?_⟩
  have hh := Holds.new w 3 #[.int .i64 5, .int .i64 300, .int .i64 5, .int .i64 (-1)]
  rw [Nat.zero_add, hh.cell i]
  match i, hi with
  | 0, _ => rfl
  | 1, _ => rfl
  | 2, _ => rfl
  | 3, _ => rfl

set_option maxRecDepth 100000 in
set_option maxHeartbeats 2000000 in
theorem awake_any (w : World) : Calls Try.prog 9 #[] w fun e w' => e = .returned (.bool true) ∧ Below w.heap.size w w' := by
  have hnw := new_any (ints0 w) (by decide) (by decide)
  have hB0 := below_new1 w (.cells #[.int .i64 5, .int .i64 300, .int .i64 5, .int .i64 (-1)] 3)
  obtain ⟨W0, hW⟩ : ∃ W0, World.alloc w (.cells #[.int .i64 5, .int .i64 300, .int .i64 5, .int .i64 (-1)] 3) = W0 := ⟨_, rfl⟩
  rw [hW] at hnw hB0
  have hc0 := card_M0
  have hr1 := read1
  have hc1 := cut_M0
  rw [show ofInts [5, 300, 5, -1] = M0 from rfl] at hnw
  go_enter Try.func9, Try.ntmps9
  go_wp2_with (first
    | (go_at_call 10; refine hnw.mono ?_; rintro e w1 ⟨b, rfl, mo, hs, hb, hmo, hB1⟩; obtain ⟨m, rfl⟩ : ∃ m, mo = some m := (by
        cases mo with
        | none => have := hs.map 5; rw [M0_iff.2 (.inl rfl)] at this; cases this
        | some m => exact ⟨m, rfl⟩); have hv1 := hs.view; have hm1 := hmo m rfl; have hmem := members_any hv1; rw [mem_M0] at hmem)
    | (go_at_call 19; refine hmem.mono ?_; rintro e w2 ⟨v, rfl, hrow, hB2⟩; have hv2 := hv1.below hB2; have hby := bytes_any hv2; rw [bytes_M0] at hby; obtain ⟨g, cap, rfl, hcell, cs, hgb⟩ := hrow.two; have hgh : Holds w2 g 3 cs := hgb; have hcs : cs[1]? = some (.int .i64 300) := (hgh.cell 1).symm.trans hcell; clear hcell hgb)
    | (go_at_call 20; refine hby.mono ?_; rintro e w3 ⟨rfl, hB3⟩; have hv3 := hv2.below hB3; have hl3 := least_any hv3 6 6 rfl (by decide))
    | (go_at_call 39; refine hl3.mono ?_; rintro e w4 ⟨n4, b4, rfl, hn4, hB4⟩; obtain ⟨rfl, rfl⟩ := least_M0 hn4; have hv4 := hv3.below hB4; clear hl3; have hl4 := least_any hv4 301 301 rfl (by decide))
    | (go_at_call 39; refine hl4.mono ?_; rintro e w5 ⟨n5, b5, rfl, hn5, hB5⟩; obtain rfl := least_M0' hn5; have hv5 := hv4.below hB5; have hcu := cut_some hv5 6 (by decide); rw [hc0, show (6 : Int).toNat = 6 from rfl, hc1] at hcu)
    | (go_at_call 12; refine hcu.mono ?_; rintro e w6 ⟨rfl, hv6, hO6⟩)
    | (go_at_call 38; refine (hr1 _).mono ?_; rintro e w7 ⟨rfl, hB7⟩; clear hr1; have hg7 := below_holds hB7 (hO6.holds (below_holds hB5 (below_holds hB4 (below_holds hB3 hgh))) (map_ne hv5.map (below_holds hB5 (below_holds hB4 (below_holds hB3 hgh))))); have hv7 := hv6.below hB7)
    | (go_at_call 38; refine (read2 _).mono ?_; rintro e w8 ⟨rfl, hB8⟩; have hg8 := below_holds hB8 hg7; have hv8 := hv7.below hB8; have hln := len_any hv8; rw [hc1] at hln; have hc8 : w8.cell? ⟨g, 1, none⟩ = some (.int .i64 300) := (hg8.cell 1).trans hcs)
    | (go_at_call 17; refine hln.mono ?_; rintro e w9 ⟨rfl, hB9⟩))
  go_ret
  refine ⟨rfl, ?_⟩
  have hB5w : Below w.heap.size w w5 := below_new (below_new (below_new (below_new (below_new hB0 hB1) hB2) hB3) hB4) hB5
  have hz := hB0.size
  have hB6 : Below w.heap.size w5 w6 := ⟨hO6.os, hO6.tape, hO6.output, hO6.size, fun k hk => hO6.block k (by have := hB5w.size; omega) (fun e => by injection e with e; omega)⟩
  have hB6w : Below w.heap.size w w6 := hB5w.trans hB6
  exact below_new (below_new (below_new hB6w hB7) hB8) hB9
end Go.Proofs.Ytbenfmhcpipehaa
