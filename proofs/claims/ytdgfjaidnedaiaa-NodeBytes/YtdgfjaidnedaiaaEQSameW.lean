/-
  The document's Same (of nodes that are alike), Drop, Split.
-/
import Derived.Test.YtdgfjaidnedaiaaEQPutW
namespace Go.Proofs.Ytdgfjaidnedaiaa
open Go Go.RowKit

theorem guardCl : Try.prog.eqGuardType Try.prog.depth 27 = false := by kernel_rfl
theorem eql_cl (w : World) (x : Cl) : (Op.equalIn 10000 27 (.agg #[.string x.k, .string x.v, .int .i64 x.p, .int .i64 x.s]) (.agg #[.string x.k, .string x.v, .int .i64 x.p, .int .i64 x.s])).run Try.prog w = .ok true w := by
  rw [run_equalIn_struct w 9999 27 _ _ (by kernel_rfl) (by kernel_rfl)]
  go_simp
set_option maxRecDepth 8000 in
set_option maxHeartbeats 1000000 in
theorem qsame_eq {w : World} {leaf : Bool} {v v' : Value} {L : List Cl} (hv : CellsAt w v L) (hv' : CellsAt w v' L) (hl : L.length ≤ 1000000) : Calls Try.prog 19 #[nodeV leaf v, nodeV leaf v'] w fun e w' => e = .returned (.bool true) ∧ Below w.heap.size w w' := by
  have hgd := guardCl
  unfold nodeV
  obtain ⟨p, c, rfl⟩ := hv.shape
  obtain ⟨p', c', rfl⟩ := hv'.shape
  obtain ⟨n, hn⟩ : ∃ n, L.length = n := ⟨_, rfl⟩
  have HN : Hid (L.length = n) := hn
  rw [hn] at hv hv' hl ⊢
  clear hn
  have hni : (n : Int) ≤ 1000000 := by omega
  obtain ⟨W0, g0, hW0, hg0, hB0, hb0, c0, c1⟩ := box_node w leaf (.slice p n c)
  obtain ⟨W1, g1, hW1, hg1, hB1, hb1, d0, d1⟩ := box_node W0 leaf (.slice p' n c')
  replace c0 := keep_cell hB1 c0
  replace c1 := keep_cell hB1 c1
  have hgH : Hid (w.heap.size = g0) := hg0
  have HB : Hid (Below w.heap.size w W1) := below_new hB0 hB1
  clear hB0 hB1 hb0 hb1
  have hbb : (leaf != leaf) = false := by simp
  go_enter Try.func19, Try.ntmps19
  go_wp2_with fail
  go_loopw [5] (fun y wr => ∃ k : Nat, y = .int .i64 (k : Nat) ∧ k ≤ n ∧ Below W1.heap.size W1 wr) (fun y _ => n - (intOf y).toNat)
  case atStart => exact ⟨0, rfl, Nat.zero_le _, Below.refl _ _⟩
  case round =>
    obtain ⟨k, rfl, hk, hB⟩ := hrel
    replace c0 := keep_cell hB c0
    replace c1 := keep_cell hB c1
    replace d1 := keep_cell hB d1
    have hBw := below_new HB.out hB
    by_cases hkn : k < n
    · have hki : (k : Int) < n := by omega
      obtain ⟨x, hx⟩ : ∃ x, L[k]? = some x := ⟨_, List.getElem?_eq_getElem (by have := HN.out; omega)⟩
      obtain ⟨b, o, rfl, hnn, hd⟩ := (hv.below hBw).at hx
      obtain ⟨b', o', rfl, hnn', hd'⟩ := (hv'.below hBw).at hx
      clear hnn hnn' hv hv'
      have heq := fun w => eql_cl w x
      go_wp2_with fail
      refine wp_region_class (fun W => Below wr.heap.size wr W) mixedP (by kernel_rfl) (Below.refl _ _).drew ?_
      go_big_quiet_step (exact fun _ => rfl)
      refine wpQ_ld rfl _ _ rfl rfl (fun W hW => ldRow (keep_cell hW c1)) ?_
      go_frame
      go_big_quiet_step (exact fun _ => rfl)
      go_big_quiet_step (exact fun _ => rfl)
      refine wpQ_ld rfl _ _ rfl rfl (fun W hW => ldCell (hd.below hW)) ?_
      go_frame
      go_big_quiet_step (exact fun _ => rfl)
      refine wpQ_ld rfl _ _ rfl rfl (fun W hW => ldRow (keep_cell hW d1)) ?_
      go_frame
      go_big_quiet_step (exact fun _ => rfl)
      go_big_quiet_step (exact fun _ => rfl)
      refine wpQ_ld rfl _ _ rfl rfl (fun W hW => ldCell (hd'.below hW)) ?_
      go_frame
      refine wpQ_val rfl (.bool false) (fun _ => by unfold cla; go_simp) ?_
      go_frame
      refine wpQuiet_nil ?_
      intro W6 hB6
      show Exit.then _ _ Exit.normal _ _
      simp only [Exit.then]
      go_at_K
      have HB2 : Hid (Below W1.heap.size W1 W6) := below_new hB hB6
      clear hB6 hB
      go_wp2_with fail
      exact ⟨⟨k + 1, by go_num, by omega, HB2.out⟩, by simp [intOf]; omega⟩
    · have hki : ¬ (k : Int) < n := by omega
      go_wp2_with fail
      go_ret
      rw [← hgH.out]
      exact ⟨rfl, hBw⟩
end Go.Proofs.Ytdgfjaidnedaiaa
