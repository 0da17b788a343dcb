/-
  The program's part, made, Join.
-/
import Derived.Test.YtdgfjaidnedaiaaESlice
import Derived.Deep.DeepMust
namespace Go.Proofs.Ytdgfjaidnedaiaa
open Go Go.RowKit

theorem part_any {w : World} {leaf : Bool} {p : Option Addr} {n c lo hi : Nat} {p' : Option Addr} {c' : Nat} (hsl : ∀ w, (Instr.sliceAt 22 (.slice p n c) (some (.int .i64 (lo : Int))) (some (.int .i64 (hi : Int))) (some (.int .i64 (hi : Int)))).run Try.prog w = .ok (.slice p' (hi - lo) c') w) :
    Calls Try.prog 45 #[nodeV leaf (.slice p n c), .int .i64 (lo : Nat), .int .i64 (hi : Nat)] w fun e w' => e = .returned (.slice p' (hi - lo) c') ∧ Below w.heap.size w w' := by
  unfold nodeV
  obtain ⟨W0, g, hW0, hg, hB0, hb0, c0, c1⟩ := box_node w leaf (.slice p n c)
  have HG : Hid (w.heap.size = g) := hg
  have HB : Hid (Below w.heap.size w W0) := hB0
  clear hB0 hb0
  generalize hi - lo = d at hsl ⊢
  go_enter Try.func45, Try.ntmps45
  go_wp2_with fail
  go_ret
  rw [← HG.out]
  exact ⟨rfl, HB.out⟩
theorem own_only {w w' : World} {base g : Nat} {v : Value} {L : List Cl} (h : OwnCells w base v L) (ho : Only g w w') (hg : g < base) : OwnCells w' base v L := by
  refine ⟨h.1, ?_⟩
  rcases h.2 with q | ⟨b, cap, cur, rfl, h1, h2, h3⟩
  · exact .inl q
  · exact .inr ⟨b, cap, cur, rfl, h1, (ho.block b (Array.getElem?_eq_some_iff.1 h2).1 (by omega)).trans h2, h3⟩
set_option maxRecDepth 8000 in
theorem made_any {w : World} {leaf : Bool} {q : Nat} {vs : List Value} {ls : List (List Cl)} (hq : Holds w q 22 vs.toArray) (hlen : vs.length = ls.length) (hvs : ∀ (i : Nat) v l, vs[i]? = some v → ls[i]? = some l → CellsAt w v l) (hsum : ls.flatten.length ≤ 1000000) (hn : vs.length ≤ 1000) :
    Calls Try.prog 44 #[.bool leaf, .slice (some ⟨q, 0, none⟩) vs.length vs.length] w fun e w' => ∃ v, e = .returned (nodeV leaf v) ∧ OwnCells w' w.heap.size v ls.flatten ∧ Below w.heap.size w w' := by
  obtain ⟨W0, g, hW0, hg, hB0, hb0, c0, c1⟩ := box_node w false (.slice none 0 0)
  have hc := concat_any (w := W0) (below_holds hB0 hq) hlen (fun i v l h1 h2 => (hvs i v l h1 h2).below hB0) hsum hn
  have HG : Hid (w.heap.size = g) := hg
  have HB : Hid (Below w.heap.size w W0) := hB0
  have hbH : Hid (Holds W0 g 24 #[.bool false, .slice none 0 0]) := hb0
  have hlt := hb0.lt
  clear hB0 hb0 hvs hq
  obtain ⟨m, hm⟩ : ∃ m, vs.length = m := ⟨_, rfl⟩
  rw [hm] at hc ⊢
  clear hm hn hlen
  go_enter Try.func44, Try.ntmps44
  go_wp2_with (first
    | (go_at_call 50; refine hc.mono ?_; rintro e w1 ⟨v1, rfl, hown, hB1⟩; obtain ⟨p1, c1', rfl⟩ := hown.at.shape; have hb1 := below_holds hB1 hbH.out; have HO : Hid (OwnCells w1 W0.heap.size (.slice p1 ls.flatten.length c1') ls.flatten) := hown; have HB1 : Hid (Below W0.heap.size W0 w1) := hB1; clear hown hB1; generalize ls.flatten.length = m1 at *)
    | ((with_reducible show wpList _ _ _ (Oper.mk _ (Op.store _ _ _) _ _ _ _ :: _) _ _); go_must (refine wpList_storeH rfl 24 _ _ rfl g #[.bool leaf, .slice p1 m1 c1'] rfl rfl 24 #[.bool false, .slice none 0 0] hb1 infoNode2 rfl (by simp [Value.oneCell']) ?_; intro w2 hH hO hs2)))
  refine bodyPost_ret (results_cellH (p := 4) rfl _ w2 g 24 _ _ rfl hH Try.underlying24 rfl infoNode2) rfl ?_
  have hgW : w.heap.size ≤ g := by rw [HG.out]; exact Nat.le_refl _
  have hB2 : Below w.heap.size w w2 := Only.fresh (below_new HB.out HB1.out) hO hgW
  refine ⟨_, rfl, ?_, hB2⟩
  exact OwnCells.mono (own_only HO.out hO (by have := HG.out; have := hlt; omega)) HB.out.size
end Go.Proofs.Ytdgfjaidnedaiaa
