/-
  What Each does: its function value.
-/
import Derived.Test.YtbenfmhcpipehaaBParts2
namespace Go.Proofs.Ytbenfmhcpipehaa
open Go Go.RowKit Go.Maps
attribute [local go_sem] Oper.semAt_some

theorem partA_one {u : Nat} {cs : Array Value} (hc : IsC cs) : (partA u cs).all (·.oneCell') = true := by
  obtain ⟨p, rfl⟩ := hc
  refine Array.all_eq_true_iff_forall_mem.2 fun v hv => ?_
  unfold partA at hv
  simp at hv
  rcases hv with rfl | h
  · rfl
  · exact Array.all_eq_true_iff_forall_mem.1 (contA_one p) v h
theorem partA_size {u : Nat} {cs : Array Value} (hc : IsC cs) : (partA u cs).size = 33 := by
  obtain ⟨p, rfl⟩ := hc
  simp [partA, contA_size]
theorem info76 {u : Nat} {cs : Array Value} (hc : IsC cs) : (Try.prog.info? 92).map (·.size) = some (partA u cs).size := by
  rw [partA_size hc]; kernel_rfl
theorem encP_part (M : Nat → Bool) (u : Nat) : (encP M u).toArray = partA u (contA (atU M u)) := rfl

/-- A part is loaded from the midst of a row. -/
theorem wpList_ldP {ops : Array Oper} {rest : List Oper} {op : Oper} {a : Act} {w : World} {Q : Exit → Act → World → Prop} (hgd : op.guard = none) (x : Operand) (ho : op.op = .load 92 x)
    {b o u : Nat} {cs : Array Value} (hx : a.eval x = .pointer (some ⟨b, o, none⟩)) (hh : w.rangeAt b o (.int .i64 (u : Nat) :: cs.toList)) (hc : IsC cs)
    (h : wpList Try.prog ops Q rest (a.put op.dst (.agg (partA u cs))) w) : wpList Try.prog ops Q (op :: rest) a w :=
  wpList_load_mid hgd 92 x ho b o hx _ _ hh Try.underlying92 rfl (by rw [info76 (u := u) hc]; rfl) h
/-- A part is stored. -/
theorem wpList_stP {ops : Array Oper} {rest : List Oper} {op : Oper} {a : Act} {w : World} {Q : Exit → Act → World → Prop} (hgd : op.guard = none) (x y : Operand) (ho : op.op = .store 92 x y)
    {b u : Nat} {cs : Array Value} (hx : a.eval x = .pointer (some ⟨b, 0, none⟩)) (hy : a.eval y = .agg (partA u cs)) (hc : IsC cs) {t : TypeId} {old : Array Value} (hh : Holds w b t old) (ho' : old.size = 33)
    (h : ∀ w', Holds w' b t (partA u cs) → Only b w w' → w'.heap.size = w.heap.size → wpList Try.prog ops Q rest (a.put op.dst undef) w') : wpList Try.prog ops Q (op :: rest) a w :=
  wpList_storeH hgd 92 x y ho b _ hx hy t old hh (info76 hc) (by rw [ho', partA_size hc]) (partA_one hc) h
/-- A part's container is loaded. -/
theorem wpList_ldPC {ops : Array Oper} {rest : List Oper} {op : Oper} {a : Act} {w : World} {Q : Exit → Act → World → Prop} (hgd : op.guard = none) (x : Operand) (ho : op.op = .load 74 x)
    {b u : Nat} {cs : Array Value} (hx : a.eval x = .pointer (some ⟨b, 1, none⟩)) {t : TypeId} (hh : Holds w b t (partA u cs)) (hc : IsC cs)
    (h : wpList Try.prog ops Q rest (a.put op.dst (.agg cs)) w) : wpList Try.prog ops Q (op :: rest) a w := by
  refine wpList_load_mid hgd 74 x ho b 1 hx cs.toList _ (fun j v hv => ?_) Try.underlying74 rfl ?_ (by simpa using h)
  · rw [hh.cell (1 + j)]
    unfold partA
    rw [List.getElem?_toArray, Nat.add_comm, List.getElem?_cons_succ]
    exact hv
  · obtain ⟨p, rfl⟩ := hc
    rw [infoC p]; simp
theorem partA_zero (u : Nat) (cs : Array Value) : (partA u cs)[0]? = some (.int .i64 (u : Nat)) := by
  unfold partA; rw [List.getElem?_toArray]; rfl
def zero33 : Array Value := #[.int .i64 0, .int .u8 0, .int .u8 0, .int .u8 0, .int .u8 0, .int .u8 0, .int .u8 0, .int .u8 0, .int .u8 0, .int .u8 0, .int .u8 0, .int .u8 0, .int .u8 0, .int .u8 0, .int .u8 0, .int .u8 0, .int .u8 0, .int .u8 0, .int .u8 0, .int .u8 0, .int .u8 0, .int .u8 0, .int .u8 0, .int .u8 0, .int .u8 0, .int .u8 0, .int .u8 0, .int .u8 0, .int .u8 0, .int .u8 0, .int .u8 0, .int .u8 0, .int .u8 0]
theorem zero33_eq : zero33 = #[.int .i64 0, .int .u8 0, .int .u8 0, .int .u8 0, .int .u8 0, .int .u8 0, .int .u8 0, .int .u8 0, .int .u8 0, .int .u8 0, .int .u8 0, .int .u8 0, .int .u8 0, .int .u8 0, .int .u8 0, .int .u8 0, .int .u8 0, .int .u8 0, .int .u8 0, .int .u8 0, .int .u8 0, .int .u8 0, .int .u8 0, .int .u8 0, .int .u8 0, .int .u8 0, .int .u8 0, .int .u8 0, .int .u8 0, .int .u8 0, .int .u8 0, .int .u8 0, .int .u8 0] := rfl

theorem PartsIn.range {w : World} {g : Nat} {M : Nat → Bool} {us : List Nat} (h : PartsIn w g M us) {i u : Nat} (hi : us[i]? = some u) : w.rangeAt g (i * 33) (.int .i64 (u : Nat) :: (contA (atU M u)).toList) := by
  intro j v hv
  refine h i (List.getElem?_eq_some_iff.1 hi).1 j v ?_
  rw [hi]
  exact hv

theorem PartsAt.below {w w' : World} {v : Value} {M : Nat → Bool} {us : List Nat} (h : PartsAt w v M us) (hb : Below w.heap.size w w') : PartsAt w' v M us := by
  rcases h with h | ⟨g, cap, h1, h0, h2⟩
  · exact .inl h
  · refine .inr ⟨g, cap, h1, Nat.lt_of_lt_of_le h0 hb.size, fun i hi j v hv => ?_⟩
    have := h2 i hi j v hv
    exact (hb.cell (p := ⟨g, i * 33 + j, none⟩) (World.block_lt_of_cell? w _ this)).trans this

theorem PartsAt.shape {w : World} {v : Value} {M : Nat → Bool} {us : List Nat} (h : PartsAt w v M us) : ∃ p n c, v = .slice p n c := by
  rcases h with ⟨rfl, _⟩ | ⟨g, cap, rfl, _, _⟩
  · exact ⟨_, _, _, rfl⟩
  · exact ⟨_, _, _, rfl⟩

set_option maxRecDepth 8000 in
theorem each_any {w : World} {s : Value} {mo : Option Nat} {M : Nat → Bool} (h : View w s mo M) (f : Int) (hf : f ≤ 9223372036854775807) :
    Calls Try.prog 54 #[s, .int .i64 f] w fun e w' => ∃ bl bf, e = .returned (.func (.func 68) #[] #[.pointer (some ⟨bl, 0, none⟩), .pointer (some ⟨bf, 0, none⟩)]) ∧ ∃ v, Holds w' bl 89 #[v] ∧ Holds w' bf 3 #[.int .i64 (f.toNat : Nat)] ∧ PartsAt w' v M (uppers M (f.toNat / 256)) ∧ Below w.heap.size w w' ∧ w.heap.size ≤ bl ∧ w.heap.size ≤ bf ∧ ∀ k, v.ownBlock = some k → w.heap.size ≤ k := by
  obtain ⟨m, hm⟩ : ∃ m, f.toNat = m := ⟨_, rfl⟩
  rw [hm]
  obtain ⟨W0, hW⟩ : ∃ W0, World.alloc w (.cells #[.int .i64 (m : Nat)] 3) = W0 := ⟨_, rfl⟩
  have hF : Holds W0 w.heap.size 3 #[.int .i64 (m : Nat)] := by rw [← hW]; exact Holds.new _ _ _
  have hB0 : Below w.heap.size w W0 := by rw [← hW]; exact below_new1 _ _
  have hp := parts_any (h.below hB0) (m / 256)
  rw [show ((m / 256 : Nat) : Int) = (m : Int) / 256 by simp] at hp
  have hFc : W0.cell? ⟨w.heap.size, 0, none⟩ = some (.int .i64 (m : Nat)) := hF.cell 0
  have hmax : max f 0 = (m : Int) := by omega
  have hm1 : (m : Int) ≤ 9223372036854775807 := by omega
  have hm0 : (0 : Int) ≤ m := by omega
  clear hm
  generalize uppers M (m / 256) = us at hp ⊢
  go_enter Try.func54, Try.ntmps54
  go_wp2_with (first
    | (go_at_call 55; refine hp.mono ?_; rintro e w1 ⟨v, rfl, hP, hB1, hob⟩; obtain ⟨p, n, c, rfl⟩ := hP.shape))
  refine bodyPost_ret (results_tmp rfl _ _ _) rfl ?_
  have hBn := below_new hB0 (below_new hB1 (below_new1 w1 (.cells #[.slice p n c] 89)))
  have hs : w.heap.size ≤ w1.heap.size := Nat.le_trans hB0.size hB1.size
  exact ⟨w1.heap.size, w.heap.size, rfl, .slice p n c, Holds.new w1 _ _, Holds.alloc (below_holds hB1 hF) _, hP.below (below_new1 _ _), hBn, hs, Nat.le_refl _, fun k e => Nat.le_trans hB0.size (hob k e)⟩
end Go.Proofs.Ytbenfmhcpipehaa
