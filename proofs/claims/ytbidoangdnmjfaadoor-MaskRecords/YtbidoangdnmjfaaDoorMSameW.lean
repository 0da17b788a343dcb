/-
  Same, of branches that are the same.
-/
import Derived.Test.YtbidoangdnmjfaaDoorMRecW
namespace Go.Proofs.YtbidoangdnmjfaaDoor
open Go Go.RowKit

section
variable {ops : Array Oper} {rest : List Oper} {op : Oper} {a : Act} {C : World → Prop} {Q : Act → Prop}
theorem run_neqH (ty : TypeId) (x y : Operand) (u v : H32) (ρ : Operand → Value) (hx : ρ x = hla u) (hy : ρ y = hla v) (ho : op.op = .binOp .neq 43 x y ty) (w : World) : (execOp ρ op).run Tryd.prog w = .ok (.value (.bool !decide (u = v))) w := by
  unfold execOp
  have h1 := run_eqGuard_agg (P := Tryd.prog) w .neq 43 x y (hcl u).toArray (hcl v).toArray guardSumM
  have h2 := run_neq_struct (P := Tryd.prog) w 43 (hcl u).toArray (hcl v).toArray
  have h3 := eql_hash w u v
  unfold hla at h3 hx hy
  rw [h3] at h2
  simp only [ho, hx, hy, Sem.run_bind, Sem.run_pure, h1, h2, Result.andThen_ok]
theorem wpQ_neqH (hw : Region.wanted op (yielded ops a.tmps) = true) (ty : TypeId) (x y : Operand) (ho : op.op = .binOp .neq 43 x y ty) {u v : H32} (hx : a.eval x = hla u) (hy : a.eval y = hla v)
    (h : wpQuiet Tryd.prog ops C Q rest (a.put op.dst (.bool !decide (u = v)))) : wpQuiet Tryd.prog ops C Q (op :: rest) a :=
  wpQuiet_step fun _ hK => by
    rw [if_pos hw]
    refine ⟨.bool !decide (u = v), fun w _ => ?_, hK _ h⟩
    unfold Oper.quietAt
    rw [run_neqH ty x y u v a.eval hx hy ho w]
    exact ⟨rfl, rfl⟩
end
set_option maxRecDepth 8000 in
set_option maxHeartbeats 1000000 in
theorem qsame_eq {w : World} {s t h : Nat} {v v' : Value} {L : List H32} (hv : HashesAt w v L) (hv' : HashesAt w v' L) (hl : L.length ≤ 1000) :
    Calls Tryd.prog 13 #[brV s t h v, brV s t h v'] w fun e w' => e = .returned (.bool true) ∧ Below w.heap.size w w' := by
  obtain ⟨p, c, rfl⟩ := hv.shape
  obtain ⟨p', c', rfl⟩ := hv'.shape
  obtain ⟨n, hn⟩ : ∃ n, L.length = n := ⟨_, rfl⟩
  have HN : Hid (L.length = n) := hn
  rw [hn] at hv hv' hl ⊢
  clear hn
  have hni : (n : Int) ≤ 1000 := by omega
  obtain ⟨W0, g, hW0, hg, hB0, hb0, _, _, _, _⟩ := box_br w s t h (.slice p n c)
  obtain ⟨W1, g1, hW1, hg1, hB1, hb1, d0, d1, d2, d3⟩ := box_br W0 s t h (.slice p' n c')
  have hgH : Hid (w.heap.size = g ∧ W0.heap.size = g1) := ⟨hg, hg1⟩
  have hb0' := below_holds hB1 hb0
  have c0 : W1.cell? ⟨g, 0, none⟩ = some (.int .u16 (s : Nat)) := hb0'.cell 0
  have c1 : W1.cell? ⟨g, 1, none⟩ = some (.int .u16 (t : Nat)) := hb0'.cell 1
  have c2 : W1.cell? ⟨g, 2, none⟩ = some (.int .u16 (h : Nat)) := hb0'.cell 2
  have c3 : W1.cell? ⟨g, 3, none⟩ = some (.slice p n c) := hb0'.cell 3
  have hWH : Hid (Below w.heap.size w W1) := below_new hB0 hB1
  have HV : Hid (HashesAt W1 (.slice p n c) L ∧ HashesAt W1 (.slice p' n c') L) := ⟨hv.below hWH.out, hv'.below hWH.out⟩
  clear hB0 hb0 hB1 hb1 hb0' hv hv'
  unfold brV
  go_enter Tryd.func13, Tryd.ntmps13
  go_wp2_with fail
  go_loopw [5] (fun y wr => ∃ k : Nat, y = .int .i64 (k : Nat) ∧ k ≤ n ∧ Below W1.heap.size W1 wr) (fun y _ => n - (intOf y).toNat)
  case atStart => exact ⟨0, rfl, Nat.zero_le _, Below.refl _ _⟩
  case round =>
    obtain ⟨k, rfl, hk, hB⟩ := hrel
    have e3 := keep_cellM hB c3
    have f3 := keep_cellM hB d3
    have HB : Hid (Below W1.heap.size W1 wr) := hB
    clear c0 c1 c2 c3 d0 d1 d2 d3 hB
    by_cases hkn : k < n
    · have hki : (k : Int) < n := by omega
      obtain ⟨x, hx⟩ : ∃ x, L[k]? = some x := ⟨_, List.getElem?_eq_getElem (by have := HN.out; omega)⟩
      obtain ⟨b, o, rfl, hnn, hd⟩ := (HV.out.1.below HB.out).at hx
      clear hnn
      obtain ⟨b', o', rfl, hnn, hd'⟩ := (HV.out.2.below HB.out).at hx
      clear hnn
      go_wp2_with fail
      refine wp_region_class (fun W => Below wr.heap.size wr W) mixedP (by kernel_rfl) (Below.refl _ _).drew ?_
      go_big_quiet_step (exact fun _ => rfl)
      refine wpQ_ld rfl _ _ rfl rfl (fun W hW => ldRowM (keep_cellM hW e3)) ?_
      go_frame
      go_big_quiet_step (exact fun _ => rfl)
      go_big_quiet_step (exact fun _ => rfl)
      refine wpQ_ld rfl _ _ rfl rfl (fun W hW => ldHash (hd.below hW)) ?_
      go_frame
      go_big_quiet_step (exact fun _ => rfl)
      refine wpQ_ld rfl _ _ rfl rfl (fun W hW => ldRowM (keep_cellM hW f3)) ?_
      go_frame
      go_big_quiet_step (exact fun _ => rfl)
      go_big_quiet_step (exact fun _ => rfl)
      refine wpQ_ld rfl _ _ rfl rfl (fun W hW => ldHash (hd'.below hW)) ?_
      go_frame
      refine wpQ_neqH rfl _ _ _ rfl rfl rfl ?_
      go_frame
      refine wpQuiet_nil ?_
      intro W6 hB6
      show Exit.then _ _ Exit.normal _ _
      simp only [Exit.then]
      go_at_K
      have HB2 : Hid (Below W1.heap.size W1 W6) := below_new HB.out hB6
      have hdec : decide (x = x) = true := by simp
      clear hB6 e3 f3 hd hd'
      go_wp2_with fail
      go_roundw
      case rel => exact ⟨k + 1, by go_num, by omega, HB2.out⟩
      case measure => simp [intOf]; omega
    · have hki : ¬ (k : Int) < n := by omega
      go_wp2_with fail
      go_ret
      rw [← hgH.out.1]
      exact ⟨rfl, below_new hWH.out HB.out⟩
end Go.Proofs.YtbidoangdnmjfaaDoor
