/-
  What Cut does.
-/
import Derived.Test.YtdfpnpjdiebniaaBGF
namespace Go.Proofs.Ytdfpnpjdiebniaa
open Go Go.RowKit Go.Maps

/-- What is left while entries are struck. -/
def cutLf (M : Nat → Bool) (edge : Nat) (lf : Nat → Bool) (n : Nat) : Bool := M n && (decide (n / 256 < edge) || lf (n / 256))
theorem cutLf_start (M : Nat → Bool) (edge : Nat) : cutLf M edge (liveB M) = M := by
  funext n
  unfold cutLf
  cases h : M n
  · rfl
  · have : liveB M (n / 256) = true := liveB_iff.2 ⟨n % 256, by omega, by rw [show 256 * (n / 256) + n % 256 = n by omega]; exact h⟩
    rw [this]; simp
theorem cutLf_keep {M : Nat → Bool} {edge u : Nat} {lf : Nat → Bool} (h : u < edge) : cutLf M edge (fun v => lf v && !decide (v = u)) = cutLf M edge lf := by
  funext n
  unfold cutLf
  by_cases e : n / 256 = u
  · rw [e, decide_eq_true h]; simp
  · simp [e]
theorem cutLf_drop {M : Nat → Bool} {edge u : Nat} {lf : Nat → Bool} (h : ¬ u < edge) : setU (cutLf M edge lf) u (fun _ => false) = cutLf M edge (fun v => lf v && !decide (v = u)) := by
  funext n
  unfold setU cutLf
  split
  · rename_i e
    rw [e, decide_eq_false h]; simp
  · rename_i e
    simp [e]
theorem cutLf_end {M : Nat → Bool} {edge : Nat} {lf : Nat → Bool} (h : ∀ u, lf u = false) : cutLf M edge lf = fun n => M n && decide (n / 256 < edge) := by
  funext n
  unfold cutLf
  rw [h]; simp

theorem wpList_delV {ops : Array Oper} {rest : List Oper} {o : Oper} {a : Act} {w : World} {Q : Exit → Act → World → Prop} (hg : o.guard = none) (x y : Operand) (hop : o.op = Op.call { callee := Callee.builtin Builtin.delete, args := #[x, y], argTypes := #[60, 3] })
    {r m u : Nat} {M lf : Nat → Bool} {cnt : Nat} (hx : a.eval x = .map (some m)) (hy : a.eval y = .int .i64 (u : Nat)) (hu : u < NU) (h : RangV w r M lf cnt (some m))
    (hK : ∀ w' cnt', RangV w' r (setU M u fun _ => false) (fun v => lf v && !decide (v = u)) cnt' (some m) → cnt' ≤ cnt → Only m w w' → wpList Try.prog ops Q rest (a.put o.dst (.tuple #[])) w') :
    wpList Try.prog ops Q (o :: rest) a w := by
  refine wpList_plain hg fun K' hK' => ?_
  obtain ⟨D, left, hr, hR, hl⟩ := h
  have hw : (Lit.int .i64 (u : Int)).wf = true := by rw [NU_eq] at hu; exact wfI (by omega) (by omega)
  obtain ⟨w', cnt', hrun, h1, h2, h3⟩ := hr.drop keyed3 Try.underlying60 (keyOf_u hw) o.type
  have hgr := h3.grown
  unfold Oper.wp
  simp [execOp, hop, resolve, invoke, builtin, hx, hy, hrun, Result.andThen]
  refine hK' _ _ (hK w' cnt' ⟨_, _, h1, hR.del (u := u), fun v => ?_⟩ h2 ⟨hgr.os, hgr.tape, hgr.output, hgr.size, fun k hk hne => hgr.block k hk (fun e => hne (by injection e))⟩)
  show (lf v && !decide (v = u)) = (left (keyU v) && !(keyU v).sameKey (keyU u))
  rw [hl, same_keyU]

theorem cut1_any {w : World} {be edge u : Nat} {cs : Array Value} (he : Holds w be 3 #[.int .i64 (edge : Nat)]) :
    Calls Try.prog 52 #[.int .i64 (u : Nat), .agg cs, .pointer (some ⟨be, 0, none⟩)] w fun e w' => e = .returned (.bool (decide (edge ≤ u))) ∧ Below w.heap.size w w' := by
  obtain ⟨W0, hW⟩ : ∃ W0, World.alloc w (.cells cs 76) = W0 := ⟨_, rfl⟩
  have hB : Below w.heap.size w W0 := by rw [← hW]; exact below_new1 _ _
  have hc : W0.cell? ⟨be, 0, none⟩ = some (.int .i64 (edge : Nat)) := (below_holds hB he).cell 0
  go_enter Try.func52, Try.ntmps52
  go_wp2_with fail
  go_ret
  exact ⟨by simp, hB⟩

set_option maxRecDepth 8000 in
theorem del_any {w : World} {m be edge : Nat} {M : Nat → Bool} (h : MapAt w m M) (he : Holds w be 3 #[.int .i64 (edge : Nat)]) :
    Calls Try.prog 51 #[.map (some m), .func (.func 52) #[] #[.pointer (some ⟨be, 0, none⟩)]] w fun e w' => e = .returned (.tuple #[]) ∧ MapAt w' m (fun n => M n && decide (n / 256 < edge)) ∧ OnlyS m none w w' := by
  have hne : m ≠ be := by
    rintro rfl
    obtain ⟨es, clock, hq⟩ := h.obj
    unfold Holds at he
    rw [he] at hq; cases hq
  have hml := h.lt
  go_enter Try.func51, Try.ntmps51
  go_wp2_with (first
    | (at_range; refine wpList_rangeV rfl _ rfl rfl (mo := some m) h ?_; intro w0 cnt0 hrg0 hB0 hs0)
    | go_in)
  go_frame
  go_loopw [4, 5, 8] (fun _ _ _ wr => ∃ (lf : Nat → Bool) (ct : Nat), RangV wr w.heap.size (cutLf M edge lf) lf ct (some m) ∧ OnlyS m none w wr) (fun _ _ _ wr => leftV wr w.heap.size (some m))
  case atStart =>
    exact ⟨liveB M, _, by rw [cutLf_start M edge]; exact hrg0, OnlyS.below hB0⟩
  case round =>
    obtain ⟨lf, ct, hrg, hO⟩ := hrel
    go_wp2_with (first
      | (at_next; refine wpList_nextV rfl _ rfl rfl hrg ?_ ?_)
      | go_in)
    · intro hl0
      have hm := hrg.map
      rw [cutLf_end hl0] at hm
      go_wp2_with fail
      go_end0
      exact ⟨rfl, hm, hO⟩
    · intro u w2 ct2 hu hlv hlf hrg2 hlt hO2 hsz hen
      clear hsz
      have hC := IsC.mk (atU (cutLf M edge lf) u)
      generalize contA (atU (cutLf M edge lf) u) = cs at hen hC ⊢
      have hZ := IsC.mk fun _ => false
      obtain ⟨W3, hW⟩ : ∃ W3, World.alloc w2 (.cells (contA fun _ => false) 76) = W3 := ⟨_, rfl⟩
      have h1 : Holds W3 w2.heap.size 76 (contA fun _ => false) := by rw [← hW]; exact Holds.new _ _ _
      have hB3 : Below w2.heap.size w2 W3 := by rw [← hW]; exact below_new1 _ _
      have hOn : OnlyS m none w w2 := ⟨hO2.os.trans hO.os, hO2.tape.trans hO.tape, hO2.output.trans hO.output, Nat.le_trans hO.size hO2.size, fun k hk h1 h2 => (hO2.block k (Nat.lt_of_lt_of_le hk hO.size) (by omega)).trans (hO.block k hk h1 h2)⟩
      have hbe : Holds w2 be 3 #[.int .i64 (edge : Nat)] := by
        have := he.lt
        unfold Holds at he ⊢
        rw [hOn.block be this (fun e => hne e.symm) (by simp)]
        exact he
      rw [zeroC] at hW
      have hct := fun (W : World) (hW : Holds W be 3 #[.int .i64 (edge : Nat)]) => cut1_any (u := u) (cs := cs) hW
      by_cases hue : u < edge
      · rw [← cutLf_keep (M := M) (lf := lf) hue] at hrg2
        have hde : decide (edge ≤ u) = false := decide_eq_false (by omega)
        rw [hde] at hct
        go_wp2_with (first
          | (refine wpList_stK rfl _ _ rfl rfl rfl h1 hC hZ ?_; intro W4 h2 hO4 hs4; clear hs4; have hB4 : Below w2.heap.size w2 W4 := Only.fresh hB3 hO4 (Nat.le_refl _))
          | (refine wpList_ldK rfl _ rfl rfl h2 hC ?_)
          | (go_at_call 52; refine (hct W4 (below_holds hB4 hbe)).mono ?_; rintro e w5 ⟨rfl, hB5⟩))
        have hB25 := below_new hB4 hB5
        have hrg5 := hrg2.below hB25
        go_roundw
        case rel => exact ⟨_, ct2, hrg5, hOn.trans (Newer.refl _ _) (OnlyS.below hB25)⟩
        case measure => rw [hrg5.left, hrg.left]; exact hlt
      · have hde : decide (edge ≤ u) = true := decide_eq_true (by omega)
        rw [hde] at hct
        go_wp2_with (first
          | (refine wpList_stK rfl _ _ rfl rfl rfl h1 hC hZ ?_; intro W4 h2 hO4 hs4; clear hs4; have hB4 : Below w2.heap.size w2 W4 := Only.fresh hB3 hO4 (Nat.le_refl _))
          | (refine wpList_ldK rfl _ rfl rfl h2 hC ?_)
          | (go_at_call 52; refine (hct W4 (below_holds hB4 hbe)).mono ?_; rintro e w5 ⟨rfl, hB5⟩; have hB25 := below_new hB4 hB5; have hrg5 := hrg2.below hB25)
          | (at_delete; refine wpList_delV rfl _ _ rfl rfl rfl hu hrg5 ?_; intro w6 ct6 hrg6 hle6 hO6; go_frame))
        rw [cutLf_drop hue] at hrg6
        have e2 : (fun v => (lf v && !decide (v = u)) && !decide (v = u)) = fun v => lf v && !decide (v = u) := by
          funext v
          cases lf v <;> cases decide (v = u) <;> rfl
        rw [e2] at hrg6
        go_roundw
        case rel =>
          refine ⟨_, ct6, hrg6, (hOn.trans (Newer.refl _ _) (OnlyS.below hB25)).trans (Newer.refl _ _) (OnlyS.only hO6)⟩
        case measure => rw [hrg6.left, hrg.left]; omega
end Go.Proofs.Ytdfpnpjdiebniaa
