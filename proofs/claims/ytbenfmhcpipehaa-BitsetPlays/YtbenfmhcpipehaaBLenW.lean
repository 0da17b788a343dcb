/-
  What Len does.
-/
import Derived.Test.YtbenfmhcpipehaaBRange
namespace Go.Proofs.Ytbenfmhcpipehaa
open Go Go.RowKit Go.Maps

/-- What is still to come. -/
def restU (M lf : Nat → Bool) : Nat := sumU (fun u => if lf u then cnt (atU M u) else 0) NU
theorem restU_start (M : Nat → Bool) : restU M (liveB M) = card M := by
  unfold restU card
  refine sumU_congr fun u _ => ?_
  split
  · rfl
  · rename_i h
    have hd := dead_at (fun q => h (liveB_iff.2 q))
    unfold cnt
    refine (List.countP_eq_zero.2 fun l hl => ?_).symm
    rw [hd l (List.mem_range.1 hl)]; simp
theorem restU_end {M lf : Nat → Bool} (h : ∀ u, lf u = false) : restU M lf = 0 := by
  unfold restU
  rw [sumU_congr (h := fun _ => 0) (fun u _ => by rw [h]; rfl), sumU_zero]
theorem restU_step {M lf : Nat → Bool} {u : Nat} (hu : u < NU) (h : lf u = true) : restU M lf = restU M (fun v => lf v && !decide (v = u)) + cnt (atU M u) := by
  unfold restU
  rw [sumU_strike (g := fun v => if (lf v && !decide (v = u)) = true then cnt (atU M v) else 0) (u := u) (fun v hv => by simp [hv]) (by simp) hu]
  simp [h]

/-- Cells of a container. -/
def IsC (cs : Array Value) : Prop := ∃ p, cs = contA p
theorem IsC.mk (p : Nat → Bool) : IsC (contA p) := ⟨p, rfl⟩
theorem wpList_ldK {ops : Array Oper} {rest : List Oper} {op : Oper} {a : Act} {w : World} {Q : Exit → Act → World → Prop} (hgd : op.guard = none) (x : Operand) (ho : op.op = .load 74 x)
    {b : Nat} (hx : a.eval x = .pointer (some ⟨b, 0, none⟩)) {t : TypeId} {cs : Array Value} (hh : Holds w b t cs) (hc : IsC cs)
    (h : wpList Try.prog ops Q rest (a.put op.dst (.agg cs)) w) : wpList Try.prog ops Q (op :: rest) a w := by
  obtain ⟨p, rfl⟩ := hc
  exact wpList_ldC hgd x ho hx hh h
theorem wpList_stK {ops : Array Oper} {rest : List Oper} {op : Oper} {a : Act} {w : World} {Q : Exit → Act → World → Prop} (hgd : op.guard = none) (x y : Operand) (ho : op.op = .store 74 x y)
    {b : Nat} {cs : Array Value} (hx : a.eval x = .pointer (some ⟨b, 0, none⟩)) (hy : a.eval y = .agg cs)
    {t : TypeId} {old : Array Value} (hh : Holds w b t old) (hc : IsC cs) (ho' : IsC old)
    (h : ∀ w', Holds w' b t cs → Only b w w' → w'.heap.size = w.heap.size → wpList Try.prog ops Q rest (a.put op.dst undef) w') : wpList Try.prog ops Q (op :: rest) a w := by
  obtain ⟨p, rfl⟩ := hc
  obtain ⟨q, rfl⟩ := ho'
  exact wpList_stC hgd x y ho hx hy hh h

set_option maxRecDepth 8000 in
theorem len_any {w : World} {s : Value} {mo : Option Nat} {M : Nat → Bool} (h : View w s mo M) :
    Calls Try.prog 17 #[s] w fun e w' => e = .returned (.int .i64 (card M : Nat)) ∧ Below w.heap.size w w' := by
  have hh := held_any h
  have hcl := card_le M
  go_enter Try.func17, Try.ntmps17
  go_wp2_with (first
    | (go_at_call 41; refine hh.mono ?_; rintro e w1 ⟨rfl, rfl⟩)
    | (at_range; refine wpList_rangeV rfl _ rfl rfl h.map ?_; intro w0 cnt0 hrg0 hB0 hs0)
    | go_in)
  go_frame
  go_loopw [3, 5] (fun n _ wr => ∃ (k : Nat) (lf : Nat → Bool) (ct : Nat), n = .int .i64 (k : Nat) ∧ RangV wr w1.heap.size M lf ct mo ∧ k + restU M lf = card M ∧ Below w1.heap.size w1 wr) (fun _ _ wr => leftV wr w1.heap.size mo)
  case atStart => exact ⟨0, _, _, rfl, hrg0, by rw [restU_start]; omega, hB0⟩
  case round =>
    obtain ⟨k, lf, ct, rfl, hrg, hsum, hB⟩ := hrel
    go_wp2_with (first
      | (at_next; refine wpList_nextV rfl _ rfl rfl hrg ?_ ?_)
      | go_in)
    · intro hl0
      rw [restU_end hl0] at hsum
      go_wp2_with fail
      go_ret
      exact ⟨by rw [← hsum]; rfl, hB⟩
    · intro u w2 ct2 hu hlv hlf hrg2 hlt hO hsz hen
      clear hsz
      have hct := count5 (atU M u)
      have hC := IsC.mk (atU M u)
      generalize contA (atU M u) = cs at hen hct hC ⊢
      have hZ := IsC.mk fun _ => false
      obtain ⟨W3, hW⟩ : ∃ W3, World.alloc w2 (.cells (contA fun _ => false) 74) = W3 := ⟨_, rfl⟩
      have h1 : Holds W3 w2.heap.size 74 (contA fun _ => false) := by rw [← hW]; exact Holds.new _ _ _
      have hB3 : Below w2.heap.size w2 W3 := by rw [← hW]; exact below_new1 _ _
      have hst := restU_step (M := M) hu hlf
      have HS : Hid (k + restU M (fun v => lf v && !decide (v = u)) + cnt (atU M u) = card M) := by
        have : k + restU M (fun v => lf v && !decide (v = u)) + cnt (atU M u) = card M := by omega
        exact this
      have hkc : k + cnt (atU M u) ≤ 2147483648 := by have := HS.out; omega
      have hrlt := hrg2.lt
      clear hst hsum
      rw [zeroC] at hW
      go_wp2_with (first
        | (refine wpList_stK rfl _ _ rfl rfl rfl h1 hC hZ ?_; intro W4 h2 hO4 hs4)
        | (refine wpList_ldK rfl _ rfl rfl h2 hC ?_)
        | (go_at_call 45; refine (hct _).mono ?_; rintro e w5 ⟨rfl, hB5⟩))
      have hB4 : Below w2.heap.size w2 W4 := Only.fresh hB3 hO4 (Nat.le_refl _)
      have hB25 : Below w2.heap.size w2 w5 := below_new hB4 hB5
      have hrg5 := hrg2.below hB25
      have hBn : Below w1.heap.size w1 w5 := (Only.fresh hB hO (Nat.le_refl _)).trans (hB25.mono (by have := hB.size; have := hO.size; omega))
      go_roundw
      case rel => exact ⟨k + cnt (atU M u), _, _, by simp, hrg5, by have := HS.out; omega, hBn⟩
      case measure => rw [hrg5.left, hrg.left]; exact hlt
end Go.Proofs.Ytbenfmhcpipehaa
