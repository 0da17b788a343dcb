/-
  What nibbles hands out: a mask's nibbles, rising; and how many Count counts.
-/
import Derived.Test.YtbidoangdnmjfaaDoorMTzW
import Derived.Test.YtbidoangdnmjfaaDoorGSeq
import Derived.Shelf.RegionOpen
namespace Go.Proofs.YtbidoangdnmjfaaDoor
open Go Go.RowKit
attribute [local go_sem] Oper.semAt_some

theorem grown_below {w w' : World} (h : Below w.heap.size w w') : w.grownBy w' none := ⟨h.os, h.tape, h.output, h.size, fun i hi _ => h.block i hi⟩
theorem OwnFrom.grow {β : Type} {B : Nat} {I : β → World → Prop} (h : OwnFrom B I) {s : β} {w w' : World} (hs : I s w) (hb : Below w.heap.size w w') : I s w' :=
  h s w w' none hs (grown_below hb) (fun r e => by cases e)
theorem DbAt.same {w w' : World} (h : DbAt w) (hb : w'.heap[0]? = w.heap[0]?) : DbAt w' := fun j hj => by
  have h1 := h j hj
  unfold World.cell? at h1 ⊢
  simp only [hb]
  exact h1
theorem low_next {r : Nat} (h0 : r ≠ 0) (hr : r < 65536) : bits BinOp.and IntKind.u16 (r : Int) ((r : Int) - 1) = ((r &&& (r - 1) : Nat) : Int) := by
  have e : (r : Int) - 1 = ((r - 1 : Nat) : Int) := by omega
  rw [e, and_u16 r _ hr (by omega)]

set_option maxRecDepth 8000 in
theorem nibs_in {m : Nat} (hm : m < 65536) (b l : Nat) (J Jx : List Nat → World → Prop) (W : World) (hb : Holds W b 22 #[.int .u16 (m : Nat)]) (hT : DbAt W) (_hJ : OwnFrom W.heap.size J)
    (hY : ∀ pre x rest W1, nibs m = pre ++ x :: rest → J pre W1 → YieldAt Fence.wide 0 Tryd.prog l #[.int .i64 (x : Nat)] W1 fun e W' =>
      (e = .returned (.bool true) ∧ J (pre ++ [x]) W' ∧ KeepB (fun k => k = b ∨ k = 0) W1 W') ∨ (e = .returned (.bool false) ∧ Jx (pre ++ [x]) W'))
    (h0 : J [] W) :
    CallsIn Fence.wide 1 Tryd.prog 37 #[.func (.yield l) #[] #[], .pointer (some ⟨b, 0, none⟩)] W fun e W' => (∃ v, e = .returned v) ∧ (J (nibs m) W' ∨ ∃ pre x rest, nibs m = pre ++ x :: rest ∧ Jx (pre ++ [x]) W') := by
  have hc : W.cell? ⟨b, 0, none⟩ = some (.int .u16 (m : Nat)) := hb.cell 0
  have HY : Hid (∀ pre x rest W1, nibs m = pre ++ x :: rest → J pre W1 → YieldAt Fence.wide 0 Tryd.prog l #[.int .i64 (x : Nat)] W1 fun e W' =>
      (e = .returned (.bool true) ∧ J (pre ++ [x]) W' ∧ KeepB (fun k => k = b ∨ k = 0) W1 W') ∨ (e = .returned (.bool false) ∧ Jx (pre ++ [x]) W')) := hY
  clear hY hb
  refine callsIn_of_wp Tryd.func37 rfl trivial ?_ rfl
  simp only [Tryd.ntmps37, List.size_toArray, List.length_cons, List.length_nil, Nat.reduceAdd, Nat.reduceSub, Array.replicate_succ, Array.replicate_zero, List.push_toArray, List.append_toArray, List.nil_append, List.cons_append]
  gi_wp2
  gi_loopw [3] (fun y wr => ∃ (r : Nat) (pre : List Nat), y = .int .u16 (r : Nat) ∧ r < 65536 ∧ nibs m = pre ++ nibs r ∧ J pre wr ∧ DbAt wr ∧ W.heap.size ≤ wr.heap.size) (fun y _ => (intOf y).toNat)
  case atStart => exact ⟨m, [], rfl, hm, rfl, h0, hT, Nat.le_refl _⟩
  case round =>
    clear hc hT h0
    obtain ⟨r, pre, rfl, hr, hL, hj, hT, hsz⟩ := hrel
    by_cases hz : r = 0
    · have hri : ((r : Int) == 0) = true := by subst hz; rfl
      have HL : Hid (nibs m = pre) := by rw [hL, hz, nibs_zero, List.append_nil]; rfl
      clear hL hz
      gi_wp2
      go_end0
      exact ⟨⟨_, rfl⟩, .inl (by rw [HL.out]; exact hj)⟩
    · have hri : ((r : Int) == 0) = false := by simp; omega
      have htz := tz_any hz hr hT
      have hnx := low_next hz hr
      have hlt : r &&& (r - 1) < r := low_less hz
      have hr1 : (1 : Int) ≤ r := by omega
      have hr2 : (r : Int) ≤ 65535 := by omega
      have HL : Hid (nibs m = pre ++ lowM r :: nibs (r &&& (r - 1))) := by rw [hL, nibs_step hz hr]; rfl
      obtain ⟨fn, tmps, assign, body, hy, hR⟩ := HY.out pre (lowM r) _ wr HL.out hj
      generalize lowM r = k at htz HL hR hy
      generalize r &&& (r - 1) = r' at hnx hlt HL
      clear hL hz
      gi_wp2_with (refine ⟨trivial, ?_⟩; gi_at_call 38; refine (callsIn_wide.2 htz).mono ?_; rintro e w1 ⟨rfl, hw1⟩; subst hw1)
      refine hR.mono ?_
      rintro e W3 (⟨rfl, hJ3, hk3⟩ | ⟨rfl, hJx3⟩)
      · have hT3 := hT.same (hk3.same _ (.inr rfl))
        have hs3 := hk3.size
        clear hy hR htz
        gi_wp2
        go_roundw
        case rel => exact ⟨r', pre ++ [k], rfl, by omega, by rw [HL.out]; simp, hJ3, hT3, by omega⟩
        case measure => simp [intOf]; omega
      · clear hy hR htz
        gi_wp2
        refine bodyPost_ret (results_none rfl _ _ _) rfl ?_
        exact ⟨⟨_, rfl⟩, .inr ⟨pre, k, _, HL.out, hJx3⟩⟩
theorem nibs_seq {m : Nat} (hm : m < 65536) {b : Nat} {w0 : World} (hb : Holds w0 b 22 #[.int .u16 (m : Nat)]) (hT : DbAt w0) :
    SeqW Tryd.prog 37 #[.pointer (some ⟨b, 0, none⟩)] (fun x : Nat => .int .i64 (x : Nat)) (fun k => k = b ∨ k = 0) (nibs m) w0 := by
  intro l J Jx W hB hJ _ hy h0
  exact callsIn_wide.1 (nibs_in hm b l J Jx W (below_holds hB hb) (hT.below hB) hJ hy h0)
theorem nibbles_any {m : Nat} (w : World) : Calls Tryd.prog 28 #[.int .u16 (m : Nat)] w fun e w' => e = .returned (.func (.func 37) #[] #[.pointer (some ⟨w.heap.size, 0, none⟩)]) ∧ Holds w' w.heap.size 22 #[.int .u16 (m : Nat)] ∧ Below w.heap.size w w' := by
  go_enter Tryd.func28, Tryd.ntmps28
  go_wp2_with fail
  go_ret
  exact ⟨rfl, Holds.new _ _ _, below_new1 _ _⟩
end Go.Proofs.YtbidoangdnmjfaaDoor
