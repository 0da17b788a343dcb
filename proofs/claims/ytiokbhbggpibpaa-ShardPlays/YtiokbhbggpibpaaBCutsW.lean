/-
  BitsetCuts' walk.
-/
import Derived.Test.YtiokbhbggpibpaaBOrderW
namespace Go.Proofs.Ytiokbhbggpibpaa
open Go Go.RowKit Go.Maps

theorem wpQ_ldI {ops : Array Oper} {rest : List Oper} {op : Oper} {a : Act} {C : World → Prop} {Q : Act → Prop} (hgd : op.guard = none) (x : Operand) (ho : op.op = .load 3 x)
    {ad : Addr} (hx : a.eval x = .pointer (some ad)) {v : Value} (hh : ∀ w, C w → w.cell? ad = some v)
    (h : wpQuiet Try.prog ops C Q rest (a.put op.dst v)) : wpQuiet Try.prog ops C Q (op :: rest) a :=
  wpQuiet_step fun _ hK => by
    rw [if_pos (by simp [Region.wanted, hgd])]
    refine ⟨v, fun w hw => ?_, hK _ h⟩
    have hl : (loadVar 3 ad).run Try.prog w = .ok v w := by simp [go_sem, hh w hw]
    unfold Oper.quietAt execOp
    simp only [ho, hx, Instr.loadAt, Instr.sureAddr, Sem.run_bind, Sem.run_pure, Result.andThen_ok, hl]
    exact ⟨rfl, rfl⟩

theorem View.empty {w : World} {s : Value} {M : Nat → Bool} (h : View w s none M) : M = fun _ => false := funext h.map
theorem cut_any {w : World} {s : Value} {mo : Option Nat} {M : Nat → Bool} (h : View w s mo M) (fr : Int) (hfr : fr ≤ 9223372036854775807) :
    Calls Try.prog 30 #[s, .int .i64 fr] w fun e w' => e = .returned (.int .i64 ((card M : Nat) - (card (cutM M fr.toNat) : Nat) : Int)) ∧ View w' s mo (cutM M fr.toNat) ∧ OnlyM mo w w' := by
  cases mo with
  | some m => exact cut_some h fr hfr
  | none =>
    refine (cut_none h fr hfr).mono ?_
    rintro e w' ⟨rfl, hv, hB⟩
    have he := h.empty
    have hc : cutM M fr.toNat = M := by subst he; rfl
    rw [hc]
    exact ⟨by simp, hv, OnlyM.below hB⟩

theorem mem_cut {M : Nat → Bool} (hM : ∀ n, M n = true → n < 2147483648) (f : Nat) : memFrom (cutM M f) 0 = (memFrom M 0).filter fun x => decide (x < f) := by
  have hb : ∀ n, cutM M f n = true → n < 2147483648 := fun n h => hM n (by unfold cutM at h; simp at h; exact h.1)
  refine eq_of_rising (memFrom_rises _ _) (List.Pairwise.filter _ (memFrom_rises _ _)) fun n => ?_
  rw [mem_memFrom hb, List.mem_filter, mem_memFrom hM]
  unfold cutM
  simp
theorem card_cut {M : Nat → Bool} (hM : ∀ n, M n = true → n < 2147483648) (f : Nat) : card (cutM M f) = (memFrom M 0).countP fun x => decide (x < f) := by
  rw [card_len, mem_cut hM, List.countP_eq_length_filter]
theorem card_cut0 (M : Nat → Bool) : card (cutM M 0) = 0 := by
  have : cutM M 0 = fun _ => false := by funext n; unfold cutM; simp
  rw [this, card_len]
  cases h : memFrom (fun _ => false) 0 with
  | nil => rfl
  | cons a l =>
    have := (mem_memFrom (M := fun _ => false) (by simp) (f := 0) (n := a)).1 (by rw [h]; simp)
    simp at this
theorem bytes_cut0 (M : Nat → Bool) : bytesM (cutM M 0) = [] := by
  unfold bytesM
  cases h : uppers (cutM M 0) 0 with
  | nil => rfl
  | cons a l =>
    obtain ⟨_, _, x, _, hx⟩ := mem_uppers.1 (by rw [h]; simp : a ∈ uppers (cutM M 0) 0)
    unfold cutM at hx
    simp at hx
theorem least_cut {M : Nat → Bool} {f n : Nat} {b : Bool} (h : LeastOf (cutM M f) f n b) : b = false := by
  cases b with
  | false => rfl
  | true =>
    obtain ⟨h1, h2, _⟩ := h
    unfold cutM at h1
    simp at h1
    omega
theorem hasI_cut {M : Nat → Bool} {f : Nat} {x : Nat} {q : Int} (hx : M x = true) (hf : q.toNat = f) : hasI (cutM M f) (x : Int) = decide ((x : Int) < q) := by
  rw [hasI_pos]
  unfold cutM
  rw [hx, Bool.true_and]
  exact decide_eq_decide.2 (by omega)
/-- A slice that is the call's own. -/
theorem OwnInts.ints {w : World} {base : Nat} {v : Value} {L : List Nat} (h : OwnInts w base v L) : ∃ p c, v = .slice p L.length c ∧ ∀ i x, L[i]? = some x → ∃ g, p = some ⟨g, 0, none⟩ ∧ w.cell? ⟨g, i, none⟩ = some (.int .i64 (x : Nat)) ∧ ∃ cs, Holds w g 3 cs ∧ cs[i]? = some (Value.int .i64 (x : Nat)) := by
  have hc := h
  rcases h.2 with ⟨hv, h0⟩ | ⟨g, cap, cur, hv, _, hb, _⟩
  · refine ⟨none, 0, by rw [hv, h0], fun i x hi => ?_⟩
    have := (List.getElem?_eq_some_iff.1 hi).1
    omega
  · subst hv
    refine ⟨_, cap, rfl, fun i x hi => ?_⟩
    have e := hc.cells (g := g) rfl i (.int .i64 (x : Nat)) (by rw [List.getElem?_map, hi]; rfl)
    rw [Addr.add_mid, Nat.zero_add] at e
    refine ⟨g, rfl, e, cur, hb, ?_⟩
    have hh : Holds w g 3 cur := hb
    exact (hh.cell i).symm.trans e
theorem countP_take {L : List Nat} {P : Nat → Bool} {i x : Nat} (h : L[i]? = some x) : (L.take (i + 1)).countP P = (L.take i).countP P + (if P x then 1 else 0) := by
  have hi := (List.getElem?_eq_some_iff.1 h).1
  rw [List.take_succ_eq_append_getElem hi, List.countP_append]
  rw [List.getElem?_eq_getElem hi] at h
  injection h with h
  rw [h]
  cases hp : P x <;> simp [hp]
end Go.Proofs.Ytiokbhbggpibpaa
