/-
  A region that draws its order: operations that look at no memory, walked first as quiet ones in the order of the text, then the rest, of which one alone may come up at a time.
-/
import Derived.Test.YtadpopjhhanapaaProg
import Derived.Below
import Derived.WalkKit
import Derived.WalkSpells
import Derived.WalkLawsBesides
import Derived.Laws.Bits64b
import Derived.Laws.Rows
import Derived.Deep.Draws
import Derived.StillTail
import Derived.Deep.Quiet
import Derived.Deep.QuietTactic
import Derived.BigQuiet
namespace Go.Proofs.Ytadpopjhhanapaa
open Go
section
variable {P : Program} {ops : Array Oper} {md : Region.Mode}

/-- An operation that hands back a value or halts, and calls nothing. -/
def plainOp (o : Oper) : Bool := match o.op with
  | .move _ | .assign _ | .binOp .. | .unOp .. | .index .. | .slice .. | .extract .. | .convert .. | .fieldAddr .. => true
  | _ => false

theorem run_value {s : Sem Value} {w w' : World} {n : Next} (h : (do pure (Next.value (← s)) : Sem Next).run P w = .ok n w') : ∃ v, n = .value v := by
  rw [Sem.run_bind] at h
  cases hs : s.run P w with
  | ok v w1 => rw [hs] at h; simp only [Result.andThen_ok, Sem.run_pure] at h; injection h with h1 _; exact ⟨v, h1.symm⟩
  | halt x w1 => rw [hs] at h; simp [Result.andThen] at h

theorem plain_value {o : Oper} {ρ : Operand → Value} {w w' : World} {n : Next} (hp : plainOp o = true) (h : (execOp ρ o).run P w = .ok n w') : ∃ v, n = .value v := by
  unfold plainOp at hp
  unfold execOp at h
  split at hp
  all_goals first | (cases hp; done) | skip
  all_goals (rename_i ho; simp only [ho] at h)
  all_goals first
    | exact run_value h
    | (rw [Sem.run_pure] at h; injection h with h1 _; exact ⟨_, h1.symm⟩)

theorem yields_of_quiet {o : Oper} {a : Act} {v : Value} (hp : plainOp o = true) (hw : Region.wanted o (yielded ops a.tmps) = true) (h : ∀ w, (fun _ => True) w → o.quietAt P a (fun _ => True) w v) : Yields P ops o v a := by
  refine .inl ⟨hw, fun w => ?_⟩
  have h1 := h w trivial
  unfold Oper.quietAt at h1
  cases hr : (execOp a.eval o).run P w with
  | ok n w' =>
    obtain ⟨u, rfl⟩ := plain_value hp hr
    rw [hr] at h1
    simp only [Oper.quietUpon] at h1
    rw [h1.1, h1.2]
  | halt x w' => rw [hr] at h1; simp [Oper.quietUpon] at h1

theorem wpAny_of_plain {Q : Exit → Act → World → Prop} {w : World} {tail : List Oper} (hs : Region.noSelect ops = true) (hQ : ∀ c a w d v, Q (.panic c) (Act.put a d v) w → Q (.panic c) a w) :
    ∀ (l : List Oper) (k : Nat) (listed : Array Bool) (a : Act), (∀ j, (l ++ tail)[j]? = ops[k + j]?) → l.all plainOp = true →
      Region.lexHead md ops tail.length l.length k listed = true → wpQuiet P ops (fun _ => True) (fun a' => wpList P ops Q tail a' w) l a →
      wpAny P md ops Q (l.length + tail.length) listed a w
  | [], k, listed, a, hl, _, hB, h => by
    rw [List.length_nil, Nat.zero_add]
    exact wpAny_of_seq tail k listed a w (by simpa using hl) hB h
  | o :: l, k, listed, a, hl, hp, hB, h => by
    have h0 : ops[k]? = some o := by simpa using (hl 0).symm
    simp only [List.length_cons, Region.lexHead, Bool.and_eq_true] at hB
    obtain ⟨⟨hr, hf⟩, hB⟩ := hB
    simp only [List.all_cons, Bool.and_eq_true] at hp
    have hl' : ∀ j, (l ++ tail)[j]? = ops[k + 1 + j]? := fun j => by
      have := hl (j + 1)
      simpa [Nat.add_assoc, Nat.add_comm 1 j] using this
    rw [List.length_cons, show l.length + 1 + tail.length = l.length + tail.length + 1 by omega]
    unfold wpQuiet at h
    by_cases hw : Region.wanted o (yielded ops a.tmps) = true
    · rw [if_pos hw] at h
      obtain ⟨v, h1, h2⟩ := h
      exact wpAny_take h0 hs hf hr (fun c a w => hQ c a w _ _) (yields_of_quiet hp.1 hw h1) (wpAny_of_plain hs hQ l (k + 1) _ _ hl' hp.2 hB h2)
    · rw [if_neg hw] at h
      exact wpAny_take h0 hs hf hr (fun c a w => hQ c a w _ _) (.inr ⟨by simpa using hw, rfl⟩) (wpAny_of_plain hs hQ l (k + 1) _ _ hl' hp.2 hB h)

/-- The law: the first n operations look at no memory; behind them one alone may come up at a time. -/
theorem wp_region_ptail {id : Nat} {Q : Exit → Act → World → Prop} {a : Act} {w : World} {l : List Oper} (n : Nat) (hm : P.follows .mixedOrders = true) (hs : Region.noSelect l.toArray = true)
    (hn : n ≤ l.length) (hp : (l.take n).all plainOp = true) (hB : Region.lexHead .any l.toArray (l.length - n) n 0 (Array.replicate l.length false) = true)
    (hQ : ∀ c a w d v, Q (.panic c) (Act.put a d v) w → Q (.panic c) a w)
    (h : wpQuiet P l.toArray (fun _ => True) (fun a' => wpList P l.toArray Q (l.drop n) a' w.drew) (l.take n) a) : (Code.region id l.toArray true).wp P Q a w := by
  refine wp_region_any hm ?_
  have hd : (l.drop n).length = l.length - n := List.length_drop
  have ht : (l.take n).length = n := by rw [List.length_take]; omega
  have := wpAny_of_plain (P := P) (ops := l.toArray) (md := .any) (Q := Q) (w := w.drew) (tail := l.drop n) hs hQ (l.take n) 0 (Array.replicate l.length false) a
    (fun j => by rw [List.take_append_drop]; simp) hp (by rw [hd, ht]; exact hB) h
  rw [ht, hd, show n + (l.length - n) = l.length by omega] at this
  simpa using this
end
theorem mixedP : Try.prog.follows .mixedOrders = true := by kernel_rfl
end Go.Proofs.Ytadpopjhhanapaa
