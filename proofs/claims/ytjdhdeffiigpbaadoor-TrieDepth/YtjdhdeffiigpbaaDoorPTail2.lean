/-
  The law of PTail, with len among the operations that look at no memory.
-/
import Derived.Test.YtjdhdeffiigpbaaDoorPTail
namespace Go.Proofs.YtjdhdeffiigpbaaDoor.Nb
open Go
section
variable {P : Program} {ops : Array Oper} {md : Region.Mode}

/-- An operation that hands back a value or halts, and calls nothing. -/
def plainOp2 (o : Oper) : Bool := match o.op with
  | .call c => match c.callee with
    | .builtin .len => true
    | _ => false
  | _ => plainOp o

theorem plain_value2 {o : Oper} {ρ : Operand → Value} {w w' : World} {n : Next} (hp : plainOp2 o = true) (h : (execOp ρ o).run P w = .ok n w') : ∃ v, n = .value v := by
  unfold plainOp2 at hp
  split at hp
  · rename_i c ho
    split at hp
    · rename_i hb
      unfold execOp at h
      simp only [ho, resolve, hb, invoke, builtin, Sem.run_bind, Sem.run_pure, Result.andThen_ok] at h
      revert h
      generalize Sem.run P (Builtin.len_ _ _ _) w = r
      intro h
      cases r with
      | ok v w1 => simp only [Result.andThen_ok] at h; injection h with h1 _; exact ⟨v, h1.symm⟩
      | halt x w1 => simp [Result.andThen] at h
    · cases hp
  · exact plain_value hp h

theorem yields_of_quiet2 {o : Oper} {a : Act} {v : Value} (hp : plainOp2 o = true) (hw : Region.wanted o (yielded ops a.tmps) = true) (h : ∀ w, (fun _ => True) w → o.quietAt P a (fun _ => True) w v) : Yields P ops o v a := by
  refine .inl ⟨hw, fun w => ?_⟩
  have h1 := h w trivial
  unfold Oper.quietAt at h1
  cases hr : (execOp a.eval o).run P w with
  | ok n w' =>
    obtain ⟨u, rfl⟩ := plain_value2 hp hr
    rw [hr] at h1
    simp only [Oper.quietUpon] at h1
    rw [h1.1, h1.2]
  | halt x w' => rw [hr] at h1; simp [Oper.quietUpon] at h1

theorem wpAny_of_plain2 {Q : Exit → Act → World → Prop} {w : World} {tail : List Oper} (hs : Region.noSelect ops = true) (hQ : ∀ c a w d v, Q (.panic c) (Act.put a d v) w → Q (.panic c) a w) :
    ∀ (l : List Oper) (k : Nat) (listed : Array Bool) (a : Act), (∀ j, (l ++ tail)[j]? = ops[k + j]?) → l.all plainOp2 = true →
      Region.lexHead md ops tail.length l.length k listed = true → wpQuiet P ops (fun _ => True) (fun a' => wpList P ops Q tail a' w) l a →
      wpAny P md ops Q (l.length + tail.length) listed a w
  | [], k, listed, a, hl, _, hB, h => by
    rw [List.length_nil, Nat.zero_add]
    exact wpAny_of_seq tail k listed a w (by simpa using hl) hB h
  | o :: l, k, listed, a, hl, hp, hB, h => by
    have h0 : ops[k]? = some o := by simpa using (hl 0).symm
    simp only [List.length_cons, Region.lexHead, Bool.and_eq_true] at hB
    obtain ⟨⟨hr, hf⟩, hB⟩ := hB
    simp only [List.all_cons, Bool.and_eq_true] at hp
    have hl' : ∀ j, (l ++ tail)[j]? = ops[k + 1 + j]? := fun j => by
      have := hl (j + 1)
      simpa [Nat.add_assoc, Nat.add_comm 1 j] using this
    rw [List.length_cons, show l.length + 1 + tail.length = l.length + tail.length + 1 by omega]
    unfold wpQuiet at h
    by_cases hw : Region.wanted o (yielded ops a.tmps) = true
    · rw [if_pos hw] at h
      obtain ⟨v, h1, h2⟩ := h
      exact wpAny_take h0 hs hf hr (fun c a w => hQ c a w _ _) (yields_of_quiet2 hp.1 hw h1) (wpAny_of_plain2 hs hQ l (k + 1) _ _ hl' hp.2 hB h2)
    · rw [if_neg hw] at h
      exact wpAny_take h0 hs hf hr (fun c a w => hQ c a w _ _) (.inr ⟨by simpa using hw, rfl⟩) (wpAny_of_plain2 hs hQ l (k + 1) _ _ hl' hp.2 hB h)

/-- The law: the first n operations look at no memory; behind them one alone may come up at a time. -/
theorem wp_region_ptail2 {id : Nat} {Q : Exit → Act → World → Prop} {a : Act} {w : World} {l : List Oper} (n : Nat) (hm : P.follows .mixedOrders = true) (hs : Region.noSelect l.toArray = true)
    (hn : n ≤ l.length) (hp : (l.take n).all plainOp2 = true) (hB : Region.lexHead .any l.toArray (l.length - n) n 0 (Array.replicate l.length false) = true)
    (hQ : ∀ c a w d v, Q (.panic c) (Act.put a d v) w → Q (.panic c) a w)
    (h : wpQuiet P l.toArray (fun _ => True) (fun a' => wpList P l.toArray Q (l.drop n) a' w.drew) (l.take n) a) : (Code.region id l.toArray true).wp P Q a w := by
  refine wp_region_any hm ?_
  have hd : (l.drop n).length = l.length - n := List.length_drop
  have ht : (l.take n).length = n := by rw [List.length_take]; omega
  have := wpAny_of_plain2 (P := P) (ops := l.toArray) (md := .any) (Q := Q) (w := w.drew) (tail := l.drop n) hs hQ (l.take n) 0 (Array.replicate l.length false) a
    (fun j => by rw [List.take_append_drop]; simp) hp (by rw [hd, ht]; exact hB) h
  rw [ht, hd, show n + (l.length - n) = l.length by omega] at this
  simpa using this
end
end Go.Proofs.YtjdhdeffiigpbaaDoor.Nb
