/-
  A region that draws its order: operations that look at no memory may be taken first, wherever they stand; then the rest, of which one alone may come up at a time. Plain; nothing of the program.
-/
import Derived.Test.YtbidoangdnmjfaaDoorDQTail
namespace Go.Proofs.YtbidoangdnmjfaaDoor
open Go
section
variable {P : Program} {ops : Array Oper} {md : Region.Mode}

/-- An operation that hands back a value or halts, and calls nothing. -/
def plainOp (o : Oper) : Bool := match o.op with
  | .move _ | .assign _ | .binOp .. | .unOp .. | .index .. | .slice .. | .extract .. | .convert .. | .fieldAddr .. => true
  | _ => false

theorem run_value {s : Sem Value} {w w' : World} {n : Next} (h : (do pure (Next.value (← s)) : Sem Next).run P w = .ok n w') : ∃ v, n = .value v := by
  rw [Sem.run_bind] at h
  cases hs : s.run P w with
  | ok v w1 => rw [hs] at h; simp only [Result.andThen_ok, Sem.run_pure] at h; injection h with h1 _; exact ⟨v, h1.symm⟩
  | halt x w1 => rw [hs] at h; simp [Result.andThen] at h

theorem plain_value {o : Oper} {ρ : Operand → Value} {w w' : World} {n : Next} (hp : plainOp o = true) (h : (execOp ρ o).run P w = .ok n w') : ∃ v, n = .value v := by
  unfold plainOp at hp
  unfold execOp at h
  split at hp
  all_goals first | (cases hp; done) | skip
  all_goals (rename_i ho; simp only [ho] at h)
  all_goals first
    | exact run_value h
    | (rw [Sem.run_pure] at h; injection h with h1 _; exact ⟨_, h1.symm⟩)

theorem yields_of_quiet {o : Oper} {a : Act} {v : Value} (hp : plainOp o = true) (hw : Region.wanted o (yielded ops a.tmps) = true) (h : ∀ w, (fun _ => True) w → o.quietAt P a (fun _ => True) w v) : Yields P ops o v a := by
  refine .inl ⟨hw, fun w => ?_⟩
  have h1 := h w trivial
  unfold Oper.quietAt at h1
  cases hr : (execOp a.eval o).run P w with
  | ok n w' =>
    obtain ⟨u, rfl⟩ := plain_value hp hr
    rw [hr] at h1
    simp only [Oper.quietUpon] at h1
    rw [h1.1, h1.2]
  | halt x w' => rw [hr] at h1; simp [Oper.quietUpon] at h1

/-- One at a time, in this order. -/
def permSeq (md : Region.Mode) (ops : Array Oper) : List Nat → Array Bool → Bool
  | [], seen => (Region.ready md ops seen).isEmpty
  | k :: t, seen => decide (Region.ready md ops seen = [k]) && permSeq md ops t (seen.setIfInBounds k true)
/-- These first, in this order; then one at a time. -/
def permHead (md : Region.Mode) (ops : Array Oper) (tl : List Nat) : List Nat → Array Bool → Bool
  | [], seen => permSeq md ops tl seen
  | k :: t, seen => (Region.ready md ops seen).contains k && Region.free md ops seen k && plainOp (ops[k]?.getD default) && permHead md ops tl t (seen.setIfInBounds k true)
/-- The operations of these numbers. -/
def pickOps (ops : Array Oper) (ks : List Nat) : List Oper := ks.map fun k => ops[k]?.getD default

theorem ready_get {seen : Array Bool} {k : Nat} (h : k ∈ Region.ready md ops seen) : ops[k]? = some (ops[k]?.getD default) := by
  obtain ⟨_, o, ho, _⟩ := mem_ready.1 h
  rw [ho]; rfl

theorem wpAny_permSeq {Q : Exit → Act → World → Prop} : ∀ (tl : List Nat) (seen : Array Bool) (a : Act) (w : World), permSeq md ops tl seen = true → wpList P ops Q (pickOps ops tl) a w → wpAny P md ops Q tl.length seen a w
  | [], _, _, _, hB, h => ⟨by simpa [permSeq] using hB, h⟩
  | k :: t, seen, a, w, hB, h => by
    simp only [permSeq, Bool.and_eq_true, decide_eq_true_eq] at hB
    refine ⟨fun h1 => (by rw [hB.1] at h1; cases h1), fun i hi => ?_⟩
    rw [hB.1] at hi
    have hik : i = k := by simpa using hi
    subst hik
    have h0 := ready_get (md := md) (ops := ops) (seen := seen) (k := i) (by rw [hB.1]; simp)
    have hw : wpOp P ops Q i (wpList P ops Q (pickOps ops t)) a w := by unfold wpOp; rw [h0]; exact h
    exact wpOp_mono (fun a' w' h' => wpAny_permSeq t _ a' w' hB.2 h') hw

theorem wpAny_perm {Q : Exit → Act → World → Prop} {w : World} {tl : List Nat} (hs : Region.noSelect ops = true) (hQ : ∀ c a w d v, Q (.panic c) (Act.put a d v) w → Q (.panic c) a w) :
    ∀ (hd : List Nat) (seen : Array Bool) (a : Act), permHead md ops tl hd seen = true → wpQuiet P ops (fun _ => True) (fun a' => wpList P ops Q (pickOps ops tl) a' w) (pickOps ops hd) a →
      wpAny P md ops Q (hd.length + tl.length) seen a w
  | [], seen, a, hB, h => by
    rw [List.length_nil, Nat.zero_add]
    exact wpAny_permSeq tl seen a w hB h
  | k :: t, seen, a, hB, h => by
    simp only [permHead, Bool.and_eq_true] at hB
    obtain ⟨⟨⟨hr, hf⟩, hp⟩, hB⟩ := hB
    have h0 := ready_get (md := md) (ops := ops) (seen := seen) (k := k) (by simpa using hr)
    rw [List.length_cons, show t.length + 1 + tl.length = t.length + tl.length + 1 by omega]
    unfold pickOps at h
    rw [List.map_cons] at h
    unfold wpQuiet at h
    by_cases hw : Region.wanted (ops[k]?.getD default) (yielded ops a.tmps) = true
    · rw [if_pos hw] at h
      obtain ⟨v, h1, h2⟩ := h
      exact wpAny_take h0 hs hf hr (fun c a w => hQ c a w _ _) (yields_of_quiet hp hw h1) (wpAny_perm hs hQ t _ _ hB h2)
    · rw [if_neg hw] at h
      exact wpAny_take h0 hs hf hr (fun c a w => hQ c a w _ _) (.inr ⟨by simpa using hw, rfl⟩) (wpAny_perm hs hQ t _ _ hB h)

theorem wp_region_perm {id : Nat} {Q : Exit → Act → World → Prop} {a : Act} {w : World} {l : List Oper} (hd tl : List Nat) (hm : P.follows .mixedOrders = true) (hs : Region.noSelect l.toArray = true)
    (hl : hd.length + tl.length = l.length) (hB : permHead .any l.toArray tl hd (Array.replicate l.length false) = true)
    (hQ : ∀ c a w d v, Q (.panic c) (Act.put a d v) w → Q (.panic c) a w)
    (h : wpQuiet P l.toArray (fun _ => True) (fun a' => wpList P l.toArray Q (pickOps l.toArray tl) a' w.drew) (pickOps l.toArray hd) a) : (Code.region id l.toArray true).wp P Q a w := by
  refine wp_region_any hm ?_
  have := wpAny_perm (P := P) (ops := l.toArray) (md := .any) (Q := Q) (w := w.drew) (tl := tl) hs hQ hd (Array.replicate l.length false) a hB h
  rw [hl] at this
  simpa using this
end
end Go.Proofs.YtbidoangdnmjfaaDoor
