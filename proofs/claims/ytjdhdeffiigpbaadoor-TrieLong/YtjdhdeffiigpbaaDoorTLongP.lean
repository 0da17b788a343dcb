/-
  Two pairs' node, by hand.
-/
import Derived.Test.YtjdhdeffiigpbaaDoorTMadeW
import Derived.Test.YtjdhdeffiigpbaaDoorTAwake
namespace Go.Proofs.YtjdhdeffiigpbaaDoor
open Go Go.RowKit Nb

section
variable {P : Program} {ops : Array Oper} {C : World → Prop}
theorem cq_neqS {rest : List Oper} {op : Oper} {a : Act} {Q : Act → Prop} (t t' : TypeId) (x y : Operand) (ho : op.op = .binOp .neq t x y t')
    (xs ys : Array Value) (hx : a.eval x = .agg xs) (hy : a.eval y = .agg ys) (hw : Region.wanted op (yielded ops a.tmps) = true) (r : Bool) (hg : P.eqGuardType P.depth t = false) (he : ∀ w, C w → (Op.equalIn 10000 t (.agg xs) (.agg ys)).run P w = .ok r w)
    (h : wpQuiet P ops C Q rest (a.put op.dst (.bool !r))) : wpQuiet P ops C Q (op :: rest) a :=
  cq_val hw (.bool !r) (fun w hC => by
    unfold execOp
    have h1 := run_eqGuard_agg (P := P) w .neq t x y xs ys hg
    have h2 := run_neq_struct (P := P) w t xs ys
    rw [he w hC] at h2
    simp only [ho, hx, hy, Sem.run_bind, Sem.run_pure, h1, h2, Result.andThen_ok]) h
end
def lfT (p : Nat) (x : Pr) : ByteArray := ⟨(leafL ((kb x).drop (p + 1)) (vb x)).toArray⟩
def refT (p : Nat) (x : Pr) : ByteArray := ⟨(refN (lfT p x).data.toList).toArray⟩
def longR (p : Nat) (a b : Pr) (i j : Nat) : ByteArray := if 1 < i ∧ j = nibAt p b then refT p b else if 0 < i ∧ j = nibAt p a then refT p a else ⟨#[]⟩
theorem longR_zero (p : Nat) (a b : Pr) : strA 16 (longR p a b 0) = strA 16 fun _ => ⟨#[]⟩ := strA_congr fun j _ => by
  unfold longR; rw [if_neg (by omega), if_neg (by omega)]
theorem longR_a (p : Nat) (a b : Pr) (h : nibAt p a < 16) : strA 16 (longR p a b 1) = (strA 16 (longR p a b 0)).setIfInBounds (nibAt p a) (.string (refT p a)) := by
  rw [strA_set 16 _ _ h]
  refine strA_congr fun j _ => ?_
  unfold longR
  by_cases e : j = nibAt p a <;> simp [e]
theorem longR_b (p : Nat) (a b : Pr) (h : nibAt p b < 16) : strA 16 (longR p a b 2) = (strA 16 (longR p a b 1)).setIfInBounds (nibAt p b) (.string (refT p b)) := by
  rw [strA_set 16 _ _ h]
  refine strA_congr fun j _ => ?_
  unfold longR
  by_cases e : j = nibAt p b <;> simp [e]
theorem longR_size (p : Nat) (a b : Pr) (i j : Nat) : (longR p a b i j).size ≤ 41 := by
  have h : ∀ x, (refT p x).size ≤ 41 := fun x => refN_len _
  unfold longR
  split
  · exact h b
  · split
    · exact h a
    · decide
theorem two_facts {m : Nat} {a b : Pr} (hm : May m [a, b]) : pre (kb a) (kb b) < m ∧ Lcp [a, b] (pre (kb a) (kb b)) ∧ nibAt (pre (kb a) (kb b)) a ≠ nibAt (pre (kb a) (kb b)) b := by
  have hne : kb a ≠ kb b := by
    have := hm.apart
    exact (List.pairwise_cons.1 this).1 b List.mem_cons_self
  have ha : a ∈ [a, b] := List.mem_cons_self
  have hb : b ∈ [a, b] := by simp
  have hlt := pre_lt hm ha hb hne
  have hat := pre_at hm ha hb hne
  refine ⟨hlt, ⟨?_, a, ha, b, hb, hat⟩, fun e => hat (nibAt_eq hm hlt ha hb e)⟩
  intro x hx y hy
  have ht := pre_take (kb a) (kb b)
  simp only [List.mem_cons, List.not_mem_nil, or_false] at hx hy
  rcases hx with rfl | rfl <;> rcases hy with rfl | rfl
  · rfl
  · exact ht
  · exact ht.symm
  · rfl
theorem node_two {m : Nat} {a b : Pr} (hm : May m [a, b]) : node 0 [a, b] = if 0 < pre (kb a) (kb b) then extL ((kb a).take (pre (kb a) (kb b))) (refN (brL fun c => (longR (pre (kb a) (kb b)) a b 2 c).data.toList)) else brL fun c => (longR (pre (kb a) (kb b)) a b 2 c).data.toList := by
  obtain ⟨hlt, hl, hn⟩ := two_facts hm
  obtain ⟨q, hq⟩ : ∃ q, pre (kb a) (kb b) = q := ⟨_, rfl⟩
  rw [hq] at hlt hl hn ⊢
  rw [node_many hm hl (p := a) List.mem_cons_self, List.drop_zero]
  have e : (brL (kids q [a, b])) = brL fun c => (longR q a b 2 c).data.toList := by
    refine brL_congr fun c _ => ?_
    unfold kids longR atN
    by_cases e1 : nibAt q b = c
    · have e2 : nibAt q a ≠ c := fun h => hn (h.trans e1.symm)
      have : List.filter (fun x => nibAt q x == c) [a, b] = [b] := by simp [e1, e2]
      rw [this, if_neg (by simp), if_pos ⟨by omega, e1.symm⟩, node_one]; rfl
    · by_cases e2 : nibAt q a = c
      · have : List.filter (fun x => nibAt q x == c) [a, b] = [a] := by simp [e1, e2]
        rw [this, if_neg (by simp), if_neg (fun h => e1 h.2.symm), if_pos ⟨by omega, e2.symm⟩, node_one]; rfl
      · have : List.filter (fun x => nibAt q x == c) [a, b] = [] := by simp [e1, e2]
        rw [this, if_pos rfl, if_neg (fun h => e1 h.2.symm), if_neg (fun h => e2 h.2.symm)]
  rw [e]
end Go.Proofs.YtjdhdeffiigpbaaDoor
