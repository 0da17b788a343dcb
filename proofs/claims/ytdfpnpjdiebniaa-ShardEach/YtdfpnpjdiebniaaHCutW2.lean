/-
  What Cut does of chunks that are a set's.
-/
import Derived.Test.YtdfpnpjdiebniaaHAppW
namespace Go.Proofs.Ytdfpnpjdiebniaa
open Go Go.RowKit

/-- What is below a number. -/
def lessF (f : Int) (l : List Nat) : List Nat := l.filter fun x : Nat => decide ((x : Int) < f)
theorem lessF_sub (f : Int) (l : List Nat) : (lessF f l).Sublist l := List.filter_sublist
theorem cut_ofN {p : List Nat} (hp : Nums p) (f : Int) : memFrom (cutM (ofN p) f.toNat) 0 = lessF f p := by
  rw [← cut_eq (ofN_bound hp.bound) f, hp.mem]
  rfl
theorem less_all {f : Int} {l : List Nat} (h : ∀ x ∈ l, (x : Int) < f) : lessF f l = l := List.filter_eq_self.2 fun x hx => decide_eq_true (h x hx)
theorem less_app (f : Int) (a b : List Nat) : lessF f (a ++ b) = lessF f a ++ lessF f b := List.filter_append ..
theorem less_mem {f : Int} {l : List Nat} {x : Nat} (h : x ∈ lessF f l) : x ∈ l ∧ (x : Int) < f := by
  obtain ⟨h1, h2⟩ := List.mem_filter.1 h
  exact ⟨h1, of_decide_eq_true h2⟩
theorem less_flat {f : Int} : ∀ {ps : List (List Nat)}, (∀ p ∈ ps, lessF f p = []) → lessF f ps.flatten = []
  | [], _ => rfl
  | p :: ps, h => by
    rw [List.flatten_cons, less_app, h p List.mem_cons_self, less_flat fun q hq => h q (List.mem_cons_of_mem _ hq)]
    rfl
/-- The parts ahead of the last one that keeps a member stay. -/
theorem cut_split {ps : List (List Nat)} (hg : Good ps) {k : Nat} {p : List Nat} (hp : ps[k]? = some p) {f : Int} (hne : lessF f p ≠ []) (hr : ∀ (i : Nat) q, k < i → ps[i]? = some q → lessF f q = []) {L : List Ck} (hL : SplitOf (lessF f p) L) :
    SplitOf (lessF f ps.flatten) (fulls (ps.take k) ++ L) ∧ (chk ps).take k = fulls (ps.take k) := by
  have hk := (List.getElem?_eq_some_iff.1 hp).1
  have hdec : ps = ps.take k ++ (p :: ps.drop (k + 1)) := by
    rw [← (List.getElem?_eq_some_iff.1 hp).2, ← List.drop_eq_getElem_cons hk, List.take_append_drop]
  obtain ⟨x, hx⟩ := List.exists_mem_of_ne_nil _ hne
  obtain ⟨hxp, hxf⟩ := less_mem hx
  have h1 : lessF f (ps.take k).flatten = (ps.take k).flatten := less_all fun y hy => by
    obtain ⟨q, hq, hyq⟩ := List.mem_flatten.1 hy
    obtain ⟨i, hi⟩ := List.mem_iff_getElem?.1 hq
    rw [List.getElem?_take] at hi
    split at hi
    · have := hg.rise (by assumption) hi hp y hyq x hxp
      omega
    · cases hi
  have h2 : lessF f (ps.drop (k + 1)).flatten = [] := less_flat fun q hq => by
    obtain ⟨i, hi⟩ := List.mem_iff_getElem?.1 hq
    rw [List.getElem?_drop] at hi
    exact hr (k + 1 + i) q (by omega) hi
  have h3 : lessF f ps.flatten = (ps.take k).flatten ++ lessF f p := by
    rw [hdec, List.flatten_append, List.flatten_cons, less_app, less_app, ← List.append_assoc]
    have e : (ps.take k ++ p :: ps.drop (k + 1)).take k = ps.take k := by rw [← hdec]
    have e2 : (ps.take k ++ p :: ps.drop (k + 1)).drop (k + 1) = ps.drop (k + 1) := by rw [← hdec]
    rw [e, h1, h2, List.append_nil]
  refine ⟨?_, ?_⟩
  · rw [h3]
    refine splitOf_app (fun q hq => ?_) hL hne
    obtain ⟨i, hi⟩ := List.mem_iff_getElem?.1 hq
    rw [List.getElem?_take] at hi
    split at hi
    · exact hg.parted.full hi (by omega)
    · cases hi
  · have e : chk ps = fulls (ps.take k) ++ chk (p :: ps.drop (k + 1)) := by
      rw [← chk_app (ps.take k) (by simp), ← hdec]
    have hl : (fulls (ps.take k)).length = k := by unfold fulls; rw [List.length_map, List.length_take]; omega
    rw [e]
    generalize fulls (ps.take k) = FK at hl
    rw [← hl]
    exact List.take_left
theorem SetsAt.cut {w w' : World} {lo j : Nat} {Bs : List (Nat × Option Nat)} {ps : List (List Nat)} (h : SetsAt w lo Bs ps) {x : Nat × Option Nat} (hx : Bs[j]? = some x) (o : OnlyM x.2 w w') : SetsAt w' lo (Bs.take j) (ps.take j) := by
  have hj := (List.getElem?_eq_some_iff.1 hx).1
  refine ⟨by rw [List.length_take, List.length_take, h.len], fun i y p hy hp => ?_, fun y hy => h.low y (List.mem_of_mem_take hy), h.apart.sublist (List.take_sublist _ _)⟩
  rw [List.getElem?_take] at hy hp
  split at hy
  · rename_i hij
    rw [if_pos hij] at hp
    have hs := h.sets i y p hy hp
    have hap : ∀ k, Own2 y k → ∀ l, Own2 x l → k < l := by
      obtain ⟨h1, e1⟩ := List.getElem?_eq_some_iff.1 hy
      obtain ⟨h2, e2⟩ := List.getElem?_eq_some_iff.1 hx
      have := List.pairwise_iff_getElem.1 h.apart i j h1 h2 hij
      rw [e1, e2] at this
      exact this
    refine ⟨o.holds hs.ptr fun e => ?_, hs.map.block fun m hm => o.block m (hs.map.lt m hm) fun e => ?_⟩
    · have := hap y.1 (.inl rfl) y.1 (.inr e.symm); omega
    · have := hap m (.inr hm) m (.inr e.symm); omega
  · cases hy
theorem onlyM_below {w0 w w' : World} {mo : Option Nat} (h : Below w0.heap.size w0 w) (o : OnlyM mo w w') (hm : ∀ m, mo = some m → w0.heap.size ≤ m) : Below w0.heap.size w0 w' :=
  ⟨o.os.trans h.os, o.tape.trans h.tape, o.output.trans h.output, Nat.le_trans h.size o.size, fun k hk => (o.block k (Nat.lt_of_lt_of_le hk h.size) (fun e => by have := hm k e.symm; omega)).trans (h.block k hk)⟩
theorem SetAt.neH {w : World} {b q : Nat} {mo : Option Nat} {M : Nat → Bool} {t : TypeId} {cs : Array Value} (h : SetAt w b mo M) (hq : Holds w q t cs) : some q ≠ mo := fun e => by
  have hm := h.map
  rw [← e] at hm
  obtain ⟨es, clock, hob⟩ := MapAt.obj hm
  unfold Holds at hq
  rw [hob] at hq
  cases hq
end Go.Proofs.Ytdfpnpjdiebniaa
