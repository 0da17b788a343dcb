/-
  What shard's read does of chunks that are a set's.
-/
import Derived.Test.YtdfpnpjdiebniaaHSplitV
import Derived.Test.YtdfpnpjdiebniaaBAskP
namespace Go.Proofs.Ytdfpnpjdiebniaa
open Go Go.RowKit

section
variable {ops : Array Oper} {C : World → Prop} {Q : Exit → Act → World → Prop} {t : List Plan} {k : Nat} {op : Oper} {a : Act} {w : World}
/-- As 'plan_val', of an operation with a guard. -/
theorem plan_valG (d : Option Tmp) (hdd : op.dst = d) (hk : ops[k]?.getD default = op) (hw : Region.wanted op (yielded ops a.tmps) = true) (v : Value) (hv : ∀ w, (execOp a.eval op).run Try.prog w = .ok (.value v) w) (h : wpPlan Try.prog ops C Q t (a.put d v) w) : wpPlan Try.prog ops C Q (.take k :: t) a w :=
  ⟨by rw [hk]; exact hw, v, fun w' _ => by rw [hk]; exact hv w', by rw [hk, hdd]; exact h⟩
theorem plan_ldG (d : Option Tmp) (hdd : op.dst = d) (hk : ops[k]?.getD default = op) (hw : Region.wanted op (yielded ops a.tmps) = true) (ty : TypeId) (x : Operand) (ho : op.op = .load ty x) {ad : Addr} (hx : a.eval x = .pointer (some ad)) {v : Value} (hh : ∀ w, C w → (loadVar ty ad).run Try.prog w = .ok v w)
    (h : wpPlan Try.prog ops C Q t (a.put d v) w) : wpPlan Try.prog ops C Q (.take k :: t) a w := by
  refine ⟨by rw [hk]; exact hw, v, fun w' hC => ?_, by rw [hk, hdd]; exact h⟩
  rw [hk]
  unfold execOp
  simp only [ho, hx, Instr.loadAt, Instr.sureAddr, Sem.run_bind, Sem.run_pure, Result.andThen_ok, hh w' hC]
theorem plan_callG (d : Option Tmp) (hdd : op.dst = d) (hk : ops[k]? = some op) (hw : Region.wanted op (yielded ops a.tmps) = true) {f : FuncId} {vs : Array Value} (hf : (execOp a.eval op).run Try.prog w = .ok (.enter f vs) w) (hc : Calls Try.prog f vs w fun e w' => ∃ v, e = .returned v ∧ C w' ∧ wpPlan Try.prog ops C Q t (a.put d v) w') : wpPlan Try.prog ops C Q (.one k :: t) a w := by
  show wpOp Try.prog ops Q k _ a w
  unfold wpOp
  rw [hk]
  dsimp only
  rw [if_pos hw]
  left
  unfold Oper.wp
  rw [hf]
  refine Calls.mono hc ?_
  rintro e w' ⟨v, rfl, h1, h2⟩
  rw [← hdd] at h2
  exact ⟨h1, h2⟩
end
theorem ldIntH {w : World} {ad : Addr} {x : Int} (h : w.cell? ad = some (.int .i64 x)) : (loadVar 3 ad).run Try.prog w = .ok (.int .i64 x) w := by simp [go_sem, h]
/-- Parts of a set. -/
structure Good (ps : List (List Nat)) : Prop where
  parted : Parted ps
  nums : Nums ps.flatten
theorem Good.at {ps : List (List Nat)} (h : Good ps) {i : Nat} {p : List Nat} (hp : ps[i]? = some p) : Nums p ∧ 1 ≤ p.length ∧ p.length ≤ 64 := by
  have hm := List.mem_of_getElem? hp
  exact ⟨h.nums.sub (List.sublist_flatten_of_mem hm), h.parted.one p hm⟩
theorem Parted.full : ∀ {ps : List (List Nat)}, Parted ps → ∀ {i : Nat} {p : List Nat}, ps[i]? = some p → i + 1 < ps.length → p.length = 64
  | [q], _, i, p, _, hi => by simp at hi
  | q :: r :: s, h, 0, p, hp, _ => by
    simp at hp
    rw [← hp]; exact h.1
  | q :: r :: s, h, i + 1, p, hp, hi => h.2.full (i := i) (p := p) (by simpa using hp) (by simpa using hi)
theorem Good.rise {ps : List (List Nat)} (h : Good ps) {i j : Nat} {p q : List Nat} (hij : i < j) (hp : ps[i]? = some p) (hq : ps[j]? = some q) : ∀ x ∈ p, ∀ y ∈ q, x < y := by
  have hr := (List.pairwise_flatten.1 h.nums.rises).2
  obtain ⟨hi, rfl⟩ := List.getElem?_eq_some_iff.1 hp
  obtain ⟨hj, rfl⟩ := List.getElem?_eq_some_iff.1 hq
  exact List.pairwise_iff_getElem.1 hr i j hi hj hij
/-- The greatest of the part ahead. -/
def bef (ps : List (List Nat)) : Nat → Int
  | 0 => -1
  | i + 1 => ((ps[i]?.getD []).getLastD 0 : Nat)
theorem last_mem {p : List Nat} (h : 1 ≤ p.length) : p.getLastD 0 ∈ p := by
  cases p with
  | nil => simp at h
  | cons a l =>
    rw [List.getLastD_cons]
    have := List.getLast_mem (l := a :: l) (by simp)
    rw [List.getLast_eq_getLastD] at this
    exact this
theorem head_mem {p : List Nat} (h : 1 ≤ p.length) : p.headD 0 ∈ p := by
  cases p with
  | nil => simp at h
  | cons a l => simp
theorem bef_lt {ps : List (List Nat)} (h : Good ps) {i : Nat} {p : List Nat} (hp : ps[i]? = some p) : bef ps i < (p.headD 0 : Nat) := by
  cases i with
  | zero => show (-1 : Int) < _; omega
  | succ j =>
    have hj := (List.getElem?_eq_some_iff.1 hp).1
    obtain ⟨q, hq⟩ : ∃ q, ps[j]? = some q := ⟨_, List.getElem?_eq_getElem (by omega)⟩
    show (((ps[j]?.getD []).getLastD 0 : Nat) : Int) < _
    rw [hq, Option.getD_some]
    have := h.rise (Nat.lt_succ_self j) hq hp _ (last_mem (h.at hq).2.1) _ (head_mem (h.at hp).2.1)
    omega
theorem bef_bound {ps : List (List Nat)} (h : Good ps) (i : Nat) (hi : i ≤ ps.length) : -1 ≤ bef ps i ∧ bef ps i < 2147483648 := by
  cases i with
  | zero => exact ⟨by show (-1 : Int) ≤ -1; omega, by show (-1 : Int) < _; omega⟩
  | succ j =>
    obtain ⟨q, hq⟩ : ∃ q, ps[j]? = some q := ⟨_, List.getElem?_eq_getElem (by omega)⟩
    show -1 ≤ (((ps[j]?.getD []).getLastD 0 : Nat) : Int) ∧ (((ps[j]?.getD []).getLastD 0 : Nat) : Int) < _
    rw [hq, Option.getD_some]
    have := (h.at hq).1.bound _ (last_mem (h.at hq).2.1)
    omega
theorem least_head {p : List Nat} (hp : Nums p) {n : Nat} {b : Bool} (h : LeastOf (ofN p) 0 n b) : n = p.headD 0 := by
  have := least_first (ofN_bound hp.bound) h
  rw [hp.mem] at this
  cases p with
  | nil =>
    injection this with this
    injection this with this
    injection this with h1 _
    injection h1 with _ h1
    show n = 0
    omega
  | cons a l =>
    injection this with this
    injection this with this
    injection this with h1 _
    injection h1 with _ h1
    simp
    omega
theorem great_getLast {p : List Nat} (hp : Nums p) {g : Nat} {ok : Bool} (h : GreatOf (ofN p) g ok) : g = p.getLastD 0 := by
  rcases great_last (ofN_bound hp.bound) h with ⟨h1, _, rfl⟩ | ⟨_, h1, h2⟩
  · rw [hp.mem] at h1
    rw [h1]; rfl
  · rw [hp.mem] at h1 h2
    have := last_getD p h1
    rw [List.getD_eq_getElem?_getD, List.getElem?_map, h2] at this
    have e : (g : Int) = ((p.getLastD 0 : Nat) : Int) := this
    omega
def ptrs (Bs : List (Nat × Option Nat)) : List Value := Bs.map fun x => .pointer (some ⟨x.1, 0, none⟩)
/-- A set's blocks. -/
def Own2 (x : Nat × Option Nat) (k : Nat) : Prop := k = x.1 ∨ x.2 = some k
/-- The sets of these parts, each made behind the one ahead. -/
structure SetsAt (w : World) (lo : Nat) (Bs : List (Nat × Option Nat)) (ps : List (List Nat)) : Prop where
  len : Bs.length = ps.length
  sets : ∀ (i : Nat) x p, Bs[i]? = some x → ps[i]? = some p → SetAt w x.1 x.2 (ofN p)
  low : ∀ x ∈ Bs, ∀ k, Own2 x k → lo ≤ k
  apart : Bs.Pairwise fun x y => ∀ k, Own2 x k → ∀ j, Own2 y j → k < j
theorem SetAt.lt {w : World} {b : Nat} {mo : Option Nat} {M : Nat → Bool} (h : SetAt w b mo M) : ∀ k, Own2 (b, mo) k → k < w.heap.size := by
  rintro k (rfl | e)
  · exact h.ptr.lt
  · exact h.map.lt k e
theorem SetsAt.below {w w' : World} {lo : Nat} {Bs : List (Nat × Option Nat)} {ps : List (List Nat)} (h : SetsAt w lo Bs ps) (hB : Below w.heap.size w w') : SetsAt w' lo Bs ps :=
  ⟨h.len, fun i x p hx hp => (h.sets i x p hx hp).below hB, h.low, h.apart⟩
theorem SetsAt.nil (w : World) (lo : Nat) : SetsAt w lo [] [] := ⟨rfl, fun i x p hx => by simp at hx, fun x hx => by simp at hx, List.Pairwise.nil⟩
theorem SetsAt.lt {w : World} {lo : Nat} {Bs : List (Nat × Option Nat)} {ps : List (List Nat)} (h : SetsAt w lo Bs ps) : ∀ x ∈ Bs, ∀ k, Own2 x k → k < w.heap.size := fun x hx k hk => by
  obtain ⟨i, hi⟩ := List.mem_iff_getElem?.1 hx
  obtain ⟨p, hp⟩ : ∃ p, ps[i]? = some p := ⟨_, List.getElem?_eq_getElem (by rw [← h.len]; exact (List.getElem?_eq_some_iff.1 hi).1)⟩
  exact (h.sets i x p hi hp).lt k hk
theorem SetsAt.add {w w' : World} {lo : Nat} {Bs : List (Nat × Option Nat)} {ps : List (List Nat)} (h : SetsAt w lo Bs ps) (hB : Below w.heap.size w w') {b : Nat} {mo : Option Nat} {p : List Nat} (hs : SetAt w' b mo (ofN p)) (hb : w.heap.size ≤ b) (hm : ∀ m, mo = some m → w.heap.size ≤ m) (hlo : lo ≤ w.heap.size) : SetsAt w' lo (Bs ++ [(b, mo)]) (ps ++ [p]) := by
  have hnew : ∀ k, Own2 (b, mo) k → w.heap.size ≤ k := by
    rintro k (rfl | e)
    · exact hb
    · exact hm k e
  refine ⟨by simp [h.len], fun i x q hx hq => ?_, fun x hx k hk => ?_, ?_⟩
  · by_cases hi : i < Bs.length
    · rw [List.getElem?_append_left hi] at hx
      rw [List.getElem?_append_left (by rw [← h.len]; exact hi)] at hq
      exact (h.sets i x q hx hq).below hB
    · rw [List.getElem?_append_right (by omega)] at hx
      rw [List.getElem?_append_right (by rw [← h.len]; omega), ← h.len] at hq
      have : i - Bs.length = 0 := by
        have := (List.getElem?_eq_some_iff.1 hx).1
        simp at this
        omega
      rw [this] at hx hq
      simp at hx hq
      subst hx hq
      exact hs
  · rcases List.mem_append.1 hx with hx | hx
    · exact h.low x hx k hk
    · rw [List.mem_singleton.1 hx] at hk
      have := hnew k hk
      omega
  · refine List.pairwise_append.2 ⟨h.apart, List.pairwise_singleton _ _, fun x hx y hy k hk j hj => ?_⟩
    rw [List.mem_singleton.1 hy] at hj
    have h1 := h.lt x hx k hk
    have h2 := hnew j hj
    omega
theorem make_ptrs (n : Nat) (hn : n ≤ 1000000) (w : World) : (Instr.makeSlice 64 (.int .i64 (n : Int)) (.int .i64 (n : Int))).run Try.prog w = .ok (.slice (some ⟨w.heap.size, 0, none⟩) n n) (w.alloc (.cells (madeCells #[.pointer none] n) 29)) :=
  run_make_row' (P := Try.prog) 64 29 (.pointer none) 8 (by kernel_rfl) (by kernel_rfl) rfl .i64 .i64 n (by omega) (by omega) w
end Go.Proofs.Ytdfpnpjdiebniaa
