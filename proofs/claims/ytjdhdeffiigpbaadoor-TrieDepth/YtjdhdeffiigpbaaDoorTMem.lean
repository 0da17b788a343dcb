/-
  Pairs in memory, a row of them that grows.
-/
import Derived.Test.YtjdhdeffiigpbaaDoorTBranchW
import Derived.Test.YtjdhdeffiigpbaaDoorTCmpW
import Derived.Laws.AppendOwn
import Derived.Deep.OwnRows
namespace Go.Proofs.YtjdhdeffiigpbaaDoor
open Go Go.RowKit

def pcells (L : List Pr) : List Value := L.flatMap encP
theorem pcells_len (L : List Pr) : (pcells L).length = L.length * 2 := by
  unfold pcells
  induction L with
  | nil => rfl
  | cons a l ih => rw [List.flatMap_cons, List.length_append, ih, List.length_cons]; simp [encP]; omega
theorem pcells_app (L K : List Pr) : pcells (L ++ K) = pcells L ++ pcells K := by unfold pcells; rw [List.flatMap_append]
theorem pcells_get : ∀ (L : List Pr) (i : Nat) (c : Pr), L[i]? = some c → ∀ j, j < 2 → (pcells L)[i * 2 + j]? = (encP c)[j]?
  | a :: l, 0, c, h, j, hj => by
    simp at h
    subst h
    have e : pcells (a :: l) = encP a ++ pcells l := rfl
    rw [e, List.getElem?_append_left (by simp [encP]; omega)]
    simp
  | a :: l, i + 1, c, h, j, hj => by
    have ih := pcells_get l i c (by simpa using h) j hj
    have e : pcells (a :: l) = encP a ++ pcells l := rfl
    have e4 : (encP a).length = 2 := rfl
    rw [e, List.getElem?_append_right (by omega), e4, show (i + 1) * 2 + j - 2 = i * 2 + j by omega]
    exact ih
theorem pcells_one (L : List Pr) : ∀ u ∈ pcells L, u.oneCell' = true := fun u hu => by
  unfold pcells at hu
  obtain ⟨c, _, h⟩ := List.mem_flatMap.1 hu
  exact encP_one c u h
/-- One pair in memory. -/
def PairAt (w : World) (b o : Nat) (x : Pr) : Prop := w.cell? ⟨b, o, none⟩ = some (.string x.1) ∧ w.cell? ⟨b, o + 1, none⟩ = some (.string x.2)
/-- A row of pairs. -/
def PairsAt (w : World) (v : Value) (L : List Pr) : Prop :=
  (L = [] ∧ ∃ p c, v = .slice p 0 c) ∨ ∃ b o c, v = .slice (some ⟨b, o, none⟩) L.length c ∧ L.length ≤ c ∧ ∀ i x, L[i]? = some x → PairAt w b (o + i * 2) x
/-- One of the call's own. -/
def OwnPairs (w : World) (base : Nat) (v : Value) (L : List Pr) : Prop := w.ownsRow base 33 2 v L.length (pcells L)
section
variable {w w' : World} {v : Value} {L K : List Pr} {base : Nat}
theorem PairAt.below {b o : Nat} {x : Pr} (h : PairAt w b o x) (hb : Below w.heap.size w w') : PairAt w' b o x := by
  obtain ⟨q1, q2⟩ := h
  have hl := World.block_lt_of_cell? w _ q1
  exact ⟨(hb.cell (p := ⟨b, o, none⟩) hl).trans q1, (hb.cell (p := ⟨b, o + 1, none⟩) hl).trans q2⟩
theorem PairsAt.below (h : PairsAt w v L) (hb : Below w.heap.size w w') : PairsAt w' v L := by
  rcases h with h | ⟨b, o, c, h1, h2, h3⟩
  · exact .inl h
  · exact .inr ⟨b, o, c, h1, h2, fun i x hx => (h3 i x hx).below hb⟩
theorem PairsAt.shape (h : PairsAt w v L) : ∃ p c, v = .slice p L.length c := by
  rcases h with ⟨rfl, p, c, rfl⟩ | ⟨b, o, c, rfl, h2, _⟩
  · exact ⟨p, c, rfl⟩
  · exact ⟨_, c, rfl⟩
theorem PairsAt.at {p : Option Addr} {n c : Nat} (h : PairsAt w (.slice p n c) L) {i : Nat} {x : Pr} (hx : L[i]? = some x) : ∃ b o, p = some ⟨b, o, none⟩ ∧ n = L.length ∧ PairAt w b (o + i * 2) x := by
  rcases h with ⟨rfl, _⟩ | ⟨b, o, c', e, h2, h3⟩
  · simp at hx
  · injection e with e1 e2 e3
    subst e1 e2 e3
    exact ⟨b, o, rfl, rfl, h3 i x hx⟩
theorem PairAt.cell {b o : Nat} {x : Pr} (h : PairAt w b o x) (j : Nat) (hj : j < 2) : w.cell? ⟨b, o + j, none⟩ = (encP x)[j]? := by
  obtain ⟨q1, q2⟩ := h
  match j, hj with
  | 0, _ => exact q1
  | 1, _ => exact q2
theorem OwnPairs.at (h : OwnPairs w base v L) : PairsAt w v L := by
  rcases h.2 with ⟨rfl, h0⟩ | ⟨g, cap, cur, rfl, h1, h2, h3, h4, h5, h6⟩
  · exact .inl ⟨List.eq_nil_of_length_eq_zero h0, none, 0, rfl⟩
  · refine .inr ⟨g, 0, cap, rfl, h3, fun i x hx => ?_⟩
    have hi := (List.getElem?_eq_some_iff.1 hx).1
    have key : ∀ j, j < 2 → w.cell? ⟨g, 0 + i * 2 + j, none⟩ = (encP x)[j]? := fun j hj => by
      have q1 := pcells_get L i x hx j hj
      rw [← h6] at q1
      rw [List.getElem?_take, if_pos (by omega)] at q1
      rw [Nat.zero_add]
      exact (cell_of_row w g _ cur _ (0, 0) h2).trans (by simpa using q1)
    exact ⟨key 0 (by omega), key 1 (by omega)⟩
theorem OwnPairs.below0 (h : OwnPairs w base v L) (hb : Below w.heap.size w w') : OwnPairs w' base v L := by
  refine ⟨h.1, ?_⟩
  rcases h.2 with q | ⟨g, cap, cur, rfl, h1, h2, h3⟩
  · exact .inl q
  · exact .inr ⟨g, cap, cur, rfl, h1, (hb.block g (Array.getElem?_eq_some_iff.1 h2).1).trans h2, h3⟩
theorem OwnPairs.mono {b' : Nat} (h : OwnPairs w base v L) (hb : b' ≤ base) : OwnPairs w b' v L := by
  refine ⟨h.1, ?_⟩
  rcases h.2 with q | ⟨g, cap, cur, rfl, h1, h2, h3⟩
  · exact .inl q
  · exact .inr ⟨g, cap, cur, rfl, by omega, h2, h3⟩
theorem OwnPairs.nil (w : World) (base : Nat) : OwnPairs w base (.slice none 0 0) [] := World.ownsRow_nil _ _ _ _
theorem OwnPairs.new (h : OwnPairs w base v L) : ∀ k, v.ownBlock = some k → base ≤ k := fun k hk => (h.lt k hk).1
theorem infoPair : ∃ i, Tryd.prog.info? 33 = some i ∧ i.zero = some (.agg #[.string ⟨#[]⟩, .string ⟨#[]⟩]) ∧ i.size = 2 ∧ i.bytes = 32 := by
  have h : (Tryd.prog.info? 33).map (fun i => (i.zero, i.size, i.bytes)) = some (some (.agg #[.string ⟨#[]⟩, .string ⟨#[]⟩]), 2, 32) := by kernel_rfl
  cases hi : Tryd.prog.info? 33 with
  | none => rw [hi] at h; cases h
  | some i =>
    rw [hi] at h
    simp only [Option.map_some, Option.some.injEq, Prod.mk.injEq] at h
    exact ⟨i, rfl, h⟩
theorem underPairs : Tryd.prog.underlying 30 = some (.slice 33) := by kernel_rfl
theorem underIntT : Tryd.prog.underlying 3 = some (.int .i64) := by kernel_rfl
theorem add_plainT (b o j : Nat) : (⟨b, o, none⟩ : Addr).add j = ⟨b, o + j, none⟩ := by unfold Addr.add; split <;> simp_all
/-- A row of pairs behind one's own. -/
theorem run_append_pr (ty : TypeId) (hown : OwnPairs w base v K) {x : Value} (hx : PairsAt w x L) (hl : K.length + L.length ≤ 1000000000) (hbase : base ≤ w.heap.size) :
    ∃ v' w', (Builtin.append_ #[30, 30] ty #[v, x]).run Tryd.prog w = .ok v' w' ∧ OwnPairs w' base v' (K ++ L) ∧ w.grownBy w' v.ownBlock := by
  obtain ⟨i0, hi, hz0, hz1, hz2⟩ := infoPair
  have go : ∀ (ad : Addr) (c : Nat) (news : List Value), news = pcells L → (∀ j u, news[j]? = some u → w.cell? (ad.add j) = some u) → ∃ v' w', (Builtin.append_ #[30, 30] ty #[v, .slice (some ad) L.length c]).run Tryd.prog w = .ok v' w' ∧ OwnPairs w' base v' (K ++ L) ∧ w.grownBy w' v.ownBlock := by
    intro ad c news hn hc
    obtain ⟨v', w', h1, h2, h3, _⟩ := run_append_own (P := Tryd.prog) w base 30 ty 33 i0 (.agg #[.string ⟨#[]⟩, .string ⟨#[]⟩]) 2 32 underPairs hi hz0 hz1 hz2 rfl (by decide) v K.length (pcells K) hown ad L.length c news (by rw [hn]; exact pcells_len L) hc (by rw [hn]; exact pcells_one L) (by unfold maxLen; omega) (by omega) hbase
    refine ⟨v', w', h1, ?_, h3⟩
    unfold OwnPairs
    rw [List.length_append, pcells_app, ← hn]
    exact h2
  rcases hx with ⟨rfl, p, c, rfl⟩ | ⟨b, o, c, rfl, h2, h3⟩
  · cases p with
    | some ad => exact go ad c [] rfl (fun j u hu => by simp at hu)
    | none =>
      rw [List.append_nil]
      refine ⟨v, w, ?_, hown, ⟨rfl, rfl, rfl, Nat.le_refl _, fun _ _ _ => rfl⟩⟩
      rcases hown.2 with ⟨rfl, h0⟩ | ⟨g, cap, cur, rfl, q1, q2, q3, q4, q5, q6⟩
      · simp [Builtin.append_, run_underlying underPairs, sizeOf, typeInfo, hi, Builtin.lenOf, Builtin.firstCells]
      · simp [Builtin.append_, run_underlying underPairs, sizeOf, typeInfo, hi, Builtin.lenOf, Builtin.firstCells, q3, storeCells]
  · refine go ⟨b, o, none⟩ c (pcells L) rfl fun j u hu => ?_
    rw [add_plainT]
    have hj : j < L.length * 2 := by
      have := (List.getElem?_eq_some_iff.1 hu).1
      rw [pcells_len] at this
      exact this
    obtain ⟨y, hy⟩ : ∃ y, L[j / 2]? = some y := ⟨_, List.getElem?_eq_getElem (by omega)⟩
    have q1 := (h3 _ _ hy).cell (j % 2) (by omega)
    have r1 := pcells_get L _ _ hy (j % 2) (by omega)
    rw [show j / 2 * 2 + j % 2 = j by omega] at r1
    rw [show o + j / 2 * 2 + j % 2 = o + j by omega] at q1
    rw [q1, ← r1]; exact hu
theorem wpList_append_pr {ops : Array Oper} {rest : List Oper} {o : Oper} {a : Act} {Q : Exit → Act → World → Prop} (hgd : o.guard = none) (s x : Operand)
    (ho : o.op = .call { callee := .builtin .append, args := #[s, x], argTypes := #[30, 30] }) {y : Value} (hs : a.eval s = v) (hx : a.eval x = y) (hown : OwnPairs w base v K) (hy : PairsAt w y L) (hl : K.length + L.length ≤ 1000000000) (hbase : base ≤ w.heap.size)
    (h : ∀ v' w', OwnPairs w' base v' (K ++ L) → w.grownBy w' v.ownBlock → wpList Tryd.prog ops Q rest (a.put o.dst v') w') : wpList Tryd.prog ops Q (o :: rest) a w := by
  refine wpList_plain hgd fun _ hK => ?_
  obtain ⟨v', w', hr, h2, h3⟩ := run_append_pr o.type hown hy hl hbase
  unfold Oper.wp execOp
  simp only [ho, resolve, invoke, builtin, Sem.run_bind, Sem.run_pure, Result.andThen_ok, List.map_toArray, List.map_cons, List.map_nil, hs, hx, hr]
  exact hK _ _ (h v' w' h2 h3)
end
end Go.Proofs.YtjdhdeffiigpbaaDoor
