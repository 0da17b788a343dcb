/-
  Cells of nodes as data and in memory, and a row of them that grows.
-/
import Derived.Test.YtdgfjaidnedaiaaDTake
import Derived.Laws.AppendOwn
import Derived.Deep.OwnRows
namespace Go.Proofs.Ytdgfjaidnedaiaa
open Go Go.RowKit

/-- A cell: its key, its value, its page, its size. -/
structure Cl where
  k : ByteArray
  v : ByteArray
  p : Int
  s : Int
def clv (c : Cl) : List Value := [.string c.k, .string c.v, .int .i64 c.p, .int .i64 c.s]
def cla (c : Cl) : Value := .agg #[.string c.k, .string c.v, .int .i64 c.p, .int .i64 c.s]
def ecells (L : List Cl) : List Value := L.flatMap clv
theorem ecells_len (L : List Cl) : (ecells L).length = L.length * 4 := by
  unfold ecells
  induction L with
  | nil => rfl
  | cons a l ih => rw [List.flatMap_cons, List.length_append, ih, List.length_cons]; simp [clv]; omega
theorem ecells_app (L K : List Cl) : ecells (L ++ K) = ecells L ++ ecells K := by unfold ecells; rw [List.flatMap_append]
theorem ecells_get : ∀ (L : List Cl) (i : Nat) (c : Cl), L[i]? = some c → ∀ j, j < 4 → (ecells L)[i * 4 + j]? = (clv c)[j]?
  | a :: l, 0, c, h, j, hj => by
    simp at h
    subst h
    have e : ecells (a :: l) = clv a ++ ecells l := rfl
    rw [e, List.getElem?_append_left (by simp [clv]; omega)]
    simp
  | a :: l, i + 1, c, h, j, hj => by
    have ih := ecells_get l i c (by simpa using h) j hj
    have e : ecells (a :: l) = clv a ++ ecells l := rfl
    have e4 : (clv a).length = 4 := rfl
    rw [e, List.getElem?_append_right (by omega), e4, show (i + 1) * 4 + j - 4 = i * 4 + j by omega]
    exact ih
theorem ecells_one (L : List Cl) : ∀ u ∈ ecells L, u.oneCell' = true := fun u hu => by
  unfold ecells at hu
  obtain ⟨c, _, h⟩ := List.mem_flatMap.1 hu
  unfold clv at h
  rcases List.mem_cons.1 h with rfl | h
  · rfl
  rcases List.mem_cons.1 h with rfl | h
  · rfl
  rcases List.mem_cons.1 h with rfl | h
  · rfl
  · rw [List.mem_singleton.1 h]; rfl
/-- One cell in memory. -/
def CellAt (w : World) (b o : Nat) (x : Cl) : Prop := w.cell? ⟨b, o, none⟩ = some (.string x.k) ∧ w.cell? ⟨b, o + 1, none⟩ = some (.string x.v) ∧ w.cell? ⟨b, o + 2, none⟩ = some (.int .i64 x.p) ∧ w.cell? ⟨b, o + 3, none⟩ = some (.int .i64 x.s)
/-- A row of cells. -/
def CellsAt (w : World) (v : Value) (L : List Cl) : Prop :=
  (L = [] ∧ ∃ p c, v = .slice p 0 c) ∨ ∃ b o c, v = .slice (some ⟨b, o, none⟩) L.length c ∧ L.length ≤ c ∧ ∀ i x, L[i]? = some x → CellAt w b (o + i * 4) x
/-- One of the call's own. -/
def OwnCells (w : World) (base : Nat) (v : Value) (L : List Cl) : Prop := w.ownsRow base 27 4 v L.length (ecells L)
section
variable {w w' : World} {v : Value} {L K : List Cl} {base : Nat}
theorem CellAt.below {b o : Nat} {x : Cl} (h : CellAt w b o x) (hb : Below w.heap.size w w') : CellAt w' b o x := by
  obtain ⟨q1, q2, q3, q4⟩ := h
  have hl := World.block_lt_of_cell? w _ q1
  exact ⟨(hb.cell (p := ⟨b, o, none⟩) hl).trans q1, (hb.cell (p := ⟨b, o + 1, none⟩) hl).trans q2, (hb.cell (p := ⟨b, o + 2, none⟩) hl).trans q3, (hb.cell (p := ⟨b, o + 3, none⟩) hl).trans q4⟩
theorem CellsAt.below (h : CellsAt w v L) (hb : Below w.heap.size w w') : CellsAt w' v L := by
  rcases h with h | ⟨b, o, c, h1, h2, h3⟩
  · exact .inl h
  · exact .inr ⟨b, o, c, h1, h2, fun i x hx => (h3 i x hx).below hb⟩
theorem CellsAt.shape (h : CellsAt w v L) : ∃ p c, v = .slice p L.length c := by
  rcases h with ⟨rfl, p, c, rfl⟩ | ⟨b, o, c, rfl, h2, _⟩
  · exact ⟨p, c, rfl⟩
  · exact ⟨_, c, rfl⟩
theorem CellsAt.at {p : Option Addr} {n c : Nat} (h : CellsAt w (.slice p n c) L) {i : Nat} {x : Cl} (hx : L[i]? = some x) : ∃ b o, p = some ⟨b, o, none⟩ ∧ n = L.length ∧ CellAt w b (o + i * 4) x := by
  rcases h with ⟨rfl, _⟩ | ⟨b, o, c', e, h2, h3⟩
  · simp at hx
  · injection e with e1 e2 e3
    subst e1 e2 e3
    exact ⟨b, o, rfl, rfl, h3 i x hx⟩
theorem CellAt.cell {b o : Nat} {x : Cl} (h : CellAt w b o x) (j : Nat) (hj : j < 4) : w.cell? ⟨b, o + j, none⟩ = (clv x)[j]? := by
  obtain ⟨q1, q2, q3, q4⟩ := h
  match j, hj with
  | 0, _ => exact q1
  | 1, _ => exact q2
  | 2, _ => exact q3
  | 3, _ => exact q4
theorem OwnCells.at (h : OwnCells w base v L) : CellsAt w v L := by
  rcases h.2 with ⟨rfl, h0⟩ | ⟨g, cap, cur, rfl, h1, h2, h3, h4, h5, h6⟩
  · exact .inl ⟨List.eq_nil_of_length_eq_zero h0, none, 0, rfl⟩
  · refine .inr ⟨g, 0, cap, rfl, h3, fun i x hx => ?_⟩
    have hi := (List.getElem?_eq_some_iff.1 hx).1
    have key : ∀ j, j < 4 → w.cell? ⟨g, 0 + i * 4 + j, none⟩ = (clv x)[j]? := fun j hj => by
      have q1 := ecells_get L i x hx j hj
      rw [← h6] at q1
      rw [List.getElem?_take, if_pos (by omega)] at q1
      rw [Nat.zero_add]
      exact (cell_of_row w g _ cur _ (0, 0) h2).trans (by simpa using q1)
    exact ⟨key 0 (by omega), key 1 (by omega), key 2 (by omega), key 3 (by omega)⟩
theorem OwnCells.below0 (h : OwnCells w base v L) (hb : Below w.heap.size w w') : OwnCells w' base v L := by
  refine ⟨h.1, ?_⟩
  rcases h.2 with q | ⟨g, cap, cur, rfl, h1, h2, h3⟩
  · exact .inl q
  · exact .inr ⟨g, cap, cur, rfl, h1, (hb.block g (Array.getElem?_eq_some_iff.1 h2).1).trans h2, h3⟩
theorem OwnCells.mono {b' : Nat} (h : OwnCells w base v L) (hb : b' ≤ base) : OwnCells w b' v L := by
  refine ⟨h.1, ?_⟩
  rcases h.2 with q | ⟨g, cap, cur, rfl, h1, h2, h3⟩
  · exact .inl q
  · exact .inr ⟨g, cap, cur, rfl, by omega, h2, h3⟩
theorem OwnCells.nil (w : World) (base : Nat) : OwnCells w base (.slice none 0 0) [] := World.ownsRow_nil _ _ _ _
theorem OwnCells.new (h : OwnCells w base v L) : ∀ k, v.ownBlock = some k → base ≤ k := fun k hk => (h.lt k hk).1
theorem infoCell : ∃ i, Try.prog.info? 27 = some i ∧ i.zero = some (.agg #[.string ⟨#[]⟩, .string ⟨#[]⟩, .int .i64 0, .int .i64 0]) ∧ i.size = 4 ∧ i.bytes = 48 := by
  have h : (Try.prog.info? 27).map (fun i => (i.zero, i.size, i.bytes)) = some (some (.agg #[.string ⟨#[]⟩, .string ⟨#[]⟩, .int .i64 0, .int .i64 0]), 4, 48) := by kernel_rfl
  cases hi : Try.prog.info? 27 with
  | none => rw [hi] at h; cases h
  | some i =>
    rw [hi] at h
    simp only [Option.map_some, Option.some.injEq, Prod.mk.injEq] at h
    exact ⟨i, rfl, h⟩
theorem underCells : Try.prog.underlying 22 = some (.slice 27) := by kernel_rfl
theorem underIntE : Try.prog.underlying 3 = some (.int .i64) := by kernel_rfl
theorem add_plainE (b o j : Nat) : (⟨b, o, none⟩ : Addr).add j = ⟨b, o + j, none⟩ := by unfold Addr.add; split <;> simp_all
/-- A row of cells behind one's own. -/
theorem run_append_cl (ty : TypeId) (hown : OwnCells w base v K) {x : Value} (hx : CellsAt w x L) (hl : K.length + L.length ≤ 1000000000) (hbase : base ≤ w.heap.size) :
    ∃ v' w', (Builtin.append_ #[22, 22] ty #[v, x]).run Try.prog w = .ok v' w' ∧ OwnCells w' base v' (K ++ L) ∧ w.grownBy w' v.ownBlock := by
  obtain ⟨i0, hi, hz0, hz1, hz2⟩ := infoCell
  have go : ∀ (ad : Addr) (c : Nat) (news : List Value), news = ecells L → (∀ j u, news[j]? = some u → w.cell? (ad.add j) = some u) → ∃ v' w', (Builtin.append_ #[22, 22] ty #[v, .slice (some ad) L.length c]).run Try.prog w = .ok v' w' ∧ OwnCells w' base v' (K ++ L) ∧ w.grownBy w' v.ownBlock := by
    intro ad c news hn hc
    obtain ⟨v', w', h1, h2, h3, _⟩ := run_append_own (P := Try.prog) w base 22 ty 27 i0 (.agg #[.string ⟨#[]⟩, .string ⟨#[]⟩, .int .i64 0, .int .i64 0]) 4 48 underCells hi hz0 hz1 hz2 rfl (by decide) v K.length (ecells K) hown ad L.length c news (by rw [hn]; exact ecells_len L) hc (by rw [hn]; exact ecells_one L) (by unfold maxLen; omega) (by omega) hbase
    refine ⟨v', w', h1, ?_, h3⟩
    unfold OwnCells
    rw [List.length_append, ecells_app, ← hn]
    exact h2
  rcases hx with ⟨rfl, p, c, rfl⟩ | ⟨b, o, c, rfl, h2, h3⟩
  · cases p with
    | some ad => exact go ad c [] rfl (fun j u hu => by simp at hu)
    | none =>
      rw [List.append_nil]
      refine ⟨v, w, ?_, hown, ⟨rfl, rfl, rfl, Nat.le_refl _, fun _ _ _ => rfl⟩⟩
      rcases hown.2 with ⟨rfl, h0⟩ | ⟨g, cap, cur, rfl, q1, q2, q3, q4, q5, q6⟩
      · simp [Builtin.append_, run_underlying underCells, sizeOf, typeInfo, hi, Builtin.lenOf, Builtin.firstCells]
      · simp [Builtin.append_, run_underlying underCells, sizeOf, typeInfo, hi, Builtin.lenOf, Builtin.firstCells, q3, storeCells]
  · refine go ⟨b, o, none⟩ c (ecells L) rfl fun j u hu => ?_
    rw [add_plainE]
    have hj : j < L.length * 4 := by
      have := (List.getElem?_eq_some_iff.1 hu).1
      rw [ecells_len] at this
      exact this
    obtain ⟨y, hy⟩ : ∃ y, L[j / 4]? = some y := ⟨_, List.getElem?_eq_getElem (by omega)⟩
    have q1 := (h3 _ _ hy).cell (j % 4) (by omega)
    have r1 := ecells_get L _ _ hy (j % 4) (by omega)
    rw [show j / 4 * 4 + j % 4 = j by omega] at r1
    rw [show o + j / 4 * 4 + j % 4 = o + j by omega] at q1
    rw [q1, ← r1]; exact hu
theorem wpList_append_cl {ops : Array Oper} {rest : List Oper} {o : Oper} {a : Act} {Q : Exit → Act → World → Prop} (hgd : o.guard = none) (s x : Operand)
    (ho : o.op = .call { callee := .builtin .append, args := #[s, x], argTypes := #[22, 22] }) {y : Value} (hs : a.eval s = v) (hx : a.eval x = y) (hown : OwnCells w base v K) (hy : CellsAt w y L) (hl : K.length + L.length ≤ 1000000000) (hbase : base ≤ w.heap.size)
    (h : ∀ v' w', OwnCells w' base v' (K ++ L) → w.grownBy w' v.ownBlock → wpList Try.prog ops Q rest (a.put o.dst v') w') : wpList Try.prog ops Q (o :: rest) a w := by
  refine wpList_plain hgd fun _ hK => ?_
  obtain ⟨v', w', hr, h2, h3⟩ := run_append_cl o.type hown hy hl hbase
  unfold Oper.wp execOp
  simp only [ho, resolve, invoke, builtin, Sem.run_bind, Sem.run_pure, Result.andThen_ok, List.map_toArray, List.map_cons, List.map_nil, hs, hx, hr]
  exact hK _ _ (h v' w' h2 h3)
/-- Zeros behind nothing. -/
theorem run_append_zerosE (ty : TypeId) (n : Nat) (h0 : 0 < n) (hn : n ≤ 1000000000) (hbase : base ≤ w.heap.size) : ∃ cap w', (Builtin.append_ #[22, 3] ty #[.slice none 0 0, .int .i64 (n : Int)]).run Try.prog w = .ok (.slice (some ⟨w.heap.size, 0, none⟩) n cap) w' ∧ OwnCells w' base (.slice (some ⟨w.heap.size, 0, none⟩) 0 cap) [] ∧ n ≤ cap ∧ Below w.heap.size w w' := by
  obtain ⟨i0, hi, hz0, hz1, hz2⟩ := infoCell
  have hge := grownCap_ge w n 0 27
  have hle := grownCap_le_maxLen w n 0 27 (by unfold maxLen; omega)
  refine ⟨grownCap w n 0 27, w.drew.alloc (.cells (Builtin.zeroCells #[.string ⟨#[]⟩, .string ⟨#[]⟩, .int .i64 0, .int .i64 0] n ++ Builtin.zeroCells #[.string ⟨#[]⟩, .string ⟨#[]⟩, .int .i64 0, .int .i64 0] (grownCap w n 0 27 - n)) 27), ?_, ?_, hge, ?_⟩
  · have hn0 : n ≠ 0 := by omega
    have hw : IntKind.i64.wrap (n : Int) = n := by rw [IntKind.wrap_i64]; omega
    have h63' : ¬ (9223372036854775807 < (n : Int)) := by omega
    have h48 : ¬ (281474976710656 < (n : Int) * 48) := by omega
    have h48' : ¬ (281474976710656 < Builtin.nextslicecap n 0 * 48) := by rw [nextslicecap_zero h0]; omega
    have hneg : ¬ ((n : Int) < 0) := by omega
    have has : (asIntOf (Value.int IntKind.i64 (n : Int))).run Try.prog w = .ok (IntKind.i64, (n : Int)) w := rfl
    simp [Builtin.append_, run_underlying underCells, run_underlying underIntE, sizeOf, typeInfo, zeroValue, hi, hz0, hz1, hz2, hn0, hw, h63', h48, h48', Question.forced, run_firstCells_none, newRow, grownCap, asInt, has, hneg, Value.cells]
    intro q
    omega
  · exact World.ownsRow_made (w := w.drew) (base := base) (e := 27) (size := 4) _ _ hbase hle (by simp only [Array.size_append, size_zeroCells]; simp; omega)
  · exact (⟨rfl, rfl, rfl, Nat.le_refl _, fun _ _ => rfl⟩ : Below w.heap.size w w.drew).alloc (Nat.le_refl _) _
end
end Go.Proofs.Ytdgfjaidnedaiaa
