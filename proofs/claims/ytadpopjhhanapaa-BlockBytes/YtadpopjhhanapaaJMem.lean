/-
  Slots and writes as data and in memory; a row of texts that grows.
-/
import Derived.Test.YtadpopjhhanapaaRLaws
import Derived.Test.YtadpopjhhanapaaListW
import Derived.Test.YtadpopjhhanapaaJScal
import Derived.Test.YtadpopjhhanapaaRowW
import Derived.Laws.AppendOwn
import Derived.Deep.OwnRows
namespace Go.Proofs.Ytadpopjhhanapaa
open Go Go.RowKit

theorem below_new1 (w : World) (o : Obj) : Below w.heap.size w (w.alloc o) := (Below.refl _ _).alloc (Nat.le_refl _) o
theorem below_new {w w1 w2 : World} (h1 : Below w.heap.size w w1) (h2 : Below w1.heap.size w1 w2) : Below w.heap.size w w2 := h1.trans (h2.mono h1.size)
theorem keep_cell {w w' : World} {a : Addr} {v : Value} (hB : Below w.heap.size w w') (h : w.cell? a = some v) : w'.cell? a = some v := (hB.cell (World.block_lt_of_cell? w _ h)).trans h

/-- A slot: its key, its value. -/
structure Sl where
  k : ByteArray
  v : ByteArray
def sla (x : Sl) : Value := .agg #[.string x.k, .string x.v]
def SlotAt (w : World) (b o : Nat) (x : Sl) : Prop := w.cell? ⟨b, o, none⟩ = some (.string x.k) ∧ w.cell? ⟨b, o + 1, none⟩ = some (.string x.v)
def SlotsAt (w : World) (v : Value) (L : List Sl) : Prop :=
  (L = [] ∧ ∃ p c, v = .slice p 0 c) ∨ ∃ b o c, v = .slice (some ⟨b, o, none⟩) L.length c ∧ L.length ≤ c ∧ ∀ i x, L[i]? = some x → SlotAt w b (o + i * 2) x
/-- A write: its address, is it gone, is it reset, nonce, balance, code, the row of its slots as a value, and these. -/
structure Wr where
  a : ByteArray
  g : Bool
  r : Bool
  n : Nat
  b : ByteArray
  c : ByteArray
  s : Value
  L : List Sl
def wrC (x : Wr) : Array Value := #[.string x.a, .bool x.g, .bool x.r, .int .u64 (x.n : Nat), .string x.b, .string x.c, x.s]
def wra (x : Wr) : Value := .agg (wrC x)
def WrOk (w : World) (x : Wr) : Prop := SlotsAt w x.s x.L ∧ x.n < 18446744073709551616
structure WriteAt (w : World) (b o : Nat) (x : Wr) : Prop where
  c0 : w.cell? ⟨b, o, none⟩ = some (.string x.a)
  c1 : w.cell? ⟨b, o + 1, none⟩ = some (.bool x.g)
  c2 : w.cell? ⟨b, o + 2, none⟩ = some (.bool x.r)
  c3 : w.cell? ⟨b, o + 3, none⟩ = some (.int .u64 (x.n : Nat))
  c4 : w.cell? ⟨b, o + 4, none⟩ = some (.string x.b)
  c5 : w.cell? ⟨b, o + 5, none⟩ = some (.string x.c)
  c6 : w.cell? ⟨b, o + 6, none⟩ = some x.s
def WritesAt (w : World) (v : Value) (L : List Wr) : Prop :=
  (∀ x ∈ L, WrOk w x) ∧ ((L = [] ∧ ∃ p c, v = .slice p 0 c) ∨ ∃ b o c, v = .slice (some ⟨b, o, none⟩) L.length c ∧ L.length ≤ c ∧ ∀ i x, L[i]? = some x → WriteAt w b (o + i * 7) x)
section
variable {w w' : World} {v : Value} {base : Nat}
theorem SlotAt.below {b o : Nat} {x : Sl} (h : SlotAt w b o x) (hb : Below w.heap.size w w') : SlotAt w' b o x := ⟨keep_cell hb h.1, keep_cell hb h.2⟩
theorem SlotsAt.below {L : List Sl} (h : SlotsAt w v L) (hb : Below w.heap.size w w') : SlotsAt w' v L := by
  rcases h with h | ⟨b, o, c, h1, h2, h3⟩
  · exact .inl h
  · exact .inr ⟨b, o, c, h1, h2, fun i x hx => (h3 i x hx).below hb⟩
theorem SlotsAt.shape {L : List Sl} (h : SlotsAt w v L) : ∃ p c, v = .slice p L.length c := by
  rcases h with ⟨rfl, p, c, rfl⟩ | ⟨b, o, c, rfl, h2, _⟩
  · exact ⟨p, c, rfl⟩
  · exact ⟨_, c, rfl⟩
theorem SlotsAt.at {L : List Sl} {p : Option Addr} {n c : Nat} (h : SlotsAt w (.slice p n c) L) {i : Nat} {x : Sl} (hx : L[i]? = some x) : ∃ b o, p = some ⟨b, o, none⟩ ∧ n = L.length ∧ SlotAt w b (o + i * 2) x := by
  rcases h with ⟨rfl, _⟩ | ⟨b, o, c', e, h2, h3⟩
  · simp at hx
  · injection e with e1 e2 e3
    subst e1 e2 e3
    exact ⟨b, o, rfl, rfl, h3 i x hx⟩
theorem SlotAt.range {b o : Nat} {x : Sl} (h : SlotAt w b o x) (j : Nat) (u : Value) (hu : [Value.string x.k, .string x.v][j]? = some u) : w.cell? ⟨b, o + j, none⟩ = some u := by
  match j with
  | 0 => simp at hu; rw [← hu]; exact h.1
  | 1 => simp at hu; rw [← hu]; exact h.2
  | j + 2 => simp at hu
theorem WrOk.below {x : Wr} (h : WrOk w x) (hb : Below w.heap.size w w') : WrOk w' x := ⟨h.1.below hb, h.2⟩
theorem WriteAt.below {b o : Nat} {x : Wr} (h : WriteAt w b o x) (hb : Below w.heap.size w w') : WriteAt w' b o x :=
  ⟨keep_cell hb h.c0, keep_cell hb h.c1, keep_cell hb h.c2, keep_cell hb h.c3, keep_cell hb h.c4, keep_cell hb h.c5, keep_cell hb h.c6⟩
theorem WritesAt.below {L : List Wr} (h : WritesAt w v L) (hb : Below w.heap.size w w') : WritesAt w' v L := by
  refine ⟨fun x hx => (h.1 x hx).below hb, ?_⟩
  rcases h.2 with h | ⟨b, o, c, h1, h2, h3⟩
  · exact .inl h
  · exact .inr ⟨b, o, c, h1, h2, fun i x hx => (h3 i x hx).below hb⟩
theorem WritesAt.shape {L : List Wr} (h : WritesAt w v L) : ∃ p c, v = .slice p L.length c := by
  rcases h.2 with ⟨rfl, p, c, rfl⟩ | ⟨b, o, c, rfl, h2, _⟩
  · exact ⟨p, c, rfl⟩
  · exact ⟨_, c, rfl⟩
theorem WritesAt.at {L : List Wr} {p : Option Addr} {n c : Nat} (h : WritesAt w (.slice p n c) L) {i : Nat} {x : Wr} (hx : L[i]? = some x) : ∃ b o, p = some ⟨b, o, none⟩ ∧ n = L.length ∧ WriteAt w b (o + i * 7) x := by
  rcases h.2 with ⟨rfl, _⟩ | ⟨b, o, c', e, h2, h3⟩
  · simp at hx
  · injection e with e1 e2 e3
    subst e1 e2 e3
    exact ⟨b, o, rfl, rfl, h3 i x hx⟩
theorem WriteAt.range {b o : Nat} {x : Wr} (h : WriteAt w b o x) (j : Nat) (u : Value) (hu : (wrC x).toList[j]? = some u) : w.cell? ⟨b, o + j, none⟩ = some u := by
  unfold wrC at hu
  match j with
  | 0 => simp at hu; rw [← hu]; exact h.c0
  | 1 => simp at hu; rw [← hu]; exact h.c1
  | 2 => simp at hu; rw [← hu]; exact h.c2
  | 3 => simp at hu; rw [← hu]; exact h.c3
  | 4 => simp at hu; rw [← hu]; exact h.c4
  | 5 => simp at hu; rw [← hu]; exact h.c5
  | 6 => simp at hu; rw [← hu]; exact h.c6
  | j + 7 => simp at hu
theorem WritesAt.nil (w : World) (p : Option Addr) (c : Nat) : WritesAt w (.slice p 0 c) [] := ⟨by simp, .inl ⟨rfl, p, c, rfl⟩⟩
theorem SlotsAt.nil (w : World) (p : Option Addr) (c : Nat) : SlotsAt w (.slice p 0 c) [] := .inl ⟨rfl, p, c, rfl⟩

theorem box_slot (w : World) (x : Sl) : ∃ W0 g, w.alloc (.cells #[.string x.k, .string x.v] 50) = W0 ∧ w.heap.size = g ∧ Below w.heap.size w W0 ∧ SlotAt W0 g 0 x := by
  have h := Holds.new w 50 #[.string x.k, .string x.v]
  exact ⟨_, _, rfl, rfl, below_new1 _ _, h.cell 0, h.cell 1⟩
theorem box_write (w : World) (x : Wr) : ∃ W0 g, w.alloc (.cells #[.string x.a, .bool x.g, .bool x.r, .int .u64 (x.n : Nat), .string x.b, .string x.c, x.s] 38) = W0 ∧ w.heap.size = g ∧ Below w.heap.size w W0 ∧ WriteAt W0 g 0 x := by
  have h := Holds.new w 38 (wrC x)
  exact ⟨_, _, rfl, rfl, below_new1 _ _, h.cell 0, h.cell 1, h.cell 2, h.cell 3, h.cell 4, h.cell 5, h.cell 6⟩
theorem box_block (w : World) (n : Int) (v : Value) : ∃ W0 g, w.alloc (.cells #[.int .i64 n, v] 24) = W0 ∧ w.heap.size = g ∧ Below w.heap.size w W0 ∧ Holds W0 g 24 #[.int .i64 n, v] ∧ W0.cell? ⟨g, 0, none⟩ = some (.int .i64 n) ∧ W0.cell? ⟨g, 1, none⟩ = some v := by
  have h := Holds.new w 24 #[.int .i64 n, v]
  exact ⟨_, _, rfl, rfl, below_new1 _ _, h, h.cell 0, h.cell 1⟩

/-- A row of texts. -/
def StrsAt (w : World) (v : Value) (L : List ByteArray) : Prop :=
  (L = [] ∧ ∃ p c, v = .slice p 0 c) ∨ ∃ b o c, v = .slice (some ⟨b, o, none⟩) L.length c ∧ L.length ≤ c ∧ ∀ (i : Nat) x, L[i]? = some x → w.cell? ⟨b, o + i, none⟩ = some (.string x)
/-- One of the call's own. -/
def OwnS (w : World) (base : Nat) (v : Value) (L : List ByteArray) : Prop := w.ownsRow base 9 1 v L.length (L.map Value.string)
theorem StrsAt.below {L : List ByteArray} (h : StrsAt w v L) (hb : Below w.heap.size w w') : StrsAt w' v L := by
  rcases h with h | ⟨b, o, c, h1, h2, h3⟩
  · exact .inl h
  · exact .inr ⟨b, o, c, h1, h2, fun i x hx => keep_cell hb (h3 i x hx)⟩
theorem StrsAt.shape {L : List ByteArray} (h : StrsAt w v L) : ∃ p c, v = .slice p L.length c := by
  rcases h with ⟨rfl, p, c, rfl⟩ | ⟨b, o, c, rfl, h2, _⟩
  · exact ⟨p, c, rfl⟩
  · exact ⟨_, c, rfl⟩
theorem StrsAt.at {L : List ByteArray} {p : Option Addr} {n c : Nat} (h : StrsAt w (.slice p n c) L) {i : Nat} {x : ByteArray} (hx : L[i]? = some x) : ∃ b o, p = some ⟨b, o, none⟩ ∧ n = L.length ∧ w.cell? ⟨b, o + i, none⟩ = some (.string x) := by
  rcases h with ⟨rfl, _⟩ | ⟨b, o, c', e, h2, h3⟩
  · simp at hx
  · injection e with e1 e2 e3
    subst e1 e2 e3
    exact ⟨b, o, rfl, rfl, h3 i x hx⟩
theorem OwnS.at {L : List ByteArray} (h : OwnS w base v L) : StrsAt w v L := by
  rcases h.2 with ⟨rfl, h0⟩ | ⟨g, cap, cur, rfl, h1, h2, h3, h4, h5, h6⟩
  · exact .inl ⟨List.eq_nil_of_length_eq_zero h0, none, 0, rfl⟩
  · refine .inr ⟨g, 0, cap, rfl, h3, fun i x hx => ?_⟩
    have hi := (List.getElem?_eq_some_iff.1 hx).1
    have q1 : (L.map Value.string)[i]? = some (.string x) := by rw [List.getElem?_map, hx]; rfl
    rw [← h6] at q1
    rw [List.getElem?_take, if_pos (by omega)] at q1
    rw [Nat.zero_add]
    exact (cell_of_row w g _ cur _ (0, 0) h2).trans (by simpa using q1)
theorem OwnS.below0 {L : List ByteArray} (h : OwnS w base v L) (hb : Below w.heap.size w w') : OwnS w' base v L := by
  refine ⟨h.1, ?_⟩
  rcases h.2 with q | ⟨g, cap, cur, rfl, h1, h2, h3⟩
  · exact .inl q
  · exact .inr ⟨g, cap, cur, rfl, h1, (hb.block g (Array.getElem?_eq_some_iff.1 h2).1).trans h2, h3⟩
theorem OwnS.nil (w : World) (base : Nat) : OwnS w base (.slice none 0 0) [] := World.ownsRow_nil _ _ _ _
theorem OwnS.new {L : List ByteArray} (h : OwnS w base v L) : ∀ k, v.ownBlock = some k → base ≤ k := fun k hk => (h.lt k hk).1
theorem infoStrJ : ∃ i, Try.prog.info? 9 = some i ∧ i.zero = some (.string ⟨#[]⟩) ∧ i.size = 1 ∧ i.bytes = 16 := by
  have h : (Try.prog.info? 9).map (fun i => (i.zero, i.size, i.bytes)) = some (some (.string ⟨#[]⟩), 1, 16) := by kernel_rfl
  cases hi : Try.prog.info? 9 with
  | none => rw [hi] at h; cases h
  | some i =>
    rw [hi] at h
    simp only [Option.map_some, Option.some.injEq, Prod.mk.injEq] at h
    exact ⟨i, rfl, h⟩
theorem run_append_s (ty : TypeId) {K : List ByteArray} (hown : OwnS w base v K) {b c : Nat} {x : ByteArray} (hx : w.cell? ⟨b, 0, none⟩ = some (.string x)) (hl : K.length ≤ 4000000000000) (hbase : base ≤ w.heap.size) :
    ∃ v' w', (Builtin.append_ #[43, 43] ty #[v, .slice (some ⟨b, 0, none⟩) 1 c]).run Try.prog w = .ok v' w' ∧ OwnS w' base v' (K ++ [x]) ∧ w.grownBy w' v.ownBlock := by
  obtain ⟨i0, hi, hz0, hz1, hz2⟩ := infoStrJ
  obtain ⟨v', w', h1, h2, h3, _⟩ := run_append_own (P := Try.prog) w base 43 ty 9 i0 (.string ⟨#[]⟩) 1 16 underStrings hi hz0 hz1 hz2 rfl (by decide) v K.length (K.map Value.string) hown ⟨b, 0, none⟩ 1 c [.string x] rfl
    (fun j u hu => by
      match j with
      | 0 => simp at hu; rw [← hu]; simpa [Addr.add] using hx
      | j + 1 => simp at hu) (by simp [Value.oneCell']) (by unfold maxLen; omega) (by omega) hbase
  refine ⟨v', w', h1, ?_, h3⟩
  unfold OwnS
  rw [List.length_append, List.map_append]
  exact h2
/-- A text behind one's own row. -/
theorem wpList_append_s {ops : Array Oper} {rest : List Oper} {o : Oper} {a : Act} {Q : Exit → Act → World → Prop} {K : List ByteArray} (hgd : o.guard = none) (s x : Operand)
    (ho : o.op = .call { callee := .builtin .append, args := #[s, x], argTypes := #[43, 43] }) {b c : Nat} {t : ByteArray} {y : Value} (hs : a.eval s = v) (hx : a.eval x = y) (hyy : y = .slice (some ⟨b, 0, none⟩) 1 c) (hown : OwnS w base v K) (hy : w.cell? ⟨b, 0, none⟩ = some (.string t)) (hl : K.length ≤ 4000000000000) (hbase : base ≤ w.heap.size)
    (h : ∀ v' w', OwnS w' base v' (K ++ [t]) → w.grownBy w' v.ownBlock → wpList Try.prog ops Q rest (a.put o.dst v') w') : wpList Try.prog ops Q (o :: rest) a w := by
  refine wpList_plain hgd fun _ hK => ?_
  obtain ⟨v', w', hr, h2, h3⟩ := run_append_s o.type hown hy hl hbase
  rw [← hyy] at hr
  unfold Oper.wp execOp
  simp only [ho, resolve, invoke, builtin, Sem.run_bind, Sem.run_pure, Result.andThen_ok, List.map_toArray, List.map_cons, List.map_nil, hs, hx, hr]
  exact hK _ _ (h v' w' h2 h3)
end
end Go.Proofs.Ytadpopjhhanapaa
