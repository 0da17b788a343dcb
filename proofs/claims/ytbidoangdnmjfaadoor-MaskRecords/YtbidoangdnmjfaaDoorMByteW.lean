/-
  A row of bytes that grows; hashes, loaded, stored, written behind such a row.
-/
import Derived.Test.YtbidoangdnmjfaaDoorMMem
import Derived.Lib.AppendStr
namespace Go.Proofs.YtbidoangdnmjfaaDoor
open Go Go.RowKit Go.Lib

def u8v (x : UInt8) : Value := .int .u8 (x.toNat : Nat)
def OwnB (w : World) (base : Nat) (v : Value) (l : List UInt8) : Prop := w.ownsRow base 5 1 v l.length (l.map u8v)
/-- Blocks that are no rows of bytes stay. -/
structure KU (w w' : World) : Prop where
  os : w'.os = w.os
  tape : w'.tape = w.tape
  output : w'.output = w.output
  size : w.heap.size ≤ w'.heap.size
  block : ∀ k, k < w.heap.size → (∀ cs f, w.heap[k]? ≠ some (.cells cs 5 f)) → w'.heap[k]? = w.heap[k]?
section
variable {w w' w'' : World} {base : Nat} {v : Value} {l : List UInt8}
theorem KU.refl (w : World) : KU w w := ⟨rfl, rfl, rfl, Nat.le_refl _, fun _ _ _ => rfl⟩
theorem KU.trans (h : KU w w') (h' : KU w' w'') : KU w w'' :=
  ⟨h'.os.trans h.os, h'.tape.trans h.tape, h'.output.trans h.output, Nat.le_trans h.size h'.size, fun k hk hn => (h'.block k (Nat.lt_of_lt_of_le hk h.size) (fun cs f => by rw [h.block k hk hn]; exact hn cs f)).trans (h.block k hk hn)⟩
theorem KU.below (h : Below w.heap.size w w') : KU w w' := ⟨h.os, h.tape, h.output, h.size, fun k hk _ => h.block k hk⟩
theorem KU.holds {g : Nat} {t : TypeId} {cs : Array Value} (h : KU w w') (hh : Holds w g t cs) (ht : t ≠ 5) : Holds w' g t cs := by
  have hl := hh.lt
  unfold Holds at *
  rw [h.block g hl (fun cs' f e => by rw [hh] at e; injection e with e; injection e with _ e _; exact ht e)]
  exact hh
theorem KU.grown (hown : OwnB w base v l) (hg : w.grownBy w' v.ownBlock) : KU w w' := by
  refine ⟨hg.os, hg.tape, hg.output, hg.size, fun k hk hn => hg.block k hk fun e => ?_⟩
  rcases hown.2 with ⟨rfl, _⟩ | ⟨g, cap, cur, rfl, h1, h2, _⟩
  · cases e
  · injection e with e
    simp only at e
    subst e
    exact hn _ _ h2
theorem below_own (hown : OwnB w base v l) (hg : w.grownBy w' v.ownBlock) (hb : base ≤ w.heap.size) : Below base w w' := by
  refine ⟨hg.os, hg.tape, hg.output, hg.size, fun k hk => hg.block k (by omega) fun e => ?_⟩
  have := (World.ownsRow.lt hown k e.symm).1
  omega
theorem OwnB.nil (w : World) (base : Nat) : OwnB w base (.slice none 0 0) [] := World.ownsRow_nil _ _ _ _
theorem OwnB.below0 (h : OwnB w base v l) (hb : Below w.heap.size w w') : OwnB w' base v l := by
  refine ⟨h.1, ?_⟩
  rcases h.2 with q | ⟨g, cap, cur, rfl, h1, h2, h3⟩
  · exact .inl q
  · exact .inr ⟨g, cap, cur, rfl, h1, (hb.block g (Array.getElem?_eq_some_iff.1 h2).1).trans h2, h3⟩
theorem OwnB.shape (h : OwnB w base v l) : ∃ p c, v = .slice p l.length c := by
  rcases h.2 with ⟨rfl, h0⟩ | ⟨g, cap, cur, rfl, _⟩
  · exact ⟨none, 0, by rw [h0]⟩
  · exact ⟨_, _, rfl⟩
theorem infoU8 : ∃ i, Tryd.prog.info? 5 = some i ∧ i.zero = some (.int .u8 0) ∧ i.size = 1 ∧ i.bytes = 1 := by
  have h : (Tryd.prog.info? 5).map (fun i => (i.zero, i.size, i.bytes)) = some (some (.int .u8 0), 1, 1) := by kernel_rfl
  cases hq : Tryd.prog.info? 5 with
  | none => rw [hq] at h; cases h
  | some i =>
    rw [hq] at h
    simp only [Option.map_some, Option.some.injEq, Prod.mk.injEq] at h
    exact ⟨i, rfl, h.1, h.2.1, h.2.2⟩
theorem underBytes : Tryd.prog.underlying 48 = some (.slice 5) := by kernel_rfl
theorem underStr : Tryd.prog.underlying 9 = some .string := by kernel_rfl
/-- Bytes that lie in memory, more. -/
theorem run_append_b (ty : TypeId) (hown : OwnB w base v l) (ns : List UInt8) {g c : Nat} (hg : ∀ j u, (ns.map u8v)[j]? = some u → w.cell? ⟨g, j, none⟩ = some u) (hl : l.length + ns.length ≤ 1000000000) (hbase : base ≤ w.heap.size) :
    ∃ v' w', (Builtin.append_ #[48, 48] ty #[v, .slice (some ⟨g, 0, none⟩) ns.length c]).run Tryd.prog w = .ok v' w' ∧ OwnB w' base v' (l ++ ns) ∧ KU w w' ∧ Below base w w' := by
  obtain ⟨i0, hi, hz0, hz1, hz2⟩ := infoU8
  obtain ⟨v', w', h1, h2, h3, _⟩ := run_append_own (P := Tryd.prog) w base 48 ty 5 i0 (.int .u8 0) 1 1 underBytes hi hz0 hz1 hz2 rfl (by decide) v l.length (l.map u8v) hown ⟨g, 0, none⟩ ns.length c (ns.map u8v) (by simp) (fun j u hu => by
    rw [add_plainH, Nat.zero_add]; exact hg j u hu) (fun u hu => by obtain ⟨c, _, rfl⟩ := List.mem_map.1 hu; rfl) (by unfold maxLen; omega) (by omega) hbase
  refine ⟨v', w', h1, ?_, KU.grown hown h3, below_own hown h3 hbase⟩
  unfold OwnB
  rw [List.length_append, List.map_append]
  exact h2
theorem wpList_append_b {ops : Array Oper} {rest : List Oper} {o : Oper} {a : Act} {Q : Exit → Act → World → Prop} (hgd : o.guard = none) (s x : Operand)
    (ho : o.op = .call { callee := .builtin .append, args := #[s, x], argTypes := #[48, 48] }) {g m c : Nat} (ns : List UInt8) (hm : ns.length = m) (hs : a.eval s = v) (hx : a.eval x = .slice (some ⟨g, 0, none⟩) m c) (hown : OwnB w base v l) (hg : ∀ j u, (ns.map u8v)[j]? = some u → w.cell? ⟨g, j, none⟩ = some u) (hl : l.length + ns.length ≤ 1000000000) (hbase : base ≤ w.heap.size)
    (h : ∀ v' w', OwnB w' base v' (l ++ ns) → KU w w' → Below base w w' → wpList Tryd.prog ops Q rest (a.put o.dst v') w') : wpList Tryd.prog ops Q (o :: rest) a w := by
  refine wpList_plain hgd fun _ hK => ?_
  subst hm
  obtain ⟨v', w', hr, h2, h3, h4⟩ := run_append_b o.type hown ns hg (c := c) hl hbase
  unfold Oper.wp execOp
  simp only [ho, resolve, invoke, builtin, Sem.run_bind, Sem.run_pure, Result.andThen_ok, List.map_toArray, List.map_cons, List.map_nil, hs, hx, hr]
  exact hK _ _ (h v' w' h2 h3 h4)
theorem convertB (hown : OwnB w base v l) (hpos : 0 < l.length) : (convert 48 9 v).run Tryd.prog w = .ok (.string ⟨l.toArray⟩) w := by
  rcases hown.2 with ⟨rfl, h0⟩ | ⟨g, cap, cur, rfl, h1, h2, h3, h4, h5, h6⟩
  · omega
  · exact run_convert_bytes_back (P := Tryd.prog) w 48 9 5 ⟨g, 0, none⟩ cap l underBytes (by kernel_rfl) (by kernel_rfl) (fun j hj => by
      have hc := World.ownsRow.cellAt hown j (by simpa using hj)
      rw [add_plainH, Nat.zero_add, hc]
      simp [u8v, hj])
end

section
variable {ops : Array Oper} {rest : List Oper} {op : Oper} {a : Act} {w : World} {Q : Exit → Act → World → Prop}
/-- A hash is loaded. -/
theorem wpList_ldH (hgd : op.guard = none) (x : Operand) (ho : op.op = .load 43 x) {b o : Nat} (hx : a.eval x = .pointer (some ⟨b, o, none⟩)) {y : H32} (hh : HashAt w b o y)
    (h : wpList Tryd.prog ops Q rest (a.put op.dst (hla y)) w) : wpList Tryd.prog ops Q (op :: rest) a w :=
  wpList_plain hgd fun _ hK => by
    unfold Oper.wp execOp
    simp only [ho, hx, Instr.loadAt, Instr.sureAddr, Sem.run_bind, Sem.run_pure, Result.andThen_ok, ldHash hh]
    exact hK _ _ h
/-- A hash is stored. -/
theorem wpList_stH (hgd : op.guard = none) (x y : Operand) (ho : op.op = .store 43 x y) {b : Nat} {z z' : H32} (hx : a.eval x = .pointer (some ⟨b, 0, none⟩)) (hy : a.eval y = hla z) {t : TypeId} (hh : Holds w b t (hcl z').toArray)
    (h : ∀ w', Holds w' b t (hcl z).toArray → Only b w w' → w'.heap.size = w.heap.size → wpList Tryd.prog ops Q rest (a.put op.dst undef) w') : wpList Tryd.prog ops Q (op :: rest) a w :=
  wpList_storeH hgd 43 x y ho b _ hx hy t _ hh (by rw [infoSum2]; simp [hcl_len]) (by simp [hcl_len]) (by
    rw [← Array.all_toList, List.all_eq_true]
    intro u hu
    exact hcl_one z u (by simpa using hu)) h
end
/-- The zeros that a new hash is. -/
def zero32 : Array Value := (hcl zeroH).toArray
theorem zero32_eq : zero32 = #[.int .u8 0, .int .u8 0, .int .u8 0, .int .u8 0, .int .u8 0, .int .u8 0, .int .u8 0, .int .u8 0, .int .u8 0, .int .u8 0, .int .u8 0, .int .u8 0, .int .u8 0, .int .u8 0, .int .u8 0, .int .u8 0, .int .u8 0, .int .u8 0, .int .u8 0, .int .u8 0, .int .u8 0, .int .u8 0, .int .u8 0, .int .u8 0, .int .u8 0, .int .u8 0, .int .u8 0, .int .u8 0, .int .u8 0, .int .u8 0, .int .u8 0, .int .u8 0] := by
  unfold zero32 hcl zeroH
  simp
theorem hcl_u8v (h : H32) : hcl h = h.1.map u8v := rfl
/-- A mask as two bytes. -/
def twoB (m : Nat) : List UInt8 := [UInt8.ofNat (m / 256), UInt8.ofNat m]
/-- A record. -/
def recB (s t h : Nat) (L : List H32) : List UInt8 := twoB s ++ twoB t ++ twoB h ++ L.flatMap (·.1)
theorem flat_len (L : List H32) : (L.flatMap (·.1)).length = L.length * 32 := by
  induction L with
  | nil => rfl
  | cons a l ih => rw [List.flatMap_cons, List.length_append, ih, List.length_cons, a.2]; omega
theorem recB_len (s t h : Nat) (L : List H32) : (recB s t h L).length = 6 + L.length * 32 := by
  unfold recB
  rw [List.length_append, flat_len]
  rfl
theorem flat_take {L : List H32} {k : Nat} {x : H32} (h : L[k]? = some x) : (L.take (k + 1)).flatMap (·.1) = (L.take k).flatMap (·.1) ++ x.1 := by
  rw [List.take_add_one, h, List.flatMap_append]
  simp
theorem hi_byte (m : Nat) : (m : Int) / 2 ^ 8 % 256 = ((UInt8.ofNat (m / 256)).toNat : Nat) := by
  rw [UInt8.toNat_ofNat']
  omega
theorem lo_byte (m : Nat) : (m : Int) % 256 = ((UInt8.ofNat m).toNat : Nat) := by
  rw [UInt8.toNat_ofNat']
  omega
end Go.Proofs.YtbidoangdnmjfaaDoor
