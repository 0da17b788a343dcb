/-
  A row of bytes that grows; numbers as bytes.
-/
import Derived.Test.YtdgfjaidnedaiaaESlice
import Derived.Lib.AppendStr
namespace Go.Proofs.Ytdgfjaidnedaiaa
open Go Go.RowKit Go.Lib

def u8v (x : UInt8) : Value := .int .u8 (x.toNat : Nat)
def OwnB (w : World) (base : Nat) (v : Value) (l : List UInt8) : Prop := w.ownsRow base 5 1 v l.length (l.map u8v)
/-- Blocks that are no rows of bytes stay. -/
structure KU (w w' : World) : Prop where
  os : w'.os = w.os
  tape : w'.tape = w.tape
  output : w'.output = w.output
  size : w.heap.size ≤ w'.heap.size
  block : ∀ k, k < w.heap.size → (∀ cs f, w.heap[k]? ≠ some (.cells cs 5 f)) → w'.heap[k]? = w.heap[k]?
section
variable {w w' w'' : World} {base : Nat} {v : Value} {l : List UInt8}
theorem KU.refl (w : World) : KU w w := ⟨rfl, rfl, rfl, Nat.le_refl _, fun _ _ _ => rfl⟩
theorem KU.trans (h : KU w w') (h' : KU w' w'') : KU w w'' :=
  ⟨h'.os.trans h.os, h'.tape.trans h.tape, h'.output.trans h.output, Nat.le_trans h.size h'.size, fun k hk hn => (h'.block k (Nat.lt_of_lt_of_le hk h.size) (fun cs f => by rw [h.block k hk hn]; exact hn cs f)).trans (h.block k hk hn)⟩
theorem KU.below (h : Below w.heap.size w w') : KU w w' := ⟨h.os, h.tape, h.output, h.size, fun k hk _ => h.block k hk⟩
theorem KU.holds {g : Nat} {t : TypeId} {cs : Array Value} (h : KU w w') (hh : Holds w g t cs) (ht : t ≠ 5) : Holds w' g t cs := by
  have hl := hh.lt
  unfold Holds at *
  rw [h.block g hl (fun cs' f e => by rw [hh] at e; injection e with e; injection e with _ e _; exact ht e)]
  exact hh
theorem KU.grown (hown : OwnB w base v l) (hg : w.grownBy w' v.ownBlock) : KU w w' := by
  refine ⟨hg.os, hg.tape, hg.output, hg.size, fun k hk hn => hg.block k hk fun e => ?_⟩
  rcases hown.2 with ⟨rfl, _⟩ | ⟨g, cap, cur, rfl, h1, h2, _⟩
  · cases e
  · injection e with e
    simp only at e
    subst e
    exact hn _ _ h2
theorem below_own (hown : OwnB w base v l) (hg : w.grownBy w' v.ownBlock) (hb : base ≤ w.heap.size) : Below base w w' := by
  refine ⟨hg.os, hg.tape, hg.output, hg.size, fun k hk => hg.block k (by omega) fun e => ?_⟩
  have := (World.ownsRow.lt hown k e.symm).1
  omega
theorem OwnB.nil (w : World) (base : Nat) : OwnB w base (.slice none 0 0) [] := World.ownsRow_nil _ _ _ _
theorem OwnB.below0 (h : OwnB w base v l) (hb : Below w.heap.size w w') : OwnB w' base v l := by
  refine ⟨h.1, ?_⟩
  rcases h.2 with q | ⟨g, cap, cur, rfl, h1, h2, h3⟩
  · exact .inl q
  · exact .inr ⟨g, cap, cur, rfl, h1, (hb.block g (Array.getElem?_eq_some_iff.1 h2).1).trans h2, h3⟩
theorem OwnB.shape (h : OwnB w base v l) : ∃ p c, v = .slice p l.length c := by
  rcases h.2 with ⟨rfl, h0⟩ | ⟨g, cap, cur, rfl, _⟩
  · exact ⟨none, 0, by rw [h0]⟩
  · exact ⟨_, _, rfl⟩
theorem infoU8 : ∃ i, Try.prog.info? 5 = some i ∧ i.zero = some (.int .u8 0) ∧ i.size = 1 ∧ i.bytes = 1 := by
  have h : (Try.prog.info? 5).map (fun i => (i.zero, i.size, i.bytes)) = some (some (.int .u8 0), 1, 1) := by kernel_rfl
  cases hq : Try.prog.info? 5 with
  | none => rw [hq] at h; cases h
  | some i =>
    rw [hq] at h
    simp only [Option.map_some, Option.some.injEq, Prod.mk.injEq] at h
    exact ⟨i, rfl, h.1, h.2.1, h.2.2⟩
theorem underBytes : Try.prog.underlying 52 = some (.slice 5) := by kernel_rfl
theorem underStr : Try.prog.underlying 9 = some .string := by kernel_rfl
/-- One byte more. -/
theorem run_append_u8 (ty : TypeId) (hown : OwnB w base v l) (x : UInt8) {g : Nat} (hg : Holds w g 5 #[u8v x]) (hl : l.length ≤ 1000000000) (hbase : base ≤ w.heap.size) :
    ∃ v' w', (Builtin.append_ #[52, 52] ty #[v, .slice (some ⟨g, 0, none⟩) 1 1]).run Try.prog w = .ok v' w' ∧ OwnB w' base v' (l ++ [x]) ∧ KU w w' ∧ Below base w w' := by
  obtain ⟨i0, hi, hz0, hz1, hz2⟩ := infoU8
  obtain ⟨v', w', h1, h2, h3, _⟩ := run_append_own (P := Try.prog) w base 52 ty 5 i0 (.int .u8 0) 1 1 underBytes hi hz0 hz1 hz2 rfl (by decide) v l.length (l.map u8v) hown ⟨g, 0, none⟩ 1 1 [u8v x] rfl (fun j u hu => by
    cases j with
    | zero => rw [add_plainE, hg.cell]; simpa using hu
    | succ j => simp at hu) (fun u hu => by rw [List.mem_singleton.1 hu]; rfl) (by unfold maxLen; omega) (by omega) hbase
  refine ⟨v', w', h1, ?_, KU.grown hown h3, below_own hown h3 hbase⟩
  unfold OwnB
  rw [List.length_append, List.map_append]
  exact h2
/-- A text more. -/
theorem run_append_txt (ty : TypeId) (hown : OwnB w base v l) (s : ByteArray) (hl : l.length + s.size ≤ 1000000000) (hbase : base ≤ w.heap.size) :
    ∃ v' w', (Builtin.append_ #[52, 9] ty #[v, .string s]).run Try.prog w = .ok v' w' ∧ OwnB w' base v' (l ++ s.data.toList) ∧ KU w w' ∧ Below base w w' := by
  obtain ⟨i0, hi, hz0, hz1, hz2⟩ := infoU8
  obtain ⟨v', w', h1, h2, h3, _⟩ := run_append_own_string (P := Try.prog) w base 52 9 ty 5 i0 underBytes underStr hi hz0 hz1 hz2 v l.length (l.map u8v) hown s (by unfold maxLen; omega) (by omega) hbase
  refine ⟨v', w', h1, ?_, KU.grown hown h3, below_own hown h3 hbase⟩
  unfold OwnB
  rw [List.length_append, List.map_append]
  exact h2
theorem wpList_append_u8 {ops : Array Oper} {rest : List Oper} {o : Oper} {a : Act} {Q : Exit → Act → World → Prop} (hgd : o.guard = none) (s x : Operand)
    (ho : o.op = .call { callee := .builtin .append, args := #[s, x], argTypes := #[52, 52] }) {g : Nat} (b : UInt8) (hs : a.eval s = v) (hx : a.eval x = .slice (some ⟨g, 0, none⟩) 1 1) (hown : OwnB w base v l) (hg : Holds w g 5 #[u8v b]) (hl : l.length ≤ 1000000000) (hbase : base ≤ w.heap.size)
    (h : ∀ v' w', OwnB w' base v' (l ++ [b]) → KU w w' → Below base w w' → wpList Try.prog ops Q rest (a.put o.dst v') w') : wpList Try.prog ops Q (o :: rest) a w := by
  refine wpList_plain hgd fun _ hK => ?_
  obtain ⟨v', w', hr, h2, h3, h4⟩ := run_append_u8 o.type hown b hg hl hbase
  unfold Oper.wp execOp
  simp only [ho, resolve, invoke, builtin, Sem.run_bind, Sem.run_pure, Result.andThen_ok, List.map_toArray, List.map_cons, List.map_nil, hs, hx, hr]
  exact hK _ _ (h v' w' h2 h3 h4)
theorem convertB (hown : OwnB w base v l) (hpos : 0 < l.length) : (convert 52 9 v).run Try.prog w = .ok (.string ⟨l.toArray⟩) w := by
  rcases hown.2 with ⟨rfl, h0⟩ | ⟨g, cap, cur, rfl, h1, h2, h3, h4, h5, h6⟩
  · omega
  · exact run_convert_bytes_back (P := Try.prog) w 52 9 5 ⟨g, 0, none⟩ cap l underBytes (by kernel_rfl) (by kernel_rfl) (fun j hj => by
      have hc := World.ownsRow.cellAt hown j (by simpa using hj)
      rw [add_plainE, Nat.zero_add, hc]
      simp [u8v, hj])
end
/-- A number in so many bytes, the greatest first. -/
def beB (z x : Nat) : List UInt8 := (List.range z).map fun i => UInt8.ofNat (x / 256 ^ (z - 1 - i))
theorem beB_len (z x : Nat) : (beB z x).length = z := by unfold beB; simp
theorem beB_take (z x i : Nat) (h : i < z) : (beB z x).take (i + 1) = (beB z x).take i ++ [UInt8.ofNat (x / 256 ^ (z - 1 - i))] := by
  rw [List.take_add_one]
  have : (beB z x)[i]? = some (UInt8.ofNat (x / 256 ^ (z - 1 - i))) := by unfold beB; simp [h]
  rw [this]; rfl
end Go.Proofs.Ytdgfjaidnedaiaa
