/-
  What the statements on chunks lean on besides.
-/
import Derived.Test.YtiokbhbggpibpaaHAwake
import Derived.Test.YtiokbhbggpibpaaBArgs
namespace Go.Proofs.Ytiokbhbggpibpaa
open Go Go.RowKit

theorem nodup_le : ∀ {m : List Nat} {l : List Int}, m.Nodup → (∀ x ∈ m, ((x : Nat) : Int) ∈ l) → m.length ≤ l.length
  | [], _, _, _ => Nat.zero_le _
  | a :: m, l, hn, hs => by
    have ha := hs a List.mem_cons_self
    obtain ⟨h1, h2⟩ := List.nodup_cons.1 hn
    have ih := nodup_le (m := m) (l := l.erase (a : Int)) h2 fun x hx => by
      refine (List.mem_erase_of_ne fun e => ?_).2 (hs x (List.mem_cons_of_mem _ hx))
      have : x = a := by omega
      exact h1 (this ▸ hx)
    rw [List.length_erase_of_mem ha] at ih
    have := List.length_pos_of_mem ha
    rw [List.length_cons]
    omega
theorem ofInts_bound (l : List Int) : ∀ n, ofInts l n = true → n < 2147483648 := fun n h => by
  unfold ofInts at h
  rw [Bool.and_eq_true] at h
  exact of_decide_eq_true h.2
theorem ints_card (l : List Int) : (memFrom (ofInts l) 0).length ≤ l.length := nodup_le (rising_nodup (memFrom_rises _ _)) fun x hx => by
  have := ((mem_memFrom (ofInts_bound l)).1 hx).2
  unfold ofInts at this
  rw [Bool.and_eq_true] at this
  exact of_decide_eq_true this.1
theorem IntsAt.takeH {w : World} {p : Option Addr} {n c : Nat} {l : List Int} (h : IntsAt w (.slice p n c) l) (m : Nat) (hm : m ≤ l.length) : IntsAt w (.slice p m c) (l.take m) := by
  rcases h with ⟨rfl, q, c', e⟩ | ⟨b, o, c', e, h2⟩
  · have : m = 0 := by simpa using hm
    subst this
    exact .inl ⟨rfl, p, c, rfl⟩
  · injection e with e1 e2 e3
    subst e1 e3
    have hl : (l.take m).length = m := by rw [List.length_take]; omega
    refine .inr ⟨b, o, c, by rw [hl], fun i hi => ?_⟩
    rw [hl] at hi
    rw [h2 i (by omega), List.getD_eq_getElem?_getD, List.getD_eq_getElem?_getD, List.getElem?_take, if_pos hi]
theorem ints_to (p : Option Addr) {n c : Nat} (m : Nat) (hm : m ≤ c) (w : World) : (Instr.sliceAt 22 (.slice p n c) none (some (.int .i64 (m : Int))) none).run Try.prog w = .ok (.slice p m c) w := by
  rw [run_sliceAt_slice w _ _ _ _ _ htIntSlH, run_slice_h w _ _ _ _ htIntSlH .i64 (m : Int) (by omega) (by omega), elemIntSlH, sizeIntH, Result.andThen_ok]
  unfold sliced
  simp
  intro _
  cases p with
  | none => rfl
  | some a =>
    show some (a.add 0) = some a
    unfold Addr.add
    obtain ⟨b, o, sp⟩ := a
    cases sp <;> simp
/-- A row of one's own, by its block. -/
theorem OwnChunks.row {w : World} {base : Nat} {v : Value} {L : List Ck} (h : OwnChunks w base v L) {i : Nat} (hi : i < L.length) : ∃ g cap cur, v = .slice (some ⟨g, 0, none⟩) L.length cap ∧ base ≤ g ∧ Holds w g 44 cur ∧ L.length ≤ cap ∧ cap ≤ maxLen ∧ cur.size = cap * 2 ∧ cur.toList.take (L.length * 2) = ccells L := by
  rcases h.2 with ⟨_, h0⟩ | ⟨g, cap, cur, h1, h2, h3, h4, h5, h6, h7⟩
  · omega
  · exact ⟨g, cap, cur, h1, h2, h3, h4, h5, h6, h7⟩
theorem ccells_set : ∀ (L : List Ck) (i : Nat) (u : Int) (s t : ByteArray), L[i]? = some (u, t) → ccells (L.set i (u, s)) = (ccells L).set (i * 2 + 1) (.string s)
  | a :: l, 0, u, s, t, h => by
    have e : a = (u, t) := by simpa using h
    subst e
    rfl
  | a :: l, i + 1, u, s, t, h => by
    have ih := ccells_set l i u s t (by simpa using h)
    have e : ∀ l', ccells (a :: l') = [.int .i64 a.1, .string a.2] ++ ccells l' := fun _ => rfl
    rw [List.set_cons_succ, e, e, ih]
    rw [show (i + 1) * 2 + 1 = (i * 2 + 1) + 2 by omega]
    rfl
theorem OwnChunks.setD {w : World} {base g cap : Nat} {cur : Array Value} {L : List Ck} (h1 : base ≤ g) (h2 : Holds w g 44 cur) (h3 : L.length ≤ cap) (h4 : cap ≤ maxLen) (h5 : cur.size = cap * 2) (h6 : cur.toList.take (L.length * 2) = ccells L) {i : Nat} {u : Int} {t : ByteArray} (hi : L[i]? = some (u, t)) (s : ByteArray) :
    OwnChunks (w.setCell ⟨g, i * 2 + 1, none⟩ (.string s)) base (.slice (some ⟨g, 0, none⟩) L.length cap) (L.set i (u, s)) := by
  have hl : (L.set i (u, s)).length = L.length := List.length_set
  unfold OwnChunks
  rw [hl]
  refine ⟨by rw [ccells_len, hl], .inr ⟨g, cap, _, rfl, h1, h2.set (i * 2 + 1) (.string s), h3, h4, by rw [Array.size_setIfInBounds]; exact h5, ?_⟩⟩
  rw [ccells_set L i u s t hi, ← h6, Array.toList_setIfInBounds, List.take_set]
theorem set_fst (L : List Ck) (i : Nat) (u : Int) (s t : ByteArray) (h : L[i]? = some (u, t)) : (L.set i (u, s)).map (·.1) = L.map (·.1) := by
  rw [List.map_set]
  have : (L.map (·.1))[i]? = some u := by rw [List.getElem?_map, h]; rfl
  refine List.ext_getElem? fun j => ?_
  by_cases hj : i = j
  · subst hj
    rw [List.getElem?_set_self (List.getElem?_eq_some_iff.1 this).1, this]
  · rw [List.getElem?_set_ne hj]
/-- A row of numbers of one's own. -/
def OwnI (w : World) (base : Nat) (v : Value) (l : List Int) : Prop := w.ownsRow base 3 1 v l.length (l.map fun x => .int .i64 x)
theorem OwnI.at {w : World} {base : Nat} {v : Value} {l : List Int} (h : OwnI w base v l) : IntsAt w v l := by
  rcases h.2 with ⟨rfl, h0⟩ | ⟨g, cap, cur, rfl, h1, h2, h3, h4, h5, h6⟩
  · exact .inl ⟨List.eq_nil_of_length_eq_zero h0, none, 0, rfl⟩
  · refine .inr ⟨g, 0, cap, rfl, fun i hi => ?_⟩
    have := congrArg (fun x : List Value => x[i]?) h6
    rw [List.getElem?_take, if_pos (by omega), List.getElem?_map, List.getElem?_eq_getElem hi] at this
    rw [Nat.zero_add, List.getD_eq_getElem?_getD, List.getElem?_eq_getElem hi]
    exact (cell_of_row w g i cur _ (0, 0) h2).trans (by simpa using this)
theorem OwnI.nil (w : World) (base : Nat) : OwnI w base (.slice none 0 0) [] := World.ownsRow_nil _ _ _ _
theorem OwnI.below {w w' : World} {base : Nat} {v : Value} {l : List Int} (h : OwnI w base v l) (hb : Below w.heap.size w w') : OwnI w' base v l := by
  refine ⟨h.1, ?_⟩
  rcases h.2 with q | ⟨g, cap, cur, rfl, h1, h2, h3⟩
  · exact .inl q
  · exact .inr ⟨g, cap, cur, rfl, h1, (hb.block g (Array.getElem?_eq_some_iff.1 h2).1).trans h2, h3⟩
theorem infoIntH : ∃ i, Try.prog.info? 3 = some i ∧ i.zero = some (.int .i64 0) ∧ i.size = 1 ∧ i.bytes = 8 := by
  have h : (Try.prog.info? 3).map (fun i => (i.zero, i.size, i.bytes)) = some (some (.int .i64 0), 1, 8) := by kernel_rfl
  cases hi : Try.prog.info? 3 with
  | none => rw [hi] at h; cases h
  | some i =>
    rw [hi] at h
    simp only [Option.map_some, Option.some.injEq, Prod.mk.injEq] at h
    exact ⟨i, rfl, h⟩
/-- One number more, behind one's own row. -/
theorem wpList_append_one {w : World} {base : Nat} {ops : Array Oper} {rest : List Oper} {o : Oper} {a : Act} {Q : Exit → Act → World → Prop} (hgd : o.guard = none) (s x : Operand)
    (ho : o.op = .call { callee := .builtin .append, args := #[s, x], argTypes := #[22, 22] }) {v : Value} {l : List Int} {n : Int} {z : Nat} (hs : a.eval s = v) (hx : a.eval x = .slice (some ⟨z, 0, none⟩) 1 1) (hown : OwnI w base v l) (hz : w.cell? ⟨z, 0, none⟩ = some (.int .i64 n)) (hl : l.length ≤ 1000000) (hbase : base ≤ w.heap.size)
    (h : ∀ v' w', OwnI w' base v' (l ++ [n]) → w.grownBy w' v.ownBlock → wpList Try.prog ops Q rest (a.put o.dst v') w') : wpList Try.prog ops Q (o :: rest) a w := by
  obtain ⟨i0, hi, hz0, hz1, hz2⟩ := infoIntH
  refine wpList_append_own _ hgd s x 22 ho base 3 i0 (.int .i64 0) 1 8 underIntSlH hi hz0 hz1 hz2 rfl (by decide) v l.length (l.map fun x => .int .i64 x) hs hown ⟨z, 0, none⟩ 1 1 [.int .i64 n] hx rfl (fun j u hu => ?_) (fun u hu => by rw [List.mem_singleton.1 hu]; rfl) (by unfold maxLen; omega) (by omega) hbase ?_
  · have hj : j = 0 := by
      have := (List.getElem?_eq_some_iff.1 hu).1
      simp at this
      exact this
    subst hj
    rw [add_plainH]
    have : u = .int .i64 n := by simpa using hu.symm
    rw [this]; exact hz
  · intro v' w' h2 h3 _
    refine h v' w' ?_ h3
    unfold OwnI
    rw [List.length_append, List.map_append]
    exact h2
theorem which_lt {us : List Int} {f : Int} {k : Nat} (h : which us f = some k) : k < us.length := by
  rcases which_spec us f 0 with ⟨h1, _⟩ | ⟨j, u, h1, h2, _⟩
  · unfold which at h
    rw [h1] at h
    cases h
  · unfold which at h
    rw [h1] at h
    have := Option.some.inj h
    have := (List.getElem?_eq_some_iff.1 h2).1
    omega
theorem ints_lenH {w : World} {p : Option Addr} {n c : Nat} {l : List Int} (h : IntsAt w (.slice p n c) l) : n = l.length := by
  obtain ⟨p', c', e⟩ := h.lenH
  injection e
theorem own_ne {w : World} {b b' : Nat} {v v' : Value} {L : List Ck} {l : List Int} (h : OwnChunks w b v L) (h' : OwnI w b' v' l) : v.ownBlock = none ∨ v.ownBlock ≠ v'.ownBlock := by
  rcases h.2 with ⟨rfl, _⟩ | ⟨g, cap, cur, rfl, _, hg, _⟩
  · exact .inl rfl
  · right
    rcases h'.2 with ⟨rfl, _⟩ | ⟨g', cap', cur', rfl, _, hg', _⟩
    · exact fun e => by cases e
    · intro e
      have e' : g = g' := by simpa [Value.ownBlock] using e
      subst e'
      rw [hg] at hg'
      injection hg' with hg'
      injection hg' with _ hg'
      revert hg'
      decide
theorem OwnChunks.grown {w w' : World} {b b' : Nat} {v v' : Value} {L : List Ck} {l : List Int} {o : Obj} (h : OwnChunks w b v L) (h' : OwnI w b' v' l) (hg : (w.alloc o).grownBy w' v'.ownBlock) : OwnChunks w' b v L := (World.ownsRow.alloc h o).kept hg (own_ne h h')
theorem below_grownI {w0 w w' : World} {v : Value} {o : Obj} (h : Below w0.heap.size w0 w) (g : (w.alloc o).grownBy w' v.ownBlock) (hv : ∀ k, v.ownBlock = some k → w0.heap.size ≤ k) : Below w0.heap.size w0 w' := below_grownH (below_new h (below_new1 w o)) g hv
end Go.Proofs.Ytiokbhbggpibpaa
