/-
  Hashes as data and in memory, and a row of them that grows.
-/
import Derived.Test.YtbidoangdnmjfaaDoorMChkW
import Derived.Laws.AppendOwn
import Derived.Deep.OwnRows
import Derived.Laws.StructEq
namespace Go.Proofs.YtbidoangdnmjfaaDoor
open Go Go.RowKit

/-- A hash: 32 bytes. -/
abbrev H32 := {l : List UInt8 // l.length = 32}
def hcl (h : H32) : List Value := h.1.map fun c => .int .u8 (c.toNat : Int)
def hla (h : H32) : Value := .agg (hcl h).toArray
def zeroH : H32 := ⟨List.replicate 32 0, by simp⟩
theorem hcl_len (h : H32) : (hcl h).length = 32 := by unfold hcl; rw [List.length_map]; exact h.2
def hcells (L : List H32) : List Value := L.flatMap hcl
theorem hcells_len (L : List H32) : (hcells L).length = L.length * 32 := by
  unfold hcells
  induction L with
  | nil => rfl
  | cons a l ih => rw [List.flatMap_cons, List.length_append, ih, List.length_cons, hcl_len]; omega
theorem hcells_app (L K : List H32) : hcells (L ++ K) = hcells L ++ hcells K := by unfold hcells; rw [List.flatMap_append]
theorem hcells_get : ∀ (L : List H32) (i : Nat) (c : H32), L[i]? = some c → ∀ j, j < 32 → (hcells L)[i * 32 + j]? = (hcl c)[j]?
  | a :: l, 0, c, h, j, hj => by
    simp at h
    subst h
    have e : hcells (a :: l) = hcl a ++ hcells l := rfl
    rw [e, List.getElem?_append_left (by rw [hcl_len]; omega)]
    simp
  | a :: l, i + 1, c, h, j, hj => by
    have ih := hcells_get l i c (by simpa using h) j hj
    have e : hcells (a :: l) = hcl a ++ hcells l := rfl
    have e4 : (hcl a).length = 32 := hcl_len a
    rw [e, List.getElem?_append_right (by omega), e4, show (i + 1) * 32 + j - 32 = i * 32 + j by omega]
    exact ih
theorem hcl_one (h : H32) : ∀ u ∈ hcl h, u.oneCell' = true := fun u hu => by
  unfold hcl at hu
  obtain ⟨c, _, rfl⟩ := List.mem_map.1 hu
  rfl
theorem hcells_one (L : List H32) : ∀ u ∈ hcells L, u.oneCell' = true := fun u hu => by
  unfold hcells at hu
  obtain ⟨c, _, h⟩ := List.mem_flatMap.1 hu
  exact hcl_one c u h
/-- One hash in memory. -/
def HashAt (w : World) (b o : Nat) (x : H32) : Prop := ∀ j, j < 32 → w.cell? ⟨b, o + j, none⟩ = (hcl x)[j]?
/-- A row of hashes. -/
def HashesAt (w : World) (v : Value) (L : List H32) : Prop :=
  (L = [] ∧ ∃ p c, v = .slice p 0 c) ∨ ∃ b o c, v = .slice (some ⟨b, o, none⟩) L.length c ∧ L.length ≤ c ∧ ∀ i x, L[i]? = some x → HashAt w b (o + i * 32) x
/-- One of the call's own. -/
def OwnH (w : World) (base : Nat) (v : Value) (L : List H32) : Prop := w.ownsRow base 43 32 v L.length (hcells L)
section
variable {w w' : World} {v : Value} {L K : List H32} {base : Nat}
theorem hcl_get (x : H32) {j : Nat} (hj : j < 32) : ∃ u, (hcl x)[j]? = some u := ⟨_, List.getElem?_eq_getElem (by rw [hcl_len]; omega)⟩
theorem HashAt.lt {b o : Nat} {x : H32} (h : HashAt w b o x) : b < w.heap.size := by
  obtain ⟨u, hu⟩ := hcl_get x (j := 0) (by decide)
  exact World.block_lt_of_cell? w _ ((h 0 (by decide)).trans hu)
theorem HashAt.below {b o : Nat} {x : H32} (h : HashAt w b o x) (hb : Below w.heap.size w w') : HashAt w' b o x := fun j hj => (hb.cell (p := ⟨b, o + j, none⟩) h.lt).trans (h j hj)
theorem HashesAt.below (h : HashesAt w v L) (hb : Below w.heap.size w w') : HashesAt w' v L := by
  rcases h with h | ⟨b, o, c, h1, h2, h3⟩
  · exact .inl h
  · exact .inr ⟨b, o, c, h1, h2, fun i x hx => (h3 i x hx).below hb⟩
theorem HashesAt.shape (h : HashesAt w v L) : ∃ p c, v = .slice p L.length c := by
  rcases h with ⟨rfl, p, c, rfl⟩ | ⟨b, o, c, rfl, h2, _⟩
  · exact ⟨p, c, rfl⟩
  · exact ⟨_, c, rfl⟩
theorem HashesAt.at {p : Option Addr} {n c : Nat} (h : HashesAt w (.slice p n c) L) {i : Nat} {x : H32} (hx : L[i]? = some x) : ∃ b o, p = some ⟨b, o, none⟩ ∧ n = L.length ∧ HashAt w b (o + i * 32) x := by
  rcases h with ⟨rfl, _⟩ | ⟨b, o, c', e, h2, h3⟩
  · simp at hx
  · injection e with e1 e2 e3
    subst e1 e2 e3
    exact ⟨b, o, rfl, rfl, h3 i x hx⟩
theorem HashesAt.nil (p : Option Addr) (c : Nat) : HashesAt w (.slice p 0 c) [] := .inl ⟨rfl, p, c, rfl⟩
theorem HashesAt.take {b o n c c' : Nat} (h : HashesAt w (.slice (some ⟨b, o, none⟩) n c) L) {k : Nat} (hk : k ≤ L.length) (hc : k ≤ c') : HashesAt w (.slice (some ⟨b, o, none⟩) k c') (L.take k) := by
  rcases h with ⟨rfl, _⟩ | ⟨b', o', c2, e, h2, h3⟩
  · obtain rfl : k = 0 := by simpa using hk
    exact .nil _ _
  · injection e with e1 e2 e3
    injection e1 with e1
    injection e1 with e4 e5
    subst e4 e5 e2 e3
    refine .inr ⟨b, o, c', by rw [List.length_take, Nat.min_eq_left hk], by rw [List.length_take]; omega, fun i x hx => h3 i x ?_⟩
    rw [List.getElem?_take] at hx
    split at hx
    · exact hx
    · cases hx
theorem HashesAt.drop {b o n c c' : Nat} (h : HashesAt w (.slice (some ⟨b, o, none⟩) n c) L) {k : Nat} (hk : k ≤ L.length) (hc : L.length - k ≤ c') : HashesAt w (.slice (some ⟨b, o + k * 32, none⟩) (L.length - k) c') (L.drop k) := by
  rcases h with ⟨rfl, _⟩ | ⟨b', o', c2, e, h2, h3⟩
  · obtain rfl : k = 0 := by simpa using hk
    exact .nil _ _
  · injection e with e1 e2 e3
    injection e1 with e1
    injection e1 with e4 e5
    subst e4 e5 e2 e3
    refine .inr ⟨b, o + k * 32, c', by rw [List.length_drop], by rw [List.length_drop]; omega, fun i x hx => ?_⟩
    rw [List.getElem?_drop] at hx
    have := h3 (k + i) x hx
    rwa [show o + (k + i) * 32 = o + k * 32 + i * 32 by omega] at this
theorem OwnH.at (h : OwnH w base v L) : HashesAt w v L := by
  rcases h.2 with ⟨rfl, h0⟩ | ⟨g, cap, cur, rfl, h1, h2, h3, h4, h5, h6⟩
  · exact .inl ⟨List.eq_nil_of_length_eq_zero h0, none, 0, rfl⟩
  · refine .inr ⟨g, 0, cap, rfl, h3, fun i x hx j hj => ?_⟩
    have hi := (List.getElem?_eq_some_iff.1 hx).1
    have q1 := hcells_get L i x hx j hj
    rw [← h6] at q1
    rw [List.getElem?_take, if_pos (by omega)] at q1
    rw [Nat.zero_add]
    exact (cell_of_row w g _ cur _ (0, 0) h2).trans (by simpa using q1)
theorem OwnH.below0 (h : OwnH w base v L) (hb : Below w.heap.size w w') : OwnH w' base v L := by
  refine ⟨h.1, ?_⟩
  rcases h.2 with q | ⟨g, cap, cur, rfl, h1, h2, h3⟩
  · exact .inl q
  · exact .inr ⟨g, cap, cur, rfl, h1, (hb.block g (Array.getElem?_eq_some_iff.1 h2).1).trans h2, h3⟩
theorem OwnH.mono {b' : Nat} (h : OwnH w base v L) (hb : b' ≤ base) : OwnH w b' v L := by
  refine ⟨h.1, ?_⟩
  rcases h.2 with q | ⟨g, cap, cur, rfl, h1, h2, h3⟩
  · exact .inl q
  · exact .inr ⟨g, cap, cur, rfl, by omega, h2, h3⟩
theorem OwnH.block (h : OwnH w base v L) (hb : ∀ k, v.ownBlock = some k → w'.heap[k]? = w.heap[k]?) : OwnH w' base v L := by
  refine ⟨h.1, ?_⟩
  rcases h.2 with q | ⟨g, cap, cur, rfl, h1, h2, h3⟩
  · exact .inl q
  · exact .inr ⟨g, cap, cur, rfl, h1, (hb g rfl).trans h2, h3⟩
theorem OwnH.nil (w : World) (base : Nat) : OwnH w base (.slice none 0 0) [] := World.ownsRow_nil _ _ _ _
theorem OwnH.new (h : OwnH w base v L) : ∀ k, v.ownBlock = some k → base ≤ k := fun k hk => (h.lt k hk).1
theorem OwnH.blk (h : OwnH w base v L) : ∀ k, v.ownBlock = some k → k < w.heap.size := fun k hk => (h.lt k hk).2
theorem zeroHla : (.agg (Array.replicate 32 (.int .u8 0)) : Value) = hla zeroH := by
  unfold hla hcl zeroH
  simp
  rfl
theorem infoSumM : ∃ i, Tryd.prog.info? 43 = some i ∧ i.zero = some (.agg (Array.replicate 32 (.int .u8 0))) ∧ i.size = 32 ∧ i.bytes = 32 := by
  have h : (Tryd.prog.info? 43).map (fun i => (i.zero, i.size, i.bytes)) = some (some (.agg #[.int .u8 0, .int .u8 0, .int .u8 0, .int .u8 0, .int .u8 0, .int .u8 0, .int .u8 0, .int .u8 0, .int .u8 0, .int .u8 0, .int .u8 0, .int .u8 0, .int .u8 0, .int .u8 0, .int .u8 0, .int .u8 0, .int .u8 0, .int .u8 0, .int .u8 0, .int .u8 0, .int .u8 0, .int .u8 0, .int .u8 0, .int .u8 0, .int .u8 0, .int .u8 0, .int .u8 0, .int .u8 0, .int .u8 0, .int .u8 0, .int .u8 0, .int .u8 0]), 32, 32) := by kernel_rfl
  cases hi : Tryd.prog.info? 43 with
  | none => rw [hi] at h; cases h
  | some i =>
    rw [hi] at h
    simp only [Option.map_some, Option.some.injEq, Prod.mk.injEq] at h
    obtain ⟨h1, h2, h3⟩ := h
    refine ⟨i, rfl, h1.trans ?_, h2, h3⟩
    rw [show (Array.replicate 32 (Value.int .u8 0)) = _ from rfl]
    rfl
theorem underHashes : Tryd.prog.underlying 23 = some (.slice 43) := by kernel_rfl
theorem underIntH : Tryd.prog.underlying 3 = some (.int .i64) := by kernel_rfl
theorem add_plainH (b o j : Nat) : (⟨b, o, none⟩ : Addr).add j = ⟨b, o + j, none⟩ := by unfold Addr.add; split <;> simp_all
theorem hashes_cell {b o : Nat} {L : List H32} (h3 : ∀ i x, L[i]? = some x → HashAt w b (o + i * 32) x) (j : Nat) (u : Value) (hu : (hcells L)[j]? = some u) : w.cell? ⟨b, o + j, none⟩ = some u := by
  have hj : j < L.length * 32 := by
    have := (List.getElem?_eq_some_iff.1 hu).1
    rw [hcells_len] at this
    exact this
  obtain ⟨y, hy⟩ : ∃ y, L[j / 32]? = some y := ⟨_, List.getElem?_eq_getElem (by omega)⟩
  have q1 := (h3 _ _ hy) (j % 32) (by omega)
  have r1 := hcells_get L _ _ hy (j % 32) (by omega)
  rw [show j / 32 * 32 + j % 32 = j by omega] at r1
  rw [show o + j / 32 * 32 + j % 32 = o + j by omega] at q1
  rw [q1, ← r1]; exact hu
/-- A row of hashes behind one's own. -/
theorem run_append_h (ty : TypeId) (hown : OwnH w base v K) {x : Value} (hx : HashesAt w x L) (hl : K.length + L.length ≤ 1000000000) (hbase : base ≤ w.heap.size) :
    ∃ v' w', (Builtin.append_ #[23, 23] ty #[v, x]).run Tryd.prog w = .ok v' w' ∧ OwnH w' base v' (K ++ L) ∧ w.grownBy w' v.ownBlock := by
  obtain ⟨i0, hi, hz0, hz1, hz2⟩ := infoSumM
  have go : ∀ (ad : Addr) (c : Nat) (news : List Value), news = hcells L → (∀ j u, news[j]? = some u → w.cell? (ad.add j) = some u) → ∃ v' w', (Builtin.append_ #[23, 23] ty #[v, .slice (some ad) L.length c]).run Tryd.prog w = .ok v' w' ∧ OwnH w' base v' (K ++ L) ∧ w.grownBy w' v.ownBlock := by
    intro ad c news hn hc
    obtain ⟨v', w', h1, h2, h3, _⟩ := run_append_own (P := Tryd.prog) w base 23 ty 43 i0 _ 32 32 underHashes hi hz0 hz1 hz2 (by simp [Value.cells]) (by decide) v K.length (hcells K) hown ad L.length c news (by rw [hn]; exact hcells_len L) hc (by rw [hn]; exact hcells_one L) (by unfold maxLen; omega) (by omega) hbase
    refine ⟨v', w', h1, ?_, h3⟩
    unfold OwnH
    rw [List.length_append, hcells_app, ← hn]
    exact h2
  rcases hx with ⟨rfl, p, c, rfl⟩ | ⟨b, o, c, rfl, h2, h3⟩
  · cases p with
    | some ad => exact go ad c [] rfl (fun j u hu => by simp at hu)
    | none =>
      rw [List.append_nil]
      refine ⟨v, w, ?_, hown, ⟨rfl, rfl, rfl, Nat.le_refl _, fun _ _ _ => rfl⟩⟩
      rcases hown.2 with ⟨rfl, h0⟩ | ⟨g, cap, cur, rfl, q1, q2, q3, q4, q5, q6⟩
      · simp [Builtin.append_, run_underlying underHashes, sizeOf, typeInfo, hi, Builtin.lenOf, Builtin.firstCells]
      · simp [Builtin.append_, run_underlying underHashes, sizeOf, typeInfo, hi, Builtin.lenOf, Builtin.firstCells, q3, storeCells]
  · exact go ⟨b, o, none⟩ c (hcells L) rfl fun j u hu => by
      rw [add_plainH]
      exact hashes_cell h3 j u hu
theorem wpList_append_h {ops : Array Oper} {rest : List Oper} {o : Oper} {a : Act} {Q : Exit → Act → World → Prop} (hgd : o.guard = none) (s x : Operand)
    (ho : o.op = .call { callee := .builtin .append, args := #[s, x], argTypes := #[23, 23] }) {y : Value} (hs : a.eval s = v) (hx : a.eval x = y) (hown : OwnH w base v K) (hy : HashesAt w y L) (hl : K.length + L.length ≤ 1000000000) (hbase : base ≤ w.heap.size)
    (h : ∀ v' w', OwnH w' base v' (K ++ L) → w.grownBy w' v.ownBlock → wpList Tryd.prog ops Q rest (a.put o.dst v') w') : wpList Tryd.prog ops Q (o :: rest) a w := by
  refine wpList_plain hgd fun _ hK => ?_
  obtain ⟨v', w', hr, h2, h3⟩ := run_append_h o.type hown hy hl hbase
  unfold Oper.wp execOp
  simp only [ho, resolve, invoke, builtin, Sem.run_bind, Sem.run_pure, Result.andThen_ok, List.map_toArray, List.map_cons, List.map_nil, hs, hx, hr]
  exact hK _ _ (h v' w' h2 h3)
/-- Zeros behind nothing. -/
theorem run_append_zerosM (ty : TypeId) (n : Nat) (h0 : 0 < n) (hn : n ≤ 1000000000) (hbase : base ≤ w.heap.size) : ∃ cap w', (Builtin.append_ #[23, 3] ty #[.slice none 0 0, .int .i64 (n : Int)]).run Tryd.prog w = .ok (.slice (some ⟨w.heap.size, 0, none⟩) n cap) w' ∧ OwnH w' base (.slice (some ⟨w.heap.size, 0, none⟩) 0 cap) [] ∧ n ≤ cap ∧ Below w.heap.size w w' := by
  obtain ⟨i0, hi, hz0, hz1, hz2⟩ := infoSumM
  have hge := grownCap_ge w n 0 43
  have hle := grownCap_le_maxLen w n 0 43 (by unfold maxLen; omega)
  refine ⟨grownCap w n 0 43, w.drew.alloc (.cells (Builtin.zeroCells (Array.replicate 32 (.int .u8 0)) n ++ Builtin.zeroCells (Array.replicate 32 (.int .u8 0)) (grownCap w n 0 43 - n)) 43), ?_, ?_, hge, ?_⟩
  · have hn0 : n ≠ 0 := by omega
    have hw : IntKind.i64.wrap (n : Int) = n := by rw [IntKind.wrap_i64]; omega
    have h63' : ¬ (9223372036854775807 < (n : Int)) := by omega
    have h48 : ¬ (281474976710656 < (n : Int) * 32) := by omega
    have h48' : ¬ (281474976710656 < Builtin.nextslicecap n 0 * 32) := by rw [nextslicecap_zero h0]; omega
    have hneg : ¬ ((n : Int) < 0) := by omega
    have has : (asIntOf (Value.int IntKind.i64 (n : Int))).run Tryd.prog w = .ok (IntKind.i64, (n : Int)) w := rfl
    simp [Builtin.append_, run_underlying underHashes, run_underlying underIntH, sizeOf, typeInfo, zeroValue, hi, hz0, hz1, hz2, hn0, hw, h63', h48, h48', Question.forced, run_firstCells_none, newRow, grownCap, asInt, has, hneg, Value.cells]
    intro q
    omega
  · exact World.ownsRow_made (w := w.drew) (base := base) (e := 43) (size := 32) _ _ hbase hle (by simp only [Array.size_append, size_zeroCells]; simp; omega)
  · exact (⟨rfl, rfl, rfl, Nat.le_refl _, fun _ _ => rfl⟩ : Below w.heap.size w w.drew).alloc (Nat.le_refl _) _
theorem infoSum2 : (Tryd.prog.info? 43).map (·.size) = some 32 := by kernel_rfl
theorem underSumM : Tryd.prog.underlying 43 = some (.array 32 5) := by kernel_rfl
theorem ldHash {b o : Nat} {x : H32} (h : HashAt w b o x) : (loadVar 43 ⟨b, o, none⟩).run Tryd.prog w = .ok (hla x) w :=
  run_loadVar_mid w b o 43 (hcl x) _ (fun j v hv => by
    have hj : j < 32 := by have := (List.getElem?_eq_some_iff.1 hv).1; rwa [hcl_len] at this
    exact (h j hj).trans hv) underSumM rfl (by rw [hcl_len]; exact infoSum2)
theorem Holds.hash {b : Nat} {t : TypeId} {x : H32} (h : Holds w b t (hcl x).toArray) : HashAt w b 0 x := fun j _ => by
  rw [h.cell (0 + j), Nat.zero_add]
  simp
/-- One hash alone, as a row. -/
theorem HashesAt.one {b : Nat} {t : TypeId} {x : H32} (h : Holds w b t (hcl x).toArray) : HashesAt w (.slice (some ⟨b, 0, none⟩) 1 1) [x] := .inr ⟨b, 0, 1, rfl, by simp, fun i y hy => by
  match i with
  | 0 => simp at hy; rw [← hy, Nat.zero_mul]; exact h.hash
  | k + 1 => simp at hy⟩
end
/-- '==' of hashes. -/
theorem guardSumM : Tryd.prog.eqGuardType Tryd.prog.depth 43 = false := by kernel_rfl
section
variable {P : Program}
theorem run_equalIn_rowM (w : World) (d : Nat) (t e : TypeId) (n : Nat) (k k' : IntKind) (ht : P.underlying t = some (.array n e)) (he : P.underlying e = some (.int k')) (hsz : ∀ w, (Go.sizeOf e).run P w = .ok 1 w) (f g : Nat → Int) :
    (Op.equalIn (d + 2) t (.agg (Array.ofFn (n := n) fun i => .int k (f i.val))) (.agg (Array.ofFn (n := n) fun i => .int k (g i.val)))).run P w = .ok ((List.range n).all fun i => f i == g i) w := by
  rw [List.range_eq_range', Op.equalIn]
  simp only [Sem.run_bind, run_underlying ht, Result.andThen_ok, hsz, Std.Legacy.Range.forIn_eq_forIn_range', Std.Legacy.Range.size, Nat.sub_zero, Nat.add_sub_cancel, Nat.div_one]
  have hl : ∀ i ∈ List.range' 0 n 1, i < n := fun i hi => by simpa using (List.mem_range'_1.1 hi).2
  generalize List.range' 0 n 1 = l at hl ⊢
  induction l with
  | nil => simp
  | cons i l ih =>
    have hi : i < n := hl i (by simp)
    have pf : ∀ h : Nat → Int, (part e (Array.ofFn (n := n) fun i => .int k (h i.val)) (i * 1)).run P w = .ok (.int k (h i)) w := fun h => by
      simp [part, isAgg, run_underlying he, hi]
    have pe := run_equalIn_int w d e k k' (f i) (g i) he
    simp only [List.forIn_cons, Sem.run_bind, pf f, pf g, pe, Result.andThen_ok, List.all_cons]
    cases hb : (f i == g i)
    · simp
    · simp only [Bool.not_true, Bool.false_eq_true, if_false, Sem.run_pure, Result.andThen_ok, Bool.true_and]
      exact ih fun j hj => hl j (by simp [hj])
end
theorem sizeU8M (w : World) : (Go.sizeOf 5).run Tryd.prog w = .ok 1 w := by
  have h : (Tryd.prog.info? 5).map (·.size) = some 1 := by kernel_rfl
  cases hq : Tryd.prog.info? 5 with
  | none => simp [hq] at h
  | some i =>
    have hi : i.size = 1 := by simpa [hq] using h
    simp [Go.sizeOf, typeInfo, hq, hi]
theorem underU8M : Tryd.prog.underlying 5 = some (.int .u8) := by kernel_rfl
theorem hla_fn (x : H32) : hla x = .agg (Array.ofFn (n := 32) fun i => .int .u8 (((x.1.getD i.val 0).toNat : Nat) : Int)) := by
  refine congrArg Value.agg ?_
  apply Array.ext
  · simp [hcl_len]
  · intro i h1 h2
    have hi : i < 32 := by simpa using h2
    simp only [List.getElem_toArray, Array.getElem_ofFn]
    unfold hcl
    rw [List.getElem_map, List.getD_eq_getElem?_getD, List.getElem?_eq_getElem (by rw [x.2]; exact hi)]
    rfl
theorem eql_hash (w : World) (x y : H32) : (Op.equalIn 10000 43 (hla x) (hla y)).run Tryd.prog w = .ok (decide (x = y)) w := by
  rw [hla_fn x, hla_fn y]
  obtain ⟨f, hf⟩ : ∃ f : Nat → Int, ∀ i, f i = (((x.1.getD i 0).toNat : Nat) : Int) := ⟨_, fun _ => rfl⟩
  obtain ⟨g, hg⟩ : ∃ f : Nat → Int, ∀ i, f i = (((y.1.getD i 0).toNat : Nat) : Int) := ⟨_, fun _ => rfl⟩
  simp only [← hf, ← hg]
  refine Eq.trans (run_equalIn_rowM w 9998 43 5 32 .u8 .u8 underSumM underU8M sizeU8M f g) ?_
  simp only [hf, hg]
  refine congrArg (fun b => Result.ok b w) ?_
  rw [Bool.eq_iff_iff, List.all_eq_true, decide_eq_true_eq]
  constructor
  · intro h
    apply Subtype.ext
    apply List.ext_getElem (by rw [x.2, y.2])
    intro i h1 h2
    have := h i (by rw [List.mem_range, ← x.2]; exact h1)
    simp only [beq_iff_eq, Int.natCast_inj, List.getD_eq_getElem?_getD, List.getElem?_eq_getElem h1, List.getElem?_eq_getElem h2, Option.getD_some] at this
    exact UInt8.toNat_inj.1 this
  · rintro rfl i _
    simp
end Go.Proofs.YtbidoangdnmjfaaDoor
