/-
  Texts of this claim, put together.
-/
import Derived.Test.YtiokbhbggpibpaaBSetW
import Derived.Laws.AppendOwn
import Derived.Deep.OwnRows
/-
  Chunks in memory, and a row of them that grows.
-/
namespace Go.Proofs.Ytiokbhbggpibpaa
open Go Go.RowKit

def ccells (L : List (Int × ByteArray)) : List Value := L.flatMap fun c => [.int .i64 c.1, .string c.2]
theorem ccells_len (L : List (Int × ByteArray)) : (ccells L).length = L.length * 2 := by
  unfold ccells
  induction L with
  | nil => rfl
  | cons a l ih => rw [List.flatMap_cons, List.length_append, ih, List.length_cons]; simp; omega
theorem ccells_app (L K : List (Int × ByteArray)) : ccells (L ++ K) = ccells L ++ ccells K := by unfold ccells; rw [List.flatMap_append]
theorem ccells_get : ∀ (L : List (Int × ByteArray)) (i : Nat) (c : Int × ByteArray), L[i]? = some c → (ccells L)[i * 2]? = some (.int .i64 c.1) ∧ (ccells L)[i * 2 + 1]? = some (.string c.2)
  | a :: l, 0, c, h => by
    simp at h
    subst h
    exact ⟨rfl, rfl⟩
  | a :: l, i + 1, c, h => by
    have ih := ccells_get l i c (by simpa using h)
    have e : ccells (a :: l) = [.int .i64 a.1, .string a.2] ++ ccells l := rfl
    rw [e, List.getElem?_append_right (by simp; omega), List.getElem?_append_right (by simp; omega)]
    simp only [List.length_cons, List.length_nil]
    rw [show (i + 1) * 2 - (0 + 1 + 1) = i * 2 by omega, show (i + 1) * 2 + 1 - (0 + 1 + 1) = i * 2 + 1 by omega]
    exact ih
theorem ccells_one (L : List (Int × ByteArray)) : ∀ u ∈ ccells L, u.oneCell' = true := fun u hu => by
  unfold ccells at hu
  obtain ⟨c, _, h⟩ := List.mem_flatMap.1 hu
  rcases List.mem_cons.1 h with rfl | h
  · rfl
  · rw [List.mem_singleton.1 h]; rfl
/-- A row of chunks. -/
def ChunksAt (w : World) (v : Value) (L : List (Int × ByteArray)) : Prop :=
  (L = [] ∧ ∃ p c, v = .slice p 0 c) ∨ ∃ b o c, v = .slice (some ⟨b, o, none⟩) L.length c ∧ L.length ≤ c ∧ ∀ i x, L[i]? = some x → w.cell? ⟨b, o + i * 2, none⟩ = some (.int .i64 x.1) ∧ w.cell? ⟨b, o + i * 2 + 1, none⟩ = some (.string x.2)
/-- One of the call's own. -/
def OwnChunks (w : World) (base : Nat) (v : Value) (L : List (Int × ByteArray)) : Prop := w.ownsRow base 44 2 v L.length (ccells L)
section
variable {w w' : World} {v : Value} {L K : List (Int × ByteArray)} {base : Nat}
theorem ChunksAt.below (h : ChunksAt w v L) (hb : Below w.heap.size w w') : ChunksAt w' v L := by
  rcases h with h | ⟨b, o, c, h1, h2, h3⟩
  · exact .inl h
  · refine .inr ⟨b, o, c, h1, h2, fun i x hx => ?_⟩
    obtain ⟨q1, q2⟩ := h3 i x hx
    have hl := World.block_lt_of_cell? w _ q1
    exact ⟨(hb.cell (p := ⟨b, o + i * 2, none⟩) hl).trans q1, (hb.cell (p := ⟨b, o + i * 2 + 1, none⟩) hl).trans q2⟩
theorem ChunksAt.len (h : ChunksAt w v L) : ∃ p c, v = .slice p L.length c ∧ L.length ≤ c ∨ v = .slice p L.length c ∧ L = [] := by
  rcases h with ⟨rfl, p, c, rfl⟩ | ⟨b, o, c, rfl, h2, _⟩
  · exact ⟨p, c, .inr ⟨rfl, rfl⟩⟩
  · exact ⟨_, c, .inl ⟨rfl, h2⟩⟩
theorem ChunksAt.shape (h : ChunksAt w v L) : ∃ p c, v = .slice p L.length c := by
  rcases h with ⟨rfl, p, c, rfl⟩ | ⟨b, o, c, rfl, h2, _⟩
  · exact ⟨p, c, rfl⟩
  · exact ⟨_, c, rfl⟩
theorem ChunksAt.at {p : Option Addr} {n c : Nat} (h : ChunksAt w (.slice p n c) L) {i : Nat} {x : Int × ByteArray} (hx : L[i]? = some x) : ∃ b o, p = some ⟨b, o, none⟩ ∧ n = L.length ∧ w.cell? ⟨b, o + i * 2, none⟩ = some (.int .i64 x.1) ∧ w.cell? ⟨b, o + i * 2 + 1, none⟩ = some (.string x.2) := by
  rcases h with ⟨rfl, _⟩ | ⟨b, o, c', e, h2, h3⟩
  · simp at hx
  · injection e with e1 e2 e3
    subst e1 e2 e3
    exact ⟨b, o, rfl, rfl, h3 i x hx⟩
theorem OwnChunks.at (h : OwnChunks w base v L) : ChunksAt w v L := by
  rcases h.2 with ⟨rfl, h0⟩ | ⟨g, cap, cur, rfl, h1, h2, h3, h4, h5, h6⟩
  · exact .inl ⟨List.eq_nil_of_length_eq_zero h0, none, 0, rfl⟩
  · refine .inr ⟨g, 0, cap, rfl, h3, fun i x hx => ?_⟩
    have hi := (List.getElem?_eq_some_iff.1 hx).1
    obtain ⟨q1, q2⟩ := ccells_get L i x hx
    rw [← h6] at q1 q2
    rw [List.getElem?_take, if_pos (by omega)] at q1 q2
    rw [Nat.zero_add]
    exact ⟨(cell_of_row w g _ cur _ (0, 0) h2).trans (by simpa using q1), (cell_of_row w g _ cur _ (0, 0) h2).trans (by simpa using q2)⟩
theorem OwnChunks.below0 (h : OwnChunks w base v L) (hb : Below w.heap.size w w') : OwnChunks w' base v L := by
  refine ⟨h.1, ?_⟩
  rcases h.2 with q | ⟨g, cap, cur, rfl, h1, h2, h3⟩
  · exact .inl q
  · exact .inr ⟨g, cap, cur, rfl, h1, (hb.block g (Array.getElem?_eq_some_iff.1 h2).1).trans h2, h3⟩
theorem OwnChunks.mono {b' : Nat} (h : OwnChunks w base v L) (hb : b' ≤ base) : OwnChunks w b' v L := by
  refine ⟨h.1, ?_⟩
  rcases h.2 with q | ⟨g, cap, cur, rfl, h1, h2, h3⟩
  · exact .inl q
  · exact .inr ⟨g, cap, cur, rfl, by omega, h2, h3⟩
theorem OwnChunks.nil (w : World) (base : Nat) : OwnChunks w base (.slice none 0 0) [] := World.ownsRow_nil _ _ _ _
theorem infoChunk : ∃ i, Try.prog.info? 44 = some i ∧ i.zero = some (.agg #[.int .i64 0, .string ⟨#[]⟩]) ∧ i.size = 2 ∧ i.bytes = 24 := by
  have h : (Try.prog.info? 44).map (fun i => (i.zero, i.size, i.bytes)) = some (some (.agg #[.int .i64 0, .string ⟨#[]⟩]), 2, 24) := by kernel_rfl
  cases hi : Try.prog.info? 44 with
  | none => rw [hi] at h; cases h
  | some i =>
    rw [hi] at h
    simp only [Option.map_some, Option.some.injEq, Prod.mk.injEq] at h
    exact ⟨i, rfl, h⟩
theorem underChunks : Try.prog.underlying 23 = some (.slice 44) := by kernel_rfl
theorem underIntH : Try.prog.underlying 3 = some (.int .i64) := by kernel_rfl
theorem add_plainH (b o j : Nat) : (⟨b, o, none⟩ : Addr).add j = ⟨b, o + j, none⟩ := by unfold Addr.add; split <;> simp_all
/-- A row of chunks behind one's own. -/
theorem run_append_ck (ty : TypeId) (hown : OwnChunks w base v K) {x : Value} (hx : ChunksAt w x L) (hl : K.length + L.length ≤ 1000000000) (hbase : base ≤ w.heap.size) :
    ∃ v' w', (Builtin.append_ #[23, 23] ty #[v, x]).run Try.prog w = .ok v' w' ∧ OwnChunks w' base v' (K ++ L) ∧ w.grownBy w' v.ownBlock := by
  obtain ⟨i0, hi, hz0, hz1, hz2⟩ := infoChunk
  have go : ∀ (ad : Addr) (c : Nat) (news : List Value), news = ccells L → (∀ j u, news[j]? = some u → w.cell? (ad.add j) = some u) → ∃ v' w', (Builtin.append_ #[23, 23] ty #[v, .slice (some ad) L.length c]).run Try.prog w = .ok v' w' ∧ OwnChunks w' base v' (K ++ L) ∧ w.grownBy w' v.ownBlock := by
    intro ad c news hn hc
    obtain ⟨v', w', h1, h2, h3, _⟩ := run_append_own (P := Try.prog) w base 23 ty 44 i0 (.agg #[.int .i64 0, .string ⟨#[]⟩]) 2 24 underChunks hi hz0 hz1 hz2 rfl (by decide) v K.length (ccells K) hown ad L.length c news (by rw [hn]; exact ccells_len L) hc (by rw [hn]; exact ccells_one L) (by unfold maxLen; omega) (by omega) hbase
    refine ⟨v', w', h1, ?_, h3⟩
    unfold OwnChunks
    rw [List.length_append, ccells_app, ← hn]
    exact h2
  rcases hx with ⟨rfl, p, c, rfl⟩ | ⟨b, o, c, rfl, h2, h3⟩
  · cases p with
    | some ad => exact go ad c [] rfl (fun j u hu => by simp at hu)
    | none =>
      rw [List.append_nil]
      refine ⟨v, w, ?_, hown, ⟨rfl, rfl, rfl, Nat.le_refl _, fun _ _ _ => rfl⟩⟩
      rcases hown.2 with ⟨rfl, h0⟩ | ⟨g, cap, cur, rfl, q1, q2, q3, q4, q5, q6⟩
      · simp [Builtin.append_, run_underlying underChunks, sizeOf, typeInfo, hi, Builtin.lenOf, Builtin.firstCells]
      · simp [Builtin.append_, run_underlying underChunks, sizeOf, typeInfo, hi, Builtin.lenOf, Builtin.firstCells, q3, storeCells]
  · refine go ⟨b, o, none⟩ c (ccells L) rfl fun j u hu => ?_
    rw [add_plainH]
    have hj : j < L.length * 2 := by
      have := (List.getElem?_eq_some_iff.1 hu).1
      rw [ccells_len] at this
      exact this
    obtain ⟨y, hy⟩ : ∃ y, L[j / 2]? = some y := ⟨_, List.getElem?_eq_getElem (by omega)⟩
    obtain ⟨q1, q2⟩ := h3 _ _ hy
    obtain ⟨r1, r2⟩ := ccells_get L _ _ hy
    rcases Nat.mod_two_eq_zero_or_one j with e | e
    · rw [show j / 2 * 2 = j by omega] at q1 r1
      rw [r1] at hu
      rw [q1]; exact hu
    · rw [show j / 2 * 2 + 1 = j by omega] at r2
      rw [show o + j / 2 * 2 + 1 = o + j by omega] at q2
      rw [r2] at hu
      rw [q2]; exact hu
theorem wpList_append_ck {ops : Array Oper} {rest : List Oper} {o : Oper} {a : Act} {Q : Exit → Act → World → Prop} (hgd : o.guard = none) (s x : Operand)
    (ho : o.op = .call { callee := .builtin .append, args := #[s, x], argTypes := #[23, 23] }) {y : Value} (hs : a.eval s = v) (hx : a.eval x = y) (hown : OwnChunks w base v K) (hy : ChunksAt w y L) (hl : K.length + L.length ≤ 1000000000) (hbase : base ≤ w.heap.size)
    (h : ∀ v' w', OwnChunks w' base v' (K ++ L) → w.grownBy w' v.ownBlock → wpList Try.prog ops Q rest (a.put o.dst v') w') : wpList Try.prog ops Q (o :: rest) a w := by
  refine wpList_plain hgd fun _ hK => ?_
  obtain ⟨v', w', hr, h2, h3⟩ := run_append_ck o.type hown hy hl hbase
  unfold Oper.wp execOp
  simp only [ho, resolve, invoke, builtin, Sem.run_bind, Sem.run_pure, Result.andThen_ok, List.map_toArray, List.map_cons, List.map_nil, hs, hx, hr]
  exact hK _ _ (h v' w' h2 h3)
/-- Zeros behind nothing. -/
theorem run_append_zeros (ty : TypeId) (n : Nat) (h0 : 0 < n) (hn : n ≤ 1000000000) (hbase : base ≤ w.heap.size) : ∃ cap w', (Builtin.append_ #[23, 3] ty #[.slice none 0 0, .int .i64 (n : Int)]).run Try.prog w = .ok (.slice (some ⟨w.heap.size, 0, none⟩) n cap) w' ∧ OwnChunks w' base (.slice (some ⟨w.heap.size, 0, none⟩) 0 cap) [] ∧ n ≤ cap ∧ Below w.heap.size w w' := by
  obtain ⟨i0, hi, hz0, hz1, hz2⟩ := infoChunk
  have hge := grownCap_ge w n 0 44
  have hle := grownCap_le_maxLen w n 0 44 (by unfold maxLen; omega)
  refine ⟨grownCap w n 0 44, w.drew.alloc (.cells (Builtin.zeroCells #[.int .i64 0, .string ⟨#[]⟩] n ++ Builtin.zeroCells #[.int .i64 0, .string ⟨#[]⟩] (grownCap w n 0 44 - n)) 44), ?_, ?_, hge, ?_⟩
  · have hn0 : n ≠ 0 := by omega
    have hw : IntKind.i64.wrap (n : Int) = n := by rw [IntKind.wrap_i64]; omega
    have h63' : ¬ (9223372036854775807 < (n : Int)) := by omega
    have h48 : ¬ (281474976710656 < (n : Int) * 24) := by omega
    have h48' : ¬ (281474976710656 < Builtin.nextslicecap n 0 * 24) := by rw [nextslicecap_zero h0]; omega
    have hneg : ¬ ((n : Int) < 0) := by omega
    have has : (asIntOf (Value.int IntKind.i64 (n : Int))).run Try.prog w = .ok (IntKind.i64, (n : Int)) w := rfl
    simp [Builtin.append_, run_underlying underChunks, run_underlying underIntH, sizeOf, typeInfo, zeroValue, hi, hz0, hz1, hz2, hn0, hw, h63', h48, h48', Question.forced, run_firstCells_none, newRow, grownCap, asInt, has, hneg, Value.cells]
    intro q
    omega
  · exact World.ownsRow_made (w := w.drew) (base := base) (e := 44) (size := 2) _ _ hbase hle (by simp only [Array.size_append, size_zeroCells]; simp; omega)
  · exact (⟨rfl, rfl, rfl, Nat.le_refl _, fun _ _ => rfl⟩ : Below w.heap.size w w.drew).alloc (Nat.le_refl _) _
end
end Go.Proofs.Ytiokbhbggpibpaa
/-
  slices.Grow and slices.Concat on chunks.
-/
namespace Go.Proofs.Ytiokbhbggpibpaa
open Go Go.RowKit

section
variable {w : World} {base : Nat}
theorem wpList_append_zeros {ops : Array Oper} {rest : List Oper} {o : Oper} {a : Act} {Q : Exit → Act → World → Prop} (hgd : o.guard = none) (s x : Operand)
    (ho : o.op = .call { callee := .builtin .append, args := #[s, x], argTypes := #[23, 3] }) {n : Nat} (hs : a.eval s = .slice none 0 0) (hx : a.eval x = .int .i64 (n : Int)) (h0 : 0 < n) (hn : n ≤ 1000000000) (hbase : base ≤ w.heap.size)
    (h : ∀ cap w', OwnChunks w' base (.slice (some ⟨w.heap.size, 0, none⟩) 0 cap) [] → n ≤ cap → Below w.heap.size w w' → wpList Try.prog ops Q rest (a.put o.dst (.slice (some ⟨w.heap.size, 0, none⟩) n cap)) w') : wpList Try.prog ops Q (o :: rest) a w := by
  refine wpList_plain hgd fun _ hK => ?_
  obtain ⟨cap, w', hr, h2, h3, h4⟩ := run_append_zeros (w := w) (base := base) o.type n h0 hn hbase
  unfold Oper.wp execOp
  simp only [ho, resolve, invoke, builtin, Sem.run_bind, Sem.run_pure, Result.andThen_ok, List.map_toArray, List.map_cons, List.map_nil, hs, hx, hr]
  exact hK _ _ (h cap w' h2 h3 h4)
end
set_option maxRecDepth 8000 in
theorem grow_any (n : Nat) (hn : n ≤ 1000000000) (w : World) : Calls Try.prog 62 #[.slice none 0 0, .int .i64 (n : Int)] w fun e w' => ∃ v, e = .returned v ∧ OwnChunks w' w.heap.size v [] ∧ Below w.heap.size w w' := by
  have hni : ¬ (n : Int) < 0 := by omega
  by_cases h0 : n = 0
  · subst h0
    go_enter Try.func62, Try.ntmps62
    go_wp2_with fail
    go_ret
    exact ⟨_, rfl, OwnChunks.nil _ _, Below.refl _ _⟩
  · have hpos : (n : Int) > 0 := by omega
    go_enter Try.func62, Try.ntmps62
    go_wp2_with (at_builtin; refine wpList_append_zeros (base := w.heap.size) rfl _ _ rfl rfl rfl (by omega) hn (Nat.le_refl _) ?_; intro cap w1 hown hcap hB1)
    go_ret
    exact ⟨_, rfl, hown, hB1⟩
/-- Rows of chunks, and what they have together. -/
theorem sum_take {ls : List (List (Int × ByteArray))} {k : Nat} {l : List (Int × ByteArray)} (h : ls[k]? = some l) : (ls.take (k + 1)).flatten = (ls.take k).flatten ++ l := by
  rw [List.take_add_one, h, List.flatten_append]
  simp
theorem sum_le {ls : List (List (Int × ByteArray))} (k : Nat) : (ls.take k).flatten.length ≤ ls.flatten.length := by
  have : ls.flatten = (ls.take k).flatten ++ (ls.drop k).flatten := by rw [← List.flatten_append, List.take_append_drop]
  rw [this, List.length_append]
  omega
theorem below_grownH {w0 w w' : World} {v : Value} (h : Below w0.heap.size w0 w) (g : w.grownBy w' v.ownBlock) (hv : ∀ k, v.ownBlock = some k → w0.heap.size ≤ k) : Below w0.heap.size w0 w' :=
  ⟨g.os.trans h.os, g.tape.trans h.tape, g.output.trans h.output, Nat.le_trans h.size g.size, fun k hk => (g.block k (Nat.lt_of_lt_of_le hk h.size) (fun e => by have := hv k e.symm; omega)).trans (h.block k hk)⟩
theorem OwnChunks.new {w : World} {base : Nat} {v : Value} {L : List (Int × ByteArray)} (h : OwnChunks w base v L) : ∀ k, v.ownBlock = some k → base ≤ k := fun k hk => (h.lt k hk).1
set_option maxRecDepth 8000 in
set_option maxHeartbeats 1000000 in
theorem concat_any {w : World} {q : Nat} {vs : List Value} {ls : List (List (Int × ByteArray))} (hq : Holds w q 23 vs.toArray) (hlen : vs.length = ls.length) (hvs : ∀ (i : Nat) v l, vs[i]? = some v → ls[i]? = some l → ChunksAt w v l) (hsum : ls.flatten.length ≤ 1000000) (hn : vs.length ≤ 1000) :
    Calls Try.prog 40 #[.slice (some ⟨q, 0, none⟩) vs.length vs.length] w fun e w' => ∃ v, e = .returned v ∧ OwnChunks w' w.heap.size v ls.flatten ∧ Below w.heap.size w w' := by
  have hni : (vs.length : Int) ≤ 1000 := by omega
  obtain ⟨S, hS⟩ : ∃ S : Nat → Nat, ∀ k, S k = (ls.take k).flatten.length := ⟨_, fun _ => rfl⟩
  have hS0 : S 0 = 0 := by rw [hS]; rfl
  have hSn : S vs.length = ls.flatten.length := by rw [hS, hlen, List.take_length]
  have hSl : ∀ k, S k ≤ 1000000 := fun k => by rw [hS]; exact Nat.le_trans (sum_le k) hsum
  have hSk : ∀ k l, ls[k]? = some l → S (k + 1) = S k + l.length := fun k l h => by rw [hS, hS, sum_take h, List.length_append]
  obtain ⟨n, hn'⟩ : ∃ n, vs.length = n := ⟨_, rfl⟩
  rw [hn'] at hni hn hSn hlen ⊢
  have HL : Hid (n = ls.length) := hlen
  have HV : Hid (vs.length = n) := hn'
  clear hlen hn'
  go_enter Try.func40, Try.ntmps40
  go_wp2_with fail
  go_loopw [3, 11] (fun x y wr => ∃ k : Nat, y = .int .i64 (k : Nat) ∧ k ≤ n ∧ x = .int .i64 (S k : Nat) ∧ wr = w) (fun _ y _ => n - (intOf y).toNat)
  case atStart => exact ⟨0, rfl, Nat.zero_le _, by rw [hS0]; rfl, rfl⟩
  case round =>
    obtain ⟨k, rfl, hk, rfl, hww⟩ := hrel
    have hww' := hww.symm
    clear hww
    subst hww'
    by_cases hkn : k < n
    · have hki : (k : Int) < n := by omega
      obtain ⟨v, hv⟩ : ∃ v, vs[k]? = some v := ⟨_, List.getElem?_eq_getElem (by have := HV.out; omega)⟩
      obtain ⟨l, hl⟩ : ∃ l, ls[k]? = some l := ⟨_, List.getElem?_eq_getElem (by have := HL.out; omega)⟩
      have hc : w.cell? ⟨q, k, none⟩ = some v := by rw [hq.cell k]; simpa using hv
      obtain ⟨p, c, rfl⟩ := (hvs k v l hv hl).shape
      have HT : Hid (S (k + 1) = S k + l.length) := hSk k l hl
      have h1 : S k + l.length ≤ 1000000 := by rw [← hSk k l hl]; exact hSl _
      clear hSk hSl hS hS0 hSn
      generalize S k = s0 at HT h1 ⊢
      have hs0 : (s0 : Int) + l.length ≤ 1000000 := by omega
      have hs1 : ¬ ((s0 : Int) + l.length) < 0 := by omega
      go_wp2_with fail
      go_roundw
      case rel => exact ⟨k + 1, by go_num, by omega, by rw [HT.out]; go_num, trivial⟩
      case measure => simp [intOf]; omega
    · have hki : ¬ (k : Int) < n := by omega
      obtain rfl : k = n := by omega
      rw [hSn]
      have hgr := grow_any ls.flatten.length (by omega) w
      generalize ls.flatten.length = tot at hgr ⊢
      go_wp2_with fail
      refine hgr.mono ?_
      rintro e w1 ⟨v1, rfl, hown, hB1⟩
      clear hgr
      obtain ⟨g1, g2, rfl⟩ : ∃ p c, v1 = .slice p 0 c := by
        obtain ⟨p, c, e⟩ := hown.at.shape
        exact ⟨p, c, e⟩
      go_wp2_with fail
      go_loopw [6, 27] (fun x y w2 => ∃ j : Nat, y = .int .i64 (j : Nat) ∧ j ≤ k ∧ OwnChunks w2 w.heap.size x (ls.take j).flatten ∧ Below w.heap.size w w2) (fun _ y _ => k - (intOf y).toNat)
      case atStart => exact ⟨0, rfl, Nat.zero_le _, hown, hB1⟩
      case round =>
        clear hown hB1
        obtain ⟨j, rfl, hj, hox, hBx⟩ := hrel
        by_cases hjn : j < k
        · have hji : (j : Int) < k := by omega
          obtain ⟨v, hv⟩ : ∃ v, vs[j]? = some v := ⟨_, List.getElem?_eq_getElem (by have := HV.out; omega)⟩
          obtain ⟨l, hl⟩ : ∃ l, ls[j]? = some l := ⟨_, List.getElem?_eq_getElem (by have := HL.out; omega)⟩
          have hc : wr.cell? ⟨q, j, none⟩ = some v := by
            rw [hBx.cell (p := ⟨q, j, none⟩) hq.lt, hq.cell j]; simpa using hv
          have hcx := (hvs j v l hv hl).below hBx
          obtain ⟨p, c, rfl⟩ := hcx.shape
          have HST : Hid ((ls.take (j + 1)).flatten = (ls.take j).flatten ++ l) := sum_take hl
          have hsl : (ls.take j).flatten.length + l.length ≤ 1000000000 := by
            have := sum_le (ls := ls) (j + 1)
            rw [sum_take hl, List.length_append] at this
            omega
          have hsz := hBx.size
          obtain ⟨p6, c6, rfl⟩ := hox.at.shape
          generalize (ls.take j).flatten = K at hox HST hsl ⊢
          have hnew : ∀ k, (Value.slice p6 K.length c6).ownBlock = some k → w.heap.size ≤ k := hox.new
          go_wp2_with (at_builtin; refine wpList_append_ck rfl _ _ rfl rfl rfl hox hcx hsl hsz ?_; intro v5 w5 hown5 hg5; obtain ⟨p5, c5, rfl⟩ := hown5.at.shape)
          have hB5 := below_grownH hBx hg5 hnew
          go_roundw
          case rel => exact ⟨j + 1, by go_num, by omega, by rw [HST.out]; rw [List.length_append] at hown5; exact hown5, hB5⟩
          case measure => simp [intOf]; omega
        · have hji : ¬ (j : Int) < k := by omega
          obtain rfl : j = k := by omega
          have HO : Hid (OwnChunks wr w.heap.size u6 ls.flatten) := by
            have := hox
            rw [HL.out, List.take_length] at this
            exact this
          clear hox
          go_wp2_with fail
          go_ret
          exact ⟨_, rfl, HO.out, hBx⟩
end Go.Proofs.Ytiokbhbggpibpaa
/-
  What Which, uppers and fits do.
-/
namespace Go.Proofs.Ytiokbhbggpibpaa
open Go Go.RowKit

/-- The place of the first that is not below f, counted from k on. -/
def whichFrom : List Int → Int → Nat → Option Nat
  | [], _, _ => none
  | u :: r, f, k => if f ≤ u then some k else whichFrom r f (k + 1)
def which (us : List Int) (f : Int) : Option Nat := whichFrom us f 0
def whV (o : Option Nat) : Value := match o with
  | none => .tuple #[.int .i64 0, .bool false]
  | some k => .tuple #[.int .i64 (k : Nat), .bool true]
theorem IntsAt.get {w : World} {p : Option Addr} {n c : Nat} {l : List Int} (h : IntsAt w (.slice p n c) l) {i : Nat} {x : Int} (hx : l[i]? = some x) : ∃ b o, p = some ⟨b, o, none⟩ ∧ w.cell? ⟨b, o + i, none⟩ = some (.int .i64 x) := by
  have hi := (List.getElem?_eq_some_iff.1 hx).1
  rcases h with ⟨rfl, _⟩ | ⟨b, o, c', e, h2⟩
  · simp at hi
  · injection e with e1 _ _
    subst e1
    refine ⟨b, o, rfl, ?_⟩
    rw [h2 i hi, List.getD_eq_getElem?_getD, hx]
    rfl
theorem IntsAt.lenH {w : World} {v : Value} {l : List Int} (h : IntsAt w v l) : ∃ p c, v = .slice p l.length c := by
  rcases h with ⟨rfl, p, c, rfl⟩ | ⟨b, o, c, rfl, _⟩
  · exact ⟨p, c, rfl⟩
  · exact ⟨_, c, rfl⟩
set_option maxRecDepth 8000 in
theorem which_any {w : World} {v : Value} {us : List Int} (hv : IntsAt w v us) (hl : us.length ≤ 1000000) (f : Int) : Calls Try.prog 25 #[v, .int .i64 f] w fun e w' => e = .returned (whV (which us f)) ∧ w' = w := by
  obtain ⟨p, c, rfl⟩ := hv.lenH
  obtain ⟨n, hn⟩ : ∃ n, us.length = n := ⟨_, rfl⟩
  have HN : Hid (us.length = n) := hn
  rw [hn] at hv hl ⊢
  clear hn
  have hni : (n : Int) ≤ 1000000 := by omega
  obtain ⟨A, hA⟩ : ∃ A, A = which us f := ⟨_, rfl⟩
  rw [← hA]
  have HA : Hid (A = whichFrom us f 0) := hA
  clear hA
  go_enter Try.func25, Try.ntmps25
  go_wp2_with fail
  go_loopw [10] (fun y wr => ∃ k : Nat, y = .int .i64 (k : Nat) ∧ k ≤ n ∧ Hid (A = whichFrom (us.drop k) f k) ∧ wr = w) (fun y _ => n - (intOf y).toNat)
  case atStart => exact ⟨0, rfl, Nat.zero_le _, HA, rfl⟩
  case round =>
    clear HA
    obtain ⟨k, rfl, hk, HK, hww⟩ := hrel
    have hww' := hww.symm
    clear hww
    subst hww'
    by_cases hkn : k < n
    · have hki : (k : Int) < n := by omega
      obtain ⟨u, hu⟩ : ∃ u, us[k]? = some u := ⟨_, List.getElem?_eq_getElem (by have := HN.out; omega)⟩
      obtain ⟨b, o, rfl, hc⟩ := hv.get hu
      have hd : us.drop k = u :: us.drop (k + 1) := by
        have hlt := (List.getElem?_eq_some_iff.1 hu).1
        rw [List.drop_eq_getElem_cons hlt, (List.getElem?_eq_some_iff.1 hu).2]
      by_cases hf : f ≤ u
      · have HR : Hid (A = some k) := by
          have := HK.out
          rw [hd, whichFrom, if_pos hf] at this
          exact this
        go_wp2_with fail
        go_ret2
        rw [HR.out]
        exact ⟨rfl, rfl⟩
      · have HR : Hid (A = whichFrom (us.drop (k + 1)) f (k + 1)) := by
          have := HK.out
          rw [hd, whichFrom, if_neg hf] at this
          exact this
        go_wp2_with fail
        go_roundw
        case rel => exact ⟨k + 1, by go_num, by omega, HR, trivial⟩
        case measure => simp [intOf]; omega
    · have hki : ¬ (k : Int) < n := by omega
      have HR : Hid (A = none) := by
        have := HK.out
        rw [List.drop_eq_nil_of_le (by have := HN.out; omega)] at this
        exact this
      go_wp2_with fail
      go_ret2
      rw [HR.out]
      exact ⟨rfl, rfl⟩
theorem take_set (cur : Array Value) {xs : List Value} {k : Nat} (a : Value) (h : cur.toList.take k = xs) (hsz : k < cur.size) : (cur.setIfInBounds k a).toList.take (k + 1) = xs ++ [a] := by
  have hx : xs.length = k := by rw [← h, List.length_take, Array.length_toList]; omega
  refine List.ext_getElem? fun j => ?_
  rw [List.getElem?_take, Array.toList_setIfInBounds]
  by_cases h1 : j < k
  · rw [if_pos (by omega), List.getElem?_set_ne (by omega), List.getElem?_append_left (by omega), ← h, List.getElem?_take, if_pos h1]
  · rw [List.getElem?_append_right (by omega), hx]
    by_cases h2 : j = k
    · subst h2
      rw [if_pos (by omega), List.getElem?_set_self (by simpa using hsz), Nat.sub_self]
      rfl
    · rw [if_neg (by omega), List.getElem?_eq_none (by simp; omega)]
theorem make_intsH (n : Nat) (hn : n ≤ 1000000) (w : World) : (Instr.makeSlice 22 (.int .i64 (n : Int)) (.int .i64 (n : Int))).run Try.prog w = .ok (.slice (some ⟨w.heap.size, 0, none⟩) n n) (w.alloc (.cells (madeCells #[.int .i64 0] n) 3)) :=
  run_make_row' (P := Try.prog) 22 3 (.int .i64 0) 8 (by kernel_rfl) (by kernel_rfl) rfl .i64 .i64 n (by omega) (by omega) w
theorem holds_ints {w : World} {q : Nat} {cur : Array Value} {l : List Int} (h : Holds w q 3 cur) (hc : cur.toList.take l.length = l.map fun x => .int .i64 x) (c : Nat) : IntsAt w (.slice (some ⟨q, 0, none⟩) l.length c) l := by
  refine .inr ⟨q, 0, c, rfl, fun i hi => ?_⟩
  have := congrArg (fun x : List Value => x[i]?) hc
  rw [List.getElem?_take, if_pos hi, List.getElem?_map, List.getElem?_eq_getElem hi] at this
  rw [Nat.zero_add, h.cell i, List.getD_eq_getElem?_getD, List.getElem?_eq_getElem hi]
  simpa using this
set_option maxRecDepth 8000 in
set_option maxHeartbeats 1000000 in
theorem uppers_any {w : World} {v : Value} {L : List (Int × ByteArray)} (hv : ChunksAt w v L) (hl : L.length ≤ 1000000) : Calls Try.prog 42 #[v] w fun e w' => ∃ v', e = .returned v' ∧ IntsAt w' v' (L.map (·.1)) ∧ Below w.heap.size w w' := by
  obtain ⟨p, c, rfl⟩ := hv.shape
  obtain ⟨n, hn⟩ : ∃ n, L.length = n := ⟨_, rfl⟩
  have HN : Hid (L.length = n) := hn
  rw [hn] at hv hl ⊢
  clear hn
  have hni : (n : Int) ≤ 1000000 := by omega
  have hmk := make_intsH n hl
  obtain ⟨q, hq⟩ : ∃ q, w.heap.size = q := ⟨_, rfl⟩
  obtain ⟨W0, hW0⟩ : ∃ W0, w.alloc (.cells (madeCells #[.int .i64 0] n) 3) = W0 := ⟨_, rfl⟩
  have hH : Holds W0 q 3 (madeCells #[.int .i64 0] n) := by rw [← hW0, ← hq]; exact Holds.new _ _ _
  have hB : Below w.heap.size w W0 := by rw [← hW0]; exact below_new1 _ _
  have hsz := size_madeCells #[.int .i64 0] n
  generalize madeCells #[.int .i64 0] n = cur0 at hH hsz hW0 hmk
  have F0 : Hid (Holds W0 q 3 cur0 ∧ cur0.size = n ∧ Below w.heap.size w W0) := ⟨hH, hsz, hB⟩
  have hqw : w.heap.size ≤ q := by omega
  clear hH hB hsz
  go_enter Try.func42, Try.ntmps42
  go_wp2_with fail
  go_loopw [11] (fun y wr => ∃ (k : Nat) (cur : Array Value), y = .int .i64 (k : Nat) ∧ k ≤ n ∧ Holds wr q 3 cur ∧ cur.size = n ∧ Hid (cur.toList.take k = (L.take k).map fun x => .int .i64 x.1) ∧ Below w.heap.size w wr) (fun y _ => n - (intOf y).toNat)
  case atStart => exact ⟨0, cur0, rfl, Nat.zero_le _, F0.out.1, F0.out.2.1, (by show _ = _; rfl), F0.out.2.2⟩
  case round =>
    clear F0
    obtain ⟨k, cur, rfl, hk, hH, hsz, HC, hB⟩ := hrel
    by_cases hkn : k < n
    · have hki : (k : Int) < n := by omega
      obtain ⟨x, hx⟩ : ∃ x, L[k]? = some x := ⟨_, List.getElem?_eq_getElem (by have := HN.out; omega)⟩
      obtain ⟨b, o, rfl, _, c0, c1⟩ := (hv.below hB).at hx
      obtain ⟨u, s⟩ := x
      dsimp only at c0 c1
      obtain ⟨W1, hW1⟩ : ∃ W1, wr.alloc (.cells #[.int .i64 u, .string s] 44) = W1 := ⟨_, rfl⟩
      obtain ⟨z, hz⟩ : ∃ z, wr.heap.size = z := ⟨_, rfl⟩
      have hZ : Holds W1 z 44 #[.int .i64 u, .string s] := by rw [← hW1, ← hz]; exact Holds.new _ _ _
      have hH1 : Holds W1 q 3 cur := by rw [← hW1]; exact hH.alloc _
      have hB1 : Below w.heap.size w W1 := by rw [← hW1]; exact below_new hB (below_new1 _ _)
      have e0 : W1.cell? ⟨z, 0, none⟩ = some (.int .i64 u) := hZ.cell 0
      have hcq : ∃ y, W1.cell? ⟨q, k, none⟩ = some y := by rw [hH1.cell k, Array.getElem?_eq_getElem (by omega)]; exact ⟨_, rfl⟩
      obtain ⟨y0, hy0⟩ := hcq
      have hfq := hH1.frozen k
      have hO : Hid (Holds (W1.setCell ⟨q, k, none⟩ (.int .i64 u)) q 3 (cur.setIfInBounds k (.int .i64 u)) ∧ Below w.heap.size w (W1.setCell ⟨q, k, none⟩ (.int .i64 u))) := ⟨hH1.set k _, Only.fresh hB1 ((Only.refl q W1).set k _) hqw⟩
      have HC2 : Hid ((cur.setIfInBounds k (.int .i64 u)).toList.take (k + 1) = (L.take (k + 1)).map fun x => .int .i64 x.1) := by
        show _ = _
        rw [take_set cur _ HC.out (by omega), List.take_add_one, hx, List.map_append]
        rfl
      have HS : Hid ((cur.setIfInBounds k (.int .i64 u)).size = n) := by show _ = _; rw [Array.size_setIfInBounds]; exact hsz
      clear hH hH1 hZ hB hB1 HC hsz
      go_wp2_with fail
      go_roundw
      case rel => exact ⟨k + 1, _, by go_num, by omega, hO.out.1, HS.out, HC2, hO.out.2⟩
      case measure => simp [intOf]; omega
    · have hki : ¬ (k : Int) < n := by omega
      obtain rfl : k = n := by omega
      have HR : Hid (IntsAt wr (.slice (some ⟨q, 0, none⟩) k k) (L.map (·.1))) := by
        have hL := HN.out
        have := holds_ints (l := L.map (·.1)) hH (by rw [List.length_map, hL, HC.out, List.map_map, List.take_of_length_le (by omega)]; rfl) k
        rw [List.length_map, hL] at this
        exact this
      have HB : Hid (Below q w wr) := by show Below q w wr; rw [← hq]; exact hB
      clear hH HC
      go_wp2_with fail
      go_ret
      exact ⟨_, rfl, HR.out, HB.out⟩
theorem fits_last (n g : Int) (u : Int) (h1 : 1 ≤ n) (h2 : n ≤ 64) (hu : u = 2147483647) (w : World) : Calls Try.prog 60 #[.int .i64 n, .int .i64 g, .int .i64 u, .bool true] w fun e w' => e = .returned (.bool true) ∧ w' = w := by
  subst hu
  go_enter Try.func60, Try.ntmps60
  go_wp2_with fail
  go_ret
  exact ⟨rfl, rfl⟩
theorem fits_full (g : Int) (w : World) : Calls Try.prog 60 #[.int .i64 64, .int .i64 g, .int .i64 g, .bool false] w fun e w' => e = .returned (.bool true) ∧ w' = w := by
  go_enter Try.func60, Try.ntmps60
  go_wp2_with fail
  go_ret
  exact ⟨rfl, rfl⟩
end Go.Proofs.Ytiokbhbggpibpaa
