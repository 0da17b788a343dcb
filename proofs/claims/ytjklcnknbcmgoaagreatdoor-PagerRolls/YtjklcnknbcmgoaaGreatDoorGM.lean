/-
  Texts of this claim, put together.
-/
import Derived.Test.YtjklcnknbcmgoaaGreatDoorGAwP
import Derived.Test.YtjklcnknbcmgoaaGreatDoorGL
import Derived.Test.YtjklcnknbcmgoaaGreatDoorGC
/-
  A page read by a pager of a call's own.
-/
namespace Go.Proofs.YtjklcnknbcmgoaaGreatDoor
open Go Go.RowKit Go.Maps

theorem PgAt.setBoth {w w' : World} {b : Nat} {H : Hs} {S : St} (a : PgAt w b H S) {P' : Pgr} {D' : Dev} (hd : DiskAt w' H.d D') (hp : PgCells w' b H.h P') (hk : Keep (fun k => Foot H.d k ∨ k = b) w w') (hc : P'.count = S.P.count) : PgAt w' b H { S with P := P', D := D' } ∧ PgDone w b H w' H := by
  obtain ⟨n1, n2, n3, n4, n5⟩ := a.apartB
  have hno : ∀ k, k < w.heap.size → ¬ Blk H.d k → k ≠ b → w'.heap[k]? = w.heap[k]? := fun k hlt h1 h2 => hk.block k hlt (by
    rintro (q | q)
    · exact h1 q.blk
    · exact h2 q)
  refine ⟨⟨hp, a.dev, hd, ?_, a.fresh.block (hno _ a.fresh.lt a.df.1 (Ne.symm n4)), a.freed.block (hno _ a.freed.lt a.df.2 (Ne.symm n5)), a.ff, a.rf, a.df, a.dr⟩, ⟨hk.mono (fun k h => ?_), fun _ h => .inl h⟩⟩
  · have := a.sp.kept (w' := w') (fun k h => hno k (a.sp.map.lt k h) (a.dr k h) (fun e => n2 (e ▸ h))) (fun k h => hno k (a.sp.row.lt k h) (a.apartF h).1 (a.apartF h).2.1)
    rw [← hc] at this
    exact this
  · rcases h with q | q
    · exact .inr (.inr (.inr (.inr (.inr q))))
    · exact .inl q
section
variable {G : Nat → Prop} {w0 w : World} {b : Nat} {H : Hs} {S : St} {N : Nat}
/-- Read of a page that was sealed. -/
theorem pk_read (p : Pk G w0 w b H S N) (hT : K.Tabs w0) (hN : N < 1000000000) (hr : 0 ≤ S.P.reads ∧ S.P.reads < 9223372036854775807) (n : Int) (hn : 0 ≤ n ∧ n < S.D.size) (k : UInt8) (s : ByteArray) (hs : s.size ≤ 1013) (hf : front S.D n = K.sealS k s) :
    Calls Tryz.prog 23 #[.pointer (some ⟨b, 0, none⟩), .int .i64 n] w fun e w' => e = .returned (.tuple #[.int .u8 (K.oct k), .string s, .int .i64 0]) ∧ Pk G w0 w' b H { S with P := { S.P with reads := S.P.reads + 1 }, D := (S.D.read n).2.2 } (N + 1) ∧ SameG G w w' := by
  have hsz := p.ok.size
  have hhas : S.D.has n = true := has_of hn.1 hn.2
  obtain ⟨r1, r2⟩ := front_read p.cm hhas hs hf
  obtain ⟨a1, a2, a3, a4, a5, a6⟩ := cm_read p.cm hhas
  have hrs : (S.D.read n).1 = K.sealS k s := by rw [a1]; exact hf
  have h := gread_any p.at_.cells p.at_.dev p.at_.disk p.at_.apartB.1 p.ok hN (p.tabs hT) (fun k hk => p.top hT k (.inr (.inr (.inr (.inr (.inr hk)))))) hr n (by omega) (by rw [hrs, K.sealS_size k hs]; decide)
  have e : grdV S.D n = .tuple #[.int .u8 (K.oct k), .string s, .int .i64 0] := by
    unfold grdV
    rw [if_neg (by rw [r1]; simp)]
    obtain ⟨o1, o2, o3⟩ := K.open_yes r2
    rw [o1, o2, o3]
  have e2 : grdN S.P S.D n = S.P.reads + 1 := by
    unfold grdN
    rw [if_pos ⟨r1, by rw [r2]; rfl⟩]
  rw [e, e2] at h
  refine h.mono ?_
  rintro e w' ⟨rfl, hd, hc, hk⟩
  obtain ⟨a', d'⟩ := p.at_.setBoth hd hc hk rfl
  obtain ⟨p', s'⟩ := p.step a' d' (read_ok p.ok n) a3 p.br
  exact ⟨rfl, p', s'⟩
end
end Go.Proofs.YtjklcnknbcmgoaaGreatDoor
/-
  Rows of numbers and of texts that a call has alone, and that grow by one.
-/
namespace Go.Proofs.YtjklcnknbcmgoaaGreatDoor
open Go Go.RowKit Go.Maps

theorem infoIntG : ∃ i, Tryz.prog.info? 3 = some i ∧ i.zero = some (.int .i64 0) ∧ i.size = 1 ∧ i.bytes = 8 := by
  have h : (Tryz.prog.info? 3).map (fun i => (i.zero, i.size, i.bytes)) = some (some (.int .i64 0), 1, 8) := by kernel_rfl
  cases e : Tryz.prog.info? 3 with
  | none => rw [e] at h; cases h
  | some i =>
    rw [e] at h
    simp only [Option.map_some, Option.some.injEq, Prod.mk.injEq] at h
    exact ⟨i, rfl, h.1, h.2.1, h.2.2⟩
theorem infoStrG : ∃ i, Tryz.prog.info? 9 = some i ∧ i.zero = some (.string ⟨#[]⟩) ∧ i.size = 1 ∧ i.bytes = 16 := by
  have h : (Tryz.prog.info? 9).map (fun i => (i.zero, i.size, i.bytes)) = some (some (.string ⟨#[]⟩), 1, 16) := by kernel_rfl
  cases e : Tryz.prog.info? 9 with
  | none => rw [e] at h; cases h
  | some i =>
    rw [e] at h
    simp only [Option.map_some, Option.some.injEq, Prod.mk.injEq] at h
    exact ⟨i, rfl, h.1, h.2.1, h.2.2⟩
def txts (ts : List ByteArray) : List Value := ts.map Value.string
/-- A row of numbers, and one of texts, of the call's own: from base on. -/
def OI (w : World) (base : Nat) (v : Value) (zs : List Int) : Prop := w.ownsRow base 3 1 v zs.length (vals zs)
def OT (w : World) (base : Nat) (v : Value) (ts : List ByteArray) : Prop := w.ownsRow base 9 1 v ts.length (txts ts)
theorem OI.nil (w : World) (base : Nat) : OI w base (.slice none 0 0) [] := ⟨rfl, .inl ⟨rfl, rfl⟩⟩
theorem OT.nil (w : World) (base : Nat) : OT w base (.slice none 0 0) [] := ⟨rfl, .inl ⟨rfl, rfl⟩⟩
theorem OI.new {w : World} {base : Nat} {v : Value} {zs : List Int} (h : OI w base v zs) : ∀ k, v.ownBlock = some k → base ≤ k ∧ k < w.heap.size := by
  rintro k hk
  rcases h.2 with ⟨rfl, _⟩ | ⟨g, cap, cur, rfl, hb, hg, _⟩
  · cases hk
  · simp [Value.ownBlock] at hk
    subst hk
    exact ⟨hb, (Array.getElem?_eq_some_iff.1 hg).1⟩
theorem OT.new {w : World} {base : Nat} {v : Value} {ts : List ByteArray} (h : OT w base v ts) : ∀ k, v.ownBlock = some k → base ≤ k ∧ k < w.heap.size := by
  rintro k hk
  rcases h.2 with ⟨rfl, _⟩ | ⟨g, cap, cur, rfl, hb, hg, _⟩
  · cases hk
  · simp [Value.ownBlock] at hk
    subst hk
    exact ⟨hb, (Array.getElem?_eq_some_iff.1 hg).1⟩
theorem OI.block {w w' : World} {base : Nat} {v : Value} {zs : List Int} (h : OI w base v zs) (hb : ∀ k, v.ownBlock = some k → w'.heap[k]? = w.heap[k]?) : OI w' base v zs := by
  refine ⟨h.1, ?_⟩
  rcases h.2 with q | ⟨g, cap, cur, rfl, hb', hg, q⟩
  · exact .inl q
  · exact .inr ⟨g, cap, cur, rfl, hb', (hb g rfl).trans hg, q⟩
theorem OT.block {w w' : World} {base : Nat} {v : Value} {ts : List ByteArray} (h : OT w base v ts) (hb : ∀ k, v.ownBlock = some k → w'.heap[k]? = w.heap[k]?) : OT w' base v ts := by
  refine ⟨h.1, ?_⟩
  rcases h.2 with q | ⟨g, cap, cur, rfl, hb', hg, q⟩
  · exact .inl q
  · exact .inr ⟨g, cap, cur, rfl, hb', (hb g rfl).trans hg, q⟩
theorem OI.at {w : World} {base : Nat} {v : Value} {zs : List Int} (h : OI w base v zs) {i : Nat} {z : Int} (hi : zs[i]? = some z) : ∃ g cap, v = .slice (some ⟨g, 0, none⟩) zs.length cap ∧ w.cell? ⟨g, 0 + i, none⟩ = some (.int .i64 z) := by
  have hjl := (List.getElem?_eq_some_iff.1 hi).1
  rcases h.2 with ⟨rfl, hn⟩ | ⟨g, cap, cur, rfl, hb, hg, h1, h2, h3, h4⟩
  · omega
  · have e : (cur.toList.take (zs.length * 1))[i]? = (vals zs)[i]? := by rw [h4]
    rw [List.getElem?_take_of_lt (by omega), vals_get, hi] at e
    refine ⟨g, cap, rfl, ?_⟩
    rw [(show Holds w g 3 cur from hg).cell, Nat.zero_add]
    simpa using e
theorem OT.at {w : World} {base : Nat} {v : Value} {ts : List ByteArray} (h : OT w base v ts) {i : Nat} {t : ByteArray} (hi : ts[i]? = some t) : ∃ g cap, v = .slice (some ⟨g, 0, none⟩) ts.length cap ∧ w.cell? ⟨g, 0 + i, none⟩ = some (.string t) := by
  have hjl := (List.getElem?_eq_some_iff.1 hi).1
  rcases h.2 with ⟨rfl, hn⟩ | ⟨g, cap, cur, rfl, hb, hg, h1, h2, h3, h4⟩
  · omega
  · have e : (cur.toList.take (ts.length * 1))[i]? = (txts ts)[i]? := by rw [h4]
    have e2 : (txts ts)[i]? = some (.string t) := by simp [txts, hi]
    rw [List.getElem?_take_of_lt (by omega), e2] at e
    refine ⟨g, cap, rfl, ?_⟩
    rw [(show Holds w g 9 cur from hg).cell, Nat.zero_add]
    simpa using e
theorem OI.len {w : World} {base : Nat} {v : Value} {zs : List Int} (h : OI w base v zs) : ∃ p c, v = .slice p zs.length c := by
  rcases h.2 with ⟨rfl, hn⟩ | ⟨g, cap, cur, rfl, _⟩
  · exact ⟨none, 0, by rw [hn]⟩
  · exact ⟨_, _, rfl⟩
theorem OT.len {w : World} {base : Nat} {v : Value} {ts : List ByteArray} (h : OT w base v ts) : ∃ p c, v = .slice p ts.length c := by
  rcases h.2 with ⟨rfl, hn⟩ | ⟨g, cap, cur, rfl, _⟩
  · exact ⟨none, 0, by rw [hn]⟩
  · exact ⟨_, _, rfl⟩
/-- Where an append of one or more puts the row: where it was, or into a new block. -/
theorem append_block {P : Program} (w : World) (base : Nat) (t ty e : TypeId) (i : TypeInfo) (z : Value) (size bytes : Nat) (ht : P.underlying t = some (.slice e)) (hi : P.info? e = some i) (hz : i.zero = some z)
    (hsize : i.size = size) (hby : i.bytes = bytes) (v : Value) (n : Nat) (xs : List Value) (hown : w.ownsRow base e size v n xs)
    (a : Addr) (m c : Nat) (news : List Value) (hl : news.length = m * size) (hnews : ∀ j u, news[j]? = some u → w.cell? (a.add j) = some u) (h1 : ∀ u ∈ news, u.oneCell' = true)
    (hm : 0 < m) (h63 : n + m ≤ maxLen) (hbytes : (n + m) * bytes ≤ 140737488355328) {v' : Value} {w' : World} (hrun : (Builtin.append_ #[t, t] ty #[v, .slice (some a) m c]).run P w = .ok v' w') :
    v'.ownBlock = v.ownBlock ∨ v'.ownBlock = some w.heap.size := by
  subst hsize hby
  have hsmall : n + m ≤ 9223372036854775807 := by simp only [maxLen] at h63; omega
  rcases hown.2 with ⟨rfl, rfl⟩ | ⟨g, cap, cur, rfl, hbg, hg, hnc, hcm, hcs, htake⟩
  · have hr := run_append_nil (P := P) w t ty e i z ht hi hz a m c news hl hnews (by omega) (by omega) (by have hb := hbytes; simp only [Nat.zero_add] at hb; omega)
    rw [hr] at hrun
    injection hrun with h _
    rw [← h]
    exact .inr rfl
  · by_cases hroom : n + m ≤ cap
    · have hfit : n * i.size + news.length ≤ cur.size := by rw [hl, hcs, ← Nat.add_mul]; exact Nat.mul_le_mul_right _ hroom
      have hr := run_append_room (P := P) w t ty e i ht hi g n cap cur hg a m c news hl hnews h1 hroom hfit
      rw [hr] at hrun
      injection hrun with h _
      rw [← h]
      exact .inl rfl
    · have hr := run_append_grow (P := P) w t ty e i z ht hi hz ⟨g, 0, none⟩ n cap xs hown.1 (hown.cells (g := g) rfl) a m c news hl hnews (by omega) (by omega) (growslice_fits (by omega) hbytes)
      rw [hr] at hrun
      injection hrun with h _
      rw [← h]
      exact .inr rfl
theorem app_int {w : World} {base : Nat} {v : Value} {zs : List Int} (h : OI w base v zs) (hl : zs.length < 1000000000) (hbase : base ≤ w.heap.size) (ty : TypeId) {g : Nat} {t : TypeId} {z : Int} (hg : Holds w g t #[.int .i64 z]) :
    ∃ v' w', (Builtin.append_ #[31, 31] ty #[v, .slice (some ⟨g, 0, none⟩) 1 1]).run Tryz.prog w = .ok v' w' ∧ OI w' base v' (zs ++ [z]) ∧ w.grownBy w' v.ownBlock ∧ (v'.ownBlock = v.ownBlock ∨ v'.ownBlock = some w.heap.size) := by
  obtain ⟨i0, hi, hz0, hz1, hz2⟩ := infoIntG
  obtain ⟨v', w', h1, h2, h3, _⟩ := run_append_own (P := Tryz.prog) w base 31 ty 3 i0 (.int .i64 0) 1 8 Tryz.underlying31 hi hz0 hz1 hz2 rfl (by decide) v zs.length (vals zs) h ⟨g, 0, none⟩ 1 1 [.int .i64 z] rfl (fun j u hu => by
    cases j with
    | zero => simp at hu; subst hu; exact hg.cell 0
    | succ j => simp at hu) (one_one z) (by unfold maxLen; omega) (by omega) hbase
  refine ⟨v', w', h1, ?_, h3, append_block w base 31 ty 3 i0 (.int .i64 0) 1 8 Tryz.underlying31 hi hz0 hz1 hz2 v zs.length (vals zs) h ⟨g, 0, none⟩ 1 1 [.int .i64 z] rfl (fun j u hu => by
    cases j with
    | zero => simp at hu; subst hu; exact hg.cell 0
    | succ j => simp at hu) (one_one z) (by decide) (by unfold maxLen; omega) (by omega) h1⟩
  unfold OI
  rw [List.length_append, show vals (zs ++ [z]) = vals zs ++ [.int .i64 z] by simp [vals]]
  exact h2
theorem app_txt {w : World} {base : Nat} {v : Value} {ts : List ByteArray} (h : OT w base v ts) (hl : ts.length < 1000000000) (hbase : base ≤ w.heap.size) (ty : TypeId) {g : Nat} {t : TypeId} {z : ByteArray} (hg : Holds w g t #[.string z]) :
    ∃ v' w', (Builtin.append_ #[32, 32] ty #[v, .slice (some ⟨g, 0, none⟩) 1 1]).run Tryz.prog w = .ok v' w' ∧ OT w' base v' (ts ++ [z]) ∧ w.grownBy w' v.ownBlock ∧ (v'.ownBlock = v.ownBlock ∨ v'.ownBlock = some w.heap.size) := by
  obtain ⟨i0, hi, hz0, hz1, hz2⟩ := infoStrG
  obtain ⟨v', w', h1, h2, h3, _⟩ := run_append_own (P := Tryz.prog) w base 32 ty 9 i0 (.string ⟨#[]⟩) 1 16 Tryz.underlying32 hi hz0 hz1 hz2 rfl (by decide) v ts.length (txts ts) h ⟨g, 0, none⟩ 1 1 [.string z] rfl (fun j u hu => by
    cases j with
    | zero => simp at hu; subst hu; exact hg.cell 0
    | succ j => simp at hu) (fun v hv => by rw [List.mem_singleton] at hv; subst hv; rfl) (by unfold maxLen; omega) (by omega) hbase
  refine ⟨v', w', h1, ?_, h3, append_block w base 32 ty 9 i0 (.string ⟨#[]⟩) 1 16 Tryz.underlying32 hi hz0 hz1 hz2 v ts.length (txts ts) h ⟨g, 0, none⟩ 1 1 [.string z] rfl (fun j u hu => by
    cases j with
    | zero => simp at hu; subst hu; exact hg.cell 0
    | succ j => simp at hu) (fun v hv => by rw [List.mem_singleton] at hv; subst hv; rfl) (by decide) (by unfold maxLen; omega) (by omega) h1⟩
  unfold OT
  rw [List.length_append, show txts (ts ++ [z]) = txts ts ++ [.string z] by simp [txts]]
  exact h2
theorem grown_keep {w w' : World} {row : Option Nat} (h : w.grownBy w' row) : Keep (fun k => row = some k) w w' := ⟨h.os, h.tape, h.output, h.size, fun k hk hn => h.block k hk (fun e => hn e.symm)⟩
section
variable {ops : Array Oper} {Q : Exit → Act → World → Prop} {Kt : Act → World → Prop} {k : Nat} {op : Oper} {a : Act} {w : World} {v : Value} {base : Nat}
theorem op_appI (d : Option Tmp) (hdd : op.dst = d) (hk : ops[k]? = some op) (hw : Region.wanted op (yielded ops a.tmps) = true) (s x : Operand)
    (ho : op.op = .call { callee := .builtin .append, args := #[s, x], argTypes := #[31, 31] }) {g : Nat} {t : TypeId} {zs : List Int} {z : Int} (hs : a.eval s = v) (hx : a.eval x = .slice (some ⟨g, 0, none⟩) 1 1) (hown : OI w base v zs) (hl : zs.length < 1000000000) (hbase : base ≤ w.heap.size) (hg : Holds w g t #[.int .i64 z])
    (h : ∀ v' w', OI w' base v' (zs ++ [z]) → w.grownBy w' v.ownBlock → (v'.ownBlock = v.ownBlock ∨ v'.ownBlock = some w.heap.size) → Kt (a.put d v') w') : wpOp Tryz.prog ops Q k Kt a w := by
  obtain ⟨v', w', hr, h2, h3, h4⟩ := app_int hown hl hbase op.type hg
  refine op_val d hdd hk hw (v := v') (w' := w') ?_ (h v' w' h2 h3 h4)
  unfold execOp
  simp only [ho, resolve, invoke, builtin, Sem.run_bind, Sem.run_pure, Result.andThen_ok, List.map_toArray, List.map_cons, List.map_nil, hs, hx, hr]
theorem op_appT (d : Option Tmp) (hdd : op.dst = d) (hk : ops[k]? = some op) (hw : Region.wanted op (yielded ops a.tmps) = true) (s x : Operand)
    (ho : op.op = .call { callee := .builtin .append, args := #[s, x], argTypes := #[32, 32] }) {g : Nat} {t : TypeId} {ts : List ByteArray} {z : ByteArray} (hs : a.eval s = v) (hx : a.eval x = .slice (some ⟨g, 0, none⟩) 1 1) (hown : OT w base v ts) (hl : ts.length < 1000000000) (hbase : base ≤ w.heap.size) (hg : Holds w g t #[.string z])
    (h : ∀ v' w', OT w' base v' (ts ++ [z]) → w.grownBy w' v.ownBlock → (v'.ownBlock = v.ownBlock ∨ v'.ownBlock = some w.heap.size) → Kt (a.put d v') w') : wpOp Tryz.prog ops Q k Kt a w := by
  obtain ⟨v', w', hr, h2, h3, h4⟩ := app_txt hown hl hbase op.type hg
  refine op_val d hdd hk hw (v := v') (w' := w') ?_ (h v' w' h2 h3 h4)
  unfold execOp
  simp only [ho, resolve, invoke, builtin, Sem.run_bind, Sem.run_pure, Result.andThen_ok, List.map_toArray, List.map_cons, List.map_nil, hs, hx, hr]
end
end Go.Proofs.YtjklcnknbcmgoaaGreatDoor
/-
  Whether all pages of a state are as they should be.
-/
namespace Go.Proofs.YtjklcnknbcmgoaaGreatDoor
open Go Go.RowKit Go.Maps

theorem Pk.less {G G' : Nat → Prop} {w0 w : World} {b : Nat} {H : Hs} {S : St} {N : Nat} (p : Pk G' w0 w b H S N) (h : ∀ k, G k → G' k) : Pk G w0 w b H S N :=
  ⟨p.at_, fun k hk => ⟨(p.foot k hk).1, fun g => (p.foot k hk).2 (h k g)⟩, p.blw, fun k g => p.kept k (h k g), p.ok, p.cm, p.br⟩
theorem fieldM0 (a b c d : Value) (w : World) : (Instr.field 43 (.agg #[a, b, c, d]) 0).run Tryz.prog w = .ok a w := by
  simp [Instr.field, go_sem, asAgg]
set_option maxRecDepth 8000 in
set_option maxHeartbeats 2000000 in
theorem has10_any {G : Nat → Prop} {w0 w : World} {b : Nat} {H : Hs} {S : St} {N : Nat} (p : Pk G w0 w b H S N) (hT : K.Tabs w0) (tx : Int) {vp vt : Value} {ps : List Int} {ts : List ByteArray} {base : Nat} (hp : OI w base vp ps) (ht : OT w base vt ts) (hl : ts.length = ps.length) (hN : N + ps.length < 1000000000)
    (hGp : ∀ k, vp.ownBlock = some k → G k) (hGt : ∀ k, vt.ownBlock = some k → G k) (hr : 0 ≤ S.P.reads ∧ S.P.reads < 1000000000000) (hF : Fw S.D)
    (hpg : ∀ (i : Nat) (n : Int) (t : ByteArray), ps[i]? = some n → ts[i]? = some t → 0 ≤ n ∧ n < S.D.size ∧ t.size ≤ 1013 ∧ front S.D n = K.sealS 84 t) :
    Calls Tryz.prog 18 #[.agg #[.int .i64 tx, vp, vt], .pointer (some ⟨b, 0, none⟩)] w fun e w' => e = .returned (.bool (S.P.tx == tx)) ∧ ∃ D', Pk G w0 w' b H { S with P := { S.P with reads := S.P.reads + ps.length }, D := D' } (N + ps.length) ∧ Fw D' ∧ (∀ k, front D' k = front S.D k) ∧ D'.size = S.D.size ∧ SameG G w w' := by
  obtain ⟨pp, cp, hvp⟩ := hp.len
  obtain ⟨pt, ct, hvt⟩ := ht.len
  obtain ⟨n, hn⟩ : ∃ n, ps.length = n := ⟨_, rfl⟩
  rw [hn] at hvp hN ⊢
  rw [hl, hn] at hvt
  subst hvp hvt
  obtain ⟨g, hg⟩ : ∃ g, w.heap.size = g := ⟨_, rfl⟩
  obtain ⟨W, hW⟩ : ∃ W, w.alloc (.cells #[.int .i64 tx, .slice pp n cp, .slice pt n ct] 34) = W := ⟨_, rfl⟩
  have hB : Below w.heap.size w W := by rw [← hW]; exact below_new1 _ _
  have hbx : Holds W g 34 #[.int .i64 tx, .slice pp n cp, .slice pt n ct] := by rw [← hW, ← hg]; exact Holds.new _ _ _
  have p1 := p.more (G' := fun k => G k ∨ k = g) hB (fun k hk => by
    rcases hk with h | h
    · exact ⟨.inl h, Nat.lt_of_lt_of_le (p.kept k h) hB.size⟩
    · exact ⟨.inr (by omega), by have := hbx.lt; omega⟩)
  have hpW := hp.block (w' := W) (fun k hk => hB.block k (hp.new k hk).2)
  have htW := ht.block (w' := W) (fun k hk => hB.block k (ht.new k hk).2)
  have hni : (n : Int) < 1000000000 := by omega
  have HSW : Hid (SameG G w W) := fun k hk => hB.block k (p.kept k hk)
  have HPG : Hid _ := hpg
  have HGp : Hid _ := hGp
  have HGt : Hid _ := hGt
  obtain ⟨hr1, hr2⟩ := hr
  have HL : Hid (ts.length = n) := hl.trans hn
  clear p hp ht hB hpg hGp hGt hl
  go_enter Tryz.func18, Tryz.ntmps18
  go_wp2_with fail
  go_loopw [5, 6, 7, 8] (fun y _ _ _ wr => ∃ (i : Nat) (D' : Dev), y = .int .i64 (i : Nat) ∧ i ≤ n ∧ Pk (fun k => G k ∨ k = g) w0 wr b H { S with P := { S.P with reads := S.P.reads + i }, D := D' } (N + i) ∧ Fw D' ∧ (∀ k, front D' k = front S.D k) ∧ D'.size = S.D.size ∧ SameG (fun k => G k ∨ k = g) W wr) (fun y _ _ _ _ => n - (Lib.intOf y).toNat)
  case atStart =>
    refine ⟨0, S.D, rfl, by omega, ?_, hF, fun _ => rfl, rfl, fun _ _ => rfl⟩
    have : ({ S with P := { S.P with reads := S.P.reads + ((0 : Nat) : Int) }, D := S.D } : St) = S := by simp
    rw [this]
    exact p1
  case round =>
    obtain ⟨i, D', rfl, hi, pR, fR, eR, zR, sR⟩ := hrel
    have hxR : Holds wr g 34 #[.int .i64 tx, .slice pp n cp, .slice pt n ct] := by
      have := hbx
      unfold Holds at *
      rw [sR g (.inr rfl)]; exact this
    have c1 : wr.cell? ⟨g, 1, none⟩ = some (.slice pp n cp) := hxR.cell 1
    have c2 : wr.cell? ⟨g, 2, none⟩ = some (.slice pt n ct) := hxR.cell 2
    have c0 : wr.cell? ⟨g, 0, none⟩ = some (.int .i64 tx) := hxR.cell 0
    by_cases hlt : i < n
    · have hlti : (i : Int) < n := by omega
      obtain ⟨z, hz⟩ : ∃ z, ps[i]? = some z := ⟨_, List.getElem?_eq_getElem (by omega)⟩
      obtain ⟨t, htt⟩ : ∃ t, ts[i]? = some t := ⟨_, List.getElem?_eq_getElem (by have := HL.out; omega)⟩
      obtain ⟨q1, q2, q3, q4⟩ := HPG.out i z t hz htt
      have hpR := hpW.block (w' := wr) (fun k hk => sR k (.inl (HGp.out k hk)))
      obtain ⟨gp, cp', ep, cz⟩ := hpR.at hz
      injection ep with ep1 ep2 ep3
      subst ep1
      clear ep2 ep3
      rw [Nat.zero_add] at cz
      have hrd := pk_read pR hT (by omega) ⟨by dsimp only; omega, by dsimp only; omega⟩ z ⟨q1, by dsimp only; rw [zR]; exact q2⟩ 84 t q3 (by dsimp only; rw [eR]; exact q4)
      rw [show K.oct 84 = (84 : Int) from rfl] at hrd
      have hhas : D'.has z = true := has_of q1 (by rw [zR]; exact q2)
      have HFW : Hid _ := fw_read pR.cm fR hhas
      have HZ : Hid ((D'.read z).2.2.size = S.D.size) := ((cm_read pR.cm hhas).2.2.2.2.1).trans zR
      have HE : Hid (∀ k, front D' k = front S.D k) := eR
      clear hpR eR
      go_wp2_with fail
      refine hrd.mono ?_
      rintro e w2 ⟨rfl, p2, s2⟩
      have hx2 : Holds w2 g 34 #[.int .i64 tx, .slice (some ⟨gp, 0, none⟩) n cp, .slice pt n ct] := by
        have := hxR
        unfold Holds at *
        rw [s2 g (.inr rfl)]; exact this
      have c22 : w2.cell? ⟨g, 2, none⟩ = some (.slice pt n ct) := hx2.cell 2
      have htR := htW.block (w' := w2) (fun k hk => (s2 k (.inl (HGt.out k hk))).trans (sR k (.inl (HGt.out k hk))))
      obtain ⟨gt, ct', et, czt⟩ := htR.at htt
      injection et with et1 et2 et3
      subst et1
      clear et2 et3
      rw [Nat.zero_add] at czt
      have HP2 : Hid (Pk (fun k => G k ∨ k = g) w0 w2 b H { S with P := { S.P with reads := S.P.reads + ((i + 1 : Nat) : Int) }, D := (D'.read z).2.2 } (N + (i + 1))) := by
        have e : S.P.reads + (i : Int) + 1 = S.P.reads + ((i + 1 : Nat) : Int) := by omega
        rw [← e]
        exact p2
      have HS2 : Hid (SameG (fun k => G k ∨ k = g) W w2) := fun k hk => (s2 k hk).trans (sR k hk)
      clear hrd p2 htR hx2
      go_wp2_with fail
      go_roundw
      case rel => exact ⟨i + 1, _, by go_num, by omega, HP2.out, HFW.out.1, fun k => (HFW.out.2 k).trans (HE.out k), HZ.out, HS2.out⟩
      case measure => simp [Lib.intOf]; omega
    · have hin : i = n := by omega
      have hlti : ¬ (i : Int) < n := by omega
      have hme : ∀ W', Below wr.heap.size wr W' → Calls Tryz.prog 20 #[.pointer (some ⟨b, 0, none⟩)] W' fun e w' => e = .returned (.agg #[.int .i64 S.P.tx, .int .i64 S.P.root, .int .i64 S.P.entries, .int .i64 S.P.pages]) ∧ Below wr.heap.size wr w' := fun W' hW' => by
        refine (gmeta_any (pR.at_.below hW').cells).mono ?_
        rintro e w' ⟨rfl, hB'⟩
        exact ⟨rfl, below_new hW' hB'⟩
      have hld : ∀ W', Below wr.heap.size wr W' → W'.cell? ⟨g, 0, none⟩ = some (.int .i64 tx) := fun W' hW' => (below_holds hW' hxR).cell 0
      have HP : Hid _ := pR
      have HR : Hid (Fw D' ∧ (∀ k, front D' k = front S.D k) ∧ D'.size = S.D.size ∧ SameG (fun k => G k ∨ k = g) W wr) := ⟨fR, eR, zR, sR⟩
      have HME : Hid _ := hme
      have HLD : Hid _ := hld
      clear pR fR eR zR sR hme hld hxR c2
      go_wp2_with fail
      refine wp_region_class (fun W' => Below wr.heap.size wr W') mixedP (by kernel_rfl) (Below.refl _ _).drew ?_
      go_big_quiet_step (exact fun _ => rfl)
      refine wpQ_call rfl 20 #[.pointer (some ⟨b, 0, none⟩)] (fun _ => by go_simp) (.agg #[.int .i64 S.P.tx, .int .i64 S.P.root, .int .i64 S.P.entries, .int .i64 S.P.pages]) (fun W' hW' => HME.out W' hW') ?_
      go_frame
      refine wpQ_val rfl (.int .i64 S.P.tx) (fun _ => by have := fieldM0; go_simp) ?_
      go_frame
      refine wpQ_val rfl (.pointer (some ⟨g, 0, none⟩)) (fun _ => by go_simp) ?_
      go_frame
      refine wpQ_at rfl (.int .i64 tx) (fun W' hW' => by have := HLD.out W' hW'; go_simp) ?_
      go_frame
      refine wpQ_val rfl (.bool (S.P.tx == tx)) (fun _ => by go_simp) ?_
      go_frame
      refine wpQ_val rfl (.bool (S.P.tx == tx)) (fun _ => by go_simp) ?_
      go_frame
      refine wpQuiet_nil ?_
      intro W6 hB6
      refine then_normalS ?_
      go_at_K
      go_wp2_with fail
      go_ret
      subst hin
      have hRs := HR.out.2.2.2
      refine ⟨rfl, D', (HP.out.below hB6).less (fun k hk => .inl hk), HR.out.1, HR.out.2.1, HR.out.2.2.1, fun k hk => ?_⟩
      have h1 := HP.out.kept k (.inl hk)
      rw [hB6.block k h1, hRs k (.inl hk), HSW.out k hk]
end Go.Proofs.YtjklcnknbcmgoaaGreatDoor
