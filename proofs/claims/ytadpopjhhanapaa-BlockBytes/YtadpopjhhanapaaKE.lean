/-
  Texts of this claim, put together.
-/
import Derived.Test.YtadpopjhhanapaaKG
import Derived.Test.YtadpopjhhanapaaJReadW
import Derived.Test.YtadpopjhhanapaaKI
/-
  The document's write: a write out of a thing.
-/
namespace Go.Proofs.Ytadpopjhhanapaa
open Go Go.RowKit

/-- What such bytes must be as things, so that the document takes them for a write. -/
def goodW (b : Bool) (i : Row) : Prop := b = true ∧ i.len = 6 ∧ (i.nth 5).1 = true ∧ (txtAt i 1 = ⟨#[]⟩ ∨ txtAt i 1 = ⟨#[1]⟩ ∨ txtAt i 1 = ⟨#[2]⟩) ∧ ∀ k, k < (rowAt i 5).len → (rowAt (rowAt i 5) k).len = 2
def QWPost (w w' : World) (b : Bool) (i : Row) (e : Ending) : Prop := ∃ y ok, e = .returned (.tuple #[wra y, .bool ok]) ∧ WrOk w' y ∧ (∀ k, y.s.ownBlock = some k → w.heap.size ≤ k ∧ k < w'.heap.size) ∧ (ok = true → y.bare = writeR i (.slice none 0 0)) ∧ (goodW b i → ok = true)
theorem QWPost.bad {w w' : World} {b : Bool} {i : Row} (h : ¬ goodW b i) : QWPost w w' b i (.returned (.tuple #[.agg #[.string ⟨#[]⟩, .bool false, .bool false, .int .u64 0, .string ⟨#[]⟩, .string ⟨#[]⟩, .slice none 0 0], .bool false])) :=
  ⟨wr0, false, rfl, ⟨.inl ⟨rfl, none, 0, rfl⟩, by decide⟩, fun k hk => by simp [wr0, Value.ownBlock] at hk, fun h => (by cases h), fun h' => absurd h' h⟩
structure KeepS (g : Nat) (sv : Value) (w w' : World) : Prop where
  os : w'.os = w.os
  tape : w'.tape = w.tape
  output : w'.output = w.output
  size : w.heap.size ≤ w'.heap.size
  block : ∀ k, k < w.heap.size → k ≠ g → sv.ownBlock ≠ some k → w'.heap[k]? = w.heap[k]?
section
variable {g base : Nat} {sv : Value} {X W W' w : World}
theorem KeepS.refl : KeepS g sv X X := ⟨rfl, rfl, rfl, Nat.le_refl _, fun _ _ _ _ => rfl⟩
theorem KeepS.drew (h : KeepS g sv X W) : KeepS g sv X W.drew := ⟨h.os, h.tape, h.output, h.size, h.block⟩
theorem KeepS.alloc (h : KeepS g sv X W) (o : Obj) : KeepS g sv X (W.alloc o) := by
  have k := below_new1 W o
  exact ⟨k.os.trans h.os, k.tape.trans h.tape, k.output.trans h.output, Nat.le_trans h.size k.size, fun b hb h1 h2 => (k.block b (Nat.lt_of_lt_of_le hb h.size)).trans (h.block b hb h1 h2)⟩
theorem KeepS.grown (h : KeepS g sv X W) (k : W.grownBy W' sv.ownBlock) : KeepS g sv X W' :=
  ⟨k.os.trans h.os, k.tape.trans h.tape, k.output.trans h.output, Nat.le_trans h.size k.size, fun b hb h1 h2 => (k.block b (Nat.lt_of_lt_of_le hb h.size) (fun e => h2 e.symm)).trans (h.block b hb h1 h2)⟩
theorem KeepS.only (h : KeepS g sv X W) (k : Only g W W') : KeepS g sv X W' :=
  ⟨k.os.trans h.os, k.tape.trans h.tape, k.output.trans h.output, Nat.le_trans h.size k.size, fun b hb h1 h2 => (k.block b (Nat.lt_of_lt_of_le hb h.size) h1).trans (h.block b hb h1 h2)⟩
theorem KeepS.cell {b i : Nat} {v : Value} (h : KeepS g sv X W) (hc : X.cell? ⟨b, i, none⟩ = some v) (h1 : b ≠ g) (h2 : sv.ownBlock ≠ some b) : W.cell? ⟨b, i, none⟩ = some v := by
  have hl : b < X.heap.size := World.block_lt_of_cell? X _ hc
  rw [World.cell?_of_block (h.block b hl h1 h2)]; exact hc
theorem KeepS.holds {b : Nat} {t : TypeId} {cs : Array Value} (h : KeepS g sv X W) (hc : Holds X b t cs) (h1 : b ≠ g) (h2 : sv.ownBlock ≠ some b) : Holds W b t cs := by
  have := hc.lt
  unfold Holds at *
  rw [h.block b this h1 h2]; exact hc
theorem KeepS.from (h : KeepS g sv X W) (k : Only g w X) (hs : ∀ j, sv.ownBlock = some j → w.heap.size ≤ j) : Only g w W :=
  ⟨h.os.trans k.os, h.tape.trans k.tape, h.output.trans k.output, Nat.le_trans k.size h.size, fun b hb h1 => (h.block b (Nat.lt_of_lt_of_le hb k.size) h1 (fun e => by have := hs b e; omega)).trans (k.block b hb h1)⟩
end
section
variable {ops : Array Oper} {Q : Exit → Act → World → Prop} {Kt : Act → World → Prop} {k : Nat} {op : Oper} {a : Act} {w : World} {v : Value} {K : List Sl} {base : Nat}
theorem op_ldJ (d : Option Tmp) (hdd : op.dst = d) (hk : ops[k]? = some op) (hw : Region.wanted op (yielded ops a.tmps) = true) (ty : TypeId) (x : Operand) (ho : op.op = .load ty x) {ad : Addr} (hx : a.eval x = .pointer (some ad)) {v : Value} (hh : (loadVar ty ad).run Try.prog w = .ok v w)
    (h : Kt (a.put d v) w) : wpOp Try.prog ops Q k Kt a w := by
  refine Dt.op_val d hdd hk hw (v := v) (w' := w) ?_ h
  unfold execOp
  simp only [ho, hx, Instr.loadAt, Instr.sureAddr, Sem.run_bind, Sem.run_pure, Result.andThen_ok, hh]
theorem op_stJ (d : Option Tmp) (hdd : op.dst = d) (hk : ops[k]? = some op) (hw : Region.wanted op (yielded ops a.tmps) = true) (ty : TypeId) (x y : Operand) (ho : op.op = .store ty x y)
    {ad : Addr} {v : Value} (hx : a.eval x = .pointer (some ad)) (hy : a.eval y = v) {w' : World} (hst : (storeVar ty ad v).run Try.prog w = .ok () w') (h : Kt (a.put d undef) w') : wpOp Try.prog ops Q k Kt a w := by
  refine Dt.op_skip d hdd hk hw (w' := w') ?_ h
  unfold execOp
  simp only [ho, hx, hy, Instr.storeAt, Instr.sureAddr, Sem.run_bind, Sem.run_pure, Result.andThen_ok, hst]
theorem op_appS (d : Option Tmp) (hdd : op.dst = d) (hk : ops[k]? = some op) (hw : Region.wanted op (yielded ops a.tmps) = true) (s x : Operand)
    (ho : op.op = .call { callee := .builtin .append, args := #[s, x], argTypes := #[36, 36] }) (hs : a.eval s = v) {g : Nat} {xk xv : ByteArray} (hx : a.eval x = .slice (some ⟨g, 0, none⟩) 1 1) (hg : Holds w g 50 #[.string xk, .string xv]) (hown : OwnSl w base v K) (hl : K.length ≤ 1000000) (hbase : base ≤ w.heap.size)
    (h : ∀ v' w', OwnSl w' base v' (K ++ [⟨xk, xv⟩]) → w.grownBy w' v.ownBlock → Kt (a.put d v') w') : wpOp Try.prog ops Q k Kt a w := by
  obtain ⟨i0, hi, hz0, hz1, hz2⟩ := infoSlotJ
  obtain ⟨v', w', h1, h2, h3, _⟩ := run_append_own (P := Try.prog) w base 36 op.type 50 i0 (.agg #[.string ⟨#[]⟩, .string ⟨#[]⟩]) 2 32 underSlots hi hz0 hz1 hz2 rfl (by decide) v K.length (scells K) hown ⟨g, 0, none⟩ 1 1 [.string xk, .string xv] rfl (fun j u hu => by
    have hj : j < 2 := (List.getElem?_eq_some_iff.1 hu).1
    rw [add_plain, Nat.zero_add, hg.cell]
    rcases j with _ | _ | j
    · simpa using hu
    · simpa using hu
    · omega) (by intro u hu; simp at hu; rcases hu with rfl | rfl <;> rfl) (by unfold maxLen; omega) (by omega) hbase
  refine Dt.op_val d hdd hk hw (v := v') (w' := w') ?_ (h v' w' ?_ h3)
  · unfold execOp
    simp only [ho, resolve, invoke, builtin, Sem.run_bind, Sem.run_pure, Result.andThen_ok, List.map_toArray, List.map_cons, List.map_nil, hs, hx, h1]
  · unfold OwnSl
    rw [List.length_append, scells_app]
    exact h2
end
theorem OwnSl.shape {w : World} {base : Nat} {v : Value} {L : List Sl} (h : OwnSl w base v L) : ∃ p n c, v = .slice p n c := by
  obtain ⟨p, c, h⟩ := h.at.shape
  exact ⟨p, _, c, h⟩
theorem run_stSl {w : World} {g i : Nat} {t : TypeId} {cs : Array Value} (h : Holds w g t cs) (hi : i < cs.size) (p : Option Addr) (n c : Nat) : (storeVar 36 ⟨g, i, none⟩ (.slice p n c)).run Try.prog w = .ok () (w.setCell ⟨g, i, none⟩ (.slice p n c)) := by
  have h1 := h.cell i
  rw [Array.getElem?_eq_getElem hi] at h1
  have h2 : w.frozen? ⟨g, i, none⟩ = false := by
    have h' : w.heap[g]? = some (.cells cs t (0, 0)) := h
    simp [World.frozen?, h']
  simp [go_sem, h1, h2]
set_option maxRecDepth 8000 in
set_option maxHeartbeats 2000000 in
theorem qwrite_bad {w : World} {i : Row} {a : Option Addr} {c : Nat} (b : Bool) (s : ByteArray) (hl : LiesB w i a) (hb : ¬ (b = true ∧ i.len = 6 ∧ (i.nth 5).1 = true ∧ (txtAt i 1 = ⟨#[]⟩ ∨ txtAt i 1 = ⟨#[1]⟩ ∨ txtAt i 1 = ⟨#[2]⟩))) : Calls Try.prog 28 #[.agg #[.bool b, .string s, .slice a i.len c]] w fun e w' => QWPost w w' b i e ∧ Below w.heap.size w w' := by
  obtain ⟨W0, g, hW0, hg, hB0, c0, c1, c2⟩ := box_item w b s (.slice a i.len c)
  obtain ⟨W1, g2, hW1, hg2, hB1, hz⟩ := box_z W0 38 #[.string ⟨#[]⟩, .bool false, .bool false, .int .u64 0, .string ⟨#[]⟩, .string ⟨#[]⟩, .slice none 0 0]
  obtain ⟨W2, g3, hW2, hg3, hB2, hz2⟩ := box_z W1 38 #[.string ⟨#[]⟩, .bool false, .bool false, .int .u64 0, .string ⟨#[]⟩, .string ⟨#[]⟩, .slice none 0 0]
  have HW : Hid (∀ w', QWPost w w' b i (.returned (.tuple #[.agg #[.string ⟨#[]⟩, .bool false, .bool false, .int .u64 0, .string ⟨#[]⟩, .string ⟨#[]⟩, .slice none 0 0], .bool false]))) := fun w' => QWPost.bad fun h => hb ⟨h.1, h.2.1, h.2.2.1, h.2.2.2.1⟩
  have d0 := keep_cell hB1 c0
  have d2 := keep_cell hB1 c2
  have HB : Hid (Below w.heap.size w W1) := below_new hB0 hB1
  have HG : Hid (w.heap.size ≤ g2) := by show _ ≤ _; rw [← hg2]; exact hB0.size
  have HG0 : Hid (w.heap.size = g) := hg
  have HH : Hid (Holds W1 g2 38 #[.string ⟨#[]⟩, .bool false, .bool false, .int .u64 0, .string ⟨#[]⟩, .string ⟨#[]⟩, .slice none 0 0]) := hz
  have HL : Hid (LiesB W1 i a) := (hl.below hB0).below hB1
  clear hB0 hB1 c0 c1 c2 hz hz2 hB2 hl
  cases b with
  | false =>
    generalize i.len = n at *
    clear hb HL
    go_enter Try.func28, Try.ntmps28
    go_wp2_with (first
      | (refine wpList_storeH rfl 38 _ _ rfl g2 #[.string ⟨#[]⟩, .bool false, .bool false, .int .u64 0, .string ⟨#[]⟩, .string ⟨#[]⟩, .slice none 0 0] rfl rfl 38 _ HH.out infoWrite2 rfl (by simp [Value.oneCell']) ?_; intro w3 h3 o3 z3)
      | fail)
    exact bodyPost_ret (results_cellH2 (p := 2) (u := 3) rfl _ w3 g2 38 _ _ rfl h3 Try.underlying38 rfl infoWrite2) rfl ⟨HW.out _, by first | exact Only.fresh HB.out o3 HG.out | (rw [← HG0.out]; exact Only.fresh HB.out o3 HG.out)⟩
  | true =>
    by_cases h6 : i.len = 6
    · obtain ⟨bk, o, a1, k1, rfl, p10, p11, p12, _⟩ := HL.out.nth 1 (by omega)
      obtain ⟨b', o', a5, k5, hbo, p50, p51, p52, _⟩ := HL.out.nth 5 (by omega)
      injection hbo with hbo
      injection hbo with e1 e2
      subst e1 e2
      rw [h6] at hW0 d2 ⊢
      cases h5 : (i.nth 5).1 with
      | false =>
        rw [h5] at p50
        clear hb HL p10 p12 p51 p52
        go_enter Try.func28, Try.ntmps28
        go_wp2_with (first
          | (refine wpList_storeH rfl 38 _ _ rfl g2 #[.string ⟨#[]⟩, .bool false, .bool false, .int .u64 0, .string ⟨#[]⟩, .string ⟨#[]⟩, .slice none 0 0] rfl rfl 38 _ HH.out infoWrite2 rfl (by simp [Value.oneCell']) ?_; intro w3 h3 o3 z3)
          | fail)
        exact bodyPost_ret (results_cellH2 (p := 2) (u := 3) rfl _ w3 g2 38 _ _ rfl h3 Try.underlying38 rfl infoWrite2) rfl ⟨HW.out _, by first | exact Only.fresh HB.out o3 HG.out | (rw [← HG0.out]; exact Only.fresh HB.out o3 HG.out)⟩
      | true =>
        have hk : ¬ (txtAt i 1 = ⟨#[]⟩ ∨ txtAt i 1 = ⟨#[1]⟩ ∨ txtAt i 1 = ⟨#[2]⟩) := fun h => hb ⟨rfl, h6, h5, h⟩
        unfold txtAt at hk
        rw [h5] at p50
        simp only [Nat.one_mul] at p11
        clear hb HL p10 p12 p51 p52
        generalize (⟨(i.nth 1).2.1.toArray⟩ : ByteArray) = x1 at *
        have HN0 : Hid ((!decide (x1 = ⟨#[]⟩)) = true) := by show _ = _; rw [decide_eq_false (fun e => hk (.inl e))]; rfl
        have HN1 : Hid ((!decide (x1 = ⟨#[1]⟩)) = true) := by show _ = _; rw [decide_eq_false (fun e => hk (.inr (.inl e)))]; rfl
        have HN2 : Hid ((!decide (x1 = ⟨#[2]⟩)) = true) := by show _ = _; rw [decide_eq_false (fun e => hk (.inr (.inr e)))]; rfl
        clear hk
        go_enter Try.func28, Try.ntmps28
        go_wp2_with (first
          | (refine wpList_neqJ rfl _ _ _ rfl rfl rfl HN0.out ?_)
          | (refine wpList_neqJ rfl _ _ _ rfl rfl rfl HN1.out ?_)
          | (refine wpList_neqJ rfl _ _ _ rfl rfl rfl HN2.out ?_)
          | (refine wpList_storeH rfl 38 _ _ rfl g2 #[.string ⟨#[]⟩, .bool false, .bool false, .int .u64 0, .string ⟨#[]⟩, .string ⟨#[]⟩, .slice none 0 0] rfl rfl 38 _ HH.out infoWrite2 rfl (by simp [Value.oneCell']) ?_; intro w3 h3 o3 z3)
          | fail)
        exact bodyPost_ret (results_cellH2 (p := 2) (u := 3) rfl _ w3 g2 38 _ _ rfl h3 Try.underlying38 rfl infoWrite2) rfl ⟨HW.out _, by first | exact Only.fresh HB.out o3 HG.out | (rw [← HG0.out]; exact Only.fresh HB.out o3 HG.out)⟩
    · have h6i : ¬ (i.len : Int) = 6 := by omega
      generalize i.len = n at *
      clear hb HL h6
      go_enter Try.func28, Try.ntmps28
      go_wp2_with (first
        | (refine wpList_storeH rfl 38 _ _ rfl g2 #[.string ⟨#[]⟩, .bool false, .bool false, .int .u64 0, .string ⟨#[]⟩, .string ⟨#[]⟩, .slice none 0 0] rfl rfl 38 _ HH.out infoWrite2 rfl (by simp [Value.oneCell']) ?_; intro w3 h3 o3 z3)
        | fail)
      exact bodyPost_ret (results_cellH2 (p := 2) (u := 3) rfl _ w3 g2 38 _ _ rfl h3 Try.underlying38 rfl infoWrite2) rfl ⟨HW.out _, by first | exact Only.fresh HB.out o3 HG.out | (rw [← HG0.out]; exact Only.fresh HB.out o3 HG.out)⟩
end Go.Proofs.Ytadpopjhhanapaa
/-
  The document's write: of a thing that may be one.
-/
namespace Go.Proofs.Ytadpopjhhanapaa
open Go Go.RowKit

theorem holds_grown1 {w w' : World} {b : Nat} {t : TypeId} {cs : Array Value} {row : Option Nat} (h : Holds w b t cs) (hg : w.grownBy w' row) (hb : some b ≠ row) : Holds w' b t cs := by
  have := h.lt
  unfold Holds at *
  rw [hg.block b this hb]; exact h
set_option maxRecDepth 8000 in
set_option maxHeartbeats 16000000 in
theorem qwrite_ok1 {w : World} {i : Row} {a : Option Addr} {c : Nat} (s : ByteArray) (hl : LiesB w i a) (h6 : i.len = 6) (h5 : (i.nth 5).1 = true) {n0 n1 n2 : Bool} (hn0 : (!decide (txtAt i 1 = ⟨#[]⟩)) = n0) (hn1 : (!decide (txtAt i 1 = ⟨#[1]⟩)) = n1) (hn2 : (!decide (txtAt i 1 = ⟨#[2]⟩)) = n2) (hc : n0 = false)
    (hs : (rowAt i 5).len ≤ 1000000) (hsz : (txtAt i 2).size ≤ 1000000) : Calls Try.prog 28 #[.agg #[.bool true, .string s, .slice a i.len c]] w fun e w' => QWPost w w' true i e ∧ Below w.heap.size w w' := by
  have HBD : Hid (∀ w' : World, ¬ (∀ k, k < (rowAt i 5).len → (rowAt (rowAt i 5) k).len = 2) → QWPost w w' true i (.returned (.tuple #[.agg #[.string ⟨#[]⟩, .bool false, .bool false, .int .u64 0, .string ⟨#[]⟩, .string ⟨#[]⟩, .slice none 0 0], .bool false]))) := fun w' hn => QWPost.bad fun h => hn h.2.2.2.2
  have HGD : Hid (∀ (w' : World) (v : Value), SlotsAt w' v (slotsR (rowAt i 5)) → (∀ k, v.ownBlock = some k → w.heap.size ≤ k ∧ k < w'.heap.size) → QWPost w w' true i (.returned (.tuple #[.agg #[.string (txtAt i 0), .bool (decide (txtAt i 1 = ⟨#[1]⟩)), .bool (decide (txtAt i 1 = ⟨#[2]⟩)), .int .u64 (uintV (txtAt i 2).data.toList : Nat), .string (txtAt i 3), .string (txtAt i 4), v], .bool true]))) := fun w' v h1 h2 =>
    ⟨writeR i v, true, by rw [writeR_six h6]; rfl, ⟨by rw [writeR_six h6]; exact h1, writeR_lt _ _⟩, by rw [writeR_s]; exact h2, fun _ => bare_writeR i v, fun _ => rfl⟩
  rw [h6]
  obtain ⟨b, o, a0, c0, rfl, p00, p01, p02, _⟩ := hl.nth 0 (by omega)
  obtain ⟨b', o', a1, c1, hbo, p10, p11, p12, _⟩ := hl.nth 1 (by omega)
  injection hbo with hbo
  injection hbo with e1 e2
  subst e1 e2
  obtain ⟨b', o', a2, c2, hbo, p20, p21, p22, _⟩ := hl.nth 2 (by omega)
  injection hbo with hbo
  injection hbo with e1 e2
  subst e1 e2
  obtain ⟨b', o', a3, c3, hbo, p30, p31, p32, _⟩ := hl.nth 3 (by omega)
  injection hbo with hbo
  injection hbo with e1 e2
  subst e1 e2
  obtain ⟨b', o', a4, c4, hbo, p40, p41, p42, _⟩ := hl.nth 4 (by omega)
  injection hbo with hbo
  injection hbo with e1 e2
  subst e1 e2
  obtain ⟨b', o', a5, c5, hbo, p50, p51, p52, _, hl5⟩ := hl.nth 5 (by omega)
  injection hbo with hbo
  injection hbo with e1 e2
  subst e1 e2
  rw [h5] at p50
  have hui := fun W => refUint_any (txtAt i 2) W (by omega)
  clear hl p00 p02 p10 p12 p20 p22 p30 p32 p40 p42 p51 h6 h5
  obtain ⟨r5, hr5⟩ : ∃ r5, (i.nth 5).2.2 = r5 := ⟨_, rfl⟩
  unfold txtAt at *
  have hr5' : rowAt i 5 = r5 := hr5
  rw [hr5'] at HBD HGD hs
  rw [hr5] at hl5 p52
  clear hr5 hr5'
  simp only [Nat.zero_mul, Nat.add_zero, Nat.one_mul] at p01 p11
  generalize (⟨(i.nth 0).2.1.toArray⟩ : ByteArray) = x0 at *
  generalize (⟨(i.nth 1).2.1.toArray⟩ : ByteArray) = x1 at *
  generalize (⟨(i.nth 2).2.1.toArray⟩ : ByteArray) = x2 at *
  generalize (⟨(i.nth 3).2.1.toArray⟩ : ByteArray) = x3 at *
  generalize (⟨(i.nth 4).2.1.toArray⟩ : ByteArray) = x4 at *
  obtain ⟨n5, hn5⟩ : ∃ n5, r5.len = n5 := ⟨_, rfl⟩
  rw [hn5] at p52 hs HBD
  obtain ⟨W0, g, hW0, hg, hB0, d0, d1, d2⟩ := box_item w true s (.slice (some ⟨b, o, none⟩) 6 c)
  obtain ⟨W1, g2, hW1, hg2, hB1, hz⟩ := box_z W0 38 #[.string ⟨#[]⟩, .bool false, .bool false, .int .u64 0, .string ⟨#[]⟩, .string ⟨#[]⟩, .slice none 0 0]
  replace d0 := keep_cell hB1 d0
  replace d2 := keep_cell hB1 d2
  have H01 := below_new hB0 hB1
  have q0 := keep_cell H01 p01
  have q1 := keep_cell H01 p11
  have q2 := keep_cell H01 p21
  have q3 := keep_cell H01 p31
  have q4 := keep_cell H01 p41
  have q5 := keep_cell H01 p52
  have q6 := keep_cell H01 p50
  have HB : Hid (Below w.heap.size w W1) := H01
  have HG : Hid (w.heap.size = g ∧ W0.heap.size = g2 ∧ W1.heap.size = g2 + 1 ∧ w.heap.size ≤ g2 ∧ b < w.heap.size) := ⟨hg, hg2, by rw [← hW1, ← hg2]; simp, by rw [← hg2]; exact hB0.size, World.block_lt_of_cell? w _ p01⟩
  have HH : Hid (Holds W1 g2 38 #[.string ⟨#[]⟩, .bool false, .bool false, .int .u64 0, .string ⟨#[]⟩, .string ⟨#[]⟩, .slice none 0 0]) := hz
  have HL : Hid (LiesB w r5 a5) := hl5
  have HUI : Hid (∀ W, Calls Try.prog 27 #[.string x2] W fun e w' => e = .returned (.tuple #[.int .u64 (uintV x2.data.toList), .bool (uintB x2.data.toList)]) ∧ w' = W) := hui
  have HN5 : Hid (r5.len = n5) := hn5
  clear hB0 hB1 H01 d1 hz p01 p11 p21 p31 p41 p50 p52 hui hl5 hn5
  generalize uintV x2.data.toList = ux at *
  generalize uintB x2.data.toList = ub at *
  obtain ⟨e1, he1⟩ : ∃ e1, decide (x1 = ⟨#[1]⟩) = e1 := ⟨_, rfl⟩
  obtain ⟨e2, he2⟩ : ∃ e2, decide (x1 = ⟨#[2]⟩) = e2 := ⟨_, rfl⟩
  rw [he1, he2] at HGD
  have HY1 : Hid (decide (x1 = ⟨#[1]⟩) = e1) := he1
  have HY2 : Hid (decide (x1 = ⟨#[2]⟩) = e2) := he2
  have HN0 : Hid ((!decide (x1 = ⟨#[]⟩)) = n0) := hn0
  have HN1 : Hid ((!decide (x1 = ⟨#[1]⟩)) = n1) := hn1
  have HN2 : Hid ((!decide (x1 = ⟨#[2]⟩)) = n2) := hn2
  clear he1 he2 hn0 hn1 hn2
  obtain rfl := hc
  go_enter Try.func28, Try.ntmps28
  go_wp2_with (first
    | (refine wpList_neqJ rfl _ _ _ rfl rfl rfl HN0.out ?_)
    | (refine wpList_neqJ rfl _ _ _ rfl rfl rfl HN1.out ?_)
    | (refine wpList_neqJ rfl _ _ _ rfl rfl rfl HN2.out ?_)
    | (go_at_call 27; refine (HUI.out _).mono ?_; rintro e w2 ⟨rfl, hw⟩; obtain rfl := hw.symm)
    | fail)
  obtain ⟨W3, g7, hW3, hg7, hB3, hz7⟩ := box_z W1.drew 38 #[.string ⟨#[]⟩, .bool false, .bool false, .int .u64 0, .string ⟨#[]⟩, .string ⟨#[]⟩, .slice none 0 0]
  refine Dt.wp_region_tree (fun W => Below W1.heap.size W1 W) [0, 1, 2, 3, 4, 5, 6, 7, 8, 9, 10, 11, 12, 13, 14, 15, 16, 17, 18, 19, 20, 21, 22, 23] (.one 24 (.one 25 .nil)) mixedP (by kernel_rfl) rfl (by kernel_rfl) (fun _ _ _ d _ h => by cases d <;> exact h) (Below.refl _ _).drew ?_
  refine Dt.tk_val (some 57) rfl rfl rfl (.slice (some ⟨b, o, none⟩) 6 c) (fun w => by go_simp) ?_
  go_frame
  refine Dt.tk_val (some 58) rfl rfl rfl (.pointer (some ⟨b, o, none⟩)) (fun w => by go_simp) ?_
  go_frame
  refine Dt.tk_val (some 59) rfl rfl rfl (.pointer (some ⟨b, o + 1, none⟩)) (fun w => by go_simp) ?_
  go_frame
  refine Dt.tk_ld (some 60) rfl rfl rfl _ _ rfl rfl (fun W hW => ldTxt (keep_cell hW q0)) ?_
  go_frame
  refine Dt.tk_val (some 61) rfl rfl rfl (.slice (some ⟨b, o, none⟩) 6 c) (fun w => by go_simp) ?_
  go_frame
  refine Dt.tk_val (some 62) rfl rfl rfl (.pointer (some ⟨b, o + 3, none⟩)) (fun w => by go_simp) ?_
  go_frame
  refine Dt.tk_val (some 63) rfl rfl rfl (.pointer (some ⟨b, o + 3 + 1, none⟩)) (fun w => by go_simp) ?_
  go_frame
  refine Dt.tk_ld (some 64) rfl rfl rfl _ _ rfl rfl (fun W hW => ldTxt (keep_cell hW q1)) ?_
  go_frame
  refine Dt.tk_val (some 65) rfl rfl rfl (.bool e1) (fun w => by rw [run_eqlJ (u := x1) (v := ⟨#[1]⟩) _ _ _ _ rfl rfl rfl w, HY1.out]) ?_
  go_frame
  refine Dt.tk_val (some 66) rfl rfl rfl (.slice (some ⟨b, o, none⟩) 6 c) (fun w => by go_simp) ?_
  go_frame
  refine Dt.tk_val (some 67) rfl rfl rfl (.pointer (some ⟨b, o + 3, none⟩)) (fun w => by go_simp) ?_
  go_frame
  refine Dt.tk_val (some 68) rfl rfl rfl (.pointer (some ⟨b, o + 3 + 1, none⟩)) (fun w => by go_simp) ?_
  go_frame
  refine Dt.tk_ld (some 69) rfl rfl rfl _ _ rfl rfl (fun W hW => ldTxt (keep_cell hW q1)) ?_
  go_frame
  refine Dt.tk_val (some 70) rfl rfl rfl (.bool e2) (fun w => by rw [run_eqlJ (u := x1) (v := ⟨#[2]⟩) _ _ _ _ rfl rfl rfl w, HY2.out]) ?_
  go_frame
  refine Dt.tk_val (some 71) rfl rfl rfl (.int .u64 (ux : Nat)) (fun w => by go_simp) ?_
  go_frame
  refine Dt.tk_val (some 72) rfl rfl rfl (.slice (some ⟨b, o, none⟩) 6 c) (fun w => by go_simp) ?_
  go_frame
  refine Dt.tk_val (some 73) rfl rfl rfl (.pointer (some ⟨b, o + 9, none⟩)) (fun w => by go_simp) ?_
  go_frame
  refine Dt.tk_val (some 74) rfl rfl rfl (.pointer (some ⟨b, o + 9 + 1, none⟩)) (fun w => by go_simp) ?_
  go_frame
  refine Dt.tk_ld (some 75) rfl rfl rfl _ _ rfl rfl (fun W hW => ldTxt (keep_cell hW q3)) ?_
  go_frame
  refine Dt.tk_val (some 76) rfl rfl rfl (.slice (some ⟨b, o, none⟩) 6 c) (fun w => by go_simp) ?_
  go_frame
  refine Dt.tk_val (some 77) rfl rfl rfl (.pointer (some ⟨b, o + 12, none⟩)) (fun w => by go_simp) ?_
  go_frame
  refine Dt.tk_val (some 78) rfl rfl rfl (.pointer (some ⟨b, o + 12 + 1, none⟩)) (fun w => by go_simp) ?_
  go_frame
  refine Dt.tk_ld (some 79) rfl rfl rfl _ _ rfl rfl (fun W hW => ldTxt (keep_cell hW q4)) ?_
  go_frame
  refine Dt.tk_val (some 80) rfl rfl rfl (.agg #[.string x0, .bool e1, .bool e2, .int .u64 (ux : Nat), .string x3, .string x4, .slice none 0 0]) (fun w => by go_simp) ?_
  go_frame
  refine Dt.tk_nil ?_
  refine Dt.op_val (some 7) rfl rfl rfl (v := .pointer (some ⟨g7, 0, none⟩)) (w' := W3) (by rw [← hW3, ← hg7]; go_simp) ?_
  have hB3' : Below W1.heap.size W1 W3 := below_drewL hB3
  refine ⟨hB3', ?_⟩
  go_frame
  refine Dt.op_storeH none rfl rfl rfl 38 _ _ rfl g7 _ rfl rfl 38 _ hz7 infoWrite2 rfl (by simp [Value.oneCell']) ?_
  intro W4 h4 o4 z4
  have hg7' : W1.heap.size = g7 := hg7
  have o4 : Only g7 W3 W4 := ⟨o4.os, o4.tape, o4.output, o4.size, o4.block⟩
  have h4 : Holds W4 g7 38 #[.string x0, .bool e1, .bool e2, .int .u64 (ux : Nat), .string x3, .string x4, .slice none 0 0] := h4
  have hB4 : Below W1.heap.size W1 W4 := Only.fresh hB3' o4 (by omega)
  refine ⟨hB4, ?_⟩
  go_frame
  refine then_normalJ ?_
  have HB4 : Hid (Below W1.heap.size W1 W4) := hB4
  have HH4 : Hid (Holds W4 g7 38 #[.string x0, .bool e1, .bool e2, .int .u64 (ux : Nat), .string x3, .string x4, .slice none 0 0]) := h4
  have HG4 : Hid (W1.heap.size = g7 ∧ W4.heap.size = g7 + 1) := ⟨hg7', by rw [z4, ← hW3, World.size_alloc]; show W1.heap.size + 1 = _; omega⟩
  have t5 := q5
  clear q0 q1 q2 q3 q4 q6 d0 d2 hB3 hB3' hB4 hz7 h4 o4 z4 hW3 hg7 hg7'
  go_wp2_with fail
  go_loopw [8] (fun y wr => ∃ (k : Nat) (K : List Sl) (sv : Value), y = .int .i64 (k : Nat) ∧ k ≤ n5 ∧ Only g7 W4 wr ∧ Hid (Holds wr g7 38 #[.string x0, .bool e1, .bool e2, .int .u64 (ux : Nat), .string x3, .string x4, sv]) ∧ OwnSl wr W4.heap.size sv K ∧ K = (slotsR r5).take k) (fun y _ => n5 - (intOf y).toNat)
  case atStart => exact ⟨0, [], .slice none 0 0, rfl, Nat.zero_le _, Only.refl _ _, HH4, OwnSl.nil _ _, rfl⟩
  case round =>
    obtain ⟨k, K, sv, rfl, hk, hO, HH7, hown, hK⟩ := hrel
    have hB : Below W1.heap.size W1 wr := Only.fresh HB4.out hO (by have := HG4.out; omega)
    have hBW := below_new HB.out hB
    have z5 := keep_cell hB t5
    by_cases hkn : k < n5
    · have hki : (k : Int) < n5 := by omega
      obtain ⟨b5, o5, aq, cq, rfl, f0, f1, f2, hql, hq⟩ := HL.out.nth k (by have := HN5.out; omega)
      have HB5 : Hid (b5 < w.heap.size) := World.block_lt_of_cell? w _ f0
      replace f0 := keep_cell hBW f0
      replace f1 := keep_cell hBW f1
      replace f2 := keep_cell hBW f2
      have hqr : (r5.nth k).2.2 = rowAt r5 k := rfl
      rw [hqr] at f2 hql hq
      clear hqr
      have HQS : Hid ((rowAt r5 k).len = 2 → slotR (rowAt r5 k) = ⟨txtAt (rowAt r5 k) 0, txtAt (rowAt r5 k) 1⟩) := fun h => by unfold slotR; rw [if_pos h]
      have HTK : Hid ((slotsR r5).take (k + 1) = (slotsR r5).take k ++ [slotR (rowAt r5 k)]) := slotsR_take r5 k (by have := HN5.out; omega)
      have HNG : Hid ((rowAt r5 k).len ≠ 2 → ¬ ∀ j, j < n5 → (rowAt r5 j).len = 2) := fun h h' => h (h' k hkn)
      generalize rowAt r5 k = q at *
      obtain ⟨V, gy, hV, hgy, hBy, y0, y1, y2⟩ := box_item wr (r5.nth k).1 ⟨(r5.nth k).2.1.toArray⟩ (.slice aq q.len cq)
      have HGY : Hid (wr.heap.size = gy ∧ V.heap.size = gy + 1) := ⟨hgy, by rw [← hV, ← hgy]; simp⟩
      have HBY : Hid (Below wr.heap.size wr V) := hBy
      by_cases hq2 : q.len = 2
      · have HSR := HQS.out hq2
        obtain ⟨by_, oy, s0, cs0, rfl, u0, u1, u2, -⟩ := hq.nth 0 (by omega)
        obtain ⟨b', o', s1, cs1, hbo, v0, v1, v2, -⟩ := hq.nth 1 (by omega)
        injection hbo with hbo
        injection hbo with e1 e2
        subst e1 e2
        have HBQ : Hid (by_ < w.heap.size) := World.block_lt_of_cell? w _ u1
        have hBV := below_new hBW hBy
        replace u1 := keep_cell hBV u1
        replace v1 := keep_cell hBV v1
        have hHV : Holds V g7 38 #[.string x0, .bool e1, .bool e2, .int .u64 (ux : Nat), .string x3, .string x4, sv] := below_holds hBy HH7.out
        have hownV : OwnSl V W4.heap.size sv K := hown.below0 hBy
        have hOV : Only g7 W4 V := hO.below hBy
        have hlt := hownV.lt
        obtain ⟨sp, sn, sc, rfl⟩ := hownV.shape
        rw [hq2] at f2 hV y2
        unfold txtAt at HSR
        simp only [Nat.zero_mul, Nat.add_zero, Nat.one_mul] at u1 v1
        generalize (⟨(q.nth 0).2.1.toArray⟩ : ByteArray) = kx at *
        generalize (⟨(q.nth 1).2.1.toArray⟩ : ByteArray) = vx at *
        generalize (⟨(r5.nth k).2.1.toArray⟩ : ByteArray) = tx at *
        generalize (r5.nth k).1 = bx at *
        have HKL : Hid (K.length ≤ 1000000) := by
          show _ ≤ _
          rw [hK, List.length_take]
          omega
        have hne : (Value.slice sp sn sc).ownBlock ≠ some gy := fun e => by have h1 := hown.lt gy e; have h2 := HGY.out.1; omega
        have hnb : (Value.slice sp sn sc).ownBlock ≠ some by_ := fun e => by have h1 := hown.lt by_ e; have h2 := HBQ.out; have h3 := HB4.out.size; have h4 := HB.out.size; omega
        have hg1 : gy ≠ g7 := fun e => by have h1 := HGY.out.1; have h2 := HH7.out.lt; omega
        have hg2 : by_ ≠ g7 := fun e => by have h1 := HG4.out.1; have h2 := HBQ.out; have h3 := HB.out.size; omega
        have HKE : Hid (K = (slotsR r5).take k) := hK
        clear u0 u2 v0 v2 hq hql HQS HNG hK hBV
        go_wp2_with fail
        refine Dt.wp_region_tree (KeepS g7 (.slice sp sn sc) V) [0, 2, 3, 4, 5, 6, 7, 8, 9, 10, 11, 12] (.two 1 (.one 13 (.one 14 (.one 15 (.one 16 .nil)))) 13 (.one 1 (.one 14 (.one 15 (.one 16 .nil))))) mixedP (by kernel_rfl) rfl (by kernel_rfl) (fun _ _ _ d _ h => by cases d <;> exact h) KeepS.refl.drew ?_
        refine Dt.tk_val (some 102) rfl rfl rfl (.pointer (some ⟨g7, 6, none⟩)) (fun w => by go_simp) ?_
        go_frame
        refine Dt.tk_val (some 104) rfl rfl rfl (.pointer (some ⟨gy, 2, none⟩)) (fun w => by go_simp) ?_
        go_frame
        refine Dt.tk_ld (some 105) rfl rfl rfl _ _ rfl rfl (fun W hW => ldSls (hW.cell y2 hg1 hne)) ?_
        go_frame
        refine Dt.tk_val (some 106) rfl rfl rfl (.pointer (some ⟨by_, oy, none⟩)) (fun w => by go_simp) ?_
        go_frame
        refine Dt.tk_val (some 107) rfl rfl rfl (.pointer (some ⟨by_, oy + 1, none⟩)) (fun w => by go_simp) ?_
        go_frame
        refine Dt.tk_ld (some 108) rfl rfl rfl _ _ rfl rfl (fun W hW => ldTxt (hW.cell u1 hg2 hnb)) ?_
        go_frame
        refine Dt.tk_val (some 109) rfl rfl rfl (.pointer (some ⟨gy, 2, none⟩)) (fun w => by go_simp) ?_
        go_frame
        refine Dt.tk_ld (some 110) rfl rfl rfl _ _ rfl rfl (fun W hW => ldSls (hW.cell y2 hg1 hne)) ?_
        go_frame
        refine Dt.tk_val (some 111) rfl rfl rfl (.pointer (some ⟨by_, oy + 3, none⟩)) (fun w => by go_simp) ?_
        go_frame
        refine Dt.tk_val (some 112) rfl rfl rfl (.pointer (some ⟨by_, oy + 3 + 1, none⟩)) (fun w => by go_simp) ?_
        go_frame
        refine Dt.tk_ld (some 113) rfl rfl rfl _ _ rfl rfl (fun W hW => ldTxt (hW.cell v1 hg2 hnb)) ?_
        go_frame
        refine Dt.tk_val (some 114) rfl rfl rfl (.agg #[.string kx, .string vx]) (fun w => by go_simp) ?_
        go_frame
        refine Dt.tk_nil ?_
        obtain ⟨V2, gs, hV2, hgs, hBs, hzs⟩ := box_z V.drew 50 #[.string kx, .string vx]
        have hc6 : V.cell? ⟨g7, 6, none⟩ = some (.slice sp sn sc) := by have := hHV.cell 6; simpa using this
        have hc6' : V2.cell? ⟨g7, 6, none⟩ = some (.slice sp sn sc) := keep_cell (below_drewL hBs) hc6
        have hBs' : Below V.heap.size V V2 := below_drewL hBs
        have K0 : KeepS g7 (.slice sp sn sc) V V.drew := KeepS.refl.drew
        have K2 : KeepS g7 (.slice sp sn sc) V V2 := by rw [← hV2]; exact K0.alloc _
        have hown2 := hownV.below0 hBs'
        have hH2 := below_holds hBs' hHV
        have hsz2 : W4.heap.size ≤ V2.heap.size := Nat.le_trans hOV.size hBs'.size
        refine ⟨?_, ?_⟩
        · refine op_ldJ (some 103) rfl rfl rfl _ _ rfl rfl (ldSl hc6) ?_
          refine ⟨K0, ?_⟩
          go_frame
          refine Dt.op_val (some 115) rfl rfl rfl (v := .slice (some ⟨gs, 0, none⟩) 1 1) (w' := V2) (by rw [← hV2, ← hgs]; go_simp) ?_
          refine ⟨K2, ?_⟩
          go_frame
          refine op_appS (some 116) rfl rfl rfl _ _ rfl rfl rfl hzs hown2 HKL.out hsz2 ?_
          intro sv' V3 hown3 hgr3
          have K3 := K2.grown hgr3
          refine ⟨K3, ?_⟩
          go_frame
          refine Dt.op_val (some 117) rfl rfl rfl (v := .pointer (some ⟨g7, 6, none⟩)) (w' := V3) (by go_simp) ?_
          refine ⟨K3, ?_⟩
          go_frame
          have hng : (Value.slice sp sn sc).ownBlock ≠ some g7 := fun e => by have h1 := hlt g7 e; have h2 := HG4.out; omega
          have hH3 : Holds V3 g7 38 #[.string x0, .bool e1, .bool e2, .int .u64 (ux : Nat), .string x3, .string x4, .slice sp sn sc] := holds_grown1 hH2 hgr3 (fun e => hng e.symm)
          obtain ⟨sp', sn', sc', rfl⟩ := hown3.shape
          refine op_stJ none rfl rfl rfl 36 _ _ rfl rfl rfl (run_stSl hH3 (by show 6 < 7; decide) _ _ _) ?_
          have oL : Only g7 V3 (V3.setCell ⟨g7, 6, none⟩ (.slice sp' sn' sc')) := (Only.refl g7 V3).set 6 _
          refine ⟨K3.only oL, ?_⟩
          go_frame
          unfold Dt.wpTree
          simp only [Exit.inBlock, Exit.then]
          go_at_K
          go_wp2_with fail
          have hOF : Only g7 W4 (V3.setCell ⟨g7, 6, none⟩ (.slice sp' sn' sc')) := (K3.only oL).from hOV (fun j hj => (hlt j hj).1)
          go_roundw
          case measure => simp [intOf]; omega
          refine ⟨k + 1, K ++ [⟨kx, vx⟩], .slice sp' sn' sc', by go_num, by omega, hOF, ?_, ?_, ?_⟩
          · show Holds _ _ _ _
            have := hH3.set 6 (.slice sp' sn' sc')
            simpa using this
          · have hlt3 := hown3.lt
            refine World.ownsRow.kept (row := some g7) hown3 ⟨oL.os, oL.tape, oL.output, oL.size, fun b hb h1 => oL.block b hb (fun e => h1 (by rw [e]))⟩ (.inr fun e => ?_)
            have h1 := hlt3 g7 e
            have h2 := HG4.out
            omega
          · rw [HTK.out, HSR, ← HKE.out]
        · refine Dt.op_val (some 115) rfl rfl rfl (v := .slice (some ⟨gs, 0, none⟩) 1 1) (w' := V2) (by rw [← hV2, ← hgs]; go_simp) ?_
          refine ⟨K2, ?_⟩
          go_frame
          refine op_ldJ (some 103) rfl rfl rfl _ _ rfl rfl (ldSl hc6') ?_
          refine ⟨K2, ?_⟩
          go_frame
          refine op_appS (some 116) rfl rfl rfl _ _ rfl rfl rfl hzs hown2 HKL.out hsz2 ?_
          intro sv' V3 hown3 hgr3
          have K3 := K2.grown hgr3
          refine ⟨K3, ?_⟩
          go_frame
          refine Dt.op_val (some 117) rfl rfl rfl (v := .pointer (some ⟨g7, 6, none⟩)) (w' := V3) (by go_simp) ?_
          refine ⟨K3, ?_⟩
          go_frame
          have hng : (Value.slice sp sn sc).ownBlock ≠ some g7 := fun e => by have h1 := hlt g7 e; have h2 := HG4.out; omega
          have hH3 : Holds V3 g7 38 #[.string x0, .bool e1, .bool e2, .int .u64 (ux : Nat), .string x3, .string x4, .slice sp sn sc] := holds_grown1 hH2 hgr3 (fun e => hng e.symm)
          obtain ⟨sp', sn', sc', rfl⟩ := hown3.shape
          refine op_stJ none rfl rfl rfl 36 _ _ rfl rfl rfl (run_stSl hH3 (by show 6 < 7; decide) _ _ _) ?_
          have oL : Only g7 V3 (V3.setCell ⟨g7, 6, none⟩ (.slice sp' sn' sc')) := (Only.refl g7 V3).set 6 _
          refine ⟨K3.only oL, ?_⟩
          go_frame
          unfold Dt.wpTree
          simp only [Exit.inBlock, Exit.then]
          go_at_K
          go_wp2_with fail
          have hOF : Only g7 W4 (V3.setCell ⟨g7, 6, none⟩ (.slice sp' sn' sc')) := (K3.only oL).from hOV (fun j hj => (hlt j hj).1)
          go_roundw
          case measure => simp [intOf]; omega
          refine ⟨k + 1, K ++ [⟨kx, vx⟩], .slice sp' sn' sc', by go_num, by omega, hOF, ?_, ?_, ?_⟩
          · show Holds _ _ _ _
            have := hH3.set 6 (.slice sp' sn' sc')
            simpa using this
          · have hlt3 := hown3.lt
            refine World.ownsRow.kept (row := some g7) hown3 ⟨oL.os, oL.tape, oL.output, oL.size, fun b hb h1 => oL.block b hb (fun e => h1 (by rw [e]))⟩ (.inr fun e => ?_)
            have h1 := hlt3 g7 e
            have h2 := HG4.out
            omega
          · rw [HTK.out, HSR, ← HKE.out]
      · have hq2i : ¬ (q.len : Int) = 2 := by omega
        have hpost := HBD.out
        have hno := HNG.out hq2
        have HP : Hid (∀ w' : World, QWPost w w' true i (.returned (.tuple #[.agg #[.string ⟨#[]⟩, .bool false, .bool false, .int .u64 0, .string ⟨#[]⟩, .string ⟨#[]⟩, .slice none 0 0], .bool false]))) := fun w' => HBD.out w' hno
        have HZV : Hid (Holds V g2 38 #[.string ⟨#[]⟩, .bool false, .bool false, .int .u64 0, .string ⟨#[]⟩, .string ⟨#[]⟩, .slice none 0 0]) := below_holds (below_new hB hBy) HH.out
        have HBV : Hid (Below w.heap.size w V) := below_new hBW hBy
        generalize q.len = m at *
        generalize (⟨(r5.nth k).2.1.toArray⟩ : ByteArray) = tx at *
        generalize (r5.nth k).1 = bx at *
        clear hq hql HQS HNG HTK hpost hno hK hO hB hBW hown hBy
        go_wp2_with (first
          | (refine wpList_storeH rfl 38 _ _ rfl g2 #[.string ⟨#[]⟩, .bool false, .bool false, .int .u64 0, .string ⟨#[]⟩, .string ⟨#[]⟩, .slice none 0 0] rfl rfl 38 _ HZV.out infoWrite2 rfl (by simp [Value.oneCell']) ?_; intro w8 h8 o8 z8)
          | fail)
        have HF := Only.fresh HBV.out o8 HG.out.2.2.2.1
        exact bodyPost_ret (results_cellH2 (p := 2) (u := 3) rfl _ w8 g2 38 _ _ rfl h8 Try.underlying38 rfl infoWrite2) rfl ⟨HP.out _, by first | exact HF | (rw [← HG.out.1]; exact HF)⟩
    · have hki : ¬ (k : Int) < n5 := by omega
      obtain rfl : k = n5 := by omega
      have HE : Hid (K = slotsR r5) := by show _ = _; rw [hK]; exact List.take_of_length_le (by rw [slotsR_len]; have := HN5.out; omega)
      have hz2 := below_holds hB HH.out
      have hlt := hown.lt
      obtain ⟨sp, sn, sc, rfl⟩ := hown.shape
      have h7 := HH7.out
      go_wp2_with (first
        | (refine wpList_loadH rfl 38 _ rfl _ rfl _ _ _ h7 Try.underlying38 rfl infoWrite2 ?_)
        | (refine wpList_storeH rfl 38 _ _ rfl g2 _ rfl rfl 38 _ hz2 infoWrite2 rfl (by simp [Value.oneCell']) ?_; intro w8 h8 o8 z8)
        | fail)
      have HF := Only.fresh hBW o8 HG.out.2.2.2.1
      have hlt2 : ∀ j, (Value.slice sp sn sc).ownBlock = some j → w.heap.size ≤ j ∧ j < wr.heap.size ∧ j ≠ g2 := fun j hj => by
        have h1 := hlt j hj
        have h2 := HB4.out.size
        have h3 := HB.out.size
        have h4 := HG.out
        refine ⟨by omega, by omega, by omega⟩
      refine bodyPost_ret (results_cellH2 (p := 2) (u := 3) rfl _ w8 g2 38 _ _ rfl h8 Try.underlying38 rfl infoWrite2) rfl ⟨HGD.out _ _ ?_ ?_, by first | exact HF | (rw [← HG.out.1]; exact HF)⟩
      · rw [← HE.out]
        exact hown.at.kept fun j hj => o8.block j (hlt2 j hj).2.1 (hlt2 j hj).2.2
      · intro j hj
        have h1 := hlt2 j hj
        rw [z8]
        exact ⟨h1.1, h1.2.1⟩
end Go.Proofs.Ytadpopjhhanapaa
/-
  The document's write: of a thing that may be one.
-/
namespace Go.Proofs.Ytadpopjhhanapaa
open Go Go.RowKit

theorem holds_grown2 {w w' : World} {b : Nat} {t : TypeId} {cs : Array Value} {row : Option Nat} (h : Holds w b t cs) (hg : w.grownBy w' row) (hb : some b ≠ row) : Holds w' b t cs := by
  have := h.lt
  unfold Holds at *
  rw [hg.block b this hb]; exact h
set_option maxRecDepth 8000 in
set_option maxHeartbeats 16000000 in
theorem qwrite_ok2 {w : World} {i : Row} {a : Option Addr} {c : Nat} (s : ByteArray) (hl : LiesB w i a) (h6 : i.len = 6) (h5 : (i.nth 5).1 = true) {n0 n1 n2 : Bool} (hn0 : (!decide (txtAt i 1 = ⟨#[]⟩)) = n0) (hn1 : (!decide (txtAt i 1 = ⟨#[1]⟩)) = n1) (hn2 : (!decide (txtAt i 1 = ⟨#[2]⟩)) = n2) (hc : n0 = true ∧ n1 = false)
    (hs : (rowAt i 5).len ≤ 1000000) (hsz : (txtAt i 2).size ≤ 1000000) : Calls Try.prog 28 #[.agg #[.bool true, .string s, .slice a i.len c]] w fun e w' => QWPost w w' true i e ∧ Below w.heap.size w w' := by
  have HBD : Hid (∀ w' : World, ¬ (∀ k, k < (rowAt i 5).len → (rowAt (rowAt i 5) k).len = 2) → QWPost w w' true i (.returned (.tuple #[.agg #[.string ⟨#[]⟩, .bool false, .bool false, .int .u64 0, .string ⟨#[]⟩, .string ⟨#[]⟩, .slice none 0 0], .bool false]))) := fun w' hn => QWPost.bad fun h => hn h.2.2.2.2
  have HGD : Hid (∀ (w' : World) (v : Value), SlotsAt w' v (slotsR (rowAt i 5)) → (∀ k, v.ownBlock = some k → w.heap.size ≤ k ∧ k < w'.heap.size) → QWPost w w' true i (.returned (.tuple #[.agg #[.string (txtAt i 0), .bool (decide (txtAt i 1 = ⟨#[1]⟩)), .bool (decide (txtAt i 1 = ⟨#[2]⟩)), .int .u64 (uintV (txtAt i 2).data.toList : Nat), .string (txtAt i 3), .string (txtAt i 4), v], .bool true]))) := fun w' v h1 h2 =>
    ⟨writeR i v, true, by rw [writeR_six h6]; rfl, ⟨by rw [writeR_six h6]; exact h1, writeR_lt _ _⟩, by rw [writeR_s]; exact h2, fun _ => bare_writeR i v, fun _ => rfl⟩
  rw [h6]
  obtain ⟨b, o, a0, c0, rfl, p00, p01, p02, _⟩ := hl.nth 0 (by omega)
  obtain ⟨b', o', a1, c1, hbo, p10, p11, p12, _⟩ := hl.nth 1 (by omega)
  injection hbo with hbo
  injection hbo with e1 e2
  subst e1 e2
  obtain ⟨b', o', a2, c2, hbo, p20, p21, p22, _⟩ := hl.nth 2 (by omega)
  injection hbo with hbo
  injection hbo with e1 e2
  subst e1 e2
  obtain ⟨b', o', a3, c3, hbo, p30, p31, p32, _⟩ := hl.nth 3 (by omega)
  injection hbo with hbo
  injection hbo with e1 e2
  subst e1 e2
  obtain ⟨b', o', a4, c4, hbo, p40, p41, p42, _⟩ := hl.nth 4 (by omega)
  injection hbo with hbo
  injection hbo with e1 e2
  subst e1 e2
  obtain ⟨b', o', a5, c5, hbo, p50, p51, p52, _, hl5⟩ := hl.nth 5 (by omega)
  injection hbo with hbo
  injection hbo with e1 e2
  subst e1 e2
  rw [h5] at p50
  have hui := fun W => refUint_any (txtAt i 2) W (by omega)
  clear hl p00 p02 p10 p12 p20 p22 p30 p32 p40 p42 p51 h6 h5
  obtain ⟨r5, hr5⟩ : ∃ r5, (i.nth 5).2.2 = r5 := ⟨_, rfl⟩
  unfold txtAt at *
  have hr5' : rowAt i 5 = r5 := hr5
  rw [hr5'] at HBD HGD hs
  rw [hr5] at hl5 p52
  clear hr5 hr5'
  simp only [Nat.zero_mul, Nat.add_zero, Nat.one_mul] at p01 p11
  generalize (⟨(i.nth 0).2.1.toArray⟩ : ByteArray) = x0 at *
  generalize (⟨(i.nth 1).2.1.toArray⟩ : ByteArray) = x1 at *
  generalize (⟨(i.nth 2).2.1.toArray⟩ : ByteArray) = x2 at *
  generalize (⟨(i.nth 3).2.1.toArray⟩ : ByteArray) = x3 at *
  generalize (⟨(i.nth 4).2.1.toArray⟩ : ByteArray) = x4 at *
  obtain ⟨n5, hn5⟩ : ∃ n5, r5.len = n5 := ⟨_, rfl⟩
  rw [hn5] at p52 hs HBD
  obtain ⟨W0, g, hW0, hg, hB0, d0, d1, d2⟩ := box_item w true s (.slice (some ⟨b, o, none⟩) 6 c)
  obtain ⟨W1, g2, hW1, hg2, hB1, hz⟩ := box_z W0 38 #[.string ⟨#[]⟩, .bool false, .bool false, .int .u64 0, .string ⟨#[]⟩, .string ⟨#[]⟩, .slice none 0 0]
  replace d0 := keep_cell hB1 d0
  replace d2 := keep_cell hB1 d2
  have H01 := below_new hB0 hB1
  have q0 := keep_cell H01 p01
  have q1 := keep_cell H01 p11
  have q2 := keep_cell H01 p21
  have q3 := keep_cell H01 p31
  have q4 := keep_cell H01 p41
  have q5 := keep_cell H01 p52
  have q6 := keep_cell H01 p50
  have HB : Hid (Below w.heap.size w W1) := H01
  have HG : Hid (w.heap.size = g ∧ W0.heap.size = g2 ∧ W1.heap.size = g2 + 1 ∧ w.heap.size ≤ g2 ∧ b < w.heap.size) := ⟨hg, hg2, by rw [← hW1, ← hg2]; simp, by rw [← hg2]; exact hB0.size, World.block_lt_of_cell? w _ p01⟩
  have HH : Hid (Holds W1 g2 38 #[.string ⟨#[]⟩, .bool false, .bool false, .int .u64 0, .string ⟨#[]⟩, .string ⟨#[]⟩, .slice none 0 0]) := hz
  have HL : Hid (LiesB w r5 a5) := hl5
  have HUI : Hid (∀ W, Calls Try.prog 27 #[.string x2] W fun e w' => e = .returned (.tuple #[.int .u64 (uintV x2.data.toList), .bool (uintB x2.data.toList)]) ∧ w' = W) := hui
  have HN5 : Hid (r5.len = n5) := hn5
  clear hB0 hB1 H01 d1 hz p01 p11 p21 p31 p41 p50 p52 hui hl5 hn5
  generalize uintV x2.data.toList = ux at *
  generalize uintB x2.data.toList = ub at *
  obtain ⟨e1, he1⟩ : ∃ e1, decide (x1 = ⟨#[1]⟩) = e1 := ⟨_, rfl⟩
  obtain ⟨e2, he2⟩ : ∃ e2, decide (x1 = ⟨#[2]⟩) = e2 := ⟨_, rfl⟩
  rw [he1, he2] at HGD
  have HY1 : Hid (decide (x1 = ⟨#[1]⟩) = e1) := he1
  have HY2 : Hid (decide (x1 = ⟨#[2]⟩) = e2) := he2
  have HN0 : Hid ((!decide (x1 = ⟨#[]⟩)) = n0) := hn0
  have HN1 : Hid ((!decide (x1 = ⟨#[1]⟩)) = n1) := hn1
  have HN2 : Hid ((!decide (x1 = ⟨#[2]⟩)) = n2) := hn2
  clear he1 he2 hn0 hn1 hn2
  obtain ⟨rfl, rfl⟩ := hc
  go_enter Try.func28, Try.ntmps28
  go_wp2_with (first
    | (refine wpList_neqJ rfl _ _ _ rfl rfl rfl HN0.out ?_)
    | (refine wpList_neqJ rfl _ _ _ rfl rfl rfl HN1.out ?_)
    | (refine wpList_neqJ rfl _ _ _ rfl rfl rfl HN2.out ?_)
    | (go_at_call 27; refine (HUI.out _).mono ?_; rintro e w2 ⟨rfl, hw⟩; obtain rfl := hw.symm)
    | fail)
  obtain ⟨W3, g7, hW3, hg7, hB3, hz7⟩ := box_z W1.drew 38 #[.string ⟨#[]⟩, .bool false, .bool false, .int .u64 0, .string ⟨#[]⟩, .string ⟨#[]⟩, .slice none 0 0]
  refine Dt.wp_region_tree (fun W => Below W1.heap.size W1 W) [0, 1, 2, 3, 4, 5, 6, 7, 8, 9, 10, 11, 12, 13, 14, 15, 16, 17, 18, 19, 20, 21, 22, 23] (.one 24 (.one 25 .nil)) mixedP (by kernel_rfl) rfl (by kernel_rfl) (fun _ _ _ d _ h => by cases d <;> exact h) (Below.refl _ _).drew ?_
  refine Dt.tk_val (some 57) rfl rfl rfl (.slice (some ⟨b, o, none⟩) 6 c) (fun w => by go_simp) ?_
  go_frame
  refine Dt.tk_val (some 58) rfl rfl rfl (.pointer (some ⟨b, o, none⟩)) (fun w => by go_simp) ?_
  go_frame
  refine Dt.tk_val (some 59) rfl rfl rfl (.pointer (some ⟨b, o + 1, none⟩)) (fun w => by go_simp) ?_
  go_frame
  refine Dt.tk_ld (some 60) rfl rfl rfl _ _ rfl rfl (fun W hW => ldTxt (keep_cell hW q0)) ?_
  go_frame
  refine Dt.tk_val (some 61) rfl rfl rfl (.slice (some ⟨b, o, none⟩) 6 c) (fun w => by go_simp) ?_
  go_frame
  refine Dt.tk_val (some 62) rfl rfl rfl (.pointer (some ⟨b, o + 3, none⟩)) (fun w => by go_simp) ?_
  go_frame
  refine Dt.tk_val (some 63) rfl rfl rfl (.pointer (some ⟨b, o + 3 + 1, none⟩)) (fun w => by go_simp) ?_
  go_frame
  refine Dt.tk_ld (some 64) rfl rfl rfl _ _ rfl rfl (fun W hW => ldTxt (keep_cell hW q1)) ?_
  go_frame
  refine Dt.tk_val (some 65) rfl rfl rfl (.bool e1) (fun w => by rw [run_eqlJ (u := x1) (v := ⟨#[1]⟩) _ _ _ _ rfl rfl rfl w, HY1.out]) ?_
  go_frame
  refine Dt.tk_val (some 66) rfl rfl rfl (.slice (some ⟨b, o, none⟩) 6 c) (fun w => by go_simp) ?_
  go_frame
  refine Dt.tk_val (some 67) rfl rfl rfl (.pointer (some ⟨b, o + 3, none⟩)) (fun w => by go_simp) ?_
  go_frame
  refine Dt.tk_val (some 68) rfl rfl rfl (.pointer (some ⟨b, o + 3 + 1, none⟩)) (fun w => by go_simp) ?_
  go_frame
  refine Dt.tk_ld (some 69) rfl rfl rfl _ _ rfl rfl (fun W hW => ldTxt (keep_cell hW q1)) ?_
  go_frame
  refine Dt.tk_val (some 70) rfl rfl rfl (.bool e2) (fun w => by rw [run_eqlJ (u := x1) (v := ⟨#[2]⟩) _ _ _ _ rfl rfl rfl w, HY2.out]) ?_
  go_frame
  refine Dt.tk_val (some 71) rfl rfl rfl (.int .u64 (ux : Nat)) (fun w => by go_simp) ?_
  go_frame
  refine Dt.tk_val (some 72) rfl rfl rfl (.slice (some ⟨b, o, none⟩) 6 c) (fun w => by go_simp) ?_
  go_frame
  refine Dt.tk_val (some 73) rfl rfl rfl (.pointer (some ⟨b, o + 9, none⟩)) (fun w => by go_simp) ?_
  go_frame
  refine Dt.tk_val (some 74) rfl rfl rfl (.pointer (some ⟨b, o + 9 + 1, none⟩)) (fun w => by go_simp) ?_
  go_frame
  refine Dt.tk_ld (some 75) rfl rfl rfl _ _ rfl rfl (fun W hW => ldTxt (keep_cell hW q3)) ?_
  go_frame
  refine Dt.tk_val (some 76) rfl rfl rfl (.slice (some ⟨b, o, none⟩) 6 c) (fun w => by go_simp) ?_
  go_frame
  refine Dt.tk_val (some 77) rfl rfl rfl (.pointer (some ⟨b, o + 12, none⟩)) (fun w => by go_simp) ?_
  go_frame
  refine Dt.tk_val (some 78) rfl rfl rfl (.pointer (some ⟨b, o + 12 + 1, none⟩)) (fun w => by go_simp) ?_
  go_frame
  refine Dt.tk_ld (some 79) rfl rfl rfl _ _ rfl rfl (fun W hW => ldTxt (keep_cell hW q4)) ?_
  go_frame
  refine Dt.tk_val (some 80) rfl rfl rfl (.agg #[.string x0, .bool e1, .bool e2, .int .u64 (ux : Nat), .string x3, .string x4, .slice none 0 0]) (fun w => by go_simp) ?_
  go_frame
  refine Dt.tk_nil ?_
  refine Dt.op_val (some 7) rfl rfl rfl (v := .pointer (some ⟨g7, 0, none⟩)) (w' := W3) (by rw [← hW3, ← hg7]; go_simp) ?_
  have hB3' : Below W1.heap.size W1 W3 := below_drewL hB3
  refine ⟨hB3', ?_⟩
  go_frame
  refine Dt.op_storeH none rfl rfl rfl 38 _ _ rfl g7 _ rfl rfl 38 _ hz7 infoWrite2 rfl (by simp [Value.oneCell']) ?_
  intro W4 h4 o4 z4
  have hg7' : W1.heap.size = g7 := hg7
  have o4 : Only g7 W3 W4 := ⟨o4.os, o4.tape, o4.output, o4.size, o4.block⟩
  have h4 : Holds W4 g7 38 #[.string x0, .bool e1, .bool e2, .int .u64 (ux : Nat), .string x3, .string x4, .slice none 0 0] := h4
  have hB4 : Below W1.heap.size W1 W4 := Only.fresh hB3' o4 (by omega)
  refine ⟨hB4, ?_⟩
  go_frame
  refine then_normalJ ?_
  have HB4 : Hid (Below W1.heap.size W1 W4) := hB4
  have HH4 : Hid (Holds W4 g7 38 #[.string x0, .bool e1, .bool e2, .int .u64 (ux : Nat), .string x3, .string x4, .slice none 0 0]) := h4
  have HG4 : Hid (W1.heap.size = g7 ∧ W4.heap.size = g7 + 1) := ⟨hg7', by rw [z4, ← hW3, World.size_alloc]; show W1.heap.size + 1 = _; omega⟩
  have t5 := q5
  clear q0 q1 q2 q3 q4 q6 d0 d2 hB3 hB3' hB4 hz7 h4 o4 z4 hW3 hg7 hg7'
  go_wp2_with fail
  go_loopw [8] (fun y wr => ∃ (k : Nat) (K : List Sl) (sv : Value), y = .int .i64 (k : Nat) ∧ k ≤ n5 ∧ Only g7 W4 wr ∧ Hid (Holds wr g7 38 #[.string x0, .bool e1, .bool e2, .int .u64 (ux : Nat), .string x3, .string x4, sv]) ∧ OwnSl wr W4.heap.size sv K ∧ K = (slotsR r5).take k) (fun y _ => n5 - (intOf y).toNat)
  case atStart => exact ⟨0, [], .slice none 0 0, rfl, Nat.zero_le _, Only.refl _ _, HH4, OwnSl.nil _ _, rfl⟩
  case round =>
    obtain ⟨k, K, sv, rfl, hk, hO, HH7, hown, hK⟩ := hrel
    have hB : Below W1.heap.size W1 wr := Only.fresh HB4.out hO (by have := HG4.out; omega)
    have hBW := below_new HB.out hB
    have z5 := keep_cell hB t5
    by_cases hkn : k < n5
    · have hki : (k : Int) < n5 := by omega
      obtain ⟨b5, o5, aq, cq, rfl, f0, f1, f2, hql, hq⟩ := HL.out.nth k (by have := HN5.out; omega)
      have HB5 : Hid (b5 < w.heap.size) := World.block_lt_of_cell? w _ f0
      replace f0 := keep_cell hBW f0
      replace f1 := keep_cell hBW f1
      replace f2 := keep_cell hBW f2
      have hqr : (r5.nth k).2.2 = rowAt r5 k := rfl
      rw [hqr] at f2 hql hq
      clear hqr
      have HQS : Hid ((rowAt r5 k).len = 2 → slotR (rowAt r5 k) = ⟨txtAt (rowAt r5 k) 0, txtAt (rowAt r5 k) 1⟩) := fun h => by unfold slotR; rw [if_pos h]
      have HTK : Hid ((slotsR r5).take (k + 1) = (slotsR r5).take k ++ [slotR (rowAt r5 k)]) := slotsR_take r5 k (by have := HN5.out; omega)
      have HNG : Hid ((rowAt r5 k).len ≠ 2 → ¬ ∀ j, j < n5 → (rowAt r5 j).len = 2) := fun h h' => h (h' k hkn)
      generalize rowAt r5 k = q at *
      obtain ⟨V, gy, hV, hgy, hBy, y0, y1, y2⟩ := box_item wr (r5.nth k).1 ⟨(r5.nth k).2.1.toArray⟩ (.slice aq q.len cq)
      have HGY : Hid (wr.heap.size = gy ∧ V.heap.size = gy + 1) := ⟨hgy, by rw [← hV, ← hgy]; simp⟩
      have HBY : Hid (Below wr.heap.size wr V) := hBy
      by_cases hq2 : q.len = 2
      · have HSR := HQS.out hq2
        obtain ⟨by_, oy, s0, cs0, rfl, u0, u1, u2, -⟩ := hq.nth 0 (by omega)
        obtain ⟨b', o', s1, cs1, hbo, v0, v1, v2, -⟩ := hq.nth 1 (by omega)
        injection hbo with hbo
        injection hbo with e1 e2
        subst e1 e2
        have HBQ : Hid (by_ < w.heap.size) := World.block_lt_of_cell? w _ u1
        have hBV := below_new hBW hBy
        replace u1 := keep_cell hBV u1
        replace v1 := keep_cell hBV v1
        have hHV : Holds V g7 38 #[.string x0, .bool e1, .bool e2, .int .u64 (ux : Nat), .string x3, .string x4, sv] := below_holds hBy HH7.out
        have hownV : OwnSl V W4.heap.size sv K := hown.below0 hBy
        have hOV : Only g7 W4 V := hO.below hBy
        have hlt := hownV.lt
        obtain ⟨sp, sn, sc, rfl⟩ := hownV.shape
        rw [hq2] at f2 hV y2
        unfold txtAt at HSR
        simp only [Nat.zero_mul, Nat.add_zero, Nat.one_mul] at u1 v1
        generalize (⟨(q.nth 0).2.1.toArray⟩ : ByteArray) = kx at *
        generalize (⟨(q.nth 1).2.1.toArray⟩ : ByteArray) = vx at *
        generalize (⟨(r5.nth k).2.1.toArray⟩ : ByteArray) = tx at *
        generalize (r5.nth k).1 = bx at *
        have HKL : Hid (K.length ≤ 1000000) := by
          show _ ≤ _
          rw [hK, List.length_take]
          omega
        have hne : (Value.slice sp sn sc).ownBlock ≠ some gy := fun e => by have h1 := hown.lt gy e; have h2 := HGY.out.1; omega
        have hnb : (Value.slice sp sn sc).ownBlock ≠ some by_ := fun e => by have h1 := hown.lt by_ e; have h2 := HBQ.out; have h3 := HB4.out.size; have h4 := HB.out.size; omega
        have hg1 : gy ≠ g7 := fun e => by have h1 := HGY.out.1; have h2 := HH7.out.lt; omega
        have hg2 : by_ ≠ g7 := fun e => by have h1 := HG4.out.1; have h2 := HBQ.out; have h3 := HB.out.size; omega
        have HKE : Hid (K = (slotsR r5).take k) := hK
        clear u0 u2 v0 v2 hq hql HQS HNG hK hBV
        go_wp2_with fail
        refine Dt.wp_region_tree (KeepS g7 (.slice sp sn sc) V) [0, 2, 3, 4, 5, 6, 7, 8, 9, 10, 11, 12] (.two 1 (.one 13 (.one 14 (.one 15 (.one 16 .nil)))) 13 (.one 1 (.one 14 (.one 15 (.one 16 .nil))))) mixedP (by kernel_rfl) rfl (by kernel_rfl) (fun _ _ _ d _ h => by cases d <;> exact h) KeepS.refl.drew ?_
        refine Dt.tk_val (some 102) rfl rfl rfl (.pointer (some ⟨g7, 6, none⟩)) (fun w => by go_simp) ?_
        go_frame
        refine Dt.tk_val (some 104) rfl rfl rfl (.pointer (some ⟨gy, 2, none⟩)) (fun w => by go_simp) ?_
        go_frame
        refine Dt.tk_ld (some 105) rfl rfl rfl _ _ rfl rfl (fun W hW => ldSls (hW.cell y2 hg1 hne)) ?_
        go_frame
        refine Dt.tk_val (some 106) rfl rfl rfl (.pointer (some ⟨by_, oy, none⟩)) (fun w => by go_simp) ?_
        go_frame
        refine Dt.tk_val (some 107) rfl rfl rfl (.pointer (some ⟨by_, oy + 1, none⟩)) (fun w => by go_simp) ?_
        go_frame
        refine Dt.tk_ld (some 108) rfl rfl rfl _ _ rfl rfl (fun W hW => ldTxt (hW.cell u1 hg2 hnb)) ?_
        go_frame
        refine Dt.tk_val (some 109) rfl rfl rfl (.pointer (some ⟨gy, 2, none⟩)) (fun w => by go_simp) ?_
        go_frame
        refine Dt.tk_ld (some 110) rfl rfl rfl _ _ rfl rfl (fun W hW => ldSls (hW.cell y2 hg1 hne)) ?_
        go_frame
        refine Dt.tk_val (some 111) rfl rfl rfl (.pointer (some ⟨by_, oy + 3, none⟩)) (fun w => by go_simp) ?_
        go_frame
        refine Dt.tk_val (some 112) rfl rfl rfl (.pointer (some ⟨by_, oy + 3 + 1, none⟩)) (fun w => by go_simp) ?_
        go_frame
        refine Dt.tk_ld (some 113) rfl rfl rfl _ _ rfl rfl (fun W hW => ldTxt (hW.cell v1 hg2 hnb)) ?_
        go_frame
        refine Dt.tk_val (some 114) rfl rfl rfl (.agg #[.string kx, .string vx]) (fun w => by go_simp) ?_
        go_frame
        refine Dt.tk_nil ?_
        obtain ⟨V2, gs, hV2, hgs, hBs, hzs⟩ := box_z V.drew 50 #[.string kx, .string vx]
        have hc6 : V.cell? ⟨g7, 6, none⟩ = some (.slice sp sn sc) := by have := hHV.cell 6; simpa using this
        have hc6' : V2.cell? ⟨g7, 6, none⟩ = some (.slice sp sn sc) := keep_cell (below_drewL hBs) hc6
        have hBs' : Below V.heap.size V V2 := below_drewL hBs
        have K0 : KeepS g7 (.slice sp sn sc) V V.drew := KeepS.refl.drew
        have K2 : KeepS g7 (.slice sp sn sc) V V2 := by rw [← hV2]; exact K0.alloc _
        have hown2 := hownV.below0 hBs'
        have hH2 := below_holds hBs' hHV
        have hsz2 : W4.heap.size ≤ V2.heap.size := Nat.le_trans hOV.size hBs'.size
        refine ⟨?_, ?_⟩
        · refine op_ldJ (some 103) rfl rfl rfl _ _ rfl rfl (ldSl hc6) ?_
          refine ⟨K0, ?_⟩
          go_frame
          refine Dt.op_val (some 115) rfl rfl rfl (v := .slice (some ⟨gs, 0, none⟩) 1 1) (w' := V2) (by rw [← hV2, ← hgs]; go_simp) ?_
          refine ⟨K2, ?_⟩
          go_frame
          refine op_appS (some 116) rfl rfl rfl _ _ rfl rfl rfl hzs hown2 HKL.out hsz2 ?_
          intro sv' V3 hown3 hgr3
          have K3 := K2.grown hgr3
          refine ⟨K3, ?_⟩
          go_frame
          refine Dt.op_val (some 117) rfl rfl rfl (v := .pointer (some ⟨g7, 6, none⟩)) (w' := V3) (by go_simp) ?_
          refine ⟨K3, ?_⟩
          go_frame
          have hng : (Value.slice sp sn sc).ownBlock ≠ some g7 := fun e => by have h1 := hlt g7 e; have h2 := HG4.out; omega
          have hH3 : Holds V3 g7 38 #[.string x0, .bool e1, .bool e2, .int .u64 (ux : Nat), .string x3, .string x4, .slice sp sn sc] := holds_grown2 hH2 hgr3 (fun e => hng e.symm)
          obtain ⟨sp', sn', sc', rfl⟩ := hown3.shape
          refine op_stJ none rfl rfl rfl 36 _ _ rfl rfl rfl (run_stSl hH3 (by show 6 < 7; decide) _ _ _) ?_
          have oL : Only g7 V3 (V3.setCell ⟨g7, 6, none⟩ (.slice sp' sn' sc')) := (Only.refl g7 V3).set 6 _
          refine ⟨K3.only oL, ?_⟩
          go_frame
          unfold Dt.wpTree
          simp only [Exit.inBlock, Exit.then]
          go_at_K
          go_wp2_with fail
          have hOF : Only g7 W4 (V3.setCell ⟨g7, 6, none⟩ (.slice sp' sn' sc')) := (K3.only oL).from hOV (fun j hj => (hlt j hj).1)
          go_roundw
          case measure => simp [intOf]; omega
          refine ⟨k + 1, K ++ [⟨kx, vx⟩], .slice sp' sn' sc', by go_num, by omega, hOF, ?_, ?_, ?_⟩
          · show Holds _ _ _ _
            have := hH3.set 6 (.slice sp' sn' sc')
            simpa using this
          · have hlt3 := hown3.lt
            refine World.ownsRow.kept (row := some g7) hown3 ⟨oL.os, oL.tape, oL.output, oL.size, fun b hb h1 => oL.block b hb (fun e => h1 (by rw [e]))⟩ (.inr fun e => ?_)
            have h1 := hlt3 g7 e
            have h2 := HG4.out
            omega
          · rw [HTK.out, HSR, ← HKE.out]
        · refine Dt.op_val (some 115) rfl rfl rfl (v := .slice (some ⟨gs, 0, none⟩) 1 1) (w' := V2) (by rw [← hV2, ← hgs]; go_simp) ?_
          refine ⟨K2, ?_⟩
          go_frame
          refine op_ldJ (some 103) rfl rfl rfl _ _ rfl rfl (ldSl hc6') ?_
          refine ⟨K2, ?_⟩
          go_frame
          refine op_appS (some 116) rfl rfl rfl _ _ rfl rfl rfl hzs hown2 HKL.out hsz2 ?_
          intro sv' V3 hown3 hgr3
          have K3 := K2.grown hgr3
          refine ⟨K3, ?_⟩
          go_frame
          refine Dt.op_val (some 117) rfl rfl rfl (v := .pointer (some ⟨g7, 6, none⟩)) (w' := V3) (by go_simp) ?_
          refine ⟨K3, ?_⟩
          go_frame
          have hng : (Value.slice sp sn sc).ownBlock ≠ some g7 := fun e => by have h1 := hlt g7 e; have h2 := HG4.out; omega
          have hH3 : Holds V3 g7 38 #[.string x0, .bool e1, .bool e2, .int .u64 (ux : Nat), .string x3, .string x4, .slice sp sn sc] := holds_grown2 hH2 hgr3 (fun e => hng e.symm)
          obtain ⟨sp', sn', sc', rfl⟩ := hown3.shape
          refine op_stJ none rfl rfl rfl 36 _ _ rfl rfl rfl (run_stSl hH3 (by show 6 < 7; decide) _ _ _) ?_
          have oL : Only g7 V3 (V3.setCell ⟨g7, 6, none⟩ (.slice sp' sn' sc')) := (Only.refl g7 V3).set 6 _
          refine ⟨K3.only oL, ?_⟩
          go_frame
          unfold Dt.wpTree
          simp only [Exit.inBlock, Exit.then]
          go_at_K
          go_wp2_with fail
          have hOF : Only g7 W4 (V3.setCell ⟨g7, 6, none⟩ (.slice sp' sn' sc')) := (K3.only oL).from hOV (fun j hj => (hlt j hj).1)
          go_roundw
          case measure => simp [intOf]; omega
          refine ⟨k + 1, K ++ [⟨kx, vx⟩], .slice sp' sn' sc', by go_num, by omega, hOF, ?_, ?_, ?_⟩
          · show Holds _ _ _ _
            have := hH3.set 6 (.slice sp' sn' sc')
            simpa using this
          · have hlt3 := hown3.lt
            refine World.ownsRow.kept (row := some g7) hown3 ⟨oL.os, oL.tape, oL.output, oL.size, fun b hb h1 => oL.block b hb (fun e => h1 (by rw [e]))⟩ (.inr fun e => ?_)
            have h1 := hlt3 g7 e
            have h2 := HG4.out
            omega
          · rw [HTK.out, HSR, ← HKE.out]
      · have hq2i : ¬ (q.len : Int) = 2 := by omega
        have hpost := HBD.out
        have hno := HNG.out hq2
        have HP : Hid (∀ w' : World, QWPost w w' true i (.returned (.tuple #[.agg #[.string ⟨#[]⟩, .bool false, .bool false, .int .u64 0, .string ⟨#[]⟩, .string ⟨#[]⟩, .slice none 0 0], .bool false]))) := fun w' => HBD.out w' hno
        have HZV : Hid (Holds V g2 38 #[.string ⟨#[]⟩, .bool false, .bool false, .int .u64 0, .string ⟨#[]⟩, .string ⟨#[]⟩, .slice none 0 0]) := below_holds (below_new hB hBy) HH.out
        have HBV : Hid (Below w.heap.size w V) := below_new hBW hBy
        generalize q.len = m at *
        generalize (⟨(r5.nth k).2.1.toArray⟩ : ByteArray) = tx at *
        generalize (r5.nth k).1 = bx at *
        clear hq hql HQS HNG HTK hpost hno hK hO hB hBW hown hBy
        go_wp2_with (first
          | (refine wpList_storeH rfl 38 _ _ rfl g2 #[.string ⟨#[]⟩, .bool false, .bool false, .int .u64 0, .string ⟨#[]⟩, .string ⟨#[]⟩, .slice none 0 0] rfl rfl 38 _ HZV.out infoWrite2 rfl (by simp [Value.oneCell']) ?_; intro w8 h8 o8 z8)
          | fail)
        have HF := Only.fresh HBV.out o8 HG.out.2.2.2.1
        exact bodyPost_ret (results_cellH2 (p := 2) (u := 3) rfl _ w8 g2 38 _ _ rfl h8 Try.underlying38 rfl infoWrite2) rfl ⟨HP.out _, by first | exact HF | (rw [← HG.out.1]; exact HF)⟩
    · have hki : ¬ (k : Int) < n5 := by omega
      obtain rfl : k = n5 := by omega
      have HE : Hid (K = slotsR r5) := by show _ = _; rw [hK]; exact List.take_of_length_le (by rw [slotsR_len]; have := HN5.out; omega)
      have hz2 := below_holds hB HH.out
      have hlt := hown.lt
      obtain ⟨sp, sn, sc, rfl⟩ := hown.shape
      have h7 := HH7.out
      go_wp2_with (first
        | (refine wpList_loadH rfl 38 _ rfl _ rfl _ _ _ h7 Try.underlying38 rfl infoWrite2 ?_)
        | (refine wpList_storeH rfl 38 _ _ rfl g2 _ rfl rfl 38 _ hz2 infoWrite2 rfl (by simp [Value.oneCell']) ?_; intro w8 h8 o8 z8)
        | fail)
      have HF := Only.fresh hBW o8 HG.out.2.2.2.1
      have hlt2 : ∀ j, (Value.slice sp sn sc).ownBlock = some j → w.heap.size ≤ j ∧ j < wr.heap.size ∧ j ≠ g2 := fun j hj => by
        have h1 := hlt j hj
        have h2 := HB4.out.size
        have h3 := HB.out.size
        have h4 := HG.out
        refine ⟨by omega, by omega, by omega⟩
      refine bodyPost_ret (results_cellH2 (p := 2) (u := 3) rfl _ w8 g2 38 _ _ rfl h8 Try.underlying38 rfl infoWrite2) rfl ⟨HGD.out _ _ ?_ ?_, by first | exact HF | (rw [← HG.out.1]; exact HF)⟩
      · rw [← HE.out]
        exact hown.at.kept fun j hj => o8.block j (hlt2 j hj).2.1 (hlt2 j hj).2.2
      · intro j hj
        have h1 := hlt2 j hj
        rw [z8]
        exact ⟨h1.1, h1.2.1⟩
end Go.Proofs.Ytadpopjhhanapaa
/-
  The document's write: of a thing that may be one.
-/
namespace Go.Proofs.Ytadpopjhhanapaa
open Go Go.RowKit

theorem holds_grown3 {w w' : World} {b : Nat} {t : TypeId} {cs : Array Value} {row : Option Nat} (h : Holds w b t cs) (hg : w.grownBy w' row) (hb : some b ≠ row) : Holds w' b t cs := by
  have := h.lt
  unfold Holds at *
  rw [hg.block b this hb]; exact h
set_option maxRecDepth 8000 in
set_option maxHeartbeats 16000000 in
theorem qwrite_ok3 {w : World} {i : Row} {a : Option Addr} {c : Nat} (s : ByteArray) (hl : LiesB w i a) (h6 : i.len = 6) (h5 : (i.nth 5).1 = true) {n0 n1 n2 : Bool} (hn0 : (!decide (txtAt i 1 = ⟨#[]⟩)) = n0) (hn1 : (!decide (txtAt i 1 = ⟨#[1]⟩)) = n1) (hn2 : (!decide (txtAt i 1 = ⟨#[2]⟩)) = n2) (hc : n0 = true ∧ n1 = true ∧ n2 = false)
    (hs : (rowAt i 5).len ≤ 1000000) (hsz : (txtAt i 2).size ≤ 1000000) : Calls Try.prog 28 #[.agg #[.bool true, .string s, .slice a i.len c]] w fun e w' => QWPost w w' true i e ∧ Below w.heap.size w w' := by
  have HBD : Hid (∀ w' : World, ¬ (∀ k, k < (rowAt i 5).len → (rowAt (rowAt i 5) k).len = 2) → QWPost w w' true i (.returned (.tuple #[.agg #[.string ⟨#[]⟩, .bool false, .bool false, .int .u64 0, .string ⟨#[]⟩, .string ⟨#[]⟩, .slice none 0 0], .bool false]))) := fun w' hn => QWPost.bad fun h => hn h.2.2.2.2
  have HGD : Hid (∀ (w' : World) (v : Value), SlotsAt w' v (slotsR (rowAt i 5)) → (∀ k, v.ownBlock = some k → w.heap.size ≤ k ∧ k < w'.heap.size) → QWPost w w' true i (.returned (.tuple #[.agg #[.string (txtAt i 0), .bool (decide (txtAt i 1 = ⟨#[1]⟩)), .bool (decide (txtAt i 1 = ⟨#[2]⟩)), .int .u64 (uintV (txtAt i 2).data.toList : Nat), .string (txtAt i 3), .string (txtAt i 4), v], .bool true]))) := fun w' v h1 h2 =>
    ⟨writeR i v, true, by rw [writeR_six h6]; rfl, ⟨by rw [writeR_six h6]; exact h1, writeR_lt _ _⟩, by rw [writeR_s]; exact h2, fun _ => bare_writeR i v, fun _ => rfl⟩
  rw [h6]
  obtain ⟨b, o, a0, c0, rfl, p00, p01, p02, _⟩ := hl.nth 0 (by omega)
  obtain ⟨b', o', a1, c1, hbo, p10, p11, p12, _⟩ := hl.nth 1 (by omega)
  injection hbo with hbo
  injection hbo with e1 e2
  subst e1 e2
  obtain ⟨b', o', a2, c2, hbo, p20, p21, p22, _⟩ := hl.nth 2 (by omega)
  injection hbo with hbo
  injection hbo with e1 e2
  subst e1 e2
  obtain ⟨b', o', a3, c3, hbo, p30, p31, p32, _⟩ := hl.nth 3 (by omega)
  injection hbo with hbo
  injection hbo with e1 e2
  subst e1 e2
  obtain ⟨b', o', a4, c4, hbo, p40, p41, p42, _⟩ := hl.nth 4 (by omega)
  injection hbo with hbo
  injection hbo with e1 e2
  subst e1 e2
  obtain ⟨b', o', a5, c5, hbo, p50, p51, p52, _, hl5⟩ := hl.nth 5 (by omega)
  injection hbo with hbo
  injection hbo with e1 e2
  subst e1 e2
  rw [h5] at p50
  have hui := fun W => refUint_any (txtAt i 2) W (by omega)
  clear hl p00 p02 p10 p12 p20 p22 p30 p32 p40 p42 p51 h6 h5
  obtain ⟨r5, hr5⟩ : ∃ r5, (i.nth 5).2.2 = r5 := ⟨_, rfl⟩
  unfold txtAt at *
  have hr5' : rowAt i 5 = r5 := hr5
  rw [hr5'] at HBD HGD hs
  rw [hr5] at hl5 p52
  clear hr5 hr5'
  simp only [Nat.zero_mul, Nat.add_zero, Nat.one_mul] at p01 p11
  generalize (⟨(i.nth 0).2.1.toArray⟩ : ByteArray) = x0 at *
  generalize (⟨(i.nth 1).2.1.toArray⟩ : ByteArray) = x1 at *
  generalize (⟨(i.nth 2).2.1.toArray⟩ : ByteArray) = x2 at *
  generalize (⟨(i.nth 3).2.1.toArray⟩ : ByteArray) = x3 at *
  generalize (⟨(i.nth 4).2.1.toArray⟩ : ByteArray) = x4 at *
  obtain ⟨n5, hn5⟩ : ∃ n5, r5.len = n5 := ⟨_, rfl⟩
  rw [hn5] at p52 hs HBD
  obtain ⟨W0, g, hW0, hg, hB0, d0, d1, d2⟩ := box_item w true s (.slice (some ⟨b, o, none⟩) 6 c)
  obtain ⟨W1, g2, hW1, hg2, hB1, hz⟩ := box_z W0 38 #[.string ⟨#[]⟩, .bool false, .bool false, .int .u64 0, .string ⟨#[]⟩, .string ⟨#[]⟩, .slice none 0 0]
  replace d0 := keep_cell hB1 d0
  replace d2 := keep_cell hB1 d2
  have H01 := below_new hB0 hB1
  have q0 := keep_cell H01 p01
  have q1 := keep_cell H01 p11
  have q2 := keep_cell H01 p21
  have q3 := keep_cell H01 p31
  have q4 := keep_cell H01 p41
  have q5 := keep_cell H01 p52
  have q6 := keep_cell H01 p50
  have HB : Hid (Below w.heap.size w W1) := H01
  have HG : Hid (w.heap.size = g ∧ W0.heap.size = g2 ∧ W1.heap.size = g2 + 1 ∧ w.heap.size ≤ g2 ∧ b < w.heap.size) := ⟨hg, hg2, by rw [← hW1, ← hg2]; simp, by rw [← hg2]; exact hB0.size, World.block_lt_of_cell? w _ p01⟩
  have HH : Hid (Holds W1 g2 38 #[.string ⟨#[]⟩, .bool false, .bool false, .int .u64 0, .string ⟨#[]⟩, .string ⟨#[]⟩, .slice none 0 0]) := hz
  have HL : Hid (LiesB w r5 a5) := hl5
  have HUI : Hid (∀ W, Calls Try.prog 27 #[.string x2] W fun e w' => e = .returned (.tuple #[.int .u64 (uintV x2.data.toList), .bool (uintB x2.data.toList)]) ∧ w' = W) := hui
  have HN5 : Hid (r5.len = n5) := hn5
  clear hB0 hB1 H01 d1 hz p01 p11 p21 p31 p41 p50 p52 hui hl5 hn5
  generalize uintV x2.data.toList = ux at *
  generalize uintB x2.data.toList = ub at *
  obtain ⟨e1, he1⟩ : ∃ e1, decide (x1 = ⟨#[1]⟩) = e1 := ⟨_, rfl⟩
  obtain ⟨e2, he2⟩ : ∃ e2, decide (x1 = ⟨#[2]⟩) = e2 := ⟨_, rfl⟩
  rw [he1, he2] at HGD
  have HY1 : Hid (decide (x1 = ⟨#[1]⟩) = e1) := he1
  have HY2 : Hid (decide (x1 = ⟨#[2]⟩) = e2) := he2
  have HN0 : Hid ((!decide (x1 = ⟨#[]⟩)) = n0) := hn0
  have HN1 : Hid ((!decide (x1 = ⟨#[1]⟩)) = n1) := hn1
  have HN2 : Hid ((!decide (x1 = ⟨#[2]⟩)) = n2) := hn2
  clear he1 he2 hn0 hn1 hn2
  obtain ⟨rfl, rfl, rfl⟩ := hc
  go_enter Try.func28, Try.ntmps28
  go_wp2_with (first
    | (refine wpList_neqJ rfl _ _ _ rfl rfl rfl HN0.out ?_)
    | (refine wpList_neqJ rfl _ _ _ rfl rfl rfl HN1.out ?_)
    | (refine wpList_neqJ rfl _ _ _ rfl rfl rfl HN2.out ?_)
    | (go_at_call 27; refine (HUI.out _).mono ?_; rintro e w2 ⟨rfl, hw⟩; obtain rfl := hw.symm)
    | fail)
  obtain ⟨W3, g7, hW3, hg7, hB3, hz7⟩ := box_z W1.drew 38 #[.string ⟨#[]⟩, .bool false, .bool false, .int .u64 0, .string ⟨#[]⟩, .string ⟨#[]⟩, .slice none 0 0]
  refine Dt.wp_region_tree (fun W => Below W1.heap.size W1 W) [0, 1, 2, 3, 4, 5, 6, 7, 8, 9, 10, 11, 12, 13, 14, 15, 16, 17, 18, 19, 20, 21, 22, 23] (.one 24 (.one 25 .nil)) mixedP (by kernel_rfl) rfl (by kernel_rfl) (fun _ _ _ d _ h => by cases d <;> exact h) (Below.refl _ _).drew ?_
  refine Dt.tk_val (some 57) rfl rfl rfl (.slice (some ⟨b, o, none⟩) 6 c) (fun w => by go_simp) ?_
  go_frame
  refine Dt.tk_val (some 58) rfl rfl rfl (.pointer (some ⟨b, o, none⟩)) (fun w => by go_simp) ?_
  go_frame
  refine Dt.tk_val (some 59) rfl rfl rfl (.pointer (some ⟨b, o + 1, none⟩)) (fun w => by go_simp) ?_
  go_frame
  refine Dt.tk_ld (some 60) rfl rfl rfl _ _ rfl rfl (fun W hW => ldTxt (keep_cell hW q0)) ?_
  go_frame
  refine Dt.tk_val (some 61) rfl rfl rfl (.slice (some ⟨b, o, none⟩) 6 c) (fun w => by go_simp) ?_
  go_frame
  refine Dt.tk_val (some 62) rfl rfl rfl (.pointer (some ⟨b, o + 3, none⟩)) (fun w => by go_simp) ?_
  go_frame
  refine Dt.tk_val (some 63) rfl rfl rfl (.pointer (some ⟨b, o + 3 + 1, none⟩)) (fun w => by go_simp) ?_
  go_frame
  refine Dt.tk_ld (some 64) rfl rfl rfl _ _ rfl rfl (fun W hW => ldTxt (keep_cell hW q1)) ?_
  go_frame
  refine Dt.tk_val (some 65) rfl rfl rfl (.bool e1) (fun w => by rw [run_eqlJ (u := x1) (v := ⟨#[1]⟩) _ _ _ _ rfl rfl rfl w, HY1.out]) ?_
  go_frame
  refine Dt.tk_val (some 66) rfl rfl rfl (.slice (some ⟨b, o, none⟩) 6 c) (fun w => by go_simp) ?_
  go_frame
  refine Dt.tk_val (some 67) rfl rfl rfl (.pointer (some ⟨b, o + 3, none⟩)) (fun w => by go_simp) ?_
  go_frame
  refine Dt.tk_val (some 68) rfl rfl rfl (.pointer (some ⟨b, o + 3 + 1, none⟩)) (fun w => by go_simp) ?_
  go_frame
  refine Dt.tk_ld (some 69) rfl rfl rfl _ _ rfl rfl (fun W hW => ldTxt (keep_cell hW q1)) ?_
  go_frame
  refine Dt.tk_val (some 70) rfl rfl rfl (.bool e2) (fun w => by rw [run_eqlJ (u := x1) (v := ⟨#[2]⟩) _ _ _ _ rfl rfl rfl w, HY2.out]) ?_
  go_frame
  refine Dt.tk_val (some 71) rfl rfl rfl (.int .u64 (ux : Nat)) (fun w => by go_simp) ?_
  go_frame
  refine Dt.tk_val (some 72) rfl rfl rfl (.slice (some ⟨b, o, none⟩) 6 c) (fun w => by go_simp) ?_
  go_frame
  refine Dt.tk_val (some 73) rfl rfl rfl (.pointer (some ⟨b, o + 9, none⟩)) (fun w => by go_simp) ?_
  go_frame
  refine Dt.tk_val (some 74) rfl rfl rfl (.pointer (some ⟨b, o + 9 + 1, none⟩)) (fun w => by go_simp) ?_
  go_frame
  refine Dt.tk_ld (some 75) rfl rfl rfl _ _ rfl rfl (fun W hW => ldTxt (keep_cell hW q3)) ?_
  go_frame
  refine Dt.tk_val (some 76) rfl rfl rfl (.slice (some ⟨b, o, none⟩) 6 c) (fun w => by go_simp) ?_
  go_frame
  refine Dt.tk_val (some 77) rfl rfl rfl (.pointer (some ⟨b, o + 12, none⟩)) (fun w => by go_simp) ?_
  go_frame
  refine Dt.tk_val (some 78) rfl rfl rfl (.pointer (some ⟨b, o + 12 + 1, none⟩)) (fun w => by go_simp) ?_
  go_frame
  refine Dt.tk_ld (some 79) rfl rfl rfl _ _ rfl rfl (fun W hW => ldTxt (keep_cell hW q4)) ?_
  go_frame
  refine Dt.tk_val (some 80) rfl rfl rfl (.agg #[.string x0, .bool e1, .bool e2, .int .u64 (ux : Nat), .string x3, .string x4, .slice none 0 0]) (fun w => by go_simp) ?_
  go_frame
  refine Dt.tk_nil ?_
  refine Dt.op_val (some 7) rfl rfl rfl (v := .pointer (some ⟨g7, 0, none⟩)) (w' := W3) (by rw [← hW3, ← hg7]; go_simp) ?_
  have hB3' : Below W1.heap.size W1 W3 := below_drewL hB3
  refine ⟨hB3', ?_⟩
  go_frame
  refine Dt.op_storeH none rfl rfl rfl 38 _ _ rfl g7 _ rfl rfl 38 _ hz7 infoWrite2 rfl (by simp [Value.oneCell']) ?_
  intro W4 h4 o4 z4
  have hg7' : W1.heap.size = g7 := hg7
  have o4 : Only g7 W3 W4 := ⟨o4.os, o4.tape, o4.output, o4.size, o4.block⟩
  have h4 : Holds W4 g7 38 #[.string x0, .bool e1, .bool e2, .int .u64 (ux : Nat), .string x3, .string x4, .slice none 0 0] := h4
  have hB4 : Below W1.heap.size W1 W4 := Only.fresh hB3' o4 (by omega)
  refine ⟨hB4, ?_⟩
  go_frame
  refine then_normalJ ?_
  have HB4 : Hid (Below W1.heap.size W1 W4) := hB4
  have HH4 : Hid (Holds W4 g7 38 #[.string x0, .bool e1, .bool e2, .int .u64 (ux : Nat), .string x3, .string x4, .slice none 0 0]) := h4
  have HG4 : Hid (W1.heap.size = g7 ∧ W4.heap.size = g7 + 1) := ⟨hg7', by rw [z4, ← hW3, World.size_alloc]; show W1.heap.size + 1 = _; omega⟩
  have t5 := q5
  clear q0 q1 q2 q3 q4 q6 d0 d2 hB3 hB3' hB4 hz7 h4 o4 z4 hW3 hg7 hg7'
  go_wp2_with fail
  go_loopw [8] (fun y wr => ∃ (k : Nat) (K : List Sl) (sv : Value), y = .int .i64 (k : Nat) ∧ k ≤ n5 ∧ Only g7 W4 wr ∧ Hid (Holds wr g7 38 #[.string x0, .bool e1, .bool e2, .int .u64 (ux : Nat), .string x3, .string x4, sv]) ∧ OwnSl wr W4.heap.size sv K ∧ K = (slotsR r5).take k) (fun y _ => n5 - (intOf y).toNat)
  case atStart => exact ⟨0, [], .slice none 0 0, rfl, Nat.zero_le _, Only.refl _ _, HH4, OwnSl.nil _ _, rfl⟩
  case round =>
    obtain ⟨k, K, sv, rfl, hk, hO, HH7, hown, hK⟩ := hrel
    have hB : Below W1.heap.size W1 wr := Only.fresh HB4.out hO (by have := HG4.out; omega)
    have hBW := below_new HB.out hB
    have z5 := keep_cell hB t5
    by_cases hkn : k < n5
    · have hki : (k : Int) < n5 := by omega
      obtain ⟨b5, o5, aq, cq, rfl, f0, f1, f2, hql, hq⟩ := HL.out.nth k (by have := HN5.out; omega)
      have HB5 : Hid (b5 < w.heap.size) := World.block_lt_of_cell? w _ f0
      replace f0 := keep_cell hBW f0
      replace f1 := keep_cell hBW f1
      replace f2 := keep_cell hBW f2
      have hqr : (r5.nth k).2.2 = rowAt r5 k := rfl
      rw [hqr] at f2 hql hq
      clear hqr
      have HQS : Hid ((rowAt r5 k).len = 2 → slotR (rowAt r5 k) = ⟨txtAt (rowAt r5 k) 0, txtAt (rowAt r5 k) 1⟩) := fun h => by unfold slotR; rw [if_pos h]
      have HTK : Hid ((slotsR r5).take (k + 1) = (slotsR r5).take k ++ [slotR (rowAt r5 k)]) := slotsR_take r5 k (by have := HN5.out; omega)
      have HNG : Hid ((rowAt r5 k).len ≠ 2 → ¬ ∀ j, j < n5 → (rowAt r5 j).len = 2) := fun h h' => h (h' k hkn)
      generalize rowAt r5 k = q at *
      obtain ⟨V, gy, hV, hgy, hBy, y0, y1, y2⟩ := box_item wr (r5.nth k).1 ⟨(r5.nth k).2.1.toArray⟩ (.slice aq q.len cq)
      have HGY : Hid (wr.heap.size = gy ∧ V.heap.size = gy + 1) := ⟨hgy, by rw [← hV, ← hgy]; simp⟩
      have HBY : Hid (Below wr.heap.size wr V) := hBy
      by_cases hq2 : q.len = 2
      · have HSR := HQS.out hq2
        obtain ⟨by_, oy, s0, cs0, rfl, u0, u1, u2, -⟩ := hq.nth 0 (by omega)
        obtain ⟨b', o', s1, cs1, hbo, v0, v1, v2, -⟩ := hq.nth 1 (by omega)
        injection hbo with hbo
        injection hbo with e1 e2
        subst e1 e2
        have HBQ : Hid (by_ < w.heap.size) := World.block_lt_of_cell? w _ u1
        have hBV := below_new hBW hBy
        replace u1 := keep_cell hBV u1
        replace v1 := keep_cell hBV v1
        have hHV : Holds V g7 38 #[.string x0, .bool e1, .bool e2, .int .u64 (ux : Nat), .string x3, .string x4, sv] := below_holds hBy HH7.out
        have hownV : OwnSl V W4.heap.size sv K := hown.below0 hBy
        have hOV : Only g7 W4 V := hO.below hBy
        have hlt := hownV.lt
        obtain ⟨sp, sn, sc, rfl⟩ := hownV.shape
        rw [hq2] at f2 hV y2
        unfold txtAt at HSR
        simp only [Nat.zero_mul, Nat.add_zero, Nat.one_mul] at u1 v1
        generalize (⟨(q.nth 0).2.1.toArray⟩ : ByteArray) = kx at *
        generalize (⟨(q.nth 1).2.1.toArray⟩ : ByteArray) = vx at *
        generalize (⟨(r5.nth k).2.1.toArray⟩ : ByteArray) = tx at *
        generalize (r5.nth k).1 = bx at *
        have HKL : Hid (K.length ≤ 1000000) := by
          show _ ≤ _
          rw [hK, List.length_take]
          omega
        have hne : (Value.slice sp sn sc).ownBlock ≠ some gy := fun e => by have h1 := hown.lt gy e; have h2 := HGY.out.1; omega
        have hnb : (Value.slice sp sn sc).ownBlock ≠ some by_ := fun e => by have h1 := hown.lt by_ e; have h2 := HBQ.out; have h3 := HB4.out.size; have h4 := HB.out.size; omega
        have hg1 : gy ≠ g7 := fun e => by have h1 := HGY.out.1; have h2 := HH7.out.lt; omega
        have hg2 : by_ ≠ g7 := fun e => by have h1 := HG4.out.1; have h2 := HBQ.out; have h3 := HB.out.size; omega
        have HKE : Hid (K = (slotsR r5).take k) := hK
        clear u0 u2 v0 v2 hq hql HQS HNG hK hBV
        go_wp2_with fail
        refine Dt.wp_region_tree (KeepS g7 (.slice sp sn sc) V) [0, 2, 3, 4, 5, 6, 7, 8, 9, 10, 11, 12] (.two 1 (.one 13 (.one 14 (.one 15 (.one 16 .nil)))) 13 (.one 1 (.one 14 (.one 15 (.one 16 .nil))))) mixedP (by kernel_rfl) rfl (by kernel_rfl) (fun _ _ _ d _ h => by cases d <;> exact h) KeepS.refl.drew ?_
        refine Dt.tk_val (some 102) rfl rfl rfl (.pointer (some ⟨g7, 6, none⟩)) (fun w => by go_simp) ?_
        go_frame
        refine Dt.tk_val (some 104) rfl rfl rfl (.pointer (some ⟨gy, 2, none⟩)) (fun w => by go_simp) ?_
        go_frame
        refine Dt.tk_ld (some 105) rfl rfl rfl _ _ rfl rfl (fun W hW => ldSls (hW.cell y2 hg1 hne)) ?_
        go_frame
        refine Dt.tk_val (some 106) rfl rfl rfl (.pointer (some ⟨by_, oy, none⟩)) (fun w => by go_simp) ?_
        go_frame
        refine Dt.tk_val (some 107) rfl rfl rfl (.pointer (some ⟨by_, oy + 1, none⟩)) (fun w => by go_simp) ?_
        go_frame
        refine Dt.tk_ld (some 108) rfl rfl rfl _ _ rfl rfl (fun W hW => ldTxt (hW.cell u1 hg2 hnb)) ?_
        go_frame
        refine Dt.tk_val (some 109) rfl rfl rfl (.pointer (some ⟨gy, 2, none⟩)) (fun w => by go_simp) ?_
        go_frame
        refine Dt.tk_ld (some 110) rfl rfl rfl _ _ rfl rfl (fun W hW => ldSls (hW.cell y2 hg1 hne)) ?_
        go_frame
        refine Dt.tk_val (some 111) rfl rfl rfl (.pointer (some ⟨by_, oy + 3, none⟩)) (fun w => by go_simp) ?_
        go_frame
        refine Dt.tk_val (some 112) rfl rfl rfl (.pointer (some ⟨by_, oy + 3 + 1, none⟩)) (fun w => by go_simp) ?_
        go_frame
        refine Dt.tk_ld (some 113) rfl rfl rfl _ _ rfl rfl (fun W hW => ldTxt (hW.cell v1 hg2 hnb)) ?_
        go_frame
        refine Dt.tk_val (some 114) rfl rfl rfl (.agg #[.string kx, .string vx]) (fun w => by go_simp) ?_
        go_frame
        refine Dt.tk_nil ?_
        obtain ⟨V2, gs, hV2, hgs, hBs, hzs⟩ := box_z V.drew 50 #[.string kx, .string vx]
        have hc6 : V.cell? ⟨g7, 6, none⟩ = some (.slice sp sn sc) := by have := hHV.cell 6; simpa using this
        have hc6' : V2.cell? ⟨g7, 6, none⟩ = some (.slice sp sn sc) := keep_cell (below_drewL hBs) hc6
        have hBs' : Below V.heap.size V V2 := below_drewL hBs
        have K0 : KeepS g7 (.slice sp sn sc) V V.drew := KeepS.refl.drew
        have K2 : KeepS g7 (.slice sp sn sc) V V2 := by rw [← hV2]; exact K0.alloc _
        have hown2 := hownV.below0 hBs'
        have hH2 := below_holds hBs' hHV
        have hsz2 : W4.heap.size ≤ V2.heap.size := Nat.le_trans hOV.size hBs'.size
        refine ⟨?_, ?_⟩
        · refine op_ldJ (some 103) rfl rfl rfl _ _ rfl rfl (ldSl hc6) ?_
          refine ⟨K0, ?_⟩
          go_frame
          refine Dt.op_val (some 115) rfl rfl rfl (v := .slice (some ⟨gs, 0, none⟩) 1 1) (w' := V2) (by rw [← hV2, ← hgs]; go_simp) ?_
          refine ⟨K2, ?_⟩
          go_frame
          refine op_appS (some 116) rfl rfl rfl _ _ rfl rfl rfl hzs hown2 HKL.out hsz2 ?_
          intro sv' V3 hown3 hgr3
          have K3 := K2.grown hgr3
          refine ⟨K3, ?_⟩
          go_frame
          refine Dt.op_val (some 117) rfl rfl rfl (v := .pointer (some ⟨g7, 6, none⟩)) (w' := V3) (by go_simp) ?_
          refine ⟨K3, ?_⟩
          go_frame
          have hng : (Value.slice sp sn sc).ownBlock ≠ some g7 := fun e => by have h1 := hlt g7 e; have h2 := HG4.out; omega
          have hH3 : Holds V3 g7 38 #[.string x0, .bool e1, .bool e2, .int .u64 (ux : Nat), .string x3, .string x4, .slice sp sn sc] := holds_grown3 hH2 hgr3 (fun e => hng e.symm)
          obtain ⟨sp', sn', sc', rfl⟩ := hown3.shape
          refine op_stJ none rfl rfl rfl 36 _ _ rfl rfl rfl (run_stSl hH3 (by show 6 < 7; decide) _ _ _) ?_
          have oL : Only g7 V3 (V3.setCell ⟨g7, 6, none⟩ (.slice sp' sn' sc')) := (Only.refl g7 V3).set 6 _
          refine ⟨K3.only oL, ?_⟩
          go_frame
          unfold Dt.wpTree
          simp only [Exit.inBlock, Exit.then]
          go_at_K
          go_wp2_with fail
          have hOF : Only g7 W4 (V3.setCell ⟨g7, 6, none⟩ (.slice sp' sn' sc')) := (K3.only oL).from hOV (fun j hj => (hlt j hj).1)
          go_roundw
          case measure => simp [intOf]; omega
          refine ⟨k + 1, K ++ [⟨kx, vx⟩], .slice sp' sn' sc', by go_num, by omega, hOF, ?_, ?_, ?_⟩
          · show Holds _ _ _ _
            have := hH3.set 6 (.slice sp' sn' sc')
            simpa using this
          · have hlt3 := hown3.lt
            refine World.ownsRow.kept (row := some g7) hown3 ⟨oL.os, oL.tape, oL.output, oL.size, fun b hb h1 => oL.block b hb (fun e => h1 (by rw [e]))⟩ (.inr fun e => ?_)
            have h1 := hlt3 g7 e
            have h2 := HG4.out
            omega
          · rw [HTK.out, HSR, ← HKE.out]
        · refine Dt.op_val (some 115) rfl rfl rfl (v := .slice (some ⟨gs, 0, none⟩) 1 1) (w' := V2) (by rw [← hV2, ← hgs]; go_simp) ?_
          refine ⟨K2, ?_⟩
          go_frame
          refine op_ldJ (some 103) rfl rfl rfl _ _ rfl rfl (ldSl hc6') ?_
          refine ⟨K2, ?_⟩
          go_frame
          refine op_appS (some 116) rfl rfl rfl _ _ rfl rfl rfl hzs hown2 HKL.out hsz2 ?_
          intro sv' V3 hown3 hgr3
          have K3 := K2.grown hgr3
          refine ⟨K3, ?_⟩
          go_frame
          refine Dt.op_val (some 117) rfl rfl rfl (v := .pointer (some ⟨g7, 6, none⟩)) (w' := V3) (by go_simp) ?_
          refine ⟨K3, ?_⟩
          go_frame
          have hng : (Value.slice sp sn sc).ownBlock ≠ some g7 := fun e => by have h1 := hlt g7 e; have h2 := HG4.out; omega
          have hH3 : Holds V3 g7 38 #[.string x0, .bool e1, .bool e2, .int .u64 (ux : Nat), .string x3, .string x4, .slice sp sn sc] := holds_grown3 hH2 hgr3 (fun e => hng e.symm)
          obtain ⟨sp', sn', sc', rfl⟩ := hown3.shape
          refine op_stJ none rfl rfl rfl 36 _ _ rfl rfl rfl (run_stSl hH3 (by show 6 < 7; decide) _ _ _) ?_
          have oL : Only g7 V3 (V3.setCell ⟨g7, 6, none⟩ (.slice sp' sn' sc')) := (Only.refl g7 V3).set 6 _
          refine ⟨K3.only oL, ?_⟩
          go_frame
          unfold Dt.wpTree
          simp only [Exit.inBlock, Exit.then]
          go_at_K
          go_wp2_with fail
          have hOF : Only g7 W4 (V3.setCell ⟨g7, 6, none⟩ (.slice sp' sn' sc')) := (K3.only oL).from hOV (fun j hj => (hlt j hj).1)
          go_roundw
          case measure => simp [intOf]; omega
          refine ⟨k + 1, K ++ [⟨kx, vx⟩], .slice sp' sn' sc', by go_num, by omega, hOF, ?_, ?_, ?_⟩
          · show Holds _ _ _ _
            have := hH3.set 6 (.slice sp' sn' sc')
            simpa using this
          · have hlt3 := hown3.lt
            refine World.ownsRow.kept (row := some g7) hown3 ⟨oL.os, oL.tape, oL.output, oL.size, fun b hb h1 => oL.block b hb (fun e => h1 (by rw [e]))⟩ (.inr fun e => ?_)
            have h1 := hlt3 g7 e
            have h2 := HG4.out
            omega
          · rw [HTK.out, HSR, ← HKE.out]
      · have hq2i : ¬ (q.len : Int) = 2 := by omega
        have hpost := HBD.out
        have hno := HNG.out hq2
        have HP : Hid (∀ w' : World, QWPost w w' true i (.returned (.tuple #[.agg #[.string ⟨#[]⟩, .bool false, .bool false, .int .u64 0, .string ⟨#[]⟩, .string ⟨#[]⟩, .slice none 0 0], .bool false]))) := fun w' => HBD.out w' hno
        have HZV : Hid (Holds V g2 38 #[.string ⟨#[]⟩, .bool false, .bool false, .int .u64 0, .string ⟨#[]⟩, .string ⟨#[]⟩, .slice none 0 0]) := below_holds (below_new hB hBy) HH.out
        have HBV : Hid (Below w.heap.size w V) := below_new hBW hBy
        generalize q.len = m at *
        generalize (⟨(r5.nth k).2.1.toArray⟩ : ByteArray) = tx at *
        generalize (r5.nth k).1 = bx at *
        clear hq hql HQS HNG HTK hpost hno hK hO hB hBW hown hBy
        go_wp2_with (first
          | (refine wpList_storeH rfl 38 _ _ rfl g2 #[.string ⟨#[]⟩, .bool false, .bool false, .int .u64 0, .string ⟨#[]⟩, .string ⟨#[]⟩, .slice none 0 0] rfl rfl 38 _ HZV.out infoWrite2 rfl (by simp [Value.oneCell']) ?_; intro w8 h8 o8 z8)
          | fail)
        have HF := Only.fresh HBV.out o8 HG.out.2.2.2.1
        exact bodyPost_ret (results_cellH2 (p := 2) (u := 3) rfl _ w8 g2 38 _ _ rfl h8 Try.underlying38 rfl infoWrite2) rfl ⟨HP.out _, by first | exact HF | (rw [← HG.out.1]; exact HF)⟩
    · have hki : ¬ (k : Int) < n5 := by omega
      obtain rfl : k = n5 := by omega
      have HE : Hid (K = slotsR r5) := by show _ = _; rw [hK]; exact List.take_of_length_le (by rw [slotsR_len]; have := HN5.out; omega)
      have hz2 := below_holds hB HH.out
      have hlt := hown.lt
      obtain ⟨sp, sn, sc, rfl⟩ := hown.shape
      have h7 := HH7.out
      go_wp2_with (first
        | (refine wpList_loadH rfl 38 _ rfl _ rfl _ _ _ h7 Try.underlying38 rfl infoWrite2 ?_)
        | (refine wpList_storeH rfl 38 _ _ rfl g2 _ rfl rfl 38 _ hz2 infoWrite2 rfl (by simp [Value.oneCell']) ?_; intro w8 h8 o8 z8)
        | fail)
      have HF := Only.fresh hBW o8 HG.out.2.2.2.1
      have hlt2 : ∀ j, (Value.slice sp sn sc).ownBlock = some j → w.heap.size ≤ j ∧ j < wr.heap.size ∧ j ≠ g2 := fun j hj => by
        have h1 := hlt j hj
        have h2 := HB4.out.size
        have h3 := HB.out.size
        have h4 := HG.out
        refine ⟨by omega, by omega, by omega⟩
      refine bodyPost_ret (results_cellH2 (p := 2) (u := 3) rfl _ w8 g2 38 _ _ rfl h8 Try.underlying38 rfl infoWrite2) rfl ⟨HGD.out _ _ ?_ ?_, by first | exact HF | (rw [← HG.out.1]; exact HF)⟩
      · rw [← HE.out]
        exact hown.at.kept fun j hj => o8.block j (hlt2 j hj).2.1 (hlt2 j hj).2.2
      · intro j hj
        have h1 := hlt2 j hj
        rw [z8]
        exact ⟨h1.1, h1.2.1⟩
end Go.Proofs.Ytadpopjhhanapaa
/-
  The document's write, any thing; and what a block's bytes are as things.
-/
namespace Go.Proofs.Ytadpopjhhanapaa
open Go Go.RowKit

theorem qwrite_any {w : World} {i : Row} {a : Option Addr} {c : Nat} (b : Bool) (s : ByteArray) (hl : LiesB w i a) (hi : i.small 1000000) : Calls Try.prog 28 #[.agg #[.bool b, .string s, .slice a i.len c]] w fun e w' => QWPost w w' b i e ∧ Below w.heap.size w w' := by
  by_cases hb : b = true ∧ i.len = 6 ∧ (i.nth 5).1 = true ∧ (txtAt i 1 = ⟨#[]⟩ ∨ txtAt i 1 = ⟨#[1]⟩ ∨ txtAt i 1 = ⟨#[2]⟩)
  · obtain ⟨rfl, h6, h5, hk⟩ := hb
    have h1 := (Row.small_nth hi 5).2.1
    have h2 := (Row.small_nth hi 2).1
    rcases hk with hk | hk | hk
    · exact qwrite_ok1 s hl h6 h5 rfl rfl rfl (by rw [hk]; rfl) h1 h2
    · exact qwrite_ok2 s hl h6 h5 rfl rfl rfl (by rw [hk]; exact ⟨rfl, rfl⟩) h1 h2
    · exact qwrite_ok3 s hl h6 h5 rfl rfl rfl (by rw [hk]; exact ⟨rfl, rfl, rfl⟩) h1 h2
  · exact qwrite_bad b s hl hb
theorem rowLs_nth : ∀ (l : List Row) (k : Nat) (q : Row), l[k]? = some q → (rowLs l).nth k = (true, [], q)
  | q :: l, 0, r, h => by simp at h; subst h; rfl
  | q :: l, k + 1, r, h => rowLs_nth l k r (by simpa using h)
theorem goodW_row {x : Wr} : goodW true (rowW x) := by
  refine ⟨rfl, rfl, rfl, ?_, fun k hk => ?_⟩
  · have e : txtAt (rowW x) 1 = kindB x := backB (kindB x)
    rw [e]
    unfold kindB
    split
    · exact .inr (.inl rfl)
    · split
      · exact .inr (.inr rfl)
      · exact .inl rfl
  · have e : rowAt (rowW x) 5 = rowLs (x.L.map rowS) := rfl
    rw [e, rowLs_len, List.length_map] at hk
    have h1 : (x.L.map rowS)[k]? = some (rowS x.L[k]) := by rw [List.getElem?_map, List.getElem?_eq_getElem hk]; rfl
    rw [e]
    unfold rowAt
    rw [rowLs_nth _ _ _ h1]
    rfl
/-- What is read as a block has writes that the document takes. -/
theorem good_of_read {s : List UInt8} {n : Int} {L : List Wr} {b : Bool} {t : List UInt8} {i : Row} (h : readOf s = some (n, L)) (hd : decode s = some (.item b t i .nil)) : ∀ k, k < (rowAt i 1).len → goodW ((rowAt i 1).nth k).1 (rowAt (rowAt i 1) k) := by
  obtain ⟨h1, h2, rfl⟩ := bytesOf_some.1 (read_is h)
  obtain ⟨q1, q2, q3, q4⟩ := okB_all h1
  rw [decode_enc16 h2 q4] at hd
  injection hd with hd
  injection hd with e1 e2 e3 e4
  subst e3
  intro k hk
  have e : rowAt (rowB n.toNat L) 1 = rowLs (L.map rowW) := rfl
  rw [e, rowLs_len, List.length_map] at hk
  have h1 : (L.map rowW)[k]? = some (rowW L[k]) := by rw [List.getElem?_map, List.getElem?_eq_getElem hk]; rfl
  rw [e]
  unfold rowAt
  rw [rowLs_nth _ _ _ h1]
  exact goodW_row
theorem numR_small {i : Row} (h : uintV (txtAt i 0).data.toList ≤ 2147483647) : numR i = (uintV (txtAt i 0).data.toList : Nat) := by
  unfold numR wrap64
  omega
theorem numR_big {i : Row} (h : ¬ uintV (txtAt i 0).data.toList ≤ 2147483647) (L : List Wr) : bytesOf (numR i) L = none := by
  have hlt := uintV_lt (txtAt i 0).data.toList
  have hn : ¬ (1 ≤ numR i ∧ numR i ≤ 2147483647) := by
    unfold numR wrap64
    omega
  have : okB (numR i) L = false := by
    unfold okB
    by_cases h1 : 1 ≤ numR i
    · rw [decide_eq_false (p := numR i ≤ 2147483647) (fun h2 => hn ⟨h1, h2⟩)]; simp
    · rw [decide_eq_false h1]; simp
  unfold bytesOf
  rw [this]
  rfl
end Go.Proofs.Ytadpopjhhanapaa
