/-
  Texts of this claim, put together.
-/
import Derived.Test.YtjklcnknbcmgoaaGreatDoorGInsW
import Derived.Test.YtjklcnknbcmgoaaGreatDoorGTree
/-
  Spares: one run more.
-/
namespace Go.Proofs.YtjklcnknbcmgoaaGreatDoor
open Go Go.RowKit Go.Maps

/-- The greatest page that there may be. -/
def topPg : Int := 1099511627776
def KP : Nat := 1099511627776
theorem MapAt.smallN {α : Type} {enc : α → DataW Unit} {R : Value → Option (DataW Unit × List MemPlace)} {w : World} {m n : Nat} {M : Int → Option α} (h : MapAt R enc w m n M) (hk : ∀ u x, M u = some x → 0 ≤ u ∧ u < topPg) : MapAt R enc w m KP M := by
  obtain ⟨D, ho, hr⟩ := h
  obtain ⟨es0, he, hp, hl⟩ := ho.entries keyed3
  obtain ⟨es, clock, hb, F, _, hD⟩ := ho
  refine ⟨D, ⟨es, clock, hb, F, ?_, hD⟩, hr⟩
  have e1 : es.size = es0.length := by
    rw [hD] at he
    injection he with he
    rw [← he, length_read]
  rw [e1]
  refine keys_len hp fun p hpm => ?_
  have hh : Maps.has D p.1 = true := by
    rw [he]
    exact List.any_eq_true.2 ⟨p, hpm, WideAt.sameKey_self (hl p hpm)⟩
  obtain ⟨u, x, hu, hx⟩ := (hr.has p.1).1 hh
  exact ⟨u, hk u x hx, hu⟩
/-- A map is turned at one key. -/
theorem wpList_updI {α : Type} {R : Value → Option (DataW Unit × List MemPlace)} {mk : α → Value} {enc : α → DataW Unit} {t e : TypeId} (E : Elem R mk enc) (ht : Tryz.prog.underlying t = some (.map 3 e)) {ops : Array Oper} {rest : List Oper} {op : Oper} {a : Act} {w : World} {Q : Exit → Act → World → Prop} (hgd : op.guard = none) (x y z : Operand) (ho : op.op = .mapUpdate t x y z)
    {m n : Nat} {M : Int → Option α} (h : MapAt R enc w m n M) (hn : n < maxLen) {u : Int} (hu : (Lit.int .i64 u).wf = true) (v : α) (hx : a.eval x = .map (some m)) (hy : a.eval y = .int .i64 u) (hz : a.eval z = mk v)
    (hK : ∀ w', MapAt R enc w' m (n + 1) (setM M u (some v)) → Only m w w' → w'.heap.size = w.heap.size → wpList Tryz.prog ops Q rest (a.put op.dst undef) w') : wpList Tryz.prog ops Q (op :: rest) a w := by
  refine wpList_plain hgd fun K' hK' => ?_
  obtain ⟨w', hrun, h1, h2, h3⟩ := h.upd E ht hn hu v
  unfold Oper.wp
  simp [execOp, ho, hx, hy, hz, hrun, Result.andThen]
  exact hK' _ _ (hK w' h1 h2 h3)
/-- Spares in memory: the map, the row and the count. -/
structure SpAt (w : World) (r : Option Nat) (f : Value) (c : Int) (L : Runs) : Prop where
  srt : Srt L
  bnd : ∀ q ∈ L, 0 ≤ q.1 ∧ q.2 ≤ topPg
  cnt : c = totR L
  map : MapV RI encI w KP r (lookR L)
  row : IRow w f (fsR L)
theorem totR_len {L : Runs} (hs : Srt L) : (L.length : Int) ≤ totR L := by
  induction L with
  | nil => exact Int.le_refl _
  | cons r L ih => have := ih hs.2.2; have := hs.1; simp only [totR, List.length_cons]; omega
theorem totR_le {L : Runs} (hs : Srt L) {lo : Int} (hlo : ∀ q ∈ L, lo ≤ q.1) (hb : ∀ q ∈ L, q.2 ≤ topPg) (h0 : lo ≤ topPg) : totR L ≤ topPg - lo := by
  induction L generalizing lo with
  | nil => simp only [totR]; omega
  | cons r L ih =>
    have h1 := ih hs.2.2 hs.2.1 (fun q hq => hb q (List.mem_cons_of_mem _ hq)) (hb r List.mem_cons_self)
    have := hlo r List.mem_cons_self
    simp only [totR]
    omega
section
variable {w w' : World} {r : Option Nat} {f : Value} {c : Int} {L : Runs}
theorem SpAt.count (h : SpAt w r f c L) : 0 ≤ c ∧ c ≤ topPg := by
  rw [h.cnt]
  have := totR_le h.srt (lo := 0) (fun q hq => (h.bnd q hq).1) (fun q hq => (h.bnd q hq).2) (by decide)
  exact ⟨totR_nonneg h.srt, by omega⟩
theorem SpAt.len (h : SpAt w r f c L) : (L.length : Int) ≤ topPg := by
  have := h.count
  have := totR_len h.srt
  rw [← h.cnt] at this
  omega
theorem SpAt.kept (h : SpAt w r f c L) (h1 : ∀ i, r = some i → w'.heap[i]? = w.heap[i]?) (h2 : ∀ i, f.ownBlock = some i → w'.heap[i]? = w.heap[i]?) : SpAt w' r f c L :=
  ⟨h.srt, h.bnd, h.cnt, h.map.block h1, h.row.block h2⟩
theorem SpAt.below (h : SpAt w r f c L) (hB : Below w.heap.size w w') : SpAt w' r f c L :=
  h.kept (fun i hi => hB.block i (h.map.lt i hi)) (fun i hi => hB.block i (h.row.lt i hi))
theorem SpAt.empty (w : World) : SpAt w none (.slice none 0 0) 0 [] := ⟨trivial, by simp, rfl, fun _ => rfl, IRow.nil w⟩
theorem SpAt.isNil (h : SpAt w none f c L) : L = [] := by
  cases L with
  | nil => rfl
  | cons q L =>
    have := h.map q.1
    unfold lookR at this
    rw [if_pos rfl] at this
    cases this
/-- The row, for a search in it. -/
theorem gsearch_any (h : SpAt w r f c L) (x : Int) : Calls Tryz.prog 66 #[f, .int .i64 x] w fun e w' => e = .returned (.tuple #[.int .i64 (atR L x : Nat), .bool ((fsR L).contains x)]) ∧ ∃ q, w' = w.drewN q := by
  have hlen := h.len
  unfold topPg at hlen
  rcases h.row with ⟨rfl, hn⟩ | ⟨g, off, cap, cur, rfl, hH, hle, hsz, hmx, hnz, hc⟩
  · have hL : L = [] := by simpa [fsR] using hn
    subst hL
    refine (Tryz.slices_BinarySearch_int_empty none 0 x w).mono ?_
    rintro e w' ⟨rfl, rfl⟩
    exact ⟨rfl, 0, rfl⟩
  · have := Tryz.slices_BinarySearch_int g off (fsR L).length cap (fsR L) x w (Nat.le_refl _) (by rw [fsR_len]; omega) (fun j hj => by
      rw [hH.cell]
      exact hc j _ (by rw [List.getD_eq_getElem?_getD, List.getElem?_eq_getElem hj]; rfl)) (by
      rw [List.take_length]
      exact (fsR_sorted h.srt).imp (fun h => by omega))
    rw [List.take_length] at this
    exact this
end
end Go.Proofs.YtjklcnknbcmgoaaGreatDoor
/-
  Spares: one run more.
-/
namespace Go.Proofs.YtjklcnknbcmgoaaGreatDoor
open Go Go.RowKit Go.Maps

def put3 (cs : Array Value) (o : Nat) (r : Option Nat) (f : Value) (c : Int) : Array Value := ((cs.setIfInBounds o (.map r)).setIfInBounds (o + 1) f).setIfInBounds (o + 2) (.int .i64 c)
def SpNew (w : World) (r : Option Nat) (f : Value) (r' : Option Nat) (f' : Value) : Prop := (∀ i, r' = some i → r = some i ∨ w.heap.size ≤ i) ∧ (∀ i, f'.ownBlock = some i → f.ownBlock = some i ∨ w.heap.size ≤ i)
def SpFoot (b : Nat) (r : Option Nat) (f : Value) (i : Nat) : Prop := i = b ∨ r = some i ∨ f.ownBlock = some i
theorem IRow.shape {w : World} {v : Value} {zs : List Int} (h : IRow w v zs) : ∃ p n c, v = .slice p n c := by
  rcases h with ⟨rfl, _⟩ | ⟨g, off, cap, cur, rfl, _⟩
  · exact ⟨_, _, _, rfl⟩
  · exact ⟨_, _, _, rfl⟩
theorem set_same {cs : Array Value} {o : Nat} {v : Value} (h : cs[o]? = some v) : cs.setIfInBounds o v = cs := by
  apply Array.ext_getElem?
  intro i
  by_cases e : o = i
  · subst e
    have := (Array.getElem?_eq_some_iff.1 h).1
    rw [Array.getElem?_setIfInBounds_self_of_lt this, h]
  · rw [Array.getElem?_setIfInBounds_ne e]
theorem eql_runs (mo : Option Nat) (w : World) : (binOp .eql 70 (.map mo) (.map none)).run Tryz.prog w = .ok (.bool mo.isNone) w := by
  have h := run_equal_map_nil (w := w) 70 3 3 mo Tryz.underlying70
  simp [binOp, h, Result.andThen]
set_option maxRecDepth 8000 in
theorem sadd_none {w : World} {b o : Nat} (x y : Int) (hxy : ¬ x < y) : Calls Tryz.prog 41 #[.pointer (some ⟨b, o, none⟩), .int .i64 x, .int .i64 y] w fun e w' => e = .returned (.tuple #[]) ∧ w' = w := by
  go_enter Tryz.func41, Tryz.ntmps41
  go_wp2_with fail
  refine bodyPost_ret (results_none rfl _ _ _) rfl ?_
  exact ⟨rfl, rfl⟩
set_option maxRecDepth 8000 in
set_option maxHeartbeats 1000000 in
theorem sadd_some {w : World} {b o m : Nat} {t : TypeId} {cs : Array Value} (hh : Holds w b t cs) (ht : t ≠ 3) {f : Value} {c : Int} {L : Runs} (h0 : cs[o]? = some (.map (some m))) (h1 : cs[o + 1]? = some f) (h2 : cs[o + 2]? = some (.int .i64 c))
    (a : SpAt w (some m) f c L) (x y : Int) (hx : 0 ≤ x) (hxy : x < y) (hy : y ≤ topPg) (hno : ∀ n, x ≤ n → n < y → ¬ inR L n) :
    Calls Tryz.prog 41 #[.pointer (some ⟨b, o, none⟩), .int .i64 x, .int .i64 y] w fun e w' => e = .returned (.tuple #[]) ∧ ∃ f', Holds w' b t (put3 cs o (some m) f' (totR (addR L x y))) ∧ SpAt w' (some m) f' (totR (addR L x y)) (addR L x y) ∧ Keep (SpFoot b (some m) f) w w' ∧ SpNew w (some m) f (some m) f' := by
  have heq := eql_runs (some m)
  have c0 : w.cell? ⟨b, o, none⟩ = some (.map (some m)) := (hh.cell o).trans h0
  have c1 : w.cell? ⟨b, o + 1, none⟩ = some f := (hh.cell _).trans h1
  have hbs := gsearch_any a x
  have hcn := a.count
  have hln := a.len
  unfold topPg at hcn hln hy
  obtain ⟨hcn1, hcn2⟩ := hcn
  have hsr := a.srt
  have hbd := a.bnd
  have hct : totR L = c := a.cnt.symm
  have hmp := a.map
  have hro := a.row
  have hfb : f.ownBlock ≠ some b := fun e => by
    obtain ⟨cur, hc⟩ := hro.obj b e
    unfold Holds at hc hh
    rw [hh] at hc
    injection hc with hc
    injection hc with _ hc
    exact ht hc
  have hmb : m ≠ b := fun e => by
    obtain ⟨es, cl, hc⟩ := hmp.obj m rfl
    unfold Holds at hh
    rw [e, hh] at hc
    cases hc
  have hfm : f.ownBlock ≠ some m := fun e => by
    obtain ⟨cur, hc⟩ := hro.obj m e
    obtain ⟨es, cl, hc'⟩ := hmp.obj m rfl
    unfold Holds at hc
    rw [hc] at hc'
    cases hc'
  have hat : atR L x ≤ (fsR L).length := by rw [fsR_len]; exact atR_le L x
  have hl2 : (fsR L).length < 2000000000000 := by rw [fsR_len]; omega
  have hmlt := hmp.lt m rfl
  have hblt := hh.lt
  clear a
  go_enter Tryz.func41, Tryz.ntmps41
  go_wp2_with fail
  refine hbs.mono ?_
  rintro e w3 ⟨rfl, q, rfl⟩
  clear hbs
  obtain ⟨W4, hW4⟩ : ∃ W, (w.drewN q).alloc (Obj.cells #[Value.int IntKind.i64 x] 3) = W := ⟨_, rfl⟩
  have hB4 : Below w.heap.size w W4 := by rw [← hW4]; have := below_new1 (w.drewN q) (Obj.cells #[Value.int IntKind.i64 x] 3); exact ⟨this.os, this.tape, this.output, this.size, this.block⟩
  have hv4 : Holds W4 w.heap.size 3 #[.int .i64 x] := by rw [← hW4]; exact Holds.new (w.drewN q) _ _
  have hr4 := hro.block (w' := W4) (fun i hi => hB4.block i (hro.lt i hi))
  have hins := ginsert_any hr4 (atR L x) hat hl2 x hv4 (fun e => by have := hro.lt _ e; omega)
  have hh4 := below_holds hB4 hh
  have hm4 : MapAt RI encI W4 m KP (lookR L) := MapAt.block hmp (hB4.block m hmlt)
  go_wp2_with fail
  refine hins.mono ?_
  rintro e w5 ⟨f', rfl, hr5, hk5, hn5⟩
  clear hins
  obtain ⟨p5, n5, k5, rfl⟩ := hr5.shape
  have hh5 := hk5.holds hh4 hfb
  have hm5 : MapAt RI encI w5 m KP (lookR L) := MapAt.block hm4 (hk5.block m (Nat.lt_of_lt_of_le hmlt hB4.size) hfm)
  have hf'b : (Value.slice p5 n5 k5).ownBlock ≠ some b := fun e => by
    rcases hn5 b e with h | h
    · exact hfb h
    · have := hB4.size; omega
  have hf'm : (Value.slice p5 n5 k5).ownBlock ≠ some m := fun e => by
    rcases hn5 m e with h | h
    · exact hfm h
    · have := hB4.size; omega
  have c51 : w5.cell? ⟨b, o + 1, none⟩ = some f := (hh5.cell _).trans h1
  have z51 := hh5.frozen (o + 1)
  obtain ⟨w6, hw6⟩ : ∃ w6, w5.setCell ⟨b, o + 1, none⟩ (.slice p5 n5 k5) = w6 := ⟨_, rfl⟩
  have hh6 : Holds w6 b t (cs.setIfInBounds (o + 1) (.slice p5 n5 k5)) := by rw [← hw6]; exact hh5.set _ _
  have hO6 : Only b w5 w6 := by rw [← hw6]; exact (Only.refl b w5).set _ _
  have c60 : w6.cell? ⟨b, o, none⟩ = some (.map (some m)) := by rw [hh6.cell, Array.getElem?_setIfInBounds_ne (by omega)]; exact h0
  have hlt5 : m < w5.heap.size := Nat.lt_of_lt_of_le (Nat.lt_of_lt_of_le hmlt hB4.size) hk5.size
  have hm6 : MapAt RI encI w6 m KP (lookR L) := MapAt.block hm5 (hO6.block m hlt5 hmb)
  have hr6 := hr5.block (w' := w6) (fun i hi => hO6.block i (hr5.lt i hi) (fun e => hf'b (e ▸ hi)))
  have hwf : (Lit.int .i64 x).wf = true := wfI (by omega) (by omega)
  go_wp2_with ((((with_reducible show wpList _ _ _ (Oper.mk _ (Op.mapUpdate _ _ _ _) _ _ _ _ :: _) _ _)); go_must (refine wpList_updI elemI Tryz.underlying70 rfl _ _ _ rfl hm6 (by decide) hwf y rfl rfl rfl ?_; intro w7 hm7 hO7 hs7; have hh7 := hO7.holds hh6 (Ne.symm hmb); have c72 : w7.cell? ⟨b, o + 2, none⟩ = some (.int .i64 c) := (by rw [hh7.cell, Array.getElem?_setIfInBounds_ne (by omega)]; exact h2); have z72 := hh7.frozen (o + 2))))
  go_end0
  obtain ⟨w8, hw8⟩ : ∃ w8, w7.setCell ⟨b, o + 2, none⟩ (.int .i64 (c + (y - x))) = w8 := ⟨_, rfl⟩
  have htot : totR (addR L x y) = c + (y - x) := by rw [totR_add hsr, hct]
  have hh8 : Holds w8 b t ((cs.setIfInBounds (o + 1) (.slice p5 n5 k5)).setIfInBounds (o + 2) (.int .i64 (c + (y - x)))) := by rw [← hw8]; exact hh7.set _ _
  have hO8 : Only b w7 w8 := by rw [← hw8]; exact (Only.refl b w7).set _ _
  have hr7 := hr6.block (w' := w7) (fun i hi => hO7.block i (hr6.lt i hi) (fun e => hf'm (e ▸ hi)))
  have hr8 := hr7.block (w' := w8) (fun i hi => hO8.block i (hr7.lt i hi) (fun e => hf'b (e ▸ hi)))
  have hm7' : MapAt RI encI w7 m KP (lookR (addR L x y)) := by
    refine MapAt.smallN (hm7.congr (fun v => (lookR_add hsr v).symm)) ?_
    intro u z hz
    have hq := lookR_mem hz
    rcases mem_addR.1 hq with e | e
    · injection e with e1 e2
      subst e1 e2
      unfold topPg; omega
    · have h3 := hbd _ e
      have h4 := hsr.pos _ e
      dsimp only at h3 h4
      unfold topPg at *; omega
  have hm8 : MapAt RI encI w8 m KP (lookR (addR L x y)) := MapAt.block hm7' (hO8.block m (MapAt.lt hm7') hmb)
  have K8 : Keep (SpFoot b (some m) f) w w8 := by
    refine (((Keep.below hB4).trans' (hk5.mono (fun i hi => .inr (.inr hi)))).trans' (Keep.only hO6 (.inl rfl))).trans' ((Keep.only hO7 (.inr (.inl rfl))).trans' (Keep.only hO8 (.inl rfl)))
  refine ⟨rfl, .slice p5 n5 k5, ?_, ⟨srt_add hsr hxy hno, ?_, rfl, ?_, ?_⟩, ?_, ⟨fun i h => .inl h, fun i h => ?_⟩⟩
  · rw [hw8, htot]
    refine hh8.congr ?_
    unfold put3
    rw [set_same h0]
  · intro q hq
    rcases mem_addR.1 hq with e | e
    · subst e
      unfold topPg
      exact ⟨hx, hy⟩
    · exact hbd q e
  · rw [hw8]; exact hm8
  · rw [hw8, fsR_add]; exact hr8
  · rw [hw8]; exact K8
  · rcases hn5 i h with h | h
    · exact .inl h
    · exact .inr (Nat.le_trans hB4.size h)
set_option maxRecDepth 8000 in
set_option maxHeartbeats 1000000 in
theorem sadd_made {w0 : World} {b o : Nat} {t : TypeId} {cs0 : Array Value} (hh0 : Holds w0 b t cs0) (ht : t ≠ 3) {f : Value} {c : Int} {L : Runs} (h00 : cs0[o]? = some (.map none)) (h01 : cs0[o + 1]? = some f) (h02 : cs0[o + 2]? = some (.int .i64 c))
    (a0 : SpAt w0 none f c L) (x y : Int) (hx : 0 ≤ x) (hxy : x < y) (hy : y ≤ topPg) (hno : ∀ n, x ≤ n → n < y → ¬ inR L n) :
    Calls Tryz.prog 41 #[.pointer (some ⟨b, o, none⟩), .int .i64 x, .int .i64 y] w0 fun e w' => e = .returned (.tuple #[]) ∧ ∃ f', Holds w' b t (put3 cs0 o (some w0.heap.size) f' (totR (addR L x y))) ∧ SpAt w' (some w0.heap.size) f' (totR (addR L x y)) (addR L x y) ∧ Keep (SpFoot b none f) w0 w' ∧ SpNew w0 none f (some w0.heap.size) f' := by
  have heq := eql_runs none
  have hmm := @run_makeMap Tryz.prog
  have hL : L = [] := a0.isNil
  have c00 : w0.cell? ⟨b, o, none⟩ = some (.map none) := (hh0.cell o).trans h00
  obtain ⟨m, hm⟩ : ∃ m, w0.heap.size = m := ⟨_, rfl⟩
  obtain ⟨W1, hW1⟩ : ∃ W1, w0.alloc (.map #[] 0) = W1 := ⟨_, rfl⟩
  have hB1 : Below w0.heap.size w0 W1 := by rw [← hW1]; exact below_new1 _ _
  have hh1 := below_holds hB1 hh0
  have c01 : W1.cell? ⟨b, o, none⟩ = some (.map none) := (hh1.cell o).trans h00
  have z01 := hh1.frozen o
  obtain ⟨w, hW2⟩ : ∃ w, W1.setCell ⟨b, o, none⟩ (.map (some m)) = w := ⟨_, rfl⟩
  obtain ⟨cs, hcs⟩ : ∃ cs, cs0.setIfInBounds o (.map (some m)) = cs := ⟨_, rfl⟩
  have hos : o < cs0.size := (Array.getElem?_eq_some_iff.1 h00).1
  have hh : Holds w b t cs := by rw [← hW2, ← hcs]; exact hh1.set _ _
  have hOw : Only b W1 w := by rw [← hW2]; exact (Only.refl b W1).set _ _
  have hb0 := hh0.lt
  have hsz1 : W1.heap.size = m + 1 := by rw [← hW1, ← hm]; simp
  have hmW : MapAt RI encI W1 m KP (lookR L) := by
    rw [hL, ← hW1, ← hm]
    exact MapAt.mono (MapAt.made w0) (Nat.zero_le _)
  have h0 : cs[o]? = some (.map (some m)) := by rw [← hcs, Array.getElem?_setIfInBounds_self_of_lt hos]
  have h1 : cs[o + 1]? = some f := by rw [← hcs, Array.getElem?_setIfInBounds_ne (by omega)]; exact h01
  have h2 : cs[o + 2]? = some (.int .i64 c) := by rw [← hcs, Array.getElem?_setIfInBounds_ne (by omega)]; exact h02
  have hfb0 : f.ownBlock ≠ some b := fun e => by
    obtain ⟨cur, hc⟩ := a0.row.obj b e
    unfold Holds at hc hh0
    rw [hh0] at hc
    injection hc with hc
    injection hc with _ hc
    exact ht hc
  have a : SpAt w (some m) f c L := by
    refine ⟨a0.srt, a0.bnd, a0.cnt, MapAt.block hmW (hOw.block m (by omega) (by omega)), ?_⟩
    refine (a0.row.block (w' := W1) (fun i hi => hB1.block i (a0.row.lt i hi))).block (fun i hi => hOw.block i (Nat.lt_of_lt_of_le (a0.row.lt i hi) hB1.size) (fun e => hfb0 (e ▸ hi)))
  have KW : Keep (SpFoot b none f) w0 w := (Keep.below hB1).trans' (Keep.only hOw (.inl rfl))
  have hpz : ∀ f' c', put3 cs o (some m) f' c' = put3 cs0 o (some m) f' c' := fun f' c' => by
    unfold put3
    rw [← hcs]
    simp
  have HPZ : Hid (∀ f' c', put3 cs o (some m) f' c' = put3 cs0 o (some m) f' c') := hpz
  have HKW : Hid (Keep (SpFoot b none f) w0 w) := KW
  have HSZ : Hid (m + 1 ≤ w.heap.size ∧ w0.heap.size = m) := ⟨by have := hOw.size; omega, hm⟩
  clear hpz KW hOw hsz1 hmW hfb0 hb0 hB1 hh1 hh0 h00 h01 h02 hos hcs hL
  rw [hm]
  have c0 : w.cell? ⟨b, o, none⟩ = some (.map (some m)) := (hh.cell o).trans h0
  have c1 : w.cell? ⟨b, o + 1, none⟩ = some f := (hh.cell _).trans h1
  have hbs := gsearch_any a x
  have hcn := a.count
  have hln := a.len
  unfold topPg at hcn hln hy
  obtain ⟨hcn1, hcn2⟩ := hcn
  have hsr := a.srt
  have hbd := a.bnd
  have hct : totR L = c := a.cnt.symm
  have hmp := a.map
  have hro := a.row
  have hfb : f.ownBlock ≠ some b := fun e => by
    obtain ⟨cur, hc⟩ := hro.obj b e
    unfold Holds at hc hh
    rw [hh] at hc
    injection hc with hc
    injection hc with _ hc
    exact ht hc
  have hmb : m ≠ b := fun e => by
    obtain ⟨es, cl, hc⟩ := hmp.obj m rfl
    unfold Holds at hh
    rw [e, hh] at hc
    cases hc
  have hfm : f.ownBlock ≠ some m := fun e => by
    obtain ⟨cur, hc⟩ := hro.obj m e
    obtain ⟨es, cl, hc'⟩ := hmp.obj m rfl
    unfold Holds at hc
    rw [hc] at hc'
    cases hc'
  have hat : atR L x ≤ (fsR L).length := by rw [fsR_len]; exact atR_le L x
  have hl2 : (fsR L).length < 2000000000000 := by rw [fsR_len]; omega
  have hmlt := hmp.lt m rfl
  have hblt := hh.lt
  clear a a0
  go_enter Tryz.func41, Tryz.ntmps41
  go_wp2_with fail
  refine hbs.mono ?_
  rintro e w3 ⟨rfl, q, rfl⟩
  clear hbs
  obtain ⟨W4, hW4⟩ : ∃ W, (w.drewN q).alloc (Obj.cells #[Value.int IntKind.i64 x] 3) = W := ⟨_, rfl⟩
  have hB4 : Below w.heap.size w W4 := by rw [← hW4]; have := below_new1 (w.drewN q) (Obj.cells #[Value.int IntKind.i64 x] 3); exact ⟨this.os, this.tape, this.output, this.size, this.block⟩
  have hv4 : Holds W4 w.heap.size 3 #[.int .i64 x] := by rw [← hW4]; exact Holds.new (w.drewN q) _ _
  have hr4 := hro.block (w' := W4) (fun i hi => hB4.block i (hro.lt i hi))
  have hins := ginsert_any hr4 (atR L x) hat hl2 x hv4 (fun e => by have := hro.lt _ e; omega)
  have hh4 := below_holds hB4 hh
  have hm4 : MapAt RI encI W4 m KP (lookR L) := MapAt.block hmp (hB4.block m hmlt)
  go_wp2_with fail
  refine hins.mono ?_
  rintro e w5 ⟨f', rfl, hr5, hk5, hn5⟩
  clear hins
  obtain ⟨p5, n5, k5, rfl⟩ := hr5.shape
  have hh5 := hk5.holds hh4 hfb
  have hm5 : MapAt RI encI w5 m KP (lookR L) := MapAt.block hm4 (hk5.block m (Nat.lt_of_lt_of_le hmlt hB4.size) hfm)
  have hf'b : (Value.slice p5 n5 k5).ownBlock ≠ some b := fun e => by
    rcases hn5 b e with h | h
    · exact hfb h
    · have := hB4.size; omega
  have hf'm : (Value.slice p5 n5 k5).ownBlock ≠ some m := fun e => by
    rcases hn5 m e with h | h
    · exact hfm h
    · have := hB4.size; omega
  have c51 : w5.cell? ⟨b, o + 1, none⟩ = some f := (hh5.cell _).trans h1
  have z51 := hh5.frozen (o + 1)
  obtain ⟨w6, hw6⟩ : ∃ w6, w5.setCell ⟨b, o + 1, none⟩ (.slice p5 n5 k5) = w6 := ⟨_, rfl⟩
  have hh6 : Holds w6 b t (cs.setIfInBounds (o + 1) (.slice p5 n5 k5)) := by rw [← hw6]; exact hh5.set _ _
  have hO6 : Only b w5 w6 := by rw [← hw6]; exact (Only.refl b w5).set _ _
  have c60 : w6.cell? ⟨b, o, none⟩ = some (.map (some m)) := by rw [hh6.cell, Array.getElem?_setIfInBounds_ne (by omega)]; exact h0
  have hlt5 : m < w5.heap.size := Nat.lt_of_lt_of_le (Nat.lt_of_lt_of_le hmlt hB4.size) hk5.size
  have hm6 : MapAt RI encI w6 m KP (lookR L) := MapAt.block hm5 (hO6.block m hlt5 hmb)
  have hr6 := hr5.block (w' := w6) (fun i hi => hO6.block i (hr5.lt i hi) (fun e => hf'b (e ▸ hi)))
  have hwf : (Lit.int .i64 x).wf = true := wfI (by omega) (by omega)
  go_wp2_with ((((with_reducible show wpList _ _ _ (Oper.mk _ (Op.mapUpdate _ _ _ _) _ _ _ _ :: _) _ _)); go_must (refine wpList_updI elemI Tryz.underlying70 rfl _ _ _ rfl hm6 (by decide) hwf y rfl rfl rfl ?_; intro w7 hm7 hO7 hs7; have hh7 := hO7.holds hh6 (Ne.symm hmb); have c72 : w7.cell? ⟨b, o + 2, none⟩ = some (.int .i64 c) := (by rw [hh7.cell, Array.getElem?_setIfInBounds_ne (by omega)]; exact h2); have z72 := hh7.frozen (o + 2))))
  go_end0
  obtain ⟨w8, hw8⟩ : ∃ w8, w7.setCell ⟨b, o + 2, none⟩ (.int .i64 (c + (y - x))) = w8 := ⟨_, rfl⟩
  have htot : totR (addR L x y) = c + (y - x) := by rw [totR_add hsr, hct]
  have hh8 : Holds w8 b t ((cs.setIfInBounds (o + 1) (.slice p5 n5 k5)).setIfInBounds (o + 2) (.int .i64 (c + (y - x)))) := by rw [← hw8]; exact hh7.set _ _
  have hO8 : Only b w7 w8 := by rw [← hw8]; exact (Only.refl b w7).set _ _
  have hr7 := hr6.block (w' := w7) (fun i hi => hO7.block i (hr6.lt i hi) (fun e => hf'm (e ▸ hi)))
  have hr8 := hr7.block (w' := w8) (fun i hi => hO8.block i (hr7.lt i hi) (fun e => hf'b (e ▸ hi)))
  have hm7' : MapAt RI encI w7 m KP (lookR (addR L x y)) := by
    refine MapAt.smallN (hm7.congr (fun v => (lookR_add hsr v).symm)) ?_
    intro u z hz
    have hq := lookR_mem hz
    rcases mem_addR.1 hq with e | e
    · injection e with e1 e2
      subst e1 e2
      unfold topPg; omega
    · have h3 := hbd _ e
      have h4 := hsr.pos _ e
      dsimp only at h3 h4
      unfold topPg at *; omega
  have hm8 : MapAt RI encI w8 m KP (lookR (addR L x y)) := MapAt.block hm7' (hO8.block m (MapAt.lt hm7') hmb)
  have K8 : Keep (SpFoot b (some m) f) w w8 := by
    refine (((Keep.below hB4).trans' (hk5.mono (fun i hi => .inr (.inr hi)))).trans' (Keep.only hO6 (.inl rfl))).trans' ((Keep.only hO7 (.inr (.inl rfl))).trans' (Keep.only hO8 (.inl rfl)))
  refine ⟨rfl, .slice p5 n5 k5, ?_, ⟨srt_add hsr hxy hno, ?_, rfl, ?_, ?_⟩, ?_, ⟨fun i h => by injection h with h; have h6 := HSZ.out; exact .inr (by omega), fun i h => ?_⟩⟩
  · rw [hw8, htot]
    refine hh8.congr ?_
    rw [← HPZ.out]
    unfold put3
    rw [set_same h0]
  · intro q hq
    rcases mem_addR.1 hq with e | e
    · subst e
      unfold topPg
      exact ⟨hx, hy⟩
    · exact hbd q e
  · rw [hw8]; exact hm8
  · rw [hw8, fsR_add]; exact hr8
  · rw [hw8]; exact HKW.out.trans K8 (fun i hi => by
      rcases hi with h | h | h
      · exact .inl (.inl h)
      · injection h with h; have h6 := HSZ.out; exact .inr (by omega)
      · exact .inl (.inr (.inr h)))
  · rcases hn5 i h with h | h
    · exact .inl h
    · have h9 := hB4.size
      have h8 := HSZ.out
      exact .inr (by omega)
/-- The runs then. -/
def addI (L : Runs) (x y : Int) : Runs := if x < y then addR L x y else L
theorem put3_same {cs : Array Value} {o : Nat} {r : Option Nat} {f : Value} {c : Int} (h0 : cs[o]? = some (.map r)) (h1 : cs[o + 1]? = some f) (h2 : cs[o + 2]? = some (.int .i64 c)) : put3 cs o r f c = cs := by
  unfold put3
  rw [set_same h0, set_same h1, set_same h2]
theorem sadd_any {w : World} {b o : Nat} {t : TypeId} {cs : Array Value} (hh : Holds w b t cs) (ht : t ≠ 3) {r : Option Nat} {f : Value} {c : Int} {L : Runs} (h0 : cs[o]? = some (.map r)) (h1 : cs[o + 1]? = some f) (h2 : cs[o + 2]? = some (.int .i64 c))
    (a : SpAt w r f c L) (x y : Int) (hx : 0 ≤ x) (hy : y ≤ topPg) (hno : ∀ n, x ≤ n → n < y → ¬ inR L n) :
    Calls Tryz.prog 41 #[.pointer (some ⟨b, o, none⟩), .int .i64 x, .int .i64 y] w fun e w' => e = .returned (.tuple #[]) ∧ ∃ r' f', Holds w' b t (put3 cs o r' f' (totR (addI L x y))) ∧ SpAt w' r' f' (totR (addI L x y)) (addI L x y) ∧ Keep (SpFoot b r f) w w' ∧ SpNew w r f r' f' := by
  unfold addI
  by_cases hxy : x < y
  · rw [if_pos hxy]
    cases r with
    | none =>
      refine (sadd_made hh ht h0 h1 h2 a x y hx hxy hy hno).mono ?_
      rintro e w' ⟨rfl, f', h⟩
      exact ⟨rfl, _, f', h⟩
    | some m =>
      refine (sadd_some hh ht h0 h1 h2 a x y hx hxy hy hno).mono ?_
      rintro e w' ⟨rfl, f', h⟩
      exact ⟨rfl, _, f', h⟩
  · rw [if_neg hxy]
    refine (sadd_none x y hxy).mono ?_
    rintro e w' ⟨rfl, rfl⟩
    have hc := a.cnt
    subst hc
    exact ⟨rfl, r, f, by rw [put3_same h0 h1 h2]; exact hh, a, Keep.refl _ _, fun i h => .inl h, fun i h => .inl h⟩
end Go.Proofs.YtjklcnknbcmgoaaGreatDoor
/-
  A map's entry that is made first, and gets its value then.
-/
namespace Go.Proofs.YtjklcnknbcmgoaaGreatDoor
open Go Go.RowKit Go.Maps Go.MapKept Go.ChangeMaps

theorem then_normalS {K : Act → World → Prop} {Q : Exit → Act → World → Prop} {a : Act} {w : World} (h : K a w) : Exit.then K Q .normal a w := h
theorem findIdx_new (es : Array MapEntry) (x : MapEntry) (c : Int) (h : ∀ y ∈ es.toList, ((y.born : Nat) : Int) ≠ c) (hx : ((x.born : Nat) : Int) = c) : (es.push x).findIdx? (fun e => ((e.born : Nat) : Int) == c) = some es.size := by
  rw [Array.findIdx?_push]
  have h0 : es.findIdx? (fun e => ((e.born : Nat) : Int) == c) = none := by
    rw [Array.findIdx?_eq_none_iff]
    intro y hy
    have := h y (by simpa using hy)
    simpa using this
  rw [h0]
  simp [hx]
theorem modify_push (es : Array MapEntry) (a : MapEntry) (f : MapEntry → MapEntry) : (es.push a).modify es.size f = es.push (f a) := by
  apply Array.ext_getElem?
  intro i
  rw [Array.getElem?_modify, Array.getElem?_push, Array.getElem?_push]
  by_cases h : i = es.size
  · subst h; simp
  · rw [if_neg (fun e => h e.symm), if_neg h, if_neg h]
section
variable {α : Type} {enc : α → DataW Unit} {R : Value → Option (DataW Unit × List MemPlace)} {mk : α → Value} {t e : TypeId}
theorem MapAt.entry (E : Elem R mk enc) (ht : Tryz.prog.underlying t = some (.map 3 e)) {z : α} (hz : ∀ w, (zeroValue e).run Tryz.prog w = .ok (mk z) w) {w : World} {m n : Nat} {M : Int → Option α} (h : MapAt R enc w m n M) (hn : n < maxLen) {u : Int} (hu : (Lit.int .i64 u).wf = true) (hnone : M u = none) (x : α) :
    ∃ st w1, (Instr.mapEntry t (.map (some m)) (.int .i64 u)).run Tryz.prog w = .ok (.tuple #[mk z, .int .i64 st]) w1 ∧ Only m w w1 ∧ w1.heap.size = w.heap.size ∧
      ∃ w2, (Instr.entryStore t (.map (some m)) (.int .i64 st) (mk x)).run Tryz.prog w1 = .ok () w2 ∧ MapAt R enc w2 m (n + 1) (setM M u (some x)) ∧ Only m w w2 ∧ w2.heap.size = w.heap.size := by
  have hl := h.look E ht (hz w) hu true
  obtain ⟨w', hrun, r1, r2, r3⟩ := h.upd E ht hn hu x
  obtain ⟨D, ⟨es, clock, hb, F, hs, hD⟩, hr⟩ := h
  have hkey := keyOf_u hu
  have hchk := keyed3.check w false hkey
  have hchk2 := keyed3.check w es.isEmpty hkey
  rcases keyed3.find w hkey es.toList (fun e he => by obtain ⟨y, hy⟩ := F.reads e he; exact ⟨_, WideElems.rd_key hy⟩) with ⟨h1, h2⟩ | ⟨j, e0, h1, h2, h3⟩
  · obtain ⟨s1, _, _⟩ := F.stamped
    have hup : (Instr.mapUpdate t (.map (some m)) (.int .i64 u) (mk x)).run Tryz.prog w = .ok () (setBlock w m (.map (es.push ⟨.int .i64 u, mk x, clock⟩) (clock + 1))) := by
      simp [Instr.mapUpdate, run_underlying ht, MapKept.run_getObj_map hb, hchk, h1, MapKept.run_setObj_map _ hb, Result.andThen, setBlock]
    rw [hup] at hrun
    injection hrun with _ hw
    have hb1 : (setBlock w m (.map (es.push ⟨.int .i64 u, mk z, clock⟩) (clock + 1))).heap[m]? = some (.map (es.push ⟨.int .i64 u, mk z, clock⟩) (clock + 1)) := heap_setBlock_same hb _
    refine ⟨clock, setBlock w m (.map (es.push ⟨.int .i64 u, mk z, clock⟩) (clock + 1)), ?_, ⟨rfl, rfl, rfl, by simp [setBlock], fun k _ hk => heap_setBlock_other hb _ (fun e => hk e)⟩, by simp [setBlock], w', ?_, r1, r2, r3⟩
    · simp [Instr.mapEntry, run_underlying ht, MapKept.run_getObj_map hb, hchk, h1, hz, MapKept.run_setObj_map _ hb, Result.andThen, setBlock, goInt]
    · have hix := findIdx_new es ⟨.int .i64 u, mk z, clock⟩ (clock : Int) (fun y hy e => by have := s1 y hy; omega) rfl
      rw [← hw]
      simp [Instr.entryStore, MapKept.run_getObj_map hb1, asInt, asIntOf, hix, MapKept.run_setObj_map _ hb1, Result.andThen]
      simp [setBlock]
      rw [modify_push]
  · exfalso
    simp [Instr.lookup, run_underlying ht, MapKept.run_getObj_map hb, hchk2, h1, Result.andThen, hnone] at hl
end
end Go.Proofs.YtjklcnknbcmgoaaGreatDoor
