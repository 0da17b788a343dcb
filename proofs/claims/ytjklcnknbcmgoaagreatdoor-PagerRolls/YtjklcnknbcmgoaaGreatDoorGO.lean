/-
  Texts of this claim, put together.
-/
import Derived.Test.YtjklcnknbcmgoaaGreatDoorGN
import Derived.Test.YtjklcnknbcmgoaaGreatDoorGL
/-
  A transaction of the law's, on its way: the pager, the boxes, and the rows of the next state.
-/
namespace Go.Proofs.YtjklcnknbcmgoaaGreatDoor
open Go Go.RowKit Go.Maps

theorem infoStG : (Tryz.prog.info? 34).map (·.size) = some 3 := by kernel_rfl
theorem OI.obj {w : World} {base : Nat} {v : Value} {zs : List Int} (h : OI w base v zs) {k : Nat} (hk : v.ownBlock = some k) : ∃ cur, Holds w k 3 cur := by
  rcases h.2 with ⟨rfl, _⟩ | ⟨g, cap, cur, rfl, hb, hg, _⟩
  · cases hk
  · simp [Value.ownBlock] at hk
    subst hk
    exact ⟨cur, hg⟩
theorem OT.obj {w : World} {base : Nat} {v : Value} {ts : List ByteArray} (h : OT w base v ts) {k : Nat} (hk : v.ownBlock = some k) : ∃ cur, Holds w k 9 cur := by
  rcases h.2 with ⟨rfl, _⟩ | ⟨g, cap, cur, rfl, hb, hg, _⟩
  · cases hk
  · simp [Value.ownBlock] at hk
    subst hk
    exact ⟨cur, hg⟩
theorem PgAt.notBlk {w : World} {b : Nat} {H : Hs} {S : St} (a : PgAt w b H S) {k : Nat} {t : TypeId} {cs : Array Value} (h : Holds w k t cs) (h1 : t ≠ 64) (h2 : t ≠ 94) (hf : ¬ PgFoot b H k) : ¬ PgBlk b H k := by
  rintro (q | q | q | q | q | q)
  · exact hf (.inl q)
  · exact hf (.inr (.inl q))
  · exact hf (.inr (.inr (.inl q)))
  · exact hf (.inr (.inr (.inr (.inl q))))
  · exact hf (.inr (.inr (.inr (.inr (.inl q)))))
  · exact a.disk.notIn h h1 h2 q
/-- Blocks that are kept are turned by others. -/
theorem Pk.turn {G T : Nat → Prop} {w0 w w' : World} {b : Nat} {H : Hs} {S : St} {N : Nat} (p : Pk G w0 w b H S N) (hk : Keep T w w') (hT : ∀ k, T k → G k ∧ w0.heap.size ≤ k ∧ ∃ t cs, Holds w k t cs ∧ t ≠ 64 ∧ t ≠ 94) : Pk G w0 w' b H S N :=
  ⟨p.at_.kept (fun k hb => hk.block k (p.at_.lt k hb) (fun q => by
    obtain ⟨g1, g2, t, cs, g3, g4, g5⟩ := hT k q
    exact p.at_.notBlk g3 g4 g5 (fun hf => (p.foot k hf).2 g1) hb)), p.foot, hk.fresh p.blw (fun k q => (hT k q).2.1), fun k g => Nat.lt_of_lt_of_le (p.kept k g) hk.size, p.ok, p.cm, p.br⟩
theorem Pk.mono {G : Nat → Prop} {w0 w : World} {b : Nat} {H : Hs} {S : St} {N M : Nat} (p : Pk G w0 w b H S N) (h : N ≤ M) : Pk G w0 w b H S M := ⟨p.at_, p.foot, p.blw, p.kept, p.ok.mono h, p.cm, p.br⟩
/-- What is kept on the way. -/
def PG (G : Nat → Prop) (g1 g2 g3 g4 : Nat) (vp vt : Value) (k : Nat) : Prop := G k ∨ (k = g1 ∨ k = g2 ∨ k = g3 ∨ k = g4) ∨ vp.ownBlock = some k ∨ vt.ownBlock = some k
structure PM (G : Nat → Prop) (w0 w wr : World) (b : Nat) (H : Hs) (S : St) (N : Nat) (g1 g2 g3 g4 : Nat) (c1 c2 : Array Value) (tx : Int) (vp vt : Value) (ps : List Int) (ts : List ByteArray) : Prop where
  pk : Pk (PG G g1 g2 g3 g4 vp vt) w0 wr b H S N
  b1 : Holds wr g1 34 c1
  b2 : Holds wr g2 36 c2
  b3 : Holds wr g3 34 #[.int .i64 0, .slice none 0 0, .slice none 0 0]
  b4 : Holds wr g4 34 #[.int .i64 tx, vp, vt]
  oi : OI wr w.heap.size vp ps
  ot : OT wr w.heap.size vt ts
  same : SameG G w wr
  dist : (w.heap.size ≤ g1 ∧ w.heap.size ≤ g2 ∧ w.heap.size ≤ g3 ∧ w.heap.size ≤ g4) ∧ g1 ≠ g4 ∧ g3 ≠ g4 ∧ g1 ≠ g3
  wid : w0.heap.size ≤ w.heap.size ∧ ∀ k, G k → k < w.heap.size
section
variable {G : Nat → Prop} {w0 w wr : World} {b : Nat} {H : Hs} {S : St} {N : Nat} {g1 g2 g3 g4 : Nat} {c1 c2 : Array Value} {tx : Int} {vp vt : Value} {ps : List Int} {ts : List ByteArray}
theorem SameG.holds {wr w' : World} {Q : Nat → Prop} (h : SameG Q wr w') {k : Nat} {t : TypeId} {cs : Array Value} (hh : Holds wr k t cs) (hk : Q k) : Holds w' k t cs := by
  unfold Holds at *
  rw [h k hk]; exact hh
/-- Behind a call of the pager. -/
theorem PM.call (h : PM G w0 w wr b H S N g1 g2 g3 g4 c1 c2 tx vp vt ps ts) {w' : World} {H' : Hs} {S' : St} {N' : Nat} (p : Pk (PG G g1 g2 g3 g4 vp vt) w0 w' b H' S' N') (s : SameG (PG G g1 g2 g3 g4 vp vt) wr w') : PM G w0 w w' b H' S' N' g1 g2 g3 g4 c1 c2 tx vp vt ps ts :=
  ⟨p, s.holds h.b1 (.inr (.inl (.inl rfl))), s.holds h.b2 (.inr (.inl (.inr (.inl rfl)))), s.holds h.b3 (.inr (.inl (.inr (.inr (.inl rfl))))), s.holds h.b4 (.inr (.inl (.inr (.inr (.inr rfl))))), h.oi.block (fun k hk => s k (.inr (.inr (.inl hk)))), h.ot.block (fun k hk => s k (.inr (.inr (.inr hk)))), fun k hk => (s k (.inl hk)).trans (h.same k hk), h.dist, h.wid⟩
theorem PM.below (h : PM G w0 w wr b H S N g1 g2 g3 g4 c1 c2 tx vp vt ps ts) {w' : World} (hB : Below wr.heap.size wr w') : PM G w0 w w' b H S N g1 g2 g3 g4 c1 c2 tx vp vt ps ts :=
  h.call (h.pk.below hB) (fun k hk => hB.block k (h.pk.kept k hk))
theorem Keep.grow {row : Option Nat} {w w' : World} (h : w.grownBy w' row) : Keep (fun k => row = some k) w w' := grown_keep h
/-- The row of pages has grown by one. -/
theorem PM.appI (h : PM G w0 w wr b H S N g1 g2 g3 g4 c1 c2 tx vp vt ps ts) {v : Value} {z : Int} {w1 w2 : World} (hoi : OI w1 w.heap.size v (ps ++ [z])) (hg : wr.grownBy w1 vp.ownBlock) (hv : v.ownBlock = vp.ownBlock ∨ v.ownBlock = some wr.heap.size) (hO : Only g4 w1 w2) (hh : Holds w2 g4 34 #[.int .i64 tx, v, vt]) : PM G w0 w w2 b H S N g1 g2 g3 g4 c1 c2 tx v vt (ps ++ [z]) ts := by
  obtain ⟨⟨d1, d2, d3, d4⟩, d5, d6, d7⟩ := h.dist
  have nrow : ∀ {k : Nat} {t : TypeId} {cs : Array Value}, Holds wr k t cs → t ≠ 3 → vp.ownBlock ≠ some k := fun hk ht e => by
    obtain ⟨cur, hc⟩ := h.oi.obj e
    exact hk.ne hc ht rfl
  have k1 := grown_keep hg
  have q1 := h.pk.turn k1 (fun k hk => by
    obtain ⟨cur, hc⟩ := h.oi.obj hk
    exact ⟨.inr (.inr (.inl hk)), Nat.le_trans h.wid.1 (h.oi.new k hk).1, _, _, hc, by decide, by decide⟩)
  have b11 := k1.holds h.b1 (nrow h.b1 (by decide))
  have b21 := k1.holds h.b2 (nrow h.b2 (by decide))
  have b31 := k1.holds h.b3 (nrow h.b3 (by decide))
  have b41 := k1.holds h.b4 (nrow h.b4 (by decide))
  have q2 := q1.turn (T := fun k => k = g4) (Keep.only hO rfl) (fun k hk => by
    subst hk
    exact ⟨.inr (.inl (.inr (.inr (.inr rfl)))), Nat.le_trans h.wid.1 d4, _, _, b41, by decide, by decide⟩)
  have hnt : ∀ k, vt.ownBlock = some k → w2.heap[k]? = wr.heap[k]? := fun k hk => by
    obtain ⟨cur, hc⟩ := h.ot.obj hk
    have e1 := k1.holds hc (nrow hc (by decide))
    have n4 : k ≠ g4 := e1.ne b41 (by decide)
    rw [hO.block k e1.lt n4, k1.block k hc.lt (nrow hc (by decide))]
  have hnv : ∀ k, v.ownBlock = some k → k ≠ g4 := fun k hk => by
    obtain ⟨cur, hc⟩ := hoi.obj hk
    exact hc.ne b41 (by decide)
  refine ⟨⟨q2.at_, fun k hf => ⟨(q2.foot k hf).1, ?_⟩, q2.blw, ?_, q2.ok, q2.cm, q2.br⟩, hO.holds b11 d5, hO.holds b21 (b21.ne b41 (by decide)), hO.holds b31 d6, hh, hoi.block (fun k hk => hO.block k (hoi.new k hk).2 (hnv k hk)), h.ot.block hnt, fun k hk => ?_, h.dist, h.wid⟩
  · rintro (g | g | g | g)
    · exact (q2.foot k hf).2 (.inl g)
    · exact (q2.foot k hf).2 (.inr (.inl g))
    · rcases hv with e | e
      · exact (q2.foot k hf).2 (.inr (.inr (.inl (e ▸ g))))
      · rw [e] at g
        injection g with g
        have := h.pk.at_.lt k hf.blk
        omega
    · exact (q2.foot k hf).2 (.inr (.inr (.inr g)))
  · rintro k (g | g | g | g)
    · exact q2.kept k (.inl g)
    · exact q2.kept k (.inr (.inl g))
    · exact Nat.lt_of_lt_of_le (hoi.new k g).2 hO.size
    · exact q2.kept k (.inr (.inr (.inr g)))
  · have hlt := h.wid.2 k hk
    have hlt2 := h.pk.kept k (.inl hk)
    rw [hO.block k (Nat.lt_of_lt_of_le hlt2 k1.size) (by omega), k1.block k hlt2 (fun e => by have := (h.oi.new k e).1; omega)]
    exact h.same k hk
/-- The row of texts has grown by one. -/
theorem PM.appT (h : PM G w0 w wr b H S N g1 g2 g3 g4 c1 c2 tx vp vt ps ts) {v : Value} {z : ByteArray} {w1 w2 : World} (hot : OT w1 w.heap.size v (ts ++ [z])) (hg : wr.grownBy w1 vt.ownBlock) (hv : v.ownBlock = vt.ownBlock ∨ v.ownBlock = some wr.heap.size) (hO : Only g4 w1 w2) (hh : Holds w2 g4 34 #[.int .i64 tx, vp, v]) : PM G w0 w w2 b H S N g1 g2 g3 g4 c1 c2 tx vp v ps (ts ++ [z]) := by
  obtain ⟨⟨d1, d2, d3, d4⟩, d5, d6, d7⟩ := h.dist
  have nrow : ∀ {k : Nat} {t : TypeId} {cs : Array Value}, Holds wr k t cs → t ≠ 9 → vt.ownBlock ≠ some k := fun hk ht e => by
    obtain ⟨cur, hc⟩ := h.ot.obj e
    exact hk.ne hc ht rfl
  have k1 := grown_keep hg
  have q1 := h.pk.turn k1 (fun k hk => by
    obtain ⟨cur, hc⟩ := h.ot.obj hk
    exact ⟨.inr (.inr (.inr hk)), Nat.le_trans h.wid.1 (h.ot.new k hk).1, _, _, hc, by decide, by decide⟩)
  have b11 := k1.holds h.b1 (nrow h.b1 (by decide))
  have b21 := k1.holds h.b2 (nrow h.b2 (by decide))
  have b31 := k1.holds h.b3 (nrow h.b3 (by decide))
  have b41 := k1.holds h.b4 (nrow h.b4 (by decide))
  have q2 := q1.turn (T := fun k => k = g4) (Keep.only hO rfl) (fun k hk => by
    subst hk
    exact ⟨.inr (.inl (.inr (.inr (.inr rfl)))), Nat.le_trans h.wid.1 d4, _, _, b41, by decide, by decide⟩)
  have hnt : ∀ k, vp.ownBlock = some k → w2.heap[k]? = wr.heap[k]? := fun k hk => by
    obtain ⟨cur, hc⟩ := h.oi.obj hk
    have e1 := k1.holds hc (nrow hc (by decide))
    have n4 : k ≠ g4 := e1.ne b41 (by decide)
    rw [hO.block k e1.lt n4, k1.block k hc.lt (nrow hc (by decide))]
  have hnv : ∀ k, v.ownBlock = some k → k ≠ g4 := fun k hk => by
    obtain ⟨cur, hc⟩ := hot.obj hk
    exact hc.ne b41 (by decide)
  refine ⟨⟨q2.at_, fun k hf => ⟨(q2.foot k hf).1, ?_⟩, q2.blw, ?_, q2.ok, q2.cm, q2.br⟩, hO.holds b11 d5, hO.holds b21 (b21.ne b41 (by decide)), hO.holds b31 d6, hh, h.oi.block hnt, hot.block (fun k hk => hO.block k (hot.new k hk).2 (hnv k hk)), fun k hk => ?_, h.dist, h.wid⟩
  · rintro (g | g | g | g)
    · exact (q2.foot k hf).2 (.inl g)
    · exact (q2.foot k hf).2 (.inr (.inl g))
    · exact (q2.foot k hf).2 (.inr (.inr (.inl g)))
    · rcases hv with e | e
      · exact (q2.foot k hf).2 (.inr (.inr (.inr (e ▸ g))))
      · rw [e] at g
        injection g with g
        have := h.pk.at_.lt k hf.blk
        omega
  · rintro k (g | g | g | g)
    · exact q2.kept k (.inl g)
    · exact q2.kept k (.inr (.inl g))
    · exact q2.kept k (.inr (.inr (.inl g)))
    · exact Nat.lt_of_lt_of_le (hot.new k g).2 hO.size
  · have hlt := h.wid.2 k hk
    have hlt2 := h.pk.kept k (.inl hk)
    rw [hO.block k (Nat.lt_of_lt_of_le hlt2 k1.size) (by omega), k1.block k hlt2 (fun e => by have := (h.ot.new k e).1; omega)]
    exact h.same k hk
end
end Go.Proofs.YtjklcnknbcmgoaaGreatDoor
/-
  Steps of the law's plays: loads and stores of rows, a shift, what follows a region that draws.
-/
namespace Go.Proofs.YtjklcnknbcmgoaaGreatDoor
open Go Go.RowKit Go.Maps

def HaltG (p : Prop) : Prop := p
theorem HaltG.out {p : Prop} (h : HaltG p) : p := h
theorem wp_then_G {ι : Type} {c : Code} {K : Act → World → Prop} {Q : Exit → Act → World → Prop} {a : Act} {w : World} (F : ι → Act → Act) (Inv : ι → World → Prop) (h1 : c.wp Tryz.prog (Exit.then (fun a' w' => ∃ i, a' = F i a ∧ Inv i w') Q) a w) (h2 : ∀ i w', Inv i w' → K (F i a) w') : c.wp Tryz.prog (Exit.then K Q) a w := by
  refine Code.wp_mono (fun e a' w' h => ?_) h1
  cases e with
  | normal =>
    obtain ⟨i, e1, e2⟩ : ∃ i, a' = F i a ∧ Inv i w' := h
    show K a' w'
    rw [e1]
    exact h2 i w' e2
  | _ => exact h
theorem wp_then_B {ι : Type} {c : Code} {m : Nat} {K : Act → World → Prop} {Q : Exit → Act → World → Prop} {a : Act} {w : World} (F : ι → Act → Act) (Inv : ι → World → Prop) (h1 : c.wp Tryz.prog (Exit.then (fun a' w' => ∃ i, a' = F i a ∧ Inv i w') (Exit.inBlock m (Exit.then K Q))) a w) (h2 : ∀ i w', Inv i w' → K (F i a) w') : c.wp Tryz.prog (Exit.inBlock m (Exit.then K Q)) a w := by
  refine Code.wp_mono (fun e a' w' h => ?_) h1
  cases e with
  | normal =>
    obtain ⟨i, e1, e2⟩ : ∃ i, a' = F i a ∧ Inv i w' := h
    show K a' w'
    rw [e1]
    exact h2 i w' e2
  | _ => exact h
theorem wpList_valS {ops : Array Oper} {rest : List Oper} {o : Oper} {a : Act} {w : World} {Q : Exit → Act → World → Prop} (d : Option Tmp) (hdd : o.dst = d) (hw : Region.wanted o (yielded ops a.tmps) = true) {v : Value} (hv : (execOp a.eval o).run Tryz.prog w = .ok (.value v) w) (h : wpList Tryz.prog ops Q rest (a.put d v) w) : wpList Tryz.prog ops Q (o :: rest) a w :=
  BigFrame.wpList_want hw fun K hK => by
    unfold Oper.wp
    rw [hv]
    show K (a.put o.dst v) w
    rw [hdd]
    exact hK _ _ h
theorem shr_val (x : Int) (i : Nat) (hi : i < 60) (ρ : Operand → Value) (o : Oper) (y z : Operand) (ty ty2 : TypeId) (ho : o.op = .binOp .shr ty y z ty2) (hy : ρ y = .int .i64 x) (hz : ρ z = .int .u64 (i : Nat)) (w : World) : (execOp ρ o).run Tryz.prog w = .ok (.value (.int .i64 (x / 2 ^ i))) w := by
  unfold execOp
  simp only [ho, hy, hz]
  simp [binOp, go_sem]
theorem ldSlG {w : World} {ad : Addr} {p : Option Addr} {n c : Nat} (h : w.cell? ad = some (.slice p n c)) : (loadVar 31 ad).run Tryz.prog w = .ok (.slice p n c) w := by simp [go_sem, h]
theorem ldSsG {w : World} {ad : Addr} {p : Option Addr} {n c : Nat} (h : w.cell? ad = some (.slice p n c)) : (loadVar 32 ad).run Tryz.prog w = .ok (.slice p n c) w := by simp [go_sem, h]
theorem ldTxG {w : World} {ad : Addr} {s : ByteArray} (h : w.cell? ad = some (.string s)) : (loadVar 9 ad).run Tryz.prog w = .ok (.string s) w := by simp [go_sem, h]
theorem ldU8G {w : World} {ad : Addr} {x : Int} (h : w.cell? ad = some (.int .u8 x)) : (loadVar 5 ad).run Tryz.prog w = .ok (.int .u8 x) w := by simp [go_sem, h]
theorem stSl1 {w : World} {g : Nat} {a b c : Value} (h : Holds w g 34 #[a, b, c]) (p : Option Addr) (n k : Nat) : (storeVar 31 ⟨g, 1, none⟩ (.slice p n k)).run Tryz.prog w = .ok () (w.setCell ⟨g, 1, none⟩ (.slice p n k)) ∧ Holds (w.setCell ⟨g, 1, none⟩ (.slice p n k)) g 34 #[a, .slice p n k, c] ∧ Only g w (w.setCell ⟨g, 1, none⟩ (.slice p n k)) := by
  refine ⟨?_, h.set 1 _, (Only.refl g w).set 1 _⟩
  have h1 := h.cell 1
  have h2 := h.frozen 1
  simp [go_sem, h1, h2]
theorem stSl2 {w : World} {g : Nat} {a b c : Value} (h : Holds w g 34 #[a, b, c]) (p : Option Addr) (n k : Nat) : (storeVar 32 ⟨g, 2, none⟩ (.slice p n k)).run Tryz.prog w = .ok () (w.setCell ⟨g, 2, none⟩ (.slice p n k)) ∧ Holds (w.setCell ⟨g, 2, none⟩ (.slice p n k)) g 34 #[a, b, .slice p n k] ∧ Only g w (w.setCell ⟨g, 2, none⟩ (.slice p n k)) := by
  refine ⟨?_, h.set 2 _, (Only.refl g w).set 2 _⟩
  have h1 := h.cell 2
  have h2 := h.frozen 2
  simp [go_sem, h1, h2]
theorem cell_keep {T : Nat → Prop} {w w' : World} {ad : Addr} {v : Value} (h : Keep T w w') (hc : w.cell? ad = some v) (hT : ¬ T ad.block) : w'.cell? ad = some v := by
  rw [World.cell?_of_block (h.block _ (World.block_lt_of_cell? _ _ hc) hT)]
  exact hc
theorem Pgr.usedE {P : Pgr} (h : P.used = true) : ({ P with used := true } : Pgr) = P := by
  cases P
  simp_all
theorem take_one {α : Type} {l : List α} {i : Nat} {x : α} (h : l[i]? = some x) : l.take (i + 1) = l.take i ++ [x] := by
  rw [List.take_add_one, h]
  rfl
theorem keptN_le {α : Type} (f : Nat → Bool) : ∀ (l : List α) (k : Nat), (keptN f k l).length ≤ l.length
  | [], _ => Nat.le_refl _
  | x :: l, k => by
    have ih := keptN_le f l (k + 1)
    simp only [keptN]
    split
    · simp; omega
    · simp; omega
theorem PM.size {G : Nat → Prop} {w0 w wr : World} {b : Nat} {H : Hs} {S : St} {N : Nat} {g1 g2 g3 g4 : Nat} {c1 c2 : Array Value} {tx : Int} {vp vt : Value} {ps : List Int} {ts : List ByteArray} (h : PM G w0 w wr b H S N g1 g2 g3 g4 c1 c2 tx vp vt ps ts) : w.heap.size ≤ wr.heap.size := by
  have h1 := h.b1.lt
  have h2 := h.dist.1.1
  omega
theorem not_mem_take {l : List Int} (hn : l.Nodup) {i : Nat} {z : Int} (hz : l[i]? = some z) : z ∉ l.take i := fun h => by
  obtain ⟨j, hj⟩ := List.getElem?_of_mem h
  have hl := (List.getElem?_eq_some_iff.1 hj).1
  rw [List.length_take] at hl
  rw [List.getElem?_take_of_lt (by omega)] at hj
  obtain ⟨b1, c1⟩ := List.getElem?_eq_some_iff.1 hj
  obtain ⟨b2, c2⟩ := List.getElem?_eq_some_iff.1 hz
  exact (List.pairwise_iff_getElem.1 hn) j i b1 b2 (by omega) (c1.trans c2.symm)
/-- Which pages a transaction frees. -/
def freeB (fr : Int) (i : Nat) : Bool := decide (i < 60) && decide (fr / 2 ^ i % 2 = 1)
end Go.Proofs.YtjklcnknbcmgoaaGreatDoor
