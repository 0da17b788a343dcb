/-
  Texts of this claim, put together.
-/
import Derived.Test.YtjklcnknbcmgoaaGreatDoorGI
import Derived.Test.YtjklcnknbcmgoaaGreatDoorGOpenW
import Derived.Maps.RangeWalk
/-
  The steps of a commit.
-/
namespace Go.Proofs.YtjklcnknbcmgoaaGreatDoor
open Go Go.RowKit Go.Maps

theorem PgAt.devcell {w : World} {b : Nat} {H : Hs} {S : St} (a : PgAt w b H S) : w.cell? ⟨b, 0, none⟩ = some (.pointer (some ⟨H.d.b, 0, none⟩)) := by
  have := a.cells.cell 0
  rw [this]
  show some (Value.pointer (some ⟨H.h.dev, 0, none⟩)) = _
  rw [a.dev]
set_option maxRecDepth 8000 in
theorem gsettle_any {w : World} {b bp : Nat} {t : TypeId} {H : Hs} {S : St} (a : PgAt w b H S) (hbp : Holds w bp t #[.pointer (some ⟨b, 0, none⟩)]) {N : Nat} (ok : S.D.ok N) (hN : N < 1000000000) :
    Calls Tryz.prog 50 #[.pointer (some ⟨bp, 0, none⟩)] w fun e w' => e = .returned (.int .i64 S.D.sync.1) ∧ ∃ d', PgAt w' b { H with d := d' } { S with D := S.D.sync.2 } ∧ PgDone w b H w' { H with d := d' } := by
  have c0 : w.cell? ⟨bp, 0, none⟩ = some (.pointer (some ⟨b, 0, none⟩)) := hbp.cell 0
  have cd := a.devcell
  have hsy := sync_any a.disk ok hN
  have HA : Hid _ := a
  clear a
  go_enter Tryz.func50, Tryz.ntmps50
  go_wp2_with fail
  refine hsy.mono ?_
  rintro e w1 ⟨rfl, d', hd⟩
  obtain ⟨a1, d1⟩ := HA.out.setDisk hd
  clear hsy
  go_wp2_with fail
  go_ret
  exact ⟨rfl, d', a1, d1⟩
set_option maxRecDepth 8000 in
theorem gwritem_any {w : World} {b bp bm : Nat} {t : TypeId} {H : Hs} {S : St} (a : PgAt w b H S) (hbp : Holds w bp t #[.pointer (some ⟨b, 0, none⟩)]) (m : K.M4) (hm : m.small) (hbm : Holds w bm 43 (K.m4A m)) (hT : K.Tabs w) {N : Nat} (ok : S.D.ok N) (hN : N < 1000000000) :
    Calls Tryz.prog 51 #[.pointer (some ⟨bp, 0, none⟩), .pointer (some ⟨bm, 0, none⟩)] w fun e w' => e = .returned (.int .i64 (S.D.write (slotOf m.tx) (K.metaS m)).1) ∧ ∃ d', PgAt w' b { H with d := d' } { S with D := (S.D.write (slotOf m.tx) (K.metaS m)).2 } ∧ PgDone w b H w' { H with d := d' } := by
  have c0 : w.cell? ⟨bp, 0, none⟩ = some (.pointer (some ⟨b, 0, none⟩)) := hbp.cell 0
  have cd := a.devcell
  have hTd : K.Tabs w.drew := hT.below (Below.refl _ w).drew
  have hwm := gwm_any a.disk.drew ok hN m hm hTd
  have HA : Hid (PgAt w.drew b H S) := a.drew
  have hbmd : Holds w.drew bm 43 (K.m4A m) := hbm
  unfold K.m4A at hwm hbmd
  generalize S.D.write (slotOf m.tx) (K.metaS m) = R at hwm ⊢
  clear a
  go_enter Tryz.func51, Tryz.ntmps51
  go_wp2_with fail
  refine wp_region_qtail 5 mixedP (by kernel_rfl) ?_
  simp only [List.take_succ_cons, List.take_zero, List.drop_succ_cons, List.drop_zero]
  go_big_quiet_step (fail)
  go_big_quiet_step (fail)
  go_big_quiet_step (fail)
  go_big_quiet_step (fail)
  refine wpQ_load rfl 43 _ rfl _ rfl 43 #[.int .i64 m.tx, .int .i64 m.root, .int .i64 m.ents, .int .i64 m.pgs] _ (fun w' hw' => by subst hw'; exact hbmd) Tryz.underlying43 rfl infoMetaG ?_
  refine wpQuiet_nil ?_
  go_wp2_with fail
  refine hwm.mono ?_
  rintro e w1 ⟨rfl, d', hd⟩
  obtain ⟨a1, d1⟩ := HA.out.setDisk hd
  have HD : Hid (PgDone w b H w1 { H with d := d' }) := ((PgDone.refl w b H).drew).trans d1
  clear hwm
  go_wp2_with fail
  go_ret
  exact ⟨rfl, d', a1, HD.out⟩
end Go.Proofs.YtjklcnknbcmgoaaGreatDoor
/-
  A range over a set of pages.
-/
namespace Go.Proofs.YtjklcnknbcmgoaaGreatDoor
open Go Go.RowKit Go.Maps

/-- A range over a set on its way: r is its own block; lf says which are still to come. -/
def RangS (w : World) (r m : Nat) (M : Int → Option Unit) (lf : Int → Bool) (cnt : Nat) : Prop := ∃ n D left, w.ranges Tryz.prog 3 unitElem m r n D left cnt ∧ Says encU D M ∧ ∀ u, lf u = left (keyI u)
theorem RangS.left {w : World} {r m : Nat} {M : Int → Option Unit} {lf : Int → Bool} {cnt : Nat} (h : RangS w r m M lf cnt) : w.rangeLeft m r = cnt := by
  obtain ⟨n, D, left, hr, _⟩ := h
  exact hr.left_eq
theorem RangS.lt {w : World} {r m : Nat} {M : Int → Option Unit} {lf : Int → Bool} {cnt : Nat} (h : RangS w r m M lf cnt) : r < w.heap.size := by
  obtain ⟨n, D, left, hr, _⟩ := h
  exact hr.lt
theorem RangS.obj {w : World} {r m : Nat} {M : Int → Option Unit} {lf : Int → Bool} {cnt : Nat} (h : RangS w r m M lf cnt) : ∃ a b c d, w.heap[r]? = some (.mapIter a b c d) := by
  obtain ⟨n, D, left, ⟨es, clock, since, seen, c0, hb, F, hs, hD, hr, rest⟩, _⟩ := h
  exact ⟨_, _, _, _, hr⟩
/-- It stays while its two blocks do. -/
theorem RangS.block {w w' : World} {r m : Nat} {M : Int → Option Unit} {lf : Int → Bool} {cnt : Nat} (h : RangS w r m M lf cnt) (h1 : w'.heap[r]? = w.heap[r]?) (h2 : w'.heap[m]? = w.heap[m]?) : RangS w' r m M lf cnt := by
  obtain ⟨n, D, left, ⟨es, clock, since, seen, c0, hb, F, hs, hD, hr, rest⟩, hR, hl⟩ := h
  exact ⟨n, D, left, ⟨es, clock, since, seen, c0, h2.trans hb, F, hs, hD, h1.trans hr, rest⟩, hR, hl⟩
theorem wpList_rangeS {ops : Array Oper} {rest : List Oper} {o : Oper} {a : Act} {w : World} {Q : Exit → Act → World → Prop} (hg : o.guard = none) (x : Operand) (hop : o.op = .range 69 x)
    {n m : Nat} {M : Int → Option Unit} (hx : a.eval x = .map (some m)) (h : MapAt unitElem encU w m n M)
    (hK : ∀ w' cnt, RangS w' w.heap.size m M (fun u => (M u).isSome) cnt → Below w.heap.size w w' → wpList Tryz.prog ops Q rest (a.put o.dst (.pointer (some ⟨w.heap.size, 0, none⟩))) w') :
    wpList Tryz.prog ops Q (o :: rest) a w := by
  refine wpList_plain hg fun K' hK' => ?_
  obtain ⟨D, ho, hr⟩ := h
  obtain ⟨w', hrun, h1, h2, h3⟩ := ho.range keyed3 Tryz.underlying69
  unfold Oper.wp
  simp [execOp, hop, hx, hrun, Result.andThen]
  exact hK' _ _ (hK w' _ ⟨n, D, _, h1, hr, fun u => (hr.hasI u).symm⟩ ⟨h2.os, h2.tape, h2.output, h2.size, fun k hk => h2.block k hk (by simp)⟩)
theorem same_keyS (v u : Int) : (keyI v).sameKey (keyI u) = decide (v = u) := by
  by_cases e : v = u
  · subst e
    rw [WideAt.sameKey_self (keyI_lit v)]; simp
  · rw [Maps.sameKey_ne (fun q => e (keyI_inj q))]; simp [e]
theorem wpList_nextS {ops : Array Oper} {rest : List Oper} {o : Oper} {a : Act} {w : World} {Q : Exit → Act → World → Prop} (hg : o.guard = none) (x : Operand) (hop : o.op = .next x false)
    {r m : Nat} {M : Int → Option Unit} {lf : Int → Bool} {cnt : Nat} (hx : a.eval x = .pointer (some ⟨r, 0, none⟩)) (h : RangS w r m M lf cnt)
    (hDone : (∀ u, lf u = false) → wpList Tryz.prog ops Q rest (a.put o.dst (.tuple #[.bool false])) w)
    (hMore : ∀ u w' cnt' v, (M u).isSome = true → lf u = true → RangS w' r m M (fun x => lf x && !decide (x = u)) cnt' → cnt' < cnt → Only r w w' →
      (Instr.entry (.pointer (some ⟨r, 0, none⟩))).run Tryz.prog w' = .ok (.tuple #[.int .i64 u, v]) w' → wpList Tryz.prog ops Q rest (a.put o.dst (.tuple #[.bool true, .int .i64 u, v])) w') :
    wpList Tryz.prog ops Q (o :: rest) a w := by
  refine wpList_plain hg fun K' hK' => ?_
  unfold Oper.wp
  obtain ⟨n, D, left, hr, hR, hl⟩ := h
  rcases hr.next keyed3 o.type with ⟨_, h1, hrun⟩ | ⟨key, v, kl, y, w', cnt', hkey, hlk, hv, hat, hrun, hrg, hlt, hgr, hsz, hen⟩
  · simp [execOp, hop, hx, hrun, Result.andThen]
    exact hK' _ _ (hDone (fun u => by rw [hl, h1]))
  · have hh : Maps.has D kl = true := Maps.has_true_of_atKey hat
    obtain ⟨u, x, rfl, hu⟩ := (hR.has kl).1 hh
    obtain ⟨z, rfl, hx2, _⟩ := Maps.keyOf_int_inv Tryz.underlying3 hkey
    have hxu : z = u := by
      have hx' : keyI u = keyI z := hx2
      exact (keyI_inj hx').symm
    subst hxu
    simp [execOp, hop, hx, hrun, Result.andThen]
    refine hK' _ _ (hMore z w' cnt' v (by rw [hu]; rfl) (by rw [hl]; exact hlk) ⟨n, D, _, hrg, hR, fun x => ?_⟩ hlt ⟨hgr.os, hgr.tape, hgr.output, hgr.size, fun k hk hne => hgr.block k hk (fun e => hne (by injection e))⟩ hen)
    dsimp only
    rw [hl, same_keyS]
end Go.Proofs.YtjklcnknbcmgoaaGreatDoor
