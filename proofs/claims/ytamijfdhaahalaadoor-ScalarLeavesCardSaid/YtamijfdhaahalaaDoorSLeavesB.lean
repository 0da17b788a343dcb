/-
  Laws for ScalarLeaves' walk.
-/
import Derived.Test.YtamijfdhaahalaaDoorSLeavesWalk
namespace Go.Proofs.YtamijfdhaahalaaDoor
open Go Go.RowKit
theorem leafT_same {n m : Nat} {b c b' c' : ByteArray} {z z' : Int} {R Q : Nat → UInt8} (h : okA b.data.toList c.data.toList z = true) (h' : okA b'.data.toList c'.data.toList z' = true) (q1 : n = m) (q2 : b = b') (q3 : c = c') (q4 : ∀ i, i < 32 → R i = Q i) :
    leafT n b c z R = leafT m b' c' z' Q := by
  subst q1 q2 q3
  unfold leafT
  rw [if_pos h, if_pos h']
  have e : rootL R = rootL Q := List.map_congr_left fun i hi => q4 i (List.mem_range.1 hi)
  unfold leafL rootS
  rw [e]
section
variable {P : Program} {ops : Array Oper} {C : World → Prop}
theorem wp_region_cls {id : Nat} {Q : Exit → Act → World → Prop} {a : Act} {w : World} {l : List Oper} (C : World → Prop) (hm : P.follows .mixedOrders = true) (hB : Region.lexB .any l.toArray = true) (h0 : C w.drew)
    (h : wpQuiet P l.toArray C (fun a' => ∀ w', C w' → Q .normal a' w') l a) : (Code.region id l.toArray true).wp P Q a w :=
  wp_region_quiet (C := C) hm hB h0 (by simpa using h)
theorem midG' {rest : List Oper} {op : Oper} {a : Act} {w : World} {Q : Exit → Act → World → Prop} (ty : TypeId) (x : Operand) (ho : op.op = .load ty x)
    (b o : Nat) (hx : a.eval x = .pointer (some ⟨b, o, none⟩)) (hw : Region.wanted op (yielded ops a.tmps) = true) (cs : Array Value) (d : TypeDesc) (hc : w.rangeAt b o cs.toList)
    (hu : P.underlying ty = some d) (hd : d.isRow = true) (hi : (P.info? ty).map (·.size) = some cs.size)
    (h : wpList P ops Q rest (a.put op.dst (.agg cs)) w) : wpList P ops Q (op :: rest) a w := wpList_midG hw ty x ho b o hx cs d hc hu hd hi h
theorem eqlS' {rest : List Oper} {op : Oper} {a : Act} {w : World} {Q : Exit → Act → World → Prop} (t t' : TypeId) (x y : Operand) (ho : op.op = .binOp .eql t x y t')
    (xs ys : Array Value) (hx : a.eval x = .agg xs) (hy : a.eval y = .agg ys) (hw : Region.wanted op (yielded ops a.tmps) = true) (r : Bool) (hg : P.eqGuardType P.depth t = false) (he : (Op.equalIn 10000 t (.agg xs) (.agg ys)).run P w = .ok r w)
    (h : wpList P ops Q rest (a.put op.dst (.bool r)) w) : wpList P ops Q (op :: rest) a w := wpList_eqlS hw t t' x y ho xs ys hx hy r hg he h
theorem cq_skip {rest : List Oper} {op : Oper} {a : Act} {Q : Act → Prop} (hw : Region.wanted op (yielded ops a.tmps) = false) (h : wpQuiet P ops C Q rest (a.put op.dst undef)) : wpQuiet P ops C Q (op :: rest) a :=
  wpQuiet_step fun _ hK => by
    rw [if_neg (by rw [hw]; decide)]
    exact hK _ h
end

end Go.Proofs.YtamijfdhaahalaaDoor
