/-
  The built-in copy of a text into a row of bytes.
-/
import Derived.Test.YtonmjkalkkfhhaaDFillW
import Derived.Laws.IdiomCopy
import Derived.Lib.LazyBuf
namespace Go.Proofs.Ytonmjkalkkfhhaa
open Go Go.RowKit Go.Maps

theorem rowIs_setCells {b : Nat} {t : TypeId} {n : Nat} : ∀ (vs : List Value) (o : Nat) (w : World) (f : Nat → Value), w.rowIs b t n f → (w.setCells b o vs).rowIs b t n (fun j => if o ≤ j ∧ j < o + vs.length then vs.getD (j - o) undef else f j)
  | [], o, w, f, h => h.congr fun j _ => by rw [if_neg (by simp)]
  | v :: vs, o, w, f, h => by
    have h1 := rowIs_setCells vs (o + 1) _ _ (h.set o v)
    refine h1.congr fun j _ => ?_
    simp only [List.length_cons]
    by_cases e : j = o
    · subst e
      rw [if_neg (by omega), if_pos rfl, if_pos (by omega), Nat.sub_self]; rfl
    · by_cases hj : o + 1 ≤ j ∧ j < o + 1 + vs.length
      · rw [if_pos hj, if_pos (by omega), show j - o = (j - (o + 1)) + 1 by omega]; rfl
      · rw [if_neg hj, if_neg e, if_neg (by omega)]
theorem only_setCells {b : Nat} : ∀ (vs : List Value) (o : Nat) (w : World), Only b w (w.setCells b o vs)
  | [], _, _ => Only.refl _ _
  | v :: vs, o, w => ((Only.refl b w).set o v).trans (only_setCells vs (o + 1) _)

theorem run_copyS {w : World} {g : Nat} {t : TypeId} {n : Nat} {f : Nat → Value} (h : w.rowIs g t n f) (o dLen dCap : Nat) (ho : o + dLen ≤ n) (r : ByteArray) (k : Nat) (hk : Nat.min r.size dLen = k) (ty : TypeId) :
    ∃ w', (Builtin.copy_ #[48, 9] ty #[.slice (some ⟨g, o, none⟩) dLen dCap, .string r]).run Try.prog w = .ok (goInt k) w' ∧ w'.rowIs g t n (fun j => if o ≤ j ∧ j < o + k then .int .u8 (((r.data.toList.getD (j - o) 0).toNat : Nat) : Int) else f j) ∧ Only g w w' := by
  obtain ⟨vs, hvs⟩ : ∃ vs, vs = (r.data.toList.take k).map fun c => Value.int .u8 (c.toNat : Int) := ⟨_, rfl⟩
  have hsz : r.data.toList.length = r.size := rfl
  have hkr : k ≤ r.size := by rw [← hk]; exact Nat.min_le_left _ _
  have hkd : k ≤ dLen := by rw [← hk]; exact Nat.min_le_right _ _
  have hle : vs.length = k := by
    rw [hvs, List.length_map, List.length_take, hsz]
    omega
  have hst := run_storeCells_cells (P := Try.prog) g o vs 0 w (by rw [hle]; intro j hj; rw [Nat.add_zero, h.cell (by omega)]; rfl) (by rw [hle]; intro j hj; exact h.frozen _) (by
    intro v hv
    rw [hvs] at hv
    obtain ⟨x, _, rfl⟩ := List.mem_map.1 hv
    rfl)
  have hcells : ((r.extract 0 k).data.map fun c => Value.int .u8 (c.toNat : Int)).toList = vs := by
    rw [hvs]; simp
  obtain ⟨i5, hi5, _, hs5, _⟩ := info5
  have hzz : (Go.sizeOf 5).run Try.prog w = .ok 1 w := by
    simp [Go.sizeOf, typeInfo, hi5, hs5]
  refine ⟨_, ?_, (rowIs_setCells vs o w f h).congr fun j hj => ?_, only_setCells vs o w⟩
  · unfold Builtin.copy_
    simp only [List.getElem?_toArray, List.getElem?_cons_zero, List.getElem?_cons_succ, Sem.run_bind, run_underlying underBytes, Result.andThen_ok, Builtin.lenOf, Sem.run_pure, Builtin.firstCells, hzz, hk, hcells, Nat.add_zero] at hst ⊢
    rw [hst]
    rfl
  · rw [hle]
    by_cases hj : o ≤ j ∧ j < o + k
    · rw [if_pos hj, if_pos hj, hvs, List.getD_eq_getElem?_getD, List.getElem?_map, List.getElem?_take_of_lt (by omega), List.getElem?_eq_getElem (by rw [hsz]; omega), List.getD_eq_getElem?_getD, List.getElem?_eq_getElem (by rw [hsz]; omega)]
      rfl
    · rw [if_neg hj, if_neg hj]
theorem wpList_copyS {ops : Array Oper} {rest : List Oper} {op : Oper} {a : Act} {w : World} {Q : Exit → Act → World → Prop} (hgd : op.guard = none) (d x : Operand)
    (hop : op.op = Op.call { callee := Callee.builtin Builtin.copy, args := #[d, x], argTypes := #[48, 9] })
    {g : Nat} {t : TypeId} {n : Nat} {f : Nat → Value} (h : w.rowIs g t n f) (o dLen dCap : Nat) (hd : a.eval d = .slice (some ⟨g, o, none⟩) dLen dCap) (ho : o + dLen ≤ n) (r : ByteArray) (hx : a.eval x = .string r) (k : Nat) (hk : Nat.min r.size dLen = k)
    (hK : ∀ w', w'.rowIs g t n (fun j => if o ≤ j ∧ j < o + k then .int .u8 (((r.data.toList.getD (j - o) 0).toNat : Nat) : Int) else f j) → Only g w w' → wpList Try.prog ops Q rest (a.put op.dst (goInt k)) w') : wpList Try.prog ops Q (op :: rest) a w :=
  wpList_plain hgd fun _ hK' => by
    obtain ⟨w', hrun, h1, h2⟩ := run_copyS h o dLen dCap ho r k hk op.type
    unfold Oper.wp
    simp [execOp, hop, resolve, invoke, builtin, hd, hx, hrun, Result.andThen]
    exact hK' _ _ (hK w' h1 h2)
theorem zero102 : (Try.zeroCells102).toList = List.replicate 1024 (.int .u8 0) := by kernel_rfl
theorem row102 (w : World) : (w.alloc (.cells Try.zeroCells102 102)).rowIs w.heap.size 102 1024 (fun _ => .int .u8 0) := by
  have hg : ∀ j : Nat, (Try.zeroCells102)[j]? = (List.replicate 1024 (Value.int .u8 0))[j]? := fun j => by rw [← zero102, Array.getElem?_toList]
  have hs : (Try.zeroCells102).size = 1024 := by rw [← Array.length_toList, zero102, List.length_replicate]
  refine ⟨_, heap_alloc_new w _, hs, fun i hi => ?_⟩
  rw [hg, List.getElem?_replicate, if_pos hi]
end Go.Proofs.Ytonmjkalkkfhhaa
