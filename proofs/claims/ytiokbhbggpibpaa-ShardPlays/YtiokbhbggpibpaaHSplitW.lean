/-
  What Split does.
-/
import Derived.Test.YtiokbhbggpibpaaHGA
import Derived.Test.YtiokbhbggpibpaaHPure
import Derived.Test.YtiokbhbggpibpaaBTake
namespace Go.Proofs.Ytiokbhbggpibpaa
open Go Go.RowKit

theorem underIntSlH : Try.prog.underlying 22 = some (.slice 3) := by kernel_rfl
theorem elemIntSlH : Try.prog.elem 22 = 3 := by kernel_rfl
theorem htIntSlH : Try.prog.underlying 22 = some (.slice (Try.prog.elem 22)) := by rw [elemIntSlH]; exact underIntSlH
theorem sizeIntH (w : World) : (Go.sizeOf 3).run Try.prog w = .ok 1 w := Try.sizeOf3 w
/-- A part of a row of numbers. -/
theorem ints_mid (p : Option Addr) {n c : Nat} (lo hi : Nat) (h1 : lo < hi) (h2 : hi ≤ n) (hnc : n ≤ c) :
    ∃ p', (∀ w, (Instr.sliceAt 22 (.slice p n c) (some (.int .i64 (lo : Int))) (some (.int .i64 (hi : Int))) none).run Try.prog w = .ok (.slice p' (hi - lo) (c - lo)) w) ∧ ∀ W l, IntsAt W (.slice p n c) l → IntsAt W (.slice p' (hi - lo) (c - lo)) ((l.drop lo).take (hi - lo)) ∧ ∀ (k d k' d' : Nat), (Value.slice p' k d).ownBlock = (Value.slice p k' d').ownBlock := by
  refine ⟨p.map fun a => a.add (lo * 1), fun w => ?_, fun W l h => ⟨?_, fun k d k' d' => ?_⟩⟩
  · rw [run_sliceAt_slice w _ _ _ _ _ htIntSlH, run_slice_lh w _ _ _ _ htIntSlH .i64 .i64 (lo : Int) (hi : Int) (by omega) (by omega) (by omega), elemIntSlH, sizeIntH, Result.andThen_ok]
    unfold sliced
    simp
    omega
  · rcases h with ⟨rfl, q, c', e⟩ | ⟨b, o, c', e, hc⟩
    · injection e with _ e2 _
      omega
    · injection e with e1 e2 e3
      subst e1 e2 e3
      have hl : ((l.drop lo).take (hi - lo)).length = hi - lo := by rw [List.length_take, List.length_drop]; omega
      refine .inr ⟨b, o + lo, c - lo, by rw [hl]; simp [Addr.add_mid], fun i hi' => ?_⟩
      rw [hl] at hi'
      have := hc (lo + i) (by omega)
      rw [show o + lo + i = o + (lo + i) by omega, this]
      rw [List.getD_eq_getElem?_getD, List.getD_eq_getElem?_getD, List.getElem?_take, if_pos hi', List.getElem?_drop]
  · cases p with
    | none => rfl
    | some a =>
      show some (a.add (lo * 1)).block = some a.block
      unfold Addr.add
      split <;> rfl
theorem take_set2 (cur : Array Value) {xs : List Value} {k : Nat} (a b : Value) (h : cur.toList.take k = xs) (hsz : k + 1 < cur.size) : ((cur.setIfInBounds k a).setIfInBounds (k + 1) b).toList.take (k + 2) = xs ++ [a, b] := by
  have hx : xs.length = k := by rw [← h, List.length_take, Array.length_toList]; omega
  refine List.ext_getElem? fun j => ?_
  rw [List.getElem?_take, Array.toList_setIfInBounds, Array.toList_setIfInBounds]
  by_cases h1 : j < k
  · rw [if_pos (by omega), List.getElem?_set_ne (by omega), List.getElem?_set_ne (by omega), List.getElem?_append_left (by omega), ← h, List.getElem?_take, if_pos h1]
  · rw [List.getElem?_append_right (by omega), hx]
    by_cases h2 : j = k
    · subst h2
      rw [if_pos (by omega), List.getElem?_set_ne (by omega), List.getElem?_set_self (by simpa using by omega), Nat.sub_self]
      rfl
    · by_cases h3 : j = k + 1
      · subst h3
        rw [if_pos (by omega), List.getElem?_set_self (by simpa using by omega), show k + 1 - k = 1 by omega]
        rfl
      · rw [if_neg (by omega), List.getElem?_eq_none (by simp; omega)]
theorem take_set1 (cur : Array Value) {xs : List Value} {k : Nat} (a b c : Value) (h : cur.toList.take (k + 2) = xs ++ [b, c]) (hx : xs.length = k) (hsz : k + 1 < cur.size) : (cur.setIfInBounds k a).toList.take (k + 2) = xs ++ [a, c] := by
  refine List.ext_getElem? fun j => ?_
  have hj : (cur.toList.take (k + 2))[j]? = (xs ++ [b, c])[j]? := by rw [h]
  rw [List.getElem?_take] at hj ⊢
  rw [Array.toList_setIfInBounds]
  by_cases h1 : j = k
  · subst h1
    rw [if_pos (by omega), List.getElem?_set_self (by simpa using by omega), List.getElem?_append_right (by omega), hx, Nat.sub_self]
    rfl
  · rw [List.getElem?_set_ne (by omega), hj]
    by_cases h2 : j < k
    · rw [List.getElem?_append_left (by omega), List.getElem?_append_left (by omega)]
    · rw [List.getElem?_append_right (by omega), List.getElem?_append_right (by omega), hx]
      rw [show j - k = (j - k - 1) + 1 by omega]
      rfl

theorem IntsAt.only {w w' : World} {v : Value} {l : List Int} {g : Nat} (h : IntsAt w v l) (o : Only g w w') (hne : v.ownBlock ≠ some g) : IntsAt w' v l := by
  rcases h with h | ⟨b, oo, c, rfl, h2⟩
  · exact .inl h
  · refine .inr ⟨b, oo, c, rfl, fun i hi => ?_⟩
    have hl := World.block_lt_of_cell? w _ (h2 i hi)
    rw [World.cell?_of_block (a := ⟨b, oo + i, none⟩) (o.block b hl (fun e => hne (by rw [← e]; rfl)))]
    exact h2 i hi
theorem ofInts_ofN {p : List Nat} (h : Nums p) : ofInts (p.map fun x : Nat => (x : Int)) = ofN p := by
  funext n
  unfold ofInts ofN
  rw [Bool.eq_iff_iff, Bool.and_eq_true, decide_eq_true_eq, decide_eq_true_eq, decide_eq_true_eq]
  constructor
  · rintro ⟨h1, _⟩
    obtain ⟨x, hx, e⟩ := List.mem_map.1 h1
    have : x = n := by omega
    rw [← this]; exact hx
  · intro hn
    exact ⟨List.mem_map.2 ⟨n, hn, rfl⟩, h.bound n hn⟩
section
variable {ops : Array Oper} {C : World → Prop} {Q : Exit → Act → World → Prop} {t : List Plan} {k : Nat} {op : Oper} {a : Act} {w : World}
theorem infoCk2 : (Try.prog.info? 44).map (·.size) = some 2 := by kernel_rfl
theorem run_storeCk (w : World) {g o : Nat} {cur : Array Value} (hh : Holds w g 44 cur) (ho : o + 1 < cur.size) (x : Int) (y : ByteArray) : (storeVar 44 ⟨g, o, none⟩ (.agg #[.int .i64 x, .string y])).run Try.prog w = .ok () ((w.setCell ⟨g, o, none⟩ (.int .i64 x)).setCell ⟨g, o + 1, none⟩ (.string y)) :=
  run_storeVar_mid w g o 44 #[.int .i64 x, .string y] (fun j hj => by
    have hj : j < 2 := hj
    rw [hh.cell, Array.getElem?_eq_getElem (by omega)]
    exact ⟨rfl, hh.frozen _⟩) infoCk2 (by simp [Value.oneCell'])
/-- A chunk is stored in a row. -/
theorem plan_stK (d : Option Tmp) (hdd : op.dst = d) (hk : ops[k]? = some op) (hgd : op.guard = none) (x y : Operand) (ho : op.op = .store 44 x y) {g o : Nat} {cur : Array Value} {u : Int} {s : ByteArray} (hx : a.eval x = .pointer (some ⟨g, o, none⟩)) (hy : a.eval y = .agg #[.int .i64 u, .string s]) (hh : Holds w g 44 cur) (hsz : o + 1 < cur.size)
    (h : ∀ w', Holds w' g 44 ((cur.setIfInBounds o (.int .i64 u)).setIfInBounds (o + 1) (.string s)) → Only g w w' → C w' ∧ wpPlan Try.prog ops C Q t (a.put d undef) w') : wpPlan Try.prog ops C Q (.one k :: t) a w := by
  have hw := h ((w.setCell ⟨g, o, none⟩ (.int .i64 u)).setCell ⟨g, o + 1, none⟩ (.string s)) ((hh.set o _).set (o + 1) _) (((Only.refl g w).set o _).set (o + 1) _)
  refine plan_skip d hdd hk hgd ?_ hw.1 hw.2
  unfold execOp
  simp only [ho, hx, hy, Instr.storeAt, Instr.sureAddr, Sem.run_bind, Sem.run_pure, Result.andThen_ok, run_storeCk w hh hsz u s]
end
theorem buildCk (u : Int) (s : ByteArray) (w : World) : (Instr.build 44 #[(0, .int .i64 u), (1, .string s)]).run Try.prog w = .ok (.agg #[.int .i64 u, .string s]) w := run_build w _ _ _ (by kernel_rfl)
noncomputable def rawsC (m : List Nat) (i : Nat) : List (Int × ByteArray) := (List.range i).map (rawC m)
theorem rawsC_succ (m : List Nat) (i : Nat) : rawsC m (i + 1) = rawsC m i ++ [rawC m i] := by
  unfold rawsC
  rw [List.range_succ, List.map_append]
  rfl
theorem rawsC_len (m : List Nat) (i : Nat) : (rawsC m i).length = i := by unfold rawsC; simp
theorem ccells_raws (m : List Nat) (i : Nat) : ccells (rawsC m (i + 1)) = ccells (rawsC m i) ++ [.int .i64 (((partAt m i).getLastD 0 : Nat) : Int), .string (dataOf (partAt m i))] := by
  rw [rawsC_succ, ccells_app]
  rfl
theorem make_chunks (n : Nat) (hn : n ≤ 1000000) (w : World) : (Instr.makeSlice 23 (.int .i64 (n : Int)) (.int .i64 (n : Int))).run Try.prog w = .ok (.slice (some ⟨w.heap.size, 0, none⟩) n n) (w.alloc (.cells (madeCells #[.int .i64 0, .string ⟨#[]⟩] (n * 2)) 44)) := by
  obtain ⟨i0, hi, hz0, hz1, hz2⟩ := infoChunk
  have := run_make w 23 44 i0 (.agg #[.int .i64 0, .string ⟨#[]⟩]) underChunks hi hz0 .i64 .i64 (n : Int) (n : Int) (by omega) (Int.le_refl _) (by rw [hz2]; omega) (by omega)
  rw [hz1] at this
  simpa [Value.cells] using this
theorem last_getD (p : List Nat) (h : 0 < p.length) : (p.map fun x : Nat => (x : Int)).getD (p.length - 1) 0 = ((p.getLastD 0 : Nat) : Int) := by
  rw [List.getD_eq_getElem?_getD, List.getElem?_map, List.getElem?_eq_getElem (by omega)]
  have : p.getLastD 0 = p[p.length - 1]'(by omega) := by
    cases p with
    | nil => simp at h
    | cons a l =>
      rw [← List.getLast_eq_getElem (by simp), List.getLast_eq_getLastD, List.getLastD_cons]
  rw [this]
  rfl
end Go.Proofs.Ytiokbhbggpibpaa
