/-
  What the calls of the document's rot and offsets do.
-/
import Derived.Test.YtjbenoaefjlbaaaDoorPerm
namespace Go.Proofs.YtjbenoaefjlbaaaDoor
open Go.RowKit

theorem rotl_zero (x : BitVec 64) : rotl x 0 = x := by
  apply BitVec.eq_of_getLsbD_eq
  intro i hi
  unfold rotl
  rw [BitVec.getLsbD_or, BitVec.getLsbD_shiftLeft, BitVec.getLsbD_ushiftRight, BitVec.getLsbD_of_ge x (64 - 0 + i) (by omega)]
  simp [hi]

set_option maxHeartbeats 400000 in
theorem refRot_any (x : BitVec 64) (k : Nat) (w : World) (hk : k < 64) :
    Calls Tryd.prog 46 #[.int .u64 (lane x), .int .i64 k] w fun e w' => e = .returned (.int .u64 (lane (rotl x k))) ∧ w' = w := by
  have hx0 := lane_nn x
  have hx1 := lane_lt x
  by_cases h0 : k = 0
  · subst h0
    go_enter Tryd.func46, Tryd.ntmps46
    go_wp2
    go_ret
    rw [rotl_zero]
    exact ⟨rfl, rfl⟩
  · have h1 : (0 : Int) < k := by omega
    have h2 : (k : Int) < 64 := by omega
    have h3 : ((k : Int) == 0) = false := by simp; omega
    go_enter Tryd.func46, Tryd.ntmps46
    go_wp2
    go_ret
    refine ⟨?_, rfl⟩
    show Ending.returned (Value.int IntKind.u64 (bits BinOp.or IntKind.u64 (IntKind.u64.wrap (lane x * 2 ^ k)) (lane x / 2 ^ (64 - k)))) = _
    rw [lane_shl, lane_shr, lane_or]
    rfl

/-- Numbers as cells. -/
def intsA (n : Nat) (f : Nat → Nat) : Array Value := Array.ofFn (n := n) fun i => .int .i64 (f i.val : Nat)
theorem intsA_size (n : Nat) (f : Nat → Nat) : (intsA n f).size = n := by simp [intsA]
theorem intsA_get (n : Nat) (f : Nat → Nat) (i : Nat) (h : i < n) : (intsA n f)[i]? = some (.int .i64 (f i : Nat)) := by simp [intsA, h]
theorem intsA_congr {n : Nat} {f g : Nat → Nat} (h : ∀ i, i < n → f i = g i) : intsA n f = intsA n g := by
  unfold intsA
  congr 1
  funext i
  rw [h i.val i.isLt]
theorem intsA_set (n : Nat) (f : Nat → Nat) (i v : Nat) : (intsA n f).setIfInBounds i (.int .i64 (v : Nat)) = intsA n (fun j => if j = i then v else f j) := by
  apply Array.ext
  · simp [intsA]
  · intro j h1 h2
    by_cases e : j = i
    · subst e; simp [intsA]
    · rw [Array.getElem_setIfInBounds_ne (by simpa using h1) (fun q => e q.symm)]
      simp [intsA, e]
theorem intsA_one (n : Nat) (f : Nat → Nat) : (intsA n f).all (·.oneCell') = true := by
  refine Array.all_eq_true_iff_forall_mem.2 fun v hv => ?_
  obtain ⟨i, rfl⟩ := Array.mem_ofFn.1 hv
  rfl

/-- The way of the lanes: x, y, and which one comes when. -/
def wayX : Nat → Nat := fun k => [1, 0, 2, 1, 2, 3, 3, 0, 1, 3, 1, 4, 4, 0, 3, 4, 3, 2, 2, 0, 4, 2, 4, 1, 1].getD k 0
def wayY : Nat → Nat := fun k => [0, 2, 1, 2, 3, 3, 0, 1, 3, 1, 4, 4, 0, 3, 4, 3, 2, 2, 0, 4, 2, 4, 1, 1, 0].getD k 0
def wayT : Nat → Nat := fun j => [24, 0, 18, 6, 12, 7, 23, 2, 9, 22, 1, 3, 17, 16, 20, 13, 8, 4, 5, 15, 19, 10, 21, 14, 11].getD j 24
theorem way_lt : ∀ k, k < 25 → wayX k < 5 ∧ wayY k < 5 := by decide
theorem way_next : ∀ k, k < 24 → wayX (k + 1) = wayY k ∧ wayY (k + 1) = (2 * wayX k + 3 * wayY k) % 5 := by decide
theorem way_offs : ∀ k, k < 24 → (k + 1) * (k + 2) / 2 % 64 = offs (wayX k + 5 * wayY k) := by decide
theorem way_at : ∀ k, k < 24 → wayT (wayX k + 5 * wayY k) = k := by decide
theorem way_of : ∀ j, j < 25 → wayT j < 24 → wayX (wayT j) + 5 * wayY (wayT j) = j := by decide
theorem way_end : ∀ j, j < 25 → ¬ wayT j < 24 → offs j = 0 := by decide
theorem way_tri : ∀ k, k < 24 → (k + 1) * (k + 2) ≤ 1000 := by decide

theorem info46 : (Tryd.prog.info? 85).map (·.size) = some 25 := by kernel_rfl
theorem way_step (b : Nat) (t : TypeId) (k : Nat) (w : World) (hk : k < 24) (h : Holds w b t (intsA 25 fun j => if wayT j < k then offs j else 0)) :
    Holds (w.setCell ⟨b, wayX k + 5 * wayY k, none⟩ (.int .i64 (((k + 1) * (k + 2) / 2 % 64 : Nat) : Int))) b t (intsA 25 fun j => if wayT j < k + 1 then offs j else 0) := by
  refine ((h.set _ _).congr (intsA_set 25 _ _ _)).congr (intsA_congr fun j hj => ?_)
  by_cases e : j = wayX k + 5 * wayY k
  · rw [if_pos e, e, way_at k hk, if_pos (by omega), way_offs k hk]
  · rw [if_neg e]
    by_cases c : wayT j < k
    · rw [if_pos c, if_pos (by omega)]
    · have : wayT j ≠ k := fun q => e (by have := way_of j hj (by omega); rw [q] at this; exact this.symm)
      rw [if_neg c, if_neg (by omega)]

set_option maxRecDepth 4000 in
set_option maxHeartbeats 1000000 in
theorem refOffsets_any (w : World) :
    Calls Tryd.prog 44 #[] w fun e w' => e = .returned (.agg (intsA 25 offs)) ∧ Below w.heap.size w w' := by
  go_enter Tryd.func44, Tryd.ntmps44
  go_wp2
  obtain ⟨n, hn⟩ : ∃ n, n = w.heap.size := ⟨_, rfl⟩
  rw [← hn]
  have HN : Hid (n = w.heap.size) := hn
  clear hn
  go_loopw [2, 3, 4] (fun sx sy st wr => ∃ k : Nat, k ≤ 24 ∧ st = .int .i64 k ∧ sx = .int .i64 (wayX k : Nat) ∧ sy = .int .i64 (wayY k : Nat) ∧ Below w.heap.size w wr ∧ (∃ f, Holds wr n 85 (intsA 25 f)) ∧ Holds wr (n + 1) 85 (intsA 25 fun j => if wayT j < k then offs j else 0)) (fun _ _ st _ => 24 - (intOf st).toNat)
  case atStart =>
    refine ⟨0, by omega, rfl, rfl, rfl, ((Below.refl _ _).alloc (Nat.le_refl _) _).alloc (by simp) _, ⟨fun _ => 0, ?_⟩, ?_⟩
    · rw [HN.out]; exact (Holds.new w 85 (intsA 25 fun _ => 0)).alloc _
    · have h := Holds.new (w.alloc (.cells (intsA 25 fun _ => 0) 85)) 85 (intsA 25 fun _ => 0)
      rw [World.size_alloc, ← HN.out] at h
      exact h.congr (intsA_congr fun j _ => by simp)
  case round =>
    obtain ⟨k, hk, rfl, rfl, rfl, hB, ⟨f, hf0⟩, hh⟩ := hrel
    by_cases hlt : k < 24
    · have hk1 : (k : Int) < 24 := by omega
      obtain ⟨hx5, hy5⟩ := way_lt k (by omega)
      obtain ⟨hnx, hny⟩ := way_next k hlt
      obtain ⟨X, hX⟩ : ∃ X, X = wayX k := ⟨_, rfl⟩
      obtain ⟨Y, hY⟩ : ∃ Y, Y = wayY k := ⟨_, rfl⟩
      obtain ⟨p, hp⟩ : ∃ p, p = (k + 1) * (k + 2) := ⟨_, rfl⟩
      have hp1 : ((k : Int) + 1) * ((k : Int) + 2) = (p : Int) := by rw [hp]; simp
      have hp2 : p ≤ 1000 := hp ▸ way_tri k hlt
      have hstep := way_step (n + 1) 85 k wr hlt hh
      rw [← hX, ← hY, ← hp] at hstep
      rw [← hX] at hx5 hny ⊢
      rw [← hY] at hy5 hnx hny ⊢
      have hfr := hh.frozen
      have hcell := hh.cell (X + 5 * Y)
      rw [intsA_get 25 _ _ (by omega)] at hcell
      have HS : Hid _ := hstep
      have HNX : Hid (wayX (k + 1) = Y) := hnx
      have HNY : Hid (wayY (k + 1) = (2 * X + 3 * Y) % 5) := hny
      have hX5 : (X : Int) < 5 := by omega
      have hY5 : (Y : Int) < 5 := by omega
      have hp3 : (p : Int) ≤ 1000 := by omega
      have HB : Hid (Below w.heap.size w wr) := hB
      clear hX hY hp hstep hnx hny hh hB
      go_wp2
      go_roundw
      case rel =>
        refine ⟨k + 1, by omega, rfl, by rw [HNX.out], ?_, Only.fresh HB.out ((Only.refl _ _).set _ _) (by have := HN.out; omega), ⟨f, Holds.other hf0 _ _ (by simp)⟩, HS.out⟩
        rw [HNY.out]; rfl
      case measure => simp [intOf]; omega
    · have hk1 : ¬ (k : Int) < 24 := by omega
      have hkk : k = 24 := by omega
      subst hkk
      have hh2 : Holds wr (n + 1) 85 (intsA 25 offs) := hh.congr (intsA_congr fun j hj => by
        by_cases c : wayT j < 24
        · rw [if_pos c]
        · rw [if_neg c, way_end j hj c])
      clear hh
      have hin : (Tryd.prog.info? 85).map (·.size) = some (intsA 25 offs).size := by rw [intsA_size]; exact info46
      have hzs : (intsA 25 f).size = (intsA 25 offs).size := by rw [intsA_size, intsA_size]
      have hon := intsA_one 25 offs
      generalize hcs : intsA 25 offs = cs at hin hzs hon hh2
      have HCS : Hid (intsA 25 offs = cs) := hcs
      clear hcs
      go_wp2_with (first
        | (refine wpList_loadH rfl 85 _ rfl (n + 1) rfl 85 cs _ hh2 Tryd.underlying85 rfl hin ?_)
        | (refine wpList_storeH rfl 85 _ _ rfl n cs rfl rfl 85 _ hf0 hin hzs hon ?_
           intro w1 h1 o1 z1))
      rw [← HCS.out] at h1 hin
      exact bodyPost_ret (results_cellH rfl _ _ n 85 (intsA 25 offs) _ rfl h1 Tryd.underlying85 rfl hin) rfl
        ⟨rfl, Only.fresh hB o1 (by have := HN.out; omega)⟩

end Go.Proofs.YtjbenoaefjlbaaaDoor
