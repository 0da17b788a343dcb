/-
  Texts of this claim, put together.
-/
import Derived.Test.YtjdhdeffiigpbaaDoorKA
import Derived.Laws.IdiomCopy
import Derived.StillTailTactics
import Derived.RegionTactic
/-
  A hash in memory: 25 lanes, 136 bytes, a number. Laws for what is loaded, stored and copied in the middle of such a block.
-/
namespace Go.Proofs.YtjdhdeffiigpbaaDoor.K
open Go.RowKit

/-- A cell of a hash. -/
def hashCell (s : Nat → BitVec 64) (B : Nat → UInt8) (z : Nat) (i : Nat) : Value :=
  if i < 25 then .int .u64 (lane (s i)) else if i < 161 then .int .u8 (oct (B (i - 25))) else .int .i64 (z : Nat)
def hashA (s : Nat → BitVec 64) (B : Nat → UInt8) (z : Nat) : Array Value := Array.ofFn (n := 162) fun i => hashCell s B z i.val
theorem hashA_size (s : Nat → BitVec 64) (B : Nat → UInt8) (z : Nat) : (hashA s B z).size = 162 := by simp [hashA]
theorem hashA_get (s : Nat → BitVec 64) (B : Nat → UInt8) (z i : Nat) (h : i < 162) : (hashA s B z)[i]? = some (hashCell s B z i) := by simp [hashA, h]
theorem hashA_congr {s s' : Nat → BitVec 64} {B B' : Nat → UInt8} {z z' : Nat} (h1 : ∀ i, i < 25 → s i = s' i) (h2 : ∀ i, i < 136 → B i = B' i) (h3 : z = z') : hashA s B z = hashA s' B' z' := by
  unfold hashA
  congr 1
  funext i
  have hi := i.isLt
  unfold hashCell
  subst h3
  by_cases c : i.val < 25
  · simp only [c, if_true]; rw [h1 _ c]
  · by_cases d : i.val < 161
    · simp only [c, d, if_true, if_false]; rw [h2 _ (by omega)]
    · simp only [c, d, if_false]
theorem hashA_one (s : Nat → BitVec 64) (B : Nat → UInt8) (z : Nat) : (hashA s B z).all (·.oneCell') = true := by
  refine Array.all_eq_true_iff_forall_mem.2 fun v hv => ?_
  obtain ⟨i, rfl⟩ := Array.mem_ofFn.1 hv
  unfold hashCell
  split
  · rfl
  · split <;> rfl

/-- Cells set one by one. -/
def splat (cs : Array Value) : Nat → List Value → Array Value
  | _, [] => cs
  | o, v :: r => splat (cs.setIfInBounds o v) (o + 1) r
theorem Holds.setCells {b : Nat} {t : TypeId} : ∀ (vs : List Value) (o : Nat) (w : World) (cs : Array Value), Holds w b t cs → Holds (w.setCells b o vs) b t (splat cs o vs)
  | [], _, _, _, h => h
  | v :: r, o, _, _, h => Holds.setCells r (o + 1) _ _ (h.set o v)
theorem Only.setCells {b : Nat} : ∀ (vs : List Value) (o : Nat) (w0 w : World), Only b w0 w → Only b w0 (w.setCells b o vs)
  | [], _, _, _, h => h
  | v :: r, o, _, _, h => Only.setCells r (o + 1) _ _ (h.set o v)
theorem size_setCells {b : Nat} : ∀ (vs : List Value) (o : Nat) (w : World), (w.setCells b o vs).heap.size = w.heap.size
  | [], _, _ => rfl
  | v :: r, o, w => by rw [World.setCells, size_setCells r (o + 1), World.size_setCell]
theorem splat_get : ∀ (vs : List Value) (o : Nat) (cs : Array Value) (i : Nat), o + vs.length ≤ cs.size →
    (splat cs o vs)[i]? = if o ≤ i ∧ i < o + vs.length then vs[i - o]? else cs[i]?
  | [], o, cs, i, _ => by rw [if_neg (by simp)]; rfl
  | v :: r, o, cs, i, h => by
    have h' : o + (r.length + 1) ≤ cs.size := h
    rw [splat, splat_get r (o + 1) _ i (by simp; omega)]
    by_cases c : i = o
    · subst c
      rw [if_neg (by omega), if_pos (by simp)]
      simp [show i < cs.size by omega]
    · by_cases d : o + 1 ≤ i ∧ i < o + 1 + r.length
      · rw [if_pos d, if_pos (by simp; omega)]
        rw [show i - o = (i - (o + 1)) + 1 by omega, List.getElem?_cons_succ]
      · rw [if_neg d, if_neg (by simp; omega)]
        simp [Ne.symm c]
theorem splat_size : ∀ (vs : List Value) (o : Nat) (cs : Array Value), (splat cs o vs).size = cs.size
  | [], _, _ => rfl
  | v :: r, o, cs => by rw [splat, splat_size r]; simp

/-- Bytes put over others, from place m on. -/
def over (B : Nat → UInt8) (m : Nat) (l : List UInt8) : Nat → UInt8 := fun j => if m ≤ j ∧ j < m + l.length then l.getD (j - m) 0 else B j
def octs (l : List UInt8) : List Value := l.map fun c => .int .u8 (oct c)
theorem octs_length (l : List UInt8) : (octs l).length = l.length := by simp [octs]
theorem octs_get (l : List UInt8) (i : Nat) (h : i < l.length) : (octs l)[i]? = some (.int .u8 (oct (l.getD i 0))) := by
  simp [octs, h]

theorem hashA_over (s : Nat → BitVec 64) (B : Nat → UInt8) (z m : Nat) (l : List UInt8) (h : m + l.length ≤ 136) :
    splat (hashA s B z) (25 + m) (octs l) = hashA s (over B m l) z := by
  apply Array.ext_getElem?
  intro i
  rw [splat_get _ _ _ _ (by rw [octs_length, hashA_size]; omega), octs_length]
  by_cases hi : i < 162
  · rw [hashA_get _ _ _ _ hi, hashA_get _ _ _ _ hi]
    by_cases c : 25 + m ≤ i ∧ i < 25 + m + l.length
    · rw [if_pos c, octs_get _ _ (by omega)]
      unfold hashCell over
      rw [if_neg (by omega), if_pos (by omega), if_pos (by omega), show i - (25 + m) = i - 25 - m by omega]
    · rw [if_neg c]
      unfold hashCell over
      by_cases d : i < 25
      · rw [if_pos d, if_pos d]
      · rw [if_neg d, if_neg d]
        by_cases e : i < 161
        · rw [if_pos e, if_pos e, if_neg (by omega)]
        · rw [if_neg e, if_neg e]
  · rw [if_neg (by omega)]
    rw [Array.getElem?_eq_none (by rw [hashA_size]; omega), Array.getElem?_eq_none (by rw [hashA_size]; omega)]
theorem hashA_state (s s' : Nat → BitVec 64) (B : Nat → UInt8) (z : Nat) : splat (hashA s B z) 0 (lanesA s').toList = hashA s' B z := by
  have hl : (lanesA s').toList.length = 25 := by simp [lanesA]
  apply Array.ext_getElem?
  intro i
  rw [splat_get _ _ _ _ (by rw [hl, hashA_size]; omega), hl]
  by_cases hi : i < 162
  · rw [hashA_get _ _ _ _ hi, hashA_get _ _ _ _ hi]
    by_cases c : i < 25
    · rw [if_pos (by omega), Nat.sub_zero, Array.getElem?_toList, lanesA_get _ _ c]
      unfold hashCell
      rw [if_pos c]
    · rw [if_neg (by omega)]
      unfold hashCell
      rw [if_neg c, if_neg c]
  · rw [if_neg (by omega)]
    rw [Array.getElem?_eq_none (by rw [hashA_size]; omega), Array.getElem?_eq_none (by rw [hashA_size]; omega)]
theorem hashA_num (s : Nat → BitVec 64) (B : Nat → UInt8) (z z' : Nat) : (hashA s B z).setIfInBounds 161 (.int .i64 (z' : Nat)) = hashA s B z' := by
  have := splat_get [.int .i64 (z' : Nat)] 161 (hashA s B z)
  apply Array.ext_getElem?
  intro i
  have e := this i (by rw [hashA_size]; simp)
  rw [show splat (hashA s B z) 161 [.int .i64 (z' : Nat)] = (hashA s B z).setIfInBounds 161 (.int .i64 (z' : Nat)) from rfl] at e
  rw [e]
  by_cases hi : i < 162
  · rw [hashA_get _ _ _ _ hi, hashA_get _ _ _ _ hi]
    by_cases c : i = 161
    · subst c; rfl
    · rw [if_neg (by simp; omega)]
      unfold hashCell
      by_cases d : i < 25
      · rw [if_pos d, if_pos d]
      · rw [if_neg d, if_neg d, if_pos (by omega), if_pos (by omega)]
  · rw [if_neg (by simp; omega)]
    rw [Array.getElem?_eq_none (by rw [hashA_size]; omega), Array.getElem?_eq_none (by rw [hashA_size]; omega)]
theorem bytesA_over (n : Nat) (B : Nat → UInt8) (m : Nat) (l : List UInt8) (h : m + l.length ≤ n) : splat (bytesA n B) m (octs l) = bytesA n (over B m l) := by
  apply Array.ext_getElem?
  intro i
  rw [splat_get _ _ _ _ (by rw [octs_length, bytesA_size]; omega), octs_length]
  by_cases hi : i < n
  · rw [bytesA_get _ _ _ hi, bytesA_get _ _ _ hi]
    unfold over
    by_cases c : m ≤ i ∧ i < m + l.length
    · rw [if_pos c, octs_get _ _ (by omega), if_pos c]
    · rw [if_neg c, if_neg c]
  · rw [if_neg (by omega)]
    rw [Array.getElem?_eq_none (by rw [bytesA_size]; omega), Array.getElem?_eq_none (by rw [bytesA_size]; omega)]

section
variable {w : World} {b : Nat} {t : TypeId} {s : Nat → BitVec 64} {B : Nat → UInt8} {z : Nat}
theorem Holds.hashState (h : Holds w b t (hashA s B z)) : w.rangeAt b 0 (lanesA s).toList := fun j v hv => by
  have hj : j < 25 := by
    have := (List.getElem?_eq_some_iff.1 hv).1
    simpa [lanesA] using this
  rw [Array.getElem?_toList, lanesA_get _ _ hj] at hv
  rw [Nat.zero_add, h.cell, hashA_get _ _ _ _ (by omega)]
  unfold hashCell
  rw [if_pos hj]; exact hv
theorem Holds.hashBlock (h : Holds w b t (hashA s B z)) : w.rangeAt b 25 (bytesA 136 B).toList := fun j v hv => by
  have hj : j < 136 := by
    have := (List.getElem?_eq_some_iff.1 hv).1
    rw [Array.length_toList, bytesA_size] at this; exact this
  rw [Array.getElem?_toList, bytesA_get _ _ _ hj] at hv
  rw [h.cell, hashA_get _ _ _ _ (by omega)]
  unfold hashCell
  rw [if_neg (by omega), if_pos (by omega), show 25 + j - 25 = j by omega]; exact hv
theorem Holds.byteRow {n : Nat} (h : Holds w b t (bytesA n B)) : w.rangeAt b 0 (bytesA n B).toList := fun j v hv => by
  rw [Nat.zero_add, h.cell, ← hv, Array.getElem?_toList]
theorem Holds.hashNum (h : Holds w b t (hashA s B z)) : w.cell? ⟨b, 161, none⟩ = some (.int .i64 (z : Nat)) := by
  rw [h.cell, hashA_get _ _ _ _ (by omega)]; rfl
theorem Holds.there {cs : Array Value} (h : Holds w b t cs) (o n : Nat) (hn : o + n ≤ cs.size) : w.there b o n := fun j hj =>
  ⟨by rw [h.cell]; simp; omega, h.frozen _⟩
end

section
variable {P : Program}
/-- A row in the middle of a block is loaded, in a region that draws its order. -/
theorem wpStill_load {ops : Array Oper} {rest : List Oper} {op : Oper} {a : Act} {w : World} {Q : Act → Prop} (hgd : op.guard = none) (ty : TypeId) (x : Operand) (ho : op.op = .load ty x)
    (b o : Nat) (hx : a.eval x = .pointer (some ⟨b, o, none⟩)) (cs : Array Value) (d : TypeDesc) (hc : w.rangeAt b o cs.toList)
    (hu : P.underlying ty = some d) (hd : d.isRow = true) (hi : (P.info? ty).map (·.size) = some cs.size)
    (h : wpStill P ops w Q rest (a.put op.dst (.agg cs))) : wpStill P ops w Q (op :: rest) a :=
  wpStill_step fun _ hK => by
    rw [if_pos (by simp [Region.wanted, hgd])]
    unfold Oper.still execOp
    have := run_loadVar_mid w b o ty cs.toList d hc hu hd (by simpa using hi)
    simp only [ho, hx, Instr.loadAt, Instr.sureAddr, Sem.run_bind, Sem.run_pure, Result.andThen_ok, this]
    exact ⟨rfl, hK _ (by simpa using h)⟩
/-- A row is stored into the middle of a block. -/
theorem wpList_storeMid {ops : Array Oper} {rest : List Oper} {op : Oper} {a : Act} {w : World} {Q : Exit → Act → World → Prop} (hgd : op.guard = none) (ty : TypeId) (x y : Operand) (ho : op.op = .store ty x y)
    (b o : Nat) (cells : Array Value) (hx : a.eval x = .pointer (some ⟨b, o, none⟩)) (hy : a.eval y = .agg cells)
    (t : TypeId) (old new : Array Value) (hh : Holds w b t old) (hn : splat old o cells.toList = new) (hz : o + cells.size ≤ old.size)
    (hi : (P.info? ty).map (·.size) = some cells.size) (h1 : cells.all (·.oneCell') = true)
    (h : ∀ w', Holds w' b t new → Only b w w' → w'.heap.size = w.heap.size → wpList P ops Q rest (a.put op.dst undef) w') : wpList P ops Q (op :: rest) a w :=
  wpList_plain hgd fun _ hK => by
    unfold Oper.wp execOp
    simp only [ho, hx, hy, Instr.storeAt, Instr.sureAddr, Sem.run_bind, Sem.run_pure, Result.andThen_ok, run_storeVar_mid w b o ty cells (hh.there o _ hz) hi h1]
    exact hK _ _ (h _ (hn ▸ Holds.setCells _ o w old hh) (Only.setCells _ _ _ _ (Only.refl _ _)) (size_setCells _ _ _))

theorem run_copy_str (w : World) (dT sT ty elem : TypeId) (b o dLen dCap : Nat) (r : ByteArray) (t : TypeId) (old : Array Value)
    (hu : P.underlying dT = some (.slice elem)) (hs : (P.info? elem).map (·.size) = some 1) (hh : Holds w b t old) (hz : o + dLen ≤ old.size) :
    (Builtin.copy_ #[dT, sT] ty #[.slice (some ⟨b, o, none⟩) dLen dCap, .string r]).run P w = .ok (goInt (Nat.min r.size dLen)) (w.setCells b o (octs (r.data.toList.take (Nat.min r.size dLen)))) := by
  have hle : (octs (r.data.toList.take (Nat.min r.size dLen))).length = Nat.min r.size dLen := by
    rw [octs_length, List.length_take]
    have : r.data.toList.length = r.size := rfl
    rw [this]; exact Nat.min_eq_left (Nat.min_le_left _ _)
  have hmin : Nat.min r.size dLen ≤ dLen := Nat.min_le_right _ _
  have hth := hh.there o dLen hz
  have hst := run_storeCells_cells (P := P) b o (octs (r.data.toList.take (Nat.min r.size dLen))) 0 w (by rw [hle]; intro j hj; exact (hth j (by omega)).1) (by rw [hle]; intro j hj; exact (hth j (by omega)).2) (by
    intro v hv
    obtain ⟨x, _, rfl⟩ := List.mem_map.1 hv
    rfl)
  have hcells : ((r.extract 0 (Nat.min r.size dLen)).data.map fun c => Value.int .u8 (c.toNat : Int)).toList = octs (r.data.toList.take (Nat.min r.size dLen)) := by
    simp [octs, oct]
  have hzz : (Go.sizeOf elem).run P w = .ok 1 w := by
    cases hq : P.info? elem with
    | none => simp [hq] at hs
    | some i =>
      have hi : i.size = 1 := by simpa [hq] using hs
      simp [Go.sizeOf, typeInfo, hq, hi]
  unfold Builtin.copy_
  simp only [List.getElem?_toArray, List.getElem?_cons_zero, List.getElem?_cons_succ, Sem.run_bind, run_underlying hu, Result.andThen_ok, Builtin.lenOf, Sem.run_pure, Builtin.firstCells, hzz, hcells, Nat.add_zero] at hst ⊢
  rw [hst]
  rfl
/-- The built-in copy of a string's bytes into the middle of a block. -/
theorem wpList_copyStr {ops : Array Oper} {rest : List Oper} {op : Oper} {a : Act} {w : World} {Q : Exit → Act → World → Prop} (hgd : op.guard = none) (d x : Operand) (dT sT : TypeId)
    (hop : op.op = Op.call { callee := Callee.builtin Builtin.copy, args := #[d, x], argTypes := #[dT, sT] })
    (elem : TypeId) (hu : P.underlying dT = some (.slice elem)) (hs : (P.info? elem).map (·.size) = some 1)
    (b o dLen dCap : Nat) (hd : a.eval d = .slice (some ⟨b, o, none⟩) dLen dCap) (r : ByteArray) (hx : a.eval x = .string r) (t : TypeId) (old : Array Value) (hh : Holds w b t old) (hz : o + dLen ≤ old.size)
    (h : ∀ w', Holds w' b t (splat old o (octs (r.data.toList.take (Nat.min r.size dLen)))) → Only b w w' → w'.heap.size = w.heap.size → wpList P ops Q rest (a.put op.dst (goInt (Nat.min r.size dLen))) w') : wpList P ops Q (op :: rest) a w :=
  wpList_plain hgd fun _ hK => by
    have hrun := run_copy_str (P := P) w dT sT op.type elem b o dLen dCap r t old hu hs hh hz
    unfold Oper.wp
    simp [execOp, hop, resolve, invoke, builtin, hd, hx, hrun, Result.andThen]
    exact hK _ _ (h _ (Holds.setCells _ o w old hh) (Only.setCells _ _ _ _ (Only.refl _ _)) (size_setCells _ _ _))
/-- The built-in copy of bytes of one block into another one. -/
theorem wpList_copyRow {ops : Array Oper} {rest : List Oper} {op : Oper} {a : Act} {w : World} {Q : Exit → Act → World → Prop} (hgd : op.guard = none) (d x : Operand) (dT sT : TypeId)
    (hop : op.op = Op.call { callee := Callee.builtin Builtin.copy, args := #[d, x], argTypes := #[dT, sT] })
    (elem : TypeId) (hu : P.underlying dT = some (.slice elem)) (hs : (P.info? elem).map (·.size) = some 1)
    (b o dLen dCap : Nat) (hd : a.eval d = .slice (some ⟨b, o, none⟩) dLen dCap) (c p sLen sCap : Nat) (hx : a.eval x = .slice (some ⟨c, p, none⟩) sLen sCap) (l : List UInt8) (hl : l.length = Nat.min sLen dLen)
    (hsrc : w.rangeAt c p (octs l)) (t : TypeId) (old : Array Value) (hh : Holds w b t old) (hz : o + dLen ≤ old.size)
    (h : ∀ w', Holds w' b t (splat old o (octs l)) → Only b w w' → w'.heap.size = w.heap.size → wpList P ops Q rest (a.put op.dst (goInt l.length)) w') : wpList P ops Q (op :: rest) a w :=
  wpList_plain hgd fun _ hK => by
    have hmin : Nat.min sLen dLen ≤ dLen := Nat.min_le_right _ _
    have hth := hh.there o dLen hz
    have hrun := run_copy_cells (P := P) w dT sT op.type elem b o dLen dCap ⟨c, p, none⟩ sLen sCap (octs l) hu hs (by rw [octs_length]; exact hl)
      (fun j v hv => by rw [Addr.add_mid]; exact hsrc j v hv) (fun j hj => (hth j (by rw [octs_length] at hj; omega)).1) (fun j hj => (hth j (by rw [octs_length] at hj; omega)).2)
      (by
        intro v hv
        obtain ⟨x, _, rfl⟩ := List.mem_map.1 hv
        rfl)
    unfold Oper.wp
    simp [execOp, hop, resolve, invoke, builtin, hd, hx, hrun, Result.andThen, octs_length]
    exact hK _ _ (h _ (Holds.setCells _ o w old hh) (Only.setCells _ _ _ _ (Only.refl _ _)) (size_setCells _ _ _))
/-- A region that draws its order: n operations that turn nothing, then the rest in its own order. -/
theorem wp_region_tail {id : Nat} {Q : Exit → Act → World → Prop} {a : Act} {w : World} {l : List Oper} (n : Nat) (hm : P.follows .mixedOrders = true) (hB : Region.lexTailB .any l.toArray n = true)
    (h : wpStill P l.toArray w.drew (fun a' => wpList P l.toArray Q (l.drop n) a' w.drew) (l.take n) a) : (Code.region id l.toArray true).wp P Q a w :=
  wp_region_still_tail n hm hB h
/-- A step of a region that draws its order: a row is loaded. -/
theorem step_load {ops : Array Oper} {op : Oper} {a : Act} {w : World} {K : Act → World → Prop} {Q : Exit → Act → World → Prop} {E : Prop} (hgd : op.guard = none) (ty : TypeId) (x : Operand) (ho : op.op = .load ty x)
    (b o : Nat) (hx : a.eval x = .pointer (some ⟨b, o, none⟩)) (cs : Array Value) (d : TypeDesc) (hc : w.rangeAt b o cs.toList)
    (hu : P.underlying ty = some d) (hd : d.isRow = true) (hi : (P.info? ty).map (·.size) = some cs.size)
    (h : K (a.put op.dst (.agg cs)) w) : if Region.wanted op (yielded ops a.tmps) = true then Oper.wp P op a w K Q else E := by
  rw [if_pos (by simp [Region.wanted, hgd])]
  exact wp_load_mid ty x ho b o hx cs.toList d hc hu hd (by simpa using hi) (by simpa using h)
/-- A step of a region that draws its order: a row is stored. -/
theorem step_store {ops : Array Oper} {op : Oper} {a : Act} {w : World} {K : Act → World → Prop} {Q : Exit → Act → World → Prop} {E : Prop} (hgd : op.guard = none) (ty : TypeId) (x y : Operand) (ho : op.op = .store ty x y)
    (b o : Nat) (cells : Array Value) (hx : a.eval x = .pointer (some ⟨b, o, none⟩)) (hy : a.eval y = .agg cells)
    (t : TypeId) (old new : Array Value) (hh : Holds w b t old) (hn : splat old o cells.toList = new) (hz : o + cells.size ≤ old.size)
    (hi : (P.info? ty).map (·.size) = some cells.size) (h1 : cells.all (·.oneCell') = true)
    (h : ∀ w', Holds w' b t new → Only b w w' → w'.heap.size = w.heap.size → K (a.put op.dst undef) w') : if Region.wanted op (yielded ops a.tmps) = true then Oper.wp P op a w K Q else E := by
  rw [if_pos (by simp [Region.wanted, hgd])]
  exact wp_store_mid ty x y ho b o cells hx hy (hh.there o _ hz) hi h1 (h _ (hn ▸ Holds.setCells _ o w old hh) (Only.setCells _ _ _ _ (Only.refl _ _)) (size_setCells _ _ _))
theorem wpAny_one {ops : Array Oper} {md : Region.Mode} {fuel : Nat} {listed : Array Bool} {a : Act} {w : World} {Q : Exit → Act → World → Prop} (i : Nat) {o : Oper} (ho : ops[i]? = some o) (hr : Region.ready md ops listed = [i])
    (h : ∀ K' : Act → World → Prop, (∀ a w, wpAny P md ops Q fuel (listed.setIfInBounds i true) a w → K' a w) → if Region.wanted o (yielded ops a.tmps) = true then Oper.wp P o a w K' Q else K' (a.put o.dst undef) w) :
    wpAny P md ops Q (fuel + 1) listed a w :=
  wpAny_ready (rs := [i]) hr (by simp) (AllReady.cons ho h AllReady.nil)
theorem wpAny_two {ops : Array Oper} {md : Region.Mode} {fuel : Nat} {listed : Array Bool} {a : Act} {w : World} {Q : Exit → Act → World → Prop} (i j : Nat) {o o' : Oper} (ho : ops[i]? = some o) (ho' : ops[j]? = some o') (hr : Region.ready md ops listed = [i, j])
    (h : ∀ K' : Act → World → Prop, (∀ a w, wpAny P md ops Q fuel (listed.setIfInBounds i true) a w → K' a w) → if Region.wanted o (yielded ops a.tmps) = true then Oper.wp P o a w K' Q else K' (a.put o.dst undef) w)
    (h' : ∀ K' : Act → World → Prop, (∀ a w, wpAny P md ops Q fuel (listed.setIfInBounds j true) a w → K' a w) → if Region.wanted o' (yielded ops a.tmps) = true then Oper.wp P o' a w K' Q else K' (a.put o'.dst undef) w) :
    wpAny P md ops Q (fuel + 1) listed a w :=
  wpAny_ready (rs := [i, j]) hr (by simp) (AllReady.cons ho h (AllReady.cons ho' h' AllReady.nil))
end
end Go.Proofs.YtjdhdeffiigpbaaDoor.K
/-
  What the calls of absorb and squeeze do.
-/
namespace Go.Proofs.YtjdhdeffiigpbaaDoor.K
open Go.RowKit

theorem info136 : (Tryd.prog.info? 79).map (·.size) = some 136 := by kernel_rfl
theorem info32 : (Tryd.prog.info? 40).map (·.size) = some 32 := by kernel_rfl

set_option maxRecDepth 4000 in
set_option maxHeartbeats 1000000 in
theorem absorb_any (s : Nat → BitVec 64) (B : Nat → UInt8) (w : World) (hT : Tabs w) :
    Calls Tryd.prog 73 #[.agg (lanesA s), .agg (bytesA 136 B)] w fun e w' => e = .returned (.agg (lanesA (soak s B))) ∧ Below w.heap.size w w' := by
  go_enter Tryd.func73, Tryd.ntmps73
  go_wp2
  obtain ⟨n, hn⟩ : ∃ n, n = w.heap.size := ⟨_, rfl⟩
  have hn3 : 4 ≤ n := hn ▸ hT.size
  rw [← hn]
  have HN : Hid (n = w.heap.size) := hn
  clear hn
  go_loopw [8] (fun y wr => ∃ k : Nat, k ≤ 17 ∧ y = .int .i64 k ∧ Below w.heap.size w wr ∧ Holds wr n 71 (lanesA (mixUp s B k)) ∧ Holds wr (n + 1) 79 (bytesA 136 B) ∧ (∃ q, Holds wr (n + 2) 71 (lanesA q))) (fun y _ => 17 - (intOf y).toNat)
  case atStart =>
    refine ⟨0, by omega, rfl, (((Below.refl _ _).alloc (Nat.le_refl _) _).alloc (by simp) _).alloc (by simp; omega) _, ?_, ?_, fun _ => 0, ?_⟩
    · rw [HN.out]; exact (((Holds.new w 71 (lanesA s)).alloc _).alloc _).congr (lanesA_congr fun i _ => by simp [mixUp])
    · have h := Holds.new (w.alloc (.cells (lanesA s) 71)) 79 (bytesA 136 B)
      rw [World.size_alloc, ← HN.out] at h
      exact h.alloc _
    · have h := Holds.new ((w.alloc (.cells (lanesA s) 71)).alloc (.cells (bytesA 136 B) 79)) 71 (lanesA fun _ => 0)
      rw [World.size_alloc, World.size_alloc, ← HN.out] at h
      exact h
  case round =>
    obtain ⟨k, hk, rfl, hB, hh, hy, q, hq⟩ := hrel
    by_cases hlt : k < 17
    · have hk1 : (k : Int) < 17 := by omega
      have hcb := fun j (hj : j < 8) => hy.byteCell (8 * k + j) (by omega)
      have hck := hh.laneAt k (by omega)
      rw [show mixUp s B k k = s k by simp [mixUp]] at hck
      have hf := hh.frozen
      have HH : Hid (Holds wr n 71 (lanesA (mixUp s B k))) := hh
      have HY : Hid (Holds wr (n + 1) 79 (bytesA 136 B)) := hy
      clear hh hy
      go_wp2
      go_loop [6, 11] (fun l y => ∃ j : Nat, j ≤ 8 ∧ y = .int .i64 j ∧ l = .int .u64 (lane (laneUp B k j))) (fun _ y => 8 - (intOf y).toNat)
      case atStart => exact ⟨0, by omega, rfl, rfl⟩
      case round =>
        obtain ⟨j, hj, rfl, rfl⟩ := hrel
        by_cases hjl : j < 8
        · have hcj := hcb j hjl
          clear hcb
          have hj1 : (j : Int) < 8 := by omega
          obtain ⟨c, hc⟩ : ∃ c, B (8 * k + j) = c := ⟨_, rfl⟩
          rw [hc] at hcj
          have HC : Hid (B (8 * k + j) = c) := hc
          have hc0 := oct_nn c
          have hc1 := oct_le c
          clear hc
          go_wp2
          go_round
          case rel =>
            refine ⟨j + 1, by omega, rfl, ?_⟩
            have e : bits BinOp.or IntKind.u64 (lane (laneUp B k j)) (IntKind.u64.wrap (oct c * 2 ^ (8 * j))) = lane (laneUp B k (j + 1)) := by
              rw [oct_wide, lane_shl, lane_or, ← HC.out]; rfl
            rw [e]
          case measure => simp [intOf]; omega
        · have hj5 : ¬ (j : Int) < 8 := by omega
          have hjj : j = 8 := by omega
          subst hjj
          clear hcb
          go_wp2
          go_roundw
          case rel =>
            refine ⟨k + 1, by omega, rfl, ?_, ?_, ?_, q, ?_⟩
            · exact Only.fresh hB ((Only.refl n wr).set k _) (by rw [HN.out]; exact Nat.le_refl _)
            · rw [lane_xor]; exact mixUp_step s B n 71 k wr (by omega) HH.out
            · exact Holds.other HY.out _ _ (by simp)
            · exact Holds.other hq _ _ (by simp)
          case measure => simp [intOf]; omega
    · have hk5 : ¬ (k : Int) < 17 := by omega
      have hkk : k = 17 := by omega
      subst hkk
      have hTr := hT.below hB
      go_wp2_with (first
        | (refine wpList_loadH rfl 71 _ rfl n rfl 71 (lanesA (mixUp s B 17)) _ hh Tryd.underlying71 rfl (by rw [lanesA_size]; exact info25) ?_)
        | fail)
      refine (permute_any _ _ hTr).mono ?_
      rintro e w1 ⟨rfl, hB1⟩
      have hq1 : Holds w1 (n + 1 + 1) 71 (lanesA q) := Below.holds hB1 hq
      go_wp2_with (first
        | (refine wpList_storeH rfl 71 _ _ rfl (n + 1 + 1) (lanesA (perm (mixUp s B 17))) rfl rfl 71 (lanesA q) hq1 (by rw [lanesA_size]; exact info25) (by rw [lanesA_size, lanesA_size]) (lanesA_one _) ?_
           intro w2 h2 o2 z2)
        | fail)
      exact bodyPost_ret (results_cellH rfl _ _ (n + 1 + 1) 71 (lanesA (perm (mixUp s B 17))) _ rfl h2 Tryd.underlying71 rfl (by rw [lanesA_size]; exact info25)) rfl
        ⟨rfl, Only.fresh (hB.trans (hB1.mono hB.size)) o2 (by rw [HN.out]; omega)⟩

set_option maxRecDepth 4000 in
set_option maxHeartbeats 1000000 in
theorem squeeze_any (s : Nat → BitVec 64) (w : World) :
    Calls Tryd.prog 74 #[.agg (lanesA s)] w fun e w' => e = .returned (.agg (bytesA 32 (byteAt s))) ∧ Below w.heap.size w w' := by
  go_enter Tryd.func74, Tryd.ntmps74
  go_wp2
  obtain ⟨n, hn⟩ : ∃ n, n = w.heap.size := ⟨_, rfl⟩
  rw [← hn]
  have HN : Hid (n = w.heap.size) := hn
  clear hn
  go_loopw [5] (fun y wr => ∃ k : Nat, k ≤ 32 ∧ y = .int .i64 k ∧ Below w.heap.size w wr ∧ Holds wr n 71 (lanesA s) ∧ (∃ q, Holds wr (n + 1) 40 (bytesA 32 q)) ∧ Holds wr (n + 2) 40 (bytesA 32 (fun i => if i < k then byteAt s i else 0))) (fun y _ => 32 - (intOf y).toNat)
  case atStart =>
    refine ⟨0, by omega, rfl, (((Below.refl _ _).alloc (Nat.le_refl _) _).alloc (by simp) _).alloc (by simp; omega) _, ?_, ⟨fun _ => 0, ?_⟩, ?_⟩
    · rw [HN.out]; exact (((Holds.new w 71 (lanesA s)).alloc _).alloc _)
    · have h := Holds.new (w.alloc (.cells (lanesA s) 71)) 40 (bytesA 32 fun _ => 0)
      rw [World.size_alloc, ← HN.out] at h
      exact h.alloc _
    · have h := Holds.new ((w.alloc (.cells (lanesA s) 71)).alloc (.cells (bytesA 32 fun _ => 0) 40)) 40 (bytesA 32 fun _ => 0)
      rw [World.size_alloc, World.size_alloc, ← HN.out] at h
      exact h
  case round =>
    obtain ⟨k, hk, rfl, hB, hh, ⟨q, hq⟩, hr⟩ := hrel
    by_cases hlt : k < 32
    · have hk1 : (k : Int) < 32 := by omega
      have hck := hh.laneAt (k / 8) (by omega)
      have hrk := hr.byteCell k hlt
      have hf := hr.frozen
      have HH : Hid (Holds wr n 71 (lanesA s)) := hh
      have HR : Hid (Holds wr (n + 2) 40 (bytesA 32 (fun i => if i < k then byteAt s i else 0))) := hr
      have hl0 := lane_nn (s (k / 8))
      have hl1 := lane_lt (s (k / 8))
      clear hh hr
      go_wp2
      go_roundw
      case rel =>
        rw [byteAt_mod]
        refine ⟨k + 1, by omega, rfl, ?_, ?_, ⟨q, ?_⟩, ?_⟩
        · exact Only.fresh hB ((Only.refl (n + 1 + 1) wr).set k _) (by rw [HN.out]; omega)
        · exact Holds.other HH.out _ _ (by simp; omega)
        · exact Holds.other hq _ _ (by simp)
        · refine (Holds.byteSet HR.out k (byteAt s k)).congr (bytesA_congr fun i _ => ?_)
          by_cases e : i = k
          · subst e; simp
          · by_cases c : i < k
            · simp [e, c, show i < k + 1 by omega]
            · simp [e, c, show ¬ i < k + 1 by omega]
      case measure => simp [intOf]; omega
    · have hk5 : ¬ (k : Int) < 32 := by omega
      have hkk : k = 32 := by omega
      subst hkk
      have hr2 : Holds wr (n + 1 + 1) 40 (bytesA 32 (byteAt s)) := hr.congr (bytesA_congr fun i hi => by simp [hi])
      go_wp2_with (first
        | (refine wpList_loadH rfl 40 _ rfl (n + 1 + 1) rfl 40 (bytesA 32 (byteAt s)) _ hr2 Tryd.underlying40 rfl (by rw [bytesA_size]; exact info32) ?_)
        | (refine wpList_storeH rfl 40 _ _ rfl (n + 1) (bytesA 32 (byteAt s)) rfl rfl 40 (bytesA 32 q) hq (by rw [bytesA_size]; exact info32) (by rw [bytesA_size, bytesA_size]) (bytesA_one _ _) ?_
           intro w2 h2 o2 z2))
      exact bodyPost_ret (results_cellH rfl _ _ (n + 1) 40 (bytesA 32 (byteAt s)) _ rfl h2 Tryd.underlying40 rfl (by rw [bytesA_size]; exact info32)) rfl
        ⟨rfl, Only.fresh hB o2 (by rw [HN.out]; omega)⟩

end Go.Proofs.YtjdhdeffiigpbaaDoor.K
/-
  The hash of bytes, as a plain function; a hash in memory that has taken in bytes. Nothing of the program.
-/
namespace Go.Proofs.YtjdhdeffiigpbaaDoor.K
open Go.RowKit

/-- The state behind the first q blocks. -/
def soakN (M : List UInt8) : Nat → Nat → BitVec 64
  | 0 => fun _ => 0
  | q + 1 => soak (soakN M q) (fun j => M.getD (136 * q + j) 0)
/-- The last block, padded. -/
def lastB (M : List UInt8) : Nat → UInt8 := fun j =>
  ((if j < M.length % 136 then M.getD (136 * (M.length / 136) + j) 0 else 0) ^^^ (if j = M.length % 136 then 1 else 0)) ^^^ (if j = 135 then 128 else 0)
/-- The hash. -/
def hashOf (M : List UInt8) : Nat → UInt8 := byteAt (soak (soakN M (M.length / 136)) (lastB M))

theorem laneUp_congr {B C : Nat → UInt8} (i : Nat) : ∀ j, (∀ k, k < j → B (8 * i + k) = C (8 * i + k)) → laneUp B i j = laneUp C i j
  | 0, _ => rfl
  | j + 1, h => by unfold laneUp; rw [laneUp_congr i j (fun k hk => h k (by omega)), h j (by omega)]
theorem soak_congr {s s' : Nat → BitVec 64} {B C : Nat → UInt8} (hs : Same s s') (h : ∀ i, i < 136 → B i = C i) : Same (soak s B) (soak s' C) := by
  unfold soak
  refine Same.onPerm fun i hi => ?_
  unfold mixUp
  by_cases c : i < 17
  · rw [if_pos c, if_pos c, hs i hi, laneUp_congr i 8 (fun k hk => h _ (by omega))]
  · rw [if_neg c, if_neg c, hs i hi]
theorem soakN_append (M L : List UInt8) : ∀ q, 136 * q ≤ M.length → Same (soakN (M ++ L) q) (soakN M q)
  | 0, _ => fun _ _ => rfl
  | q + 1, h => by
    refine soak_congr (soakN_append M L q (by omega)) fun i hi => ?_
    rw [List.getD_eq_getElem?_getD, List.getD_eq_getElem?_getD, List.getElem?_append_left (by omega)]

/-- Block b is a hash that has taken in M. -/
def Hashes (w : World) (b : Nat) (M : List UInt8) : Prop :=
  ∃ s B, Holds w b 81 (hashA s B M.length) ∧ Same s (soakN M (M.length / 136)) ∧ ∀ j, j < M.length % 136 → B j = M.getD (136 * (M.length / 136) + j) 0

theorem Hashes.only {w w' : World} {b c : Nat} {M : List UInt8} (h : Hashes w b M) (k : Only c w w') (hb : b ≠ c) : Hashes w' b M := by
  obtain ⟨s, B, h1, h2⟩ := h; exact ⟨s, B, k.holds h1 hb, h2⟩
theorem Hashes.below {w w' : World} {b : Nat} {M : List UInt8} (h : Hashes w b M) (k : Below w.heap.size w w') : Hashes w' b M := by
  obtain ⟨s, B, h1, h2⟩ := h; exact ⟨s, B, Below.holds k h1, h2⟩
theorem Hashes.lt {w : World} {b : Nat} {M : List UInt8} (h : Hashes w b M) : b < w.heap.size := by
  obtain ⟨s, B, h1, _⟩ := h; exact h1.lt
theorem Hashes.zero {w : World} {b : Nat} (h : Holds w b 81 (hashA (fun _ => 0) (fun _ => 0) 0)) : Hashes w b [] :=
  ⟨_, _, h, fun _ _ => rfl, fun j hj => by simp at hj⟩

/-- Bytes go behind what there is; the block is not full. -/
theorem part_more (M L : List UInt8) (B : Nat → UInt8) (hB : ∀ j, j < M.length % 136 → B j = M.getD (136 * (M.length / 136) + j) 0) (hL : M.length % 136 + L.length < 136) :
    (M ++ L).length / 136 = M.length / 136 ∧ (M ++ L).length % 136 = M.length % 136 + L.length ∧
    ∀ j, j < (M ++ L).length % 136 → over B (M.length % 136) L j = (M ++ L).getD (136 * ((M ++ L).length / 136) + j) 0 := by
  have h1 : (M ++ L).length / 136 = M.length / 136 := by rw [List.length_append]; omega
  have h2 : (M ++ L).length % 136 = M.length % 136 + L.length := by rw [List.length_append]; omega
  refine ⟨h1, h2, fun j hj => ?_⟩
  rw [h2] at hj
  rw [h1]
  unfold over
  by_cases c : j < M.length % 136
  · rw [if_neg (by omega), hB j c, List.getD_eq_getElem?_getD, List.getD_eq_getElem?_getD, List.getElem?_append_left (by omega)]
  · rw [if_pos (by omega), List.getD_eq_getElem?_getD, List.getD_eq_getElem?_getD, List.getElem?_append_right (by omega)]
    congr 2
    omega
/-- Bytes go behind what there is; the block is full. -/
theorem part_full (M L : List UInt8) (B : Nat → UInt8) (hB : ∀ j, j < M.length % 136 → B j = M.getD (136 * (M.length / 136) + j) 0) (hL : M.length % 136 + L.length = 136) :
    (M ++ L).length / 136 = M.length / 136 + 1 ∧ (M ++ L).length % 136 = 0 ∧
    ∀ j, j < 136 → over B (M.length % 136) L j = (M ++ L).getD (136 * (M.length / 136) + j) 0 := by
  have h1 : (M ++ L).length / 136 = M.length / 136 + 1 := by rw [List.length_append]; omega
  have h2 : (M ++ L).length % 136 = 0 := by rw [List.length_append]; omega
  refine ⟨h1, h2, fun j hj => ?_⟩
  unfold over
  by_cases c : j < M.length % 136
  · rw [if_neg (by omega), hB j c, List.getD_eq_getElem?_getD, List.getD_eq_getElem?_getD, List.getElem?_append_left (by omega)]
  · rw [if_pos (by omega), List.getD_eq_getElem?_getD, List.getD_eq_getElem?_getD, List.getElem?_append_right (by omega)]
    congr 2
    omega

theorem Same.symm {s s' : Nat → BitVec 64} (h : Same s s') : Same s' s := fun i hi => (h i hi).symm
theorem Same.trans {s s' s'' : Nat → BitVec 64} (h : Same s s') (k : Same s' s'') : Same s s'' := fun i hi => (h i hi).trans (k i hi)
theorem Hashes.more {w : World} {b : Nat} {N L : List UInt8} {s : Nat → BitVec 64} {B : Nat → UInt8} (h : Holds w b 81 (hashA s (over B (N.length % 136) L) (N.length + L.length)))
    (h2 : Same s (soakN N (N.length / 136))) (h3 : ∀ j, j < N.length % 136 → B j = N.getD (136 * (N.length / 136) + j) 0) (hL : N.length % 136 + L.length < 136) : Hashes w b (N ++ L) := by
  obtain ⟨q1, _, q3⟩ := part_more N L B h3 hL
  refine ⟨s, over B (N.length % 136) L, by rw [List.length_append]; exact h, ?_, q3⟩
  rw [q1]
  exact h2.trans (soakN_append N L _ (by omega)).symm
theorem Hashes.full {w : World} {b : Nat} {N L : List UInt8} {s : Nat → BitVec 64} {B B' : Nat → UInt8} (h : Holds w b 81 (hashA (soak s (over B (N.length % 136) L)) B' (N.length + L.length)))
    (h2 : Same s (soakN N (N.length / 136))) (h3 : ∀ j, j < N.length % 136 → B j = N.getD (136 * (N.length / 136) + j) 0) (hL : N.length % 136 + L.length = 136) : Hashes w b (N ++ L) := by
  obtain ⟨q1, q2, q3⟩ := part_full N L B h3 hL
  refine ⟨_, B', by rw [List.length_append]; exact h, ?_, fun j hj => by omega⟩
  rw [q1]
  exact soak_congr (h2.trans (soakN_append N L _ (by omega)).symm) q3
/-- The rest of a text. -/
theorem rest_toList (r : ByteArray) (n : Nat) : (r.extract n r.size).data.toList = r.data.toList.drop n := by
  rw [ByteArray.data_extract, Array.toList_extract]
  show (r.data.toList.drop n).take (r.size - n) = _
  rw [List.take_of_length_le]
  rw [List.length_drop]
  exact Nat.le_refl _
theorem rest_size (r : ByteArray) (n : Nat) : (r.extract n r.size).size = r.size - n := by simp
def textLen : Value → Nat
  | .string r => r.size
  | _ => 0

theorem oct_xor (c d : UInt8) : bits .xor .u8 (oct c) (oct d) = oct (c ^^^ d) := by
  unfold oct
  have hc := c.toNat_lt
  have hd := d.toNat_lt
  have hx : c.toNat ^^^ d.toNat < 2 ^ 8 := Nat.xor_lt_two_pow (by omega) (by omega)
  have h1 : (BitVec.ofInt 8 (c.toNat : Int)).toNat = c.toNat := by
    rw [BitVec.ofInt_natCast, BitVec.toNat_ofNat]; exact Nat.mod_eq_of_lt (by omega)
  have h2 : (BitVec.ofInt 8 (d.toNat : Int)).toNat = d.toNat := by
    rw [BitVec.ofInt_natCast, BitVec.toNat_ofNat]; exact Nat.mod_eq_of_lt (by omega)
  show IntKind.u8.wrap ((BitVec.ofInt 8 (c.toNat : Int) ^^^ BitVec.ofInt 8 (d.toNat : Int)).toNat : Int) = _
  rw [BitVec.toNat_xor, h1, h2, UInt8.toNat_xor]
  simp [IntKind.wrap, IntKind.bits, IntKind.signed]
  omega
theorem oct_xor1 (c : UInt8) : bits .xor .u8 (oct c) 1 = oct (c ^^^ 1) := oct_xor c 1
theorem oct_xor128 (c : UInt8) : bits .xor .u8 (oct c) 128 = oct (c ^^^ 128) := oct_xor c 128
/-- The first m bytes. -/
def firstB (B : Nat → UInt8) (m : Nat) : List UInt8 := (List.range m).map B
theorem firstB_length (B : Nat → UInt8) (m : Nat) : (firstB B m).length = m := by simp [firstB]
theorem firstB_get (B : Nat → UInt8) (m j : Nat) (h : j < m) : (firstB B m).getD j 0 = B j := by simp [firstB, h]
theorem Holds.hashFirst {w : World} {b : Nat} {t : TypeId} {s : Nat → BitVec 64} {B : Nat → UInt8} {z : Nat} (h : Holds w b t (hashA s B z)) (m : Nat) (hm : m < 136) : w.rangeAt b 25 (octs (firstB B m)) := fun j v hv => by
  have hj : j < m := by
    have := (List.getElem?_eq_some_iff.1 hv).1
    rw [octs_length, firstB_length] at this; exact this
  rw [octs_get _ _ (by rw [firstB_length]; exact hj), firstB_get _ _ _ hj] at hv
  rw [h.cell, hashA_get _ _ _ _ (by omega)]
  unfold hashCell
  rw [if_neg (by omega), if_pos (by omega), show 25 + j - 25 = j by omega]; exact hv
theorem lastB_eq (M : List UInt8) (B : Nat → UInt8) (m : Nat) (hm : m = M.length % 136) (hB : ∀ j, j < m → B j = M.getD (136 * (M.length / 136) + j) 0) (j : Nat) :
    (if j = 135 then (if 135 = m then over (fun _ => 0) 0 (firstB B m) m ^^^ 1 else over (fun _ => 0) 0 (firstB B m) 135) ^^^ 128 else (if j = m then over (fun _ => 0) 0 (firstB B m) m ^^^ 1 else over (fun _ => 0) 0 (firstB B m) j)) = lastB M j := by
  have ho : ∀ i, over (fun _ => 0) 0 (firstB B m) i = if i < m then M.getD (136 * (M.length / 136) + i) 0 else 0 := fun i => by
    unfold over
    rw [firstB_length]
    by_cases c : i < m
    · rw [if_pos (by omega), if_pos c, Nat.sub_zero, firstB_get _ _ _ c, hB i c]
    · rw [if_neg (by omega), if_neg c]
  unfold lastB
  rw [ho, ho, ho, ← hm]
  by_cases c : j = 135
  · subst c
    by_cases d : 135 = m
    · simp [← d]
    · simp [d]
  · by_cases d : j = m
    · simp [d, show ¬ m = 135 from fun q => c (d.trans q)]
    · simp [c, d]
end Go.Proofs.YtjdhdeffiigpbaaDoor.K
/-
  A block's bytes as a slice: from a place on; up to a place.
-/
namespace Go.Proofs.YtjdhdeffiigpbaaDoor.K
open Go.RowKit

theorem info136' : Tryd.prog.underlying 79 = some (.array 136 5) := by kernel_rfl
theorem arr136 : Tryd.prog.arrayLen 79 = 136 := by kernel_rfl
theorem elm136 : Tryd.prog.elem 79 = 5 := by kernel_rfl
theorem ht136 : Tryd.prog.underlying 79 = some (.array (Tryd.prog.arrayLen 79) (Tryd.prog.elem 79)) := by rw [arr136, elm136]; exact info136'
theorem infoU8 : (Tryd.prog.info? 5).map (·.size) = some 1 := by kernel_rfl
theorem underBytes : Tryd.prog.underlying 57 = some (.slice 5) := by kernel_rfl
theorem sizeU8 (w : World) : (Go.sizeOf 5).run Tryd.prog w = .ok 1 w := by
  have h := infoU8
  cases hq : Tryd.prog.info? 5 with
  | none => simp [hq] at h
  | some i =>
    have hi : i.size = 1 := by simpa [hq] using h
    simp [Go.sizeOf, typeInfo, hq, hi]

theorem run_from (w : World) (b o m : Nat) (hm : m < 136) :
    (Instr.sliceAt 79 (.pointer (some ⟨b, o, none⟩)) (some (.int .i64 (m : Nat))) none none).run Tryd.prog w = .ok (.slice (some ⟨b, o + m, none⟩) (136 - m) (136 - m)) w := by
  rw [run_sliceAt_array_l w 79 _ ht136 .i64 m (by omega) (by rw [arr136]; omega), elm136, sizeU8, Result.andThen_ok, arr136]
  unfold slicedAt
  rw [if_neg (by simp; omega), Addr.add_mid]
  simp
theorem run_upto (w : World) (b o m : Nat) (hm : m < 136) :
    (Instr.sliceAt 79 (.pointer (some ⟨b, o, none⟩)) none (some (.int .i64 (m : Nat))) none).run Tryd.prog w = .ok (.slice (some ⟨b, o, none⟩) m 136) w := by
  rw [run_sliceAt_array_h w 79 _ ht136 .i64 m (by omega) (by rw [arr136]; omega), elm136, sizeU8, Result.andThen_ok, arr136]
  unfold slicedAt
  rw [if_neg (by simp), Addr.add_mid]
  simp
theorem run_whole (w : World) (b o : Nat) :
    (Instr.sliceAt 79 (.pointer (some ⟨b, o, none⟩)) none none none).run Tryd.prog w = .ok (.slice (some ⟨b, o, none⟩) 136 136) w := by
  rw [run_sliceAt_array_all w 79 _ ht136, elm136, sizeU8, Result.andThen_ok, arr136]
  unfold slicedAt
  rw [if_neg (by simp), Addr.add_mid]
  simp

theorem wpStill_from {ops : Array Oper} {rest : List Oper} {op : Oper} {a : Act} {w : World} {Q : Act → Prop} (hgd : op.guard = none) (x y : Operand) (ho : op.op = .slice 79 x (some y) none none)
    (b o m : Nat) (hm : m < 136) (hx : a.eval x = .pointer (some ⟨b, o, none⟩)) (hy : a.eval y = .int .i64 (m : Nat))
    (h : wpStill Tryd.prog ops w Q rest (a.put op.dst (.slice (some ⟨b, o + m, none⟩) (136 - m) (136 - m)))) : wpStill Tryd.prog ops w Q (op :: rest) a :=
  wpStill_step fun _ hK => by
    rw [if_pos (by simp [Region.wanted, hgd])]
    unfold Oper.still execOp
    simp only [ho, hx, hy, Option.map_some, Option.map_none, run_from w b o m hm, Sem.run_bind, Sem.run_pure, Result.andThen_ok]
    exact ⟨rfl, hK _ h⟩
theorem wpStill_upto {ops : Array Oper} {rest : List Oper} {op : Oper} {a : Act} {w : World} {Q : Act → Prop} (hgd : op.guard = none) (x y : Operand) (ho : op.op = .slice 79 x none (some y) none)
    (b o m : Nat) (hm : m < 136) (hx : a.eval x = .pointer (some ⟨b, o, none⟩)) (hy : a.eval y = .int .i64 (m : Nat))
    (h : wpStill Tryd.prog ops w Q rest (a.put op.dst (.slice (some ⟨b, o, none⟩) m 136))) : wpStill Tryd.prog ops w Q (op :: rest) a :=
  wpStill_step fun _ hK => by
    rw [if_pos (by simp [Region.wanted, hgd])]
    unfold Oper.still execOp
    simp only [ho, hx, hy, Option.map_some, Option.map_none, run_upto w b o m hm, Sem.run_bind, Sem.run_pure, Result.andThen_ok]
    exact ⟨rfl, hK _ h⟩
theorem wpStill_whole {ops : Array Oper} {rest : List Oper} {op : Oper} {a : Act} {w : World} {Q : Act → Prop} (hgd : op.guard = none) (x : Operand) (ho : op.op = .slice 79 x none none none)
    (b o : Nat) (hx : a.eval x = .pointer (some ⟨b, o, none⟩))
    (h : wpStill Tryd.prog ops w Q rest (a.put op.dst (.slice (some ⟨b, o, none⟩) 136 136))) : wpStill Tryd.prog ops w Q (op :: rest) a :=
  wpStill_step fun _ hK => by
    rw [if_pos (by simp [Region.wanted, hgd])]
    unfold Oper.still execOp
    simp only [ho, hx, Option.map_none, run_whole w b o, Sem.run_bind, Sem.run_pure, Result.andThen_ok]
    exact ⟨rfl, hK _ h⟩

end Go.Proofs.YtjdhdeffiigpbaaDoor.K
/-
  What the call of Write does.
-/
namespace Go.Proofs.YtjdhdeffiigpbaaDoor.K
open Go.RowKit

theorem mixed : Tryd.prog.follows .mixedOrders = true := by kernel_rfl

set_option maxRecDepth 4000 in
set_option maxHeartbeats 2000000 in
theorem write_any (b : Nat) (M : List UInt8) (p : ByteArray) (w : World) (hb : Hashes w b M) (hT : Tabs w) (hb3 : 4 ≤ b) (hM : M.length + p.size < 4611686018427387904) :
    Calls Tryd.prog 54 #[.pointer (some ⟨b, 0, none⟩), .string p] w fun e w' => e = .returned (.int .i64 p.size) ∧ Only b w w' ∧ Hashes w' b (M ++ p.data.toList) := by
  go_enter Tryd.func54, Tryd.ntmps54
  go_wp2
  go_loopw [5] (fun y wr => ∃ (k : Nat) (r : ByteArray), k + r.size = p.size ∧ r.data.toList = p.data.toList.drop k ∧ y = .string r ∧ Only b w wr ∧ Hashes wr b (M ++ p.data.toList.take k)) (fun y _ => textLen y)
  case atStart => exact ⟨0, p, by omega, by simp, rfl, Only.refl _ _, by simpa using hb⟩
  case round =>
    obtain ⟨k, r, hk, hr, rfl, ho, hh⟩ := hrel
    by_cases hlt : 0 < r.size
    · obtain ⟨N, hN⟩ : ∃ N, N = M ++ p.data.toList.take k := ⟨_, rfl⟩
      rw [← hN] at hh
      obtain ⟨s, B, h1, h2, h3⟩ := hh
      have hnum := h1.hashNum
      have hNl : N.length = M.length + k := by rw [hN, List.length_append, List.length_take]; have : p.data.toList.length = p.size := rfl; omega
      have hz : N.length + r.size < 4611686018427387904 := by omega
      obtain ⟨z, hzz⟩ : ∃ z, z = N.length := ⟨_, rfl⟩
      rw [← hzz] at hz hnum
      have hf := h1.frozen
      have HZ : Hid (z = N.length) := hzz
      have HK : Hid (k + r.size = p.size) := hk
      have HR : Hid (r.data.toList = p.data.toList.drop k) := hr
      have HNN : Hid (N = M ++ p.data.toList.take k) := hN
      have hrs : (0 : Int) < r.size := by omega
      have hz1 : (z : Int) < 4611686018427387904 := by omega
      obtain ⟨m, hm⟩ : ∃ m, m = z % 136 := ⟨_, rfl⟩
      have htm : (z : Int).tmod 136 = (m : Int) := by rw [Int.tmod_eq_emod_of_nonneg (by omega)]; omega
      have hm1 : (m : Int) < 136 := by omega
      have hm2 : m < 136 := by omega
      have HM : Hid (m = z % 136) := hm
      clear hzz hNl hm hk hr hN
      go_wp2
      refine wp_region_tail 10 mixed (by kernel_rfl) ?_
      simp only [List.take_succ_cons, List.take_zero, List.drop_succ_cons, List.drop_zero]
      repeat (first
        | (refine wpStill_from rfl _ _ rfl b 25 m hm2 rfl rfl ?_)
        | still_step)
      refine wpStill_nil ?_
      obtain ⟨n, hn⟩ : ∃ n, n = Nat.min r.size (136 - m) := ⟨_, rfl⟩
      refine wpList_copyStr rfl _ _ 57 9 rfl 5 underBytes infoU8 b (25 + m) (136 - m) (136 - m) rfl r rfl 81 (hashA s B N.length) h1.drew (by rw [hashA_size]; omega) ?_
      rw [← hn]
      intro w1 g1 o1 z1
      have hnr : n ≤ r.size := hn ▸ Nat.min_le_left _ _
      have hnm : n ≤ 136 - m := hn ▸ Nat.min_le_right _ _
      have hn0 : 0 < n := by rw [hn]; exact Nat.lt_min.2 ⟨hlt, by omega⟩
      have hll : (r.data.toList.take n).length = n := by rw [List.length_take]; exact Nat.min_eq_left hnr
      rw [hashA_over s B N.length m (r.data.toList.take n) (by rw [hll]; omega)] at g1
      have o2 := ho.trans ((Only.refl b wr).drew.trans o1)
      have HL : Hid ((r.data.toList.take n).length = n) := hll
      have hnum1 := g1.hashNum
      rw [← HZ.out] at hnum1
      have hf1 := g1.frozen
      have hni : (n : Int) ≤ r.size := by omega
      have hnz : (z : Int) + n < 4611686018427387904 := by omega
      clear hll hn hnum hf o1 z1 ho h1
      by_cases hfull : m + n = 136
      · have htm2 : ((z : Int) + n).tmod 136 = 0 := by have := HM.out; rw [Int.tmod_eq_emod_of_nonneg (by omega)]; omega
        have HF : Hid (m + n = 136) := hfull
        clear hfull
        go_wp2
        have g2 := (g1.set 161 (.int .i64 ((z + n : Nat) : Int))).drew
        rw [hashA_num] at g2
        have o3 := (o2.set 161 (.int .i64 ((z + n : Nat) : Int))).drew
        have hT2 := hT.only hb3 o3
        refine wp_region_any mixed ?_
        obtain ⟨w2, hw2⟩ : ∃ w2, w2 = (w1.setCell ⟨b, 161, none⟩ (.int .i64 ((z + n : Nat) : Int))).drew := ⟨_, rfl⟩
        rw [← hw2] at g2 o3 hT2
        change wpAny _ _ _ _ _ _ _ (World.drew (w1.setCell ⟨b, 161, none⟩ (.int .i64 ((z + n : Nat) : Int))))
        rw [← hw2]
        clear hw2
        have g2s := g2.hashState
        have g2b := g2.hashBlock
        refine wpAny_take (i := 0) (oi := ⟨some 41, .move (.tmp 0), _, _, _, none⟩) (v := .pointer (some ⟨b, 0, none⟩)) rfl (by kernel_rfl) (by kernel_rfl) (by kernel_rfl) (fun _ _ _ h => h) (Or.inl ⟨by rfl, fun _ => by go_simp⟩) ?_
        refine wpAny_take (i := 1) (oi := ⟨some 42, .move (.tmp 0), _, _, _, none⟩) (v := .pointer (some ⟨b, 0, none⟩)) rfl (by kernel_rfl) (by kernel_rfl) (by kernel_rfl) (fun _ _ _ h => h) (Or.inl ⟨by rfl, fun _ => by go_simp⟩) ?_
        refine wpAny_take (i := 2) (oi := ⟨some 43, .nilCheck (.tmp 42), _, _, _, none⟩) (v := .pointer (some ⟨b, 0, none⟩)) rfl (by kernel_rfl) (by kernel_rfl) (by kernel_rfl) (fun _ _ _ h => h) (Or.inl ⟨by rfl, fun _ => by go_simp⟩) ?_
        refine wpAny_take (i := 3) (oi := ⟨some 44, .fieldAddr 81 (.tmp 43) 0, _, _, _, none⟩) (v := .pointer (some ⟨b, 0, none⟩)) rfl (by kernel_rfl) (by kernel_rfl) (by kernel_rfl) (fun _ _ _ h => h) (Or.inl ⟨by rfl, fun _ => by go_simp⟩) ?_
        refine wpAny_take (i := 5) (oi := ⟨some 46, .move (.tmp 0), _, _, _, none⟩) (v := .pointer (some ⟨b, 0, none⟩)) rfl (by kernel_rfl) (by kernel_rfl) (by kernel_rfl) (fun _ _ _ h => h) (Or.inl ⟨by rfl, fun _ => by go_simp⟩) ?_
        refine wpAny_take (i := 6) (oi := ⟨some 47, .nilCheck (.tmp 46), _, _, _, none⟩) (v := .pointer (some ⟨b, 0, none⟩)) rfl (by kernel_rfl) (by kernel_rfl) (by kernel_rfl) (fun _ _ _ h => h) (Or.inl ⟨by rfl, fun _ => by go_simp⟩) ?_
        refine wpAny_take (i := 7) (oi := ⟨some 48, .fieldAddr 81 (.tmp 47) 1, _, _, _, none⟩) (v := .pointer (some ⟨b, 25, none⟩)) rfl (by kernel_rfl) (by kernel_rfl) (by kernel_rfl) (fun _ _ _ h => h) (Or.inl ⟨by rfl, fun _ => by go_simp⟩) ?_
        simp only [Act.put, List.setIfInBounds_toArray, List.set_cons_succ, List.set_cons_zero]
        refine wpAny_two (o := ⟨some 45, .load 71 (.tmp 44), _, _, _, none⟩) (o' := ⟨some 49, .load 79 (.tmp 48), _, _, _, none⟩) 4 8 rfl rfl (by kernel_rfl) (fun K hK => ?_) (fun K hK => ?_)
        · refine step_load rfl 71 _ rfl b 0 rfl (lanesA s) _ g2s Tryd.underlying71 rfl (by rw [lanesA_size]; exact info25) (hK _ _ ?_)
          clear hK K
          simp only [Act.put, List.setIfInBounds_toArray, List.set_cons_succ, List.set_cons_zero]
          refine wpAny_one (o := ⟨some 49, .load 79 (.tmp 48), _, _, _, none⟩) 8 rfl (by kernel_rfl) (fun K hK => ?_)
          refine step_load rfl 79 _ rfl b 25 rfl (bytesA 136 (over B m (r.data.toList.take n))) _ g2b Tryd.underlying79 rfl (by rw [bytesA_size]; exact info136) (hK _ _ ?_)
          clear hK K
          simp only [Act.put, List.setIfInBounds_toArray, List.set_cons_succ, List.set_cons_zero]
          refine wpAny_one (o := ⟨some 50, .call { callee := .value (.func 73), args := #[.tmp 45, .tmp 49], argTypes := #[71, 79] }, _, _, _, none⟩) 9 rfl (by kernel_rfl) (fun K hK => ?_)
          go_simp
          refine (absorb_any _ _ _ hT2).mono ?_
          rintro e w3 ⟨rfl, hB3⟩
          refine hK _ _ ?_
          clear hK K
          refine wpAny_take (i := 10) (oi := ⟨some 51, .nilCheck (.tmp 41), _, _, _, none⟩) (v := .pointer (some ⟨b, 0, none⟩)) rfl (by kernel_rfl) (by kernel_rfl) (by kernel_rfl) (fun _ _ _ h => h) (Or.inl ⟨by rfl, fun _ => by go_simp⟩) ?_
          refine wpAny_take (i := 11) (oi := ⟨some 52, .fieldAddr 81 (.tmp 51) 0, _, _, _, none⟩) (v := .pointer (some ⟨b, 0, none⟩)) rfl (by kernel_rfl) (by kernel_rfl) (by kernel_rfl) (fun _ _ _ h => h) (Or.inl ⟨by rfl, fun _ => by go_simp⟩) ?_
          simp only [Act.put, List.setIfInBounds_toArray, List.set_cons_succ, List.set_cons_zero]
          have g3 := Below.holds hB3 g2
          have hst := hashA_state s (soak s (over B m (r.data.toList.take n))) (over B m (r.data.toList.take n)) (z + n)
          have hsz : 0 + (lanesA (soak s (over B m (r.data.toList.take n)))).size ≤ (hashA s (over B m (r.data.toList.take n)) (z + n)).size := by rw [lanesA_size, hashA_size]; omega
          have hin : (Tryd.prog.info? 71).map (·.size) = some (lanesA (soak s (over B m (r.data.toList.take n)))).size := by rw [lanesA_size]; exact info25
          have hon := lanesA_one (soak s (over B m (r.data.toList.take n)))
          generalize lanesA (soak s (over B m (r.data.toList.take n))) = cs at hst hsz hin hon ⊢
          refine wpAny_one (o := ⟨none, .store 71 (.tmp 52) (.tmp 50), _, _, _, none⟩) 12 rfl (by kernel_rfl) (fun K hK => ?_)
          refine step_store rfl 71 (.tmp 52) (.tmp 50) rfl b 0 cs rfl rfl 81 _ _ g3 hst hsz hin hon ?_
          intro w4 h4 o4 _
          refine hK _ _ ?_
          clear hK K
          refine wpAny_done (by kernel_rfl) ?_ _
          simp only [Act.put]
          have o5 := (o3.below hB3).trans o4
          clear g3 hB3 o4 g2 g2s g2b hT2 o3
          go_wp2
          go_roundw
          case rel =>
            refine ⟨k + n, r.extract n r.size, ?_, ?_, rfl, o5, ?_⟩
            · rw [rest_size]; have := HK.out; omega
            · rw [rest_toList, HR.out, List.drop_drop]
            · have e : M ++ p.data.toList.take (k + n) = N ++ r.data.toList.take n := by rw [HNN.out, HR.out, List.append_assoc, ← List.take_add]
              rw [e]
              have hmm := HM.out
              rw [HZ.out] at hmm h4
              subst hmm
              refine Hashes.full (B := B) (s := s) (B' := over B (N.length % 136) (r.data.toList.take n)) ?_ h2 h3 ?_
              · rw [HL.out]; exact h4
              · rw [HL.out]; exact HF.out
          case measure => show (r.extract n r.size).size < r.size; rw [rest_size]; omega
        · refine step_load rfl 79 _ rfl b 25 rfl (bytesA 136 (over B m (r.data.toList.take n))) _ g2b Tryd.underlying79 rfl (by rw [bytesA_size]; exact info136) (hK _ _ ?_)
          clear hK K
          simp only [Act.put, List.setIfInBounds_toArray, List.set_cons_succ, List.set_cons_zero]
          refine wpAny_one (o := ⟨some 45, .load 71 (.tmp 44), _, _, _, none⟩) 4 rfl (by kernel_rfl) (fun K hK => ?_)
          refine step_load rfl 71 _ rfl b 0 rfl (lanesA s) _ g2s Tryd.underlying71 rfl (by rw [lanesA_size]; exact info25) (hK _ _ ?_)
          clear hK K
          simp only [Act.put, List.setIfInBounds_toArray, List.set_cons_succ, List.set_cons_zero]
          refine wpAny_one (o := ⟨some 50, .call { callee := .value (.func 73), args := #[.tmp 45, .tmp 49], argTypes := #[71, 79] }, _, _, _, none⟩) 9 rfl (by kernel_rfl) (fun K hK => ?_)
          go_simp
          refine (absorb_any _ _ _ hT2).mono ?_
          rintro e w3 ⟨rfl, hB3⟩
          refine hK _ _ ?_
          clear hK K
          refine wpAny_take (i := 10) (oi := ⟨some 51, .nilCheck (.tmp 41), _, _, _, none⟩) (v := .pointer (some ⟨b, 0, none⟩)) rfl (by kernel_rfl) (by kernel_rfl) (by kernel_rfl) (fun _ _ _ h => h) (Or.inl ⟨by rfl, fun _ => by go_simp⟩) ?_
          refine wpAny_take (i := 11) (oi := ⟨some 52, .fieldAddr 81 (.tmp 51) 0, _, _, _, none⟩) (v := .pointer (some ⟨b, 0, none⟩)) rfl (by kernel_rfl) (by kernel_rfl) (by kernel_rfl) (fun _ _ _ h => h) (Or.inl ⟨by rfl, fun _ => by go_simp⟩) ?_
          simp only [Act.put, List.setIfInBounds_toArray, List.set_cons_succ, List.set_cons_zero]
          have g3 := Below.holds hB3 g2
          have hst := hashA_state s (soak s (over B m (r.data.toList.take n))) (over B m (r.data.toList.take n)) (z + n)
          have hsz : 0 + (lanesA (soak s (over B m (r.data.toList.take n)))).size ≤ (hashA s (over B m (r.data.toList.take n)) (z + n)).size := by rw [lanesA_size, hashA_size]; omega
          have hin : (Tryd.prog.info? 71).map (·.size) = some (lanesA (soak s (over B m (r.data.toList.take n)))).size := by rw [lanesA_size]; exact info25
          have hon := lanesA_one (soak s (over B m (r.data.toList.take n)))
          generalize lanesA (soak s (over B m (r.data.toList.take n))) = cs at hst hsz hin hon ⊢
          refine wpAny_one (o := ⟨none, .store 71 (.tmp 52) (.tmp 50), _, _, _, none⟩) 12 rfl (by kernel_rfl) (fun K hK => ?_)
          refine step_store rfl 71 (.tmp 52) (.tmp 50) rfl b 0 cs rfl rfl 81 _ _ g3 hst hsz hin hon ?_
          intro w4 h4 o4 _
          refine hK _ _ ?_
          clear hK K
          refine wpAny_done (by kernel_rfl) ?_ _
          simp only [Act.put]
          have o5 := (o3.below hB3).trans o4
          clear g3 hB3 o4 g2 g2s g2b hT2 o3
          go_wp2
          go_roundw
          case rel =>
            refine ⟨k + n, r.extract n r.size, ?_, ?_, rfl, o5, ?_⟩
            · rw [rest_size]; have := HK.out; omega
            · rw [rest_toList, HR.out, List.drop_drop]
            · have e : M ++ p.data.toList.take (k + n) = N ++ r.data.toList.take n := by rw [HNN.out, HR.out, List.append_assoc, ← List.take_add]
              rw [e]
              have hmm := HM.out
              rw [HZ.out] at hmm h4
              subst hmm
              refine Hashes.full (B := B) (s := s) (B' := over B (N.length % 136) (r.data.toList.take n)) ?_ h2 h3 ?_
              · rw [HL.out]; exact h4
              · rw [HL.out]; exact HF.out
          case measure => show (r.extract n r.size).size < r.size; rw [rest_size]; omega
      · obtain ⟨q, hq⟩ : ∃ q, q = m + n := ⟨_, rfl⟩
        have htm2 : ((z : Int) + n).tmod 136 = (q : Int) := by have := HM.out; rw [Int.tmod_eq_emod_of_nonneg (by omega)]; omega
        have hq0 : ((q : Int) == 0) = false := by simp; omega
        have HQ : Hid (q = m + n) := hq
        have HF : Hid (m + n ≠ 136) := hfull
        clear hq hfull
        go_wp2
        go_roundw
        case rel =>
          refine ⟨k + n, r.extract n r.size, ?_, ?_, rfl, o2.set _ _, ?_⟩
          · rw [rest_size]; have := HK.out; omega
          · rw [rest_toList, HR.out, List.drop_drop]
          · have e : M ++ p.data.toList.take (k + n) = N ++ r.data.toList.take n := by rw [HNN.out, HR.out, List.append_assoc, ← List.take_add]
            rw [e]
            have g2 := g1.set 161 (.int .i64 ((z + n : Nat) : Int))
            rw [hashA_num] at g2
            have hmm := HM.out
            rw [HZ.out] at hmm g2 ⊢
            subst hmm
            refine Hashes.more (B := B) (s := s) ?_ h2 h3 ?_
            · rw [HL.out]; exact g2
            · rw [HL.out]; have := HF.out; omega
        case measure => show (r.extract n r.size).size < r.size; rw [rest_size]; omega
    · have hr0 : r.size = 0 := by omega
      have hk2 : k = p.size := by omega
      subst hk2
      have hr1 : ¬ (0 : Int) < r.size := by omega
      have hr2 : (r.size : Int) = 0 := by omega
      go_wp2
      go_ret
      refine ⟨rfl, ho, ?_⟩
      have e : p.data.toList.take p.size = p.data.toList := List.take_of_length_le (Nat.le_refl _)
      rw [e] at hh
      exact hh

end Go.Proofs.YtjdhdeffiigpbaaDoor.K
/-
  What the calls of New, Len, Reset and Sum do.
-/
namespace Go.Proofs.YtjdhdeffiigpbaaDoor.K
open Go.RowKit

theorem infoHash : (Tryd.prog.info? 81).map (·.size) = some 162 := by kernel_rfl
theorem zeroHash : ∀ w, (zeroValue 81).run Tryd.prog w = .ok (.agg (hashA (fun _ => 0) (fun _ => 0) 0)) w := (zero_of_info (n := 162) (by kernel_rfl)).1

end Go.Proofs.YtjdhdeffiigpbaaDoor.K
/-
  What the call of a hash's Sum does.
-/
namespace Go.Proofs.YtjdhdeffiigpbaaDoor.K
open Go.RowKit

theorem zeroBlock : ∀ w, (zeroValue 79).run Tryd.prog w = .ok (.agg (bytesA 136 fun _ => 0)) w := (zero_of_info (n := 136) (by kernel_rfl)).1

set_option maxRecDepth 4000 in
set_option maxHeartbeats 1000000 in
theorem sum_any (b : Nat) (M : List UInt8) (w : World) (hb : Hashes w b M) (hT : Tabs w) (hM : M.length < 4611686018427387904) :
    Calls Tryd.prog 55 #[.pointer (some ⟨b, 0, none⟩)] w fun e w' => e = .returned (.agg (bytesA 32 (hashOf M))) ∧ Below w.heap.size w w' := by
  have hz := zeroBlock
  obtain ⟨s, B, h1, h2, h3⟩ := hb
  obtain ⟨z, hzz⟩ : ∃ z, z = M.length := ⟨_, rfl⟩
  obtain ⟨m, hm⟩ : ∃ m, m = z % 136 := ⟨_, rfl⟩
  have htm : (z : Int).tmod 136 = (m : Int) := by rw [Int.tmod_eq_emod_of_nonneg (by omega)]; omega
  have hm1 : (m : Int) < 136 := by omega
  have hm2 : m < 136 := by omega
  have HZ : Hid (z = M.length) := hzz
  have HM : Hid (m = z % 136) := hm
  have hM1 : (z : Int) < 4611686018427387904 := by omega
  have hbl := h1.lt
  have hs3 := hT.size
  clear hzz hm
  go_enter Tryd.func55, Tryd.ntmps55
  go_wp2
  obtain ⟨w0, hw0⟩ : ∃ w0, w0 = (w.alloc (.cells (bytesA 32 fun _ => 0) 40)).alloc (.cells (bytesA 136 fun _ => 0) 79) := ⟨_, rfl⟩
  change Code.wp _ _ _ _ ((w.alloc (.cells (bytesA 32 fun _ => 0) 40)).alloc (.cells (bytesA 136 fun _ => 0) 79))
  rw [← hw0]
  have hB0 : Below w.heap.size w w0 := by rw [hw0]; exact ((Below.refl _ _).alloc (Nat.le_refl _) _).alloc (by simp) _
  obtain ⟨n, hn⟩ : ∃ n, n = w.heap.size := ⟨_, rfl⟩
  have gr : Holds w0 n 40 (bytesA 32 fun _ => 0) := by rw [hw0, hn]; exact (Holds.new _ _ _).alloc _
  have gl : Holds w0 (n + 1) 79 (bytesA 136 fun _ => 0) := by
    have h := Holds.new (w.alloc (.cells (bytesA 32 fun _ => 0) 40)) 79 (bytesA 136 fun _ => 0)
    rw [World.size_alloc, ← hn, ← hw0] at h
    exact h
  have gh : Holds w0 b 81 (hashA s B M.length) := Below.holds hB0 h1
  have hTr := hT.below hB0
  rw [← hn] at hbl ⊢
  have HN : Hid (n = w.heap.size) := hn
  have hnum := gh.hashNum
  rw [← HZ.out] at hnum
  have hbn : b ≠ n + 1 := by omega
  clear hn hw0 h1 hz hT
  refine wp_region_tail 10 mixed (by kernel_rfl) ?_
  simp only [List.take_succ_cons, List.take_zero, List.drop_succ_cons, List.drop_zero]
  repeat (first
    | (refine wpStill_whole rfl _ rfl (n + 1) 0 rfl ?_)
    | (refine wpStill_upto rfl _ _ rfl b 25 m hm2 rfl rfl ?_)
    | still_step)
  refine wpStill_nil ?_
  refine wpList_copyRow rfl _ _ 57 57 rfl 5 underBytes infoU8 (n + 1) 0 136 136 rfl b 25 m 136 rfl (firstB B m) (by rw [firstB_length]; exact (Nat.min_eq_left (by omega)).symm) (gh.drew.hashFirst m hm2) 79 (bytesA 136 fun _ => 0) gl.drew (by rw [bytesA_size]; omega) ?_
  rw [firstB_length, bytesA_over 136 _ 0 _ (by rw [firstB_length]; omega)]
  intro w1 g1 o1 z1
  have gh1 : Holds w1 b 81 (hashA s B M.length) := o1.holds gh.drew hbn
  have gr1 : Holds w1 n 40 (bytesA 32 fun _ => 0) := o1.holds gr.drew (by omega)
  have hT1 : Tabs w1 := (hTr.only (b := n + 1) (by have := HN.out; omega) ((Only.refl _ _).drew.trans o1))
  have oB : Only (n + 1) w0 w1 := (Only.refl _ _).drew.trans o1
  have hf := g1.frozen
  have hcm := g1.byteCell m hm2
  have hce := g1.byteCell 135 (by omega)
  have HG : Hid (Holds w1 (n + 1) 79 (bytesA 136 (over (fun _ => 0) 0 (firstB B m)))) := g1
  have H3 : Hid (∀ j, j < m → B j = M.getD (136 * (M.length / 136) + j) 0) := by
    have e1 := HM.out
    rw [HZ.out] at e1
    intro j hj
    exact h3 j (by omega)
  clear g1 o1 z1 h3 gh gr gl hnum hTr
  by_cases hl : m = 135
  · subst hl
    go_wp2
    have G2 := ((Holds.byteSet HG.out 135 (over (fun _ => 0) 0 (firstB B 135) 135 ^^^ 1)).byteSet 135 (over (fun _ => 0) 0 (firstB B 135) 135 ^^^ 1 ^^^ 128)).congr (bytesA_congr (C := lastB M) fun j _ => by
      rw [← lastB_eq M B 135 (by rw [HM.out, HZ.out]) H3.out j]
      by_cases c : j = 135
      · simp [c]
      · simp [c])
    have o2 := ((Only.refl (n + 1) w1).set 135 (.int .u8 (oct (over (fun _ => 0) 0 (firstB B 135) 135 ^^^ 1)))).set 135 (.int .u8 (oct (over (fun _ => 0) 0 (firstB B 135) 135 ^^^ 1 ^^^ 128)))
    rw [oct_xor1, oct_xor128]
    generalize (w1.setCell ⟨n + 1, 135, none⟩ (.int .u8 (oct (over (fun _ => 0) 0 (firstB B 135) 135 ^^^ 1)))).setCell ⟨n + 1, 135, none⟩ (.int .u8 (oct (over (fun _ => 0) 0 (firstB B 135) 135 ^^^ 1 ^^^ 128))) = w2 at G2 o2 ⊢
    have gl2 : Holds w2 (n + 1) 79 (bytesA 136 (lastB M)) := G2
    have gls := gl2.drew.byteRow
    have ghs := (o2.holds gh1 hbn).drew.hashState
    have hT2 : Tabs w2 := hT1.only (b := n + 1) (by have := HN.out; omega) o2
    have gr2 : Holds w2 n 40 (bytesA 32 fun _ => 0) := o2.holds gr1 (by omega)
    refine wp_region_tail 5 mixed (by kernel_rfl) ?_
    simp only [List.take_succ_cons, List.take_zero, List.drop_succ_cons, List.drop_zero]
    repeat (first
      | (refine wpStill_load rfl 71 _ rfl b 0 rfl (lanesA s) _ ghs Tryd.underlying71 rfl (by rw [lanesA_size]; exact info25) ?_)
      | (refine wpStill_load rfl 79 _ rfl (n + 1) 0 rfl (bytesA 136 (lastB M)) _ gls Tryd.underlying79 rfl (by rw [bytesA_size]; exact info136) ?_)
      | still_step)
    refine wpStill_nil ?_
    go_wp2_with fail
    refine (absorb_any _ _ _ (hT2.below (Below.refl _ _).drew)).mono ?_
    rintro e w3 ⟨rfl, hB3⟩
    go_wp2_with fail
    refine (squeeze_any _ _).mono ?_
    rintro e w4 ⟨rfl, hB4⟩
    have gr4 : Holds w4 n 40 (bytesA 32 fun _ => 0) := Below.holds hB4 (Below.holds hB3 gr2.drew)
    have hin : (Tryd.prog.info? 40).map (·.size) = some (bytesA 32 (byteAt (soak s (lastB M)))).size := by rw [bytesA_size]; exact info32
    have hzs : (bytesA 32 (fun _ => 0)).size = (bytesA 32 (byteAt (soak s (lastB M)))).size := by rw [bytesA_size, bytesA_size]
    have hon := bytesA_one 32 (byteAt (soak s (lastB M)))
    have hfin : bytesA 32 (byteAt (soak s (lastB M))) = bytesA 32 (hashOf M) := bytesA_congr fun i hi => by
      have := soak_congr (B := lastB M) (C := lastB M) h2 (fun _ _ => rfl)
      unfold hashOf byteAt
      rw [this (i / 8) (by omega)]
    generalize bytesA 32 (byteAt (soak s (lastB M))) = cs at hin hzs hon hfin ⊢
    dsimp only
    go_wp2_with (first
      | (refine wpList_storeH rfl 40 _ _ rfl n cs rfl rfl 40 _ gr4 hin hzs hon ?_
         intro w5 h5 o5 z5)
      | fail)
    rw [hfin] at h5
    have hB2 : Below w.heap.size w w2 := Only.fresh hB0 (oB.trans o2) (by have := HN.out; omega)
    have hB5 : Below w.heap.size w w5 := Only.fresh ((hB2.trans ((hB3.mono hB2.drew.size).drewL)).trans (hB4.mono (Nat.le_trans hB2.size hB3.size))) o5 (by have := HN.out; omega)
    exact bodyPost_ret (results_cellH rfl _ _ n 40 (bytesA 32 (hashOf M)) _ rfl h5 Tryd.underlying40 rfl (by rw [bytesA_size]; exact info32)) rfl ⟨rfl, hB5⟩
  · go_wp2
    have G2 := ((Holds.byteSet HG.out m (over (fun _ => 0) 0 (firstB B m) m ^^^ 1)).byteSet 135 (over (fun _ => 0) 0 (firstB B m) 135 ^^^ 128)).congr (bytesA_congr (C := lastB M) fun j _ => by
      rw [← lastB_eq M B m (by rw [HM.out, HZ.out]) H3.out j, if_neg (c := 135 = m) (fun q => hl q.symm)])
    have o2 := ((Only.refl (n + 1) w1).set m (.int .u8 (oct (over (fun _ => 0) 0 (firstB B m) m ^^^ 1)))).set 135 (.int .u8 (oct (over (fun _ => 0) 0 (firstB B m) 135 ^^^ 128)))
    rw [oct_xor1, oct_xor128]
    generalize (w1.setCell ⟨n + 1, m, none⟩ (.int .u8 (oct (over (fun _ => 0) 0 (firstB B m) m ^^^ 1)))).setCell ⟨n + 1, 135, none⟩ (.int .u8 (oct (over (fun _ => 0) 0 (firstB B m) 135 ^^^ 128))) = w2 at G2 o2 ⊢
    have gl2 : Holds w2 (n + 1) 79 (bytesA 136 (lastB M)) := G2
    have gls := gl2.drew.byteRow
    have ghs := (o2.holds gh1 hbn).drew.hashState
    have hT2 : Tabs w2 := hT1.only (b := n + 1) (by have := HN.out; omega) o2
    have gr2 : Holds w2 n 40 (bytesA 32 fun _ => 0) := o2.holds gr1 (by omega)
    refine wp_region_tail 5 mixed (by kernel_rfl) ?_
    simp only [List.take_succ_cons, List.take_zero, List.drop_succ_cons, List.drop_zero]
    repeat (first
      | (refine wpStill_load rfl 71 _ rfl b 0 rfl (lanesA s) _ ghs Tryd.underlying71 rfl (by rw [lanesA_size]; exact info25) ?_)
      | (refine wpStill_load rfl 79 _ rfl (n + 1) 0 rfl (bytesA 136 (lastB M)) _ gls Tryd.underlying79 rfl (by rw [bytesA_size]; exact info136) ?_)
      | still_step)
    refine wpStill_nil ?_
    go_wp2_with fail
    refine (absorb_any _ _ _ (hT2.below (Below.refl _ _).drew)).mono ?_
    rintro e w3 ⟨rfl, hB3⟩
    go_wp2_with fail
    refine (squeeze_any _ _).mono ?_
    rintro e w4 ⟨rfl, hB4⟩
    have gr4 : Holds w4 n 40 (bytesA 32 fun _ => 0) := Below.holds hB4 (Below.holds hB3 gr2.drew)
    have hin : (Tryd.prog.info? 40).map (·.size) = some (bytesA 32 (byteAt (soak s (lastB M)))).size := by rw [bytesA_size]; exact info32
    have hzs : (bytesA 32 (fun _ => 0)).size = (bytesA 32 (byteAt (soak s (lastB M)))).size := by rw [bytesA_size, bytesA_size]
    have hon := bytesA_one 32 (byteAt (soak s (lastB M)))
    have hfin : bytesA 32 (byteAt (soak s (lastB M))) = bytesA 32 (hashOf M) := bytesA_congr fun i hi => by
      have := soak_congr (B := lastB M) (C := lastB M) h2 (fun _ _ => rfl)
      unfold hashOf byteAt
      rw [this (i / 8) (by omega)]
    generalize bytesA 32 (byteAt (soak s (lastB M))) = cs at hin hzs hon hfin ⊢
    dsimp only
    go_wp2_with (first
      | (refine wpList_storeH rfl 40 _ _ rfl n cs rfl rfl 40 _ gr4 hin hzs hon ?_
         intro w5 h5 o5 z5)
      | fail)
    rw [hfin] at h5
    have hB2 : Below w.heap.size w w2 := Only.fresh hB0 (oB.trans o2) (by have := HN.out; omega)
    have hB5 : Below w.heap.size w w5 := Only.fresh ((hB2.trans ((hB3.mono hB2.drew.size).drewL)).trans (hB4.mono (Nat.le_trans hB2.size hB3.size))) o5 (by have := HN.out; omega)
    exact bodyPost_ret (results_cellH rfl _ _ n 40 (bytesA 32 (hashOf M)) _ rfl h5 Tryd.underlying40 rfl (by rw [bytesA_size]; exact info32)) rfl ⟨rfl, hB5⟩

end Go.Proofs.YtjdhdeffiigpbaaDoor.K
/-
  What the call of Sum(parts..) does.
-/
namespace Go.Proofs.YtjdhdeffiigpbaaDoor.K
open Go.RowKit

/-- All bytes of the parts, one behind the other. -/
def cat (ps : List ByteArray) : List UInt8 := (ps.map fun p => p.data.toList).flatten
theorem cat_take (ps : List ByteArray) (k : Nat) (h : k < ps.length) : cat (ps.take (k + 1)) = cat (ps.take k) ++ ps[k].data.toList := by
  rw [List.take_succ_eq_append_getElem h]
  unfold cat
  rw [List.map_append, List.flatten_append]
  simp only [List.map_cons, List.map_nil, List.flatten_cons, List.flatten_nil, List.append_nil]
theorem cat_length_take (ps : List ByteArray) (k : Nat) (h : k < ps.length) : (cat (ps.take k)).length + ps[k].size ≤ (cat ps).length := by
  have e : cat ps = cat (ps.take (k + 1)) ++ cat (ps.drop (k + 1)) := by
    unfold cat
    rw [← List.flatten_append, ← List.map_append, List.take_append_drop]
  rw [e, cat_take ps k h, List.length_append, List.length_append]
  have : ps[k].data.toList.length = ps[k].size := rfl
  omega

/-- A slice of strings in memory. -/
def Texts (w : World) (v : Value) (ps : List ByteArray) : Prop :=
  ∃ base cap, v = .slice base ps.length cap ∧ ∀ i (h : i < ps.length), ∃ c o, base = some ⟨c, o, none⟩ ∧ c < w.heap.size ∧ w.cell? ⟨c, o + i, none⟩ = some (.string ps[i])

theorem Texts.below {w w' : World} {v : Value} {ps : List ByteArray} (h : Texts w v ps) (k : Below w.heap.size w w') : Texts w' v ps := by
  obtain ⟨base, cap, h1, h2⟩ := h
  refine ⟨base, cap, h1, fun i hi => ?_⟩
  obtain ⟨c, o, e, hl, hc⟩ := h2 i hi
  exact ⟨c, o, e, Nat.lt_of_lt_of_le hl k.size, by rw [k.cell (p := ⟨c, o + i, none⟩) hl]; exact hc⟩

set_option maxRecDepth 4000 in
set_option maxHeartbeats 1000000 in
theorem sumParts_any (v : Value) (ps : List ByteArray) (w : World) (hv : Texts w v ps) (hT : Tabs w) (hM : (cat ps).length < 4611686018427387904) (hl : ps.length < 4611686018427387904) :
    Calls Tryd.prog 33 #[v] w fun e w' => e = .returned (.agg (bytesA 32 (hashOf (cat ps)))) ∧ Below w.heap.size w w' := by
  obtain ⟨base, cap, rfl, hc⟩ := hv
  have hz := zeroHash
  go_enter Tryd.func33, Tryd.ntmps33
  go_wp2
  clear hz
  obtain ⟨n, hn⟩ : ∃ n, n = w.heap.size := ⟨_, rfl⟩
  have hn3 : 4 ≤ n := hn ▸ hT.size
  rw [← hn]
  have HN : Hid (n = w.heap.size) := hn
  clear hn
  go_loopw [8] (fun y wr => ∃ k : Nat, k ≤ ps.length ∧ y = .int .i64 k ∧ Below w.heap.size w wr ∧ Hashes wr (n + 1) (cat (ps.take k)) ∧ (∃ q, Holds wr n 40 (bytesA 32 q))) (fun y _ => ps.length - (intOf y).toNat)
  case atStart =>
    refine ⟨0, by omega, rfl, ((Below.refl _ _).alloc (Nat.le_refl _) _).alloc (by simp) _, ?_, fun _ => 0, ?_⟩
    · have h := Holds.new (w.alloc (.cells (bytesA 32 fun _ => 0) 40)) 81 (hashA (fun _ => 0) (fun _ => 0) 0)
      rw [World.size_alloc, ← HN.out] at h
      exact Hashes.zero h
    · rw [HN.out]; exact (Holds.new w 40 (bytesA 32 fun _ => 0)).alloc _
  case round =>
    obtain ⟨k, hk, rfl, hB, hh, q, hq⟩ := hrel
    have hTr := hT.below hB
    by_cases hlt : k < ps.length
    · have hk1 : (k : Int) < ps.length := by omega
      obtain ⟨c, o, rfl, hcl, hck⟩ := hc k hlt
      have hck2 : wr.cell? ⟨c, o + k, none⟩ = some (.string ps[k]) := by rw [hB.cell (p := ⟨c, o + k, none⟩) hcl]; exact hck
      have hL := cat_length_take ps k hlt
      have HC := cat_take ps k hlt
      have H2 : Hid _ := HC
      obtain ⟨p, hp⟩ : ∃ p, p = ps[k] := ⟨_, rfl⟩
      rw [← hp] at hck2 hL H2
      clear hck HC hp
      go_wp2_with fail
      refine (write_any (n + 1) _ p wr hh hTr (by omega) (by omega)).mono ?_
      rintro e w1 ⟨rfl, o1, h1⟩
      go_wp2
      go_roundw
      case rel =>
        refine ⟨k + 1, by omega, rfl, Only.fresh hB o1 (by have := HN.out; omega), ?_, q, o1.holds hq (by omega)⟩
        rw [H2.out]; exact h1
      case measure => simp [intOf]; omega
    · have hk1 : ¬ (k : Int) < ps.length := by omega
      have hkk : k = ps.length := by omega
      subst hkk
      rw [List.take_length] at hh
      clear hk
      go_wp2_with fail
      refine (sum_any _ _ _ hh hTr hM).mono ?_
      rintro e w1 ⟨rfl, hB1⟩
      have hq1 : Holds w1 n 40 (bytesA 32 q) := Below.holds hB1 hq
      have hin : (Tryd.prog.info? 40).map (·.size) = some (bytesA 32 (hashOf (cat ps))).size := by rw [bytesA_size]; exact info32
      have hzs : (bytesA 32 q).size = (bytesA 32 (hashOf (cat ps))).size := by rw [bytesA_size, bytesA_size]
      have hon := bytesA_one 32 (hashOf (cat ps))
      generalize hcs : bytesA 32 (hashOf (cat ps)) = cs at hin hzs hon ⊢
      have HCS : Hid (bytesA 32 (hashOf (cat ps)) = cs) := hcs
      clear hcs
      dsimp only
      go_wp2_with (first
        | (refine wpList_storeH rfl 40 _ _ rfl n cs rfl rfl 40 _ hq1 hin hzs hon ?_
           intro w5 h5 o5 z5)
        | fail)
      rw [← HCS.out] at h5 hin
      exact bodyPost_ret (results_cellH rfl _ _ n 40 (bytesA 32 (hashOf (cat ps))) _ rfl h5 Tryd.underlying40 rfl hin) rfl
        ⟨rfl, Only.fresh (hB.trans (hB1.mono hB.size)) o5 (by have := HN.out; omega)⟩

end Go.Proofs.YtjdhdeffiigpbaaDoor.K
