/-
  A hash in memory: 25 lanes, 136 bytes, a number. Laws for what is loaded, stored and copied in the middle of such a block.
-/
import Derived.Test.YtjbenoaefjlbaaaDoorLaws
import Derived.Test.YtjbenoaefjlbaaaDoorBytes
import Derived.Laws.IdiomCopy
import Derived.StillTailTactics
import Derived.RegionTactic
namespace Go.Proofs.YtjbenoaefjlbaaaDoor
open Go.RowKit

/-- A cell of a hash. -/
def hashCell (s : Nat → BitVec 64) (B : Nat → UInt8) (z : Nat) (i : Nat) : Value :=
  if i < 25 then .int .u64 (lane (s i)) else if i < 161 then .int .u8 (oct (B (i - 25))) else .int .i64 (z : Nat)
def hashA (s : Nat → BitVec 64) (B : Nat → UInt8) (z : Nat) : Array Value := Array.ofFn (n := 162) fun i => hashCell s B z i.val
theorem hashA_size (s : Nat → BitVec 64) (B : Nat → UInt8) (z : Nat) : (hashA s B z).size = 162 := by simp [hashA]
theorem hashA_get (s : Nat → BitVec 64) (B : Nat → UInt8) (z i : Nat) (h : i < 162) : (hashA s B z)[i]? = some (hashCell s B z i) := by simp [hashA, h]
theorem hashA_congr {s s' : Nat → BitVec 64} {B B' : Nat → UInt8} {z z' : Nat} (h1 : ∀ i, i < 25 → s i = s' i) (h2 : ∀ i, i < 136 → B i = B' i) (h3 : z = z') : hashA s B z = hashA s' B' z' := by
  unfold hashA
  congr 1
  funext i
  have hi := i.isLt
  unfold hashCell
  subst h3
  by_cases c : i.val < 25
  · simp only [c, if_true]; rw [h1 _ c]
  · by_cases d : i.val < 161
    · simp only [c, d, if_true, if_false]; rw [h2 _ (by omega)]
    · simp only [c, d, if_false]
theorem hashA_one (s : Nat → BitVec 64) (B : Nat → UInt8) (z : Nat) : (hashA s B z).all (·.oneCell') = true := by
  refine Array.all_eq_true_iff_forall_mem.2 fun v hv => ?_
  obtain ⟨i, rfl⟩ := Array.mem_ofFn.1 hv
  unfold hashCell
  split
  · rfl
  · split <;> rfl

/-- Cells set one by one. -/
def splat (cs : Array Value) : Nat → List Value → Array Value
  | _, [] => cs
  | o, v :: r => splat (cs.setIfInBounds o v) (o + 1) r
theorem Holds.setCells {b : Nat} {t : TypeId} : ∀ (vs : List Value) (o : Nat) (w : World) (cs : Array Value), Holds w b t cs → Holds (w.setCells b o vs) b t (splat cs o vs)
  | [], _, _, _, h => h
  | v :: r, o, _, _, h => Holds.setCells r (o + 1) _ _ (h.set o v)
theorem Only.setCells {b : Nat} : ∀ (vs : List Value) (o : Nat) (w0 w : World), Only b w0 w → Only b w0 (w.setCells b o vs)
  | [], _, _, _, h => h
  | v :: r, o, _, _, h => Only.setCells r (o + 1) _ _ (h.set o v)
theorem size_setCells {b : Nat} : ∀ (vs : List Value) (o : Nat) (w : World), (w.setCells b o vs).heap.size = w.heap.size
  | [], _, _ => rfl
  | v :: r, o, w => by rw [World.setCells, size_setCells r (o + 1), World.size_setCell]
theorem splat_get : ∀ (vs : List Value) (o : Nat) (cs : Array Value) (i : Nat), o + vs.length ≤ cs.size →
    (splat cs o vs)[i]? = if o ≤ i ∧ i < o + vs.length then vs[i - o]? else cs[i]?
  | [], o, cs, i, _ => by rw [if_neg (by simp)]; rfl
  | v :: r, o, cs, i, h => by
    have h' : o + (r.length + 1) ≤ cs.size := h
    rw [splat, splat_get r (o + 1) _ i (by simp; omega)]
    by_cases c : i = o
    · subst c
      rw [if_neg (by omega), if_pos (by simp)]
      simp [show i < cs.size by omega]
    · by_cases d : o + 1 ≤ i ∧ i < o + 1 + r.length
      · rw [if_pos d, if_pos (by simp; omega)]
        rw [show i - o = (i - (o + 1)) + 1 by omega, List.getElem?_cons_succ]
      · rw [if_neg d, if_neg (by simp; omega)]
        simp [Ne.symm c]
theorem splat_size : ∀ (vs : List Value) (o : Nat) (cs : Array Value), (splat cs o vs).size = cs.size
  | [], _, _ => rfl
  | v :: r, o, cs => by rw [splat, splat_size r]; simp

/-- Bytes put over others, from place m on. -/
def over (B : Nat → UInt8) (m : Nat) (l : List UInt8) : Nat → UInt8 := fun j => if m ≤ j ∧ j < m + l.length then l.getD (j - m) 0 else B j
def octs (l : List UInt8) : List Value := l.map fun c => .int .u8 (oct c)
theorem octs_length (l : List UInt8) : (octs l).length = l.length := by simp [octs]
theorem octs_get (l : List UInt8) (i : Nat) (h : i < l.length) : (octs l)[i]? = some (.int .u8 (oct (l.getD i 0))) := by
  simp [octs, h]

theorem hashA_over (s : Nat → BitVec 64) (B : Nat → UInt8) (z m : Nat) (l : List UInt8) (h : m + l.length ≤ 136) :
    splat (hashA s B z) (25 + m) (octs l) = hashA s (over B m l) z := by
  apply Array.ext_getElem?
  intro i
  rw [splat_get _ _ _ _ (by rw [octs_length, hashA_size]; omega), octs_length]
  by_cases hi : i < 162
  · rw [hashA_get _ _ _ _ hi, hashA_get _ _ _ _ hi]
    by_cases c : 25 + m ≤ i ∧ i < 25 + m + l.length
    · rw [if_pos c, octs_get _ _ (by omega)]
      unfold hashCell over
      rw [if_neg (by omega), if_pos (by omega), if_pos (by omega), show i - (25 + m) = i - 25 - m by omega]
    · rw [if_neg c]
      unfold hashCell over
      by_cases d : i < 25
      · rw [if_pos d, if_pos d]
      · rw [if_neg d, if_neg d]
        by_cases e : i < 161
        · rw [if_pos e, if_pos e, if_neg (by omega)]
        · rw [if_neg e, if_neg e]
  · rw [if_neg (by omega)]
    rw [Array.getElem?_eq_none (by rw [hashA_size]; omega), Array.getElem?_eq_none (by rw [hashA_size]; omega)]
theorem hashA_state (s s' : Nat → BitVec 64) (B : Nat → UInt8) (z : Nat) : splat (hashA s B z) 0 (lanesA s').toList = hashA s' B z := by
  have hl : (lanesA s').toList.length = 25 := by simp [lanesA]
  apply Array.ext_getElem?
  intro i
  rw [splat_get _ _ _ _ (by rw [hl, hashA_size]; omega), hl]
  by_cases hi : i < 162
  · rw [hashA_get _ _ _ _ hi, hashA_get _ _ _ _ hi]
    by_cases c : i < 25
    · rw [if_pos (by omega), Nat.sub_zero, Array.getElem?_toList, lanesA_get _ _ c]
      unfold hashCell
      rw [if_pos c]
    · rw [if_neg (by omega)]
      unfold hashCell
      rw [if_neg c, if_neg c]
  · rw [if_neg (by omega)]
    rw [Array.getElem?_eq_none (by rw [hashA_size]; omega), Array.getElem?_eq_none (by rw [hashA_size]; omega)]
theorem hashA_num (s : Nat → BitVec 64) (B : Nat → UInt8) (z z' : Nat) : (hashA s B z).setIfInBounds 161 (.int .i64 (z' : Nat)) = hashA s B z' := by
  have := splat_get [.int .i64 (z' : Nat)] 161 (hashA s B z)
  apply Array.ext_getElem?
  intro i
  have e := this i (by rw [hashA_size]; simp)
  rw [show splat (hashA s B z) 161 [.int .i64 (z' : Nat)] = (hashA s B z).setIfInBounds 161 (.int .i64 (z' : Nat)) from rfl] at e
  rw [e]
  by_cases hi : i < 162
  · rw [hashA_get _ _ _ _ hi, hashA_get _ _ _ _ hi]
    by_cases c : i = 161
    · subst c; rfl
    · rw [if_neg (by simp; omega)]
      unfold hashCell
      by_cases d : i < 25
      · rw [if_pos d, if_pos d]
      · rw [if_neg d, if_neg d, if_pos (by omega), if_pos (by omega)]
  · rw [if_neg (by simp; omega)]
    rw [Array.getElem?_eq_none (by rw [hashA_size]; omega), Array.getElem?_eq_none (by rw [hashA_size]; omega)]
theorem bytesA_over (n : Nat) (B : Nat → UInt8) (m : Nat) (l : List UInt8) (h : m + l.length ≤ n) : splat (bytesA n B) m (octs l) = bytesA n (over B m l) := by
  apply Array.ext_getElem?
  intro i
  rw [splat_get _ _ _ _ (by rw [octs_length, bytesA_size]; omega), octs_length]
  by_cases hi : i < n
  · rw [bytesA_get _ _ _ hi, bytesA_get _ _ _ hi]
    unfold over
    by_cases c : m ≤ i ∧ i < m + l.length
    · rw [if_pos c, octs_get _ _ (by omega), if_pos c]
    · rw [if_neg c, if_neg c]
  · rw [if_neg (by omega)]
    rw [Array.getElem?_eq_none (by rw [bytesA_size]; omega), Array.getElem?_eq_none (by rw [bytesA_size]; omega)]

section
variable {w : World} {b : Nat} {t : TypeId} {s : Nat → BitVec 64} {B : Nat → UInt8} {z : Nat}
theorem Holds.hashState (h : Holds w b t (hashA s B z)) : w.rangeAt b 0 (lanesA s).toList := fun j v hv => by
  have hj : j < 25 := by
    have := (List.getElem?_eq_some_iff.1 hv).1
    simpa [lanesA] using this
  rw [Array.getElem?_toList, lanesA_get _ _ hj] at hv
  rw [Nat.zero_add, h.cell, hashA_get _ _ _ _ (by omega)]
  unfold hashCell
  rw [if_pos hj]; exact hv
theorem Holds.hashBlock (h : Holds w b t (hashA s B z)) : w.rangeAt b 25 (bytesA 136 B).toList := fun j v hv => by
  have hj : j < 136 := by
    have := (List.getElem?_eq_some_iff.1 hv).1
    rw [Array.length_toList, bytesA_size] at this; exact this
  rw [Array.getElem?_toList, bytesA_get _ _ _ hj] at hv
  rw [h.cell, hashA_get _ _ _ _ (by omega)]
  unfold hashCell
  rw [if_neg (by omega), if_pos (by omega), show 25 + j - 25 = j by omega]; exact hv
theorem Holds.byteRow {n : Nat} (h : Holds w b t (bytesA n B)) : w.rangeAt b 0 (bytesA n B).toList := fun j v hv => by
  rw [Nat.zero_add, h.cell, ← hv, Array.getElem?_toList]
theorem Holds.hashNum (h : Holds w b t (hashA s B z)) : w.cell? ⟨b, 161, none⟩ = some (.int .i64 (z : Nat)) := by
  rw [h.cell, hashA_get _ _ _ _ (by omega)]; rfl
theorem Holds.there {cs : Array Value} (h : Holds w b t cs) (o n : Nat) (hn : o + n ≤ cs.size) : w.there b o n := fun j hj =>
  ⟨by rw [h.cell]; simp; omega, h.frozen _⟩
end

section
variable {P : Program}
/-- A row in the middle of a block is loaded, in a region that draws its order. -/
theorem wpStill_load {ops : Array Oper} {rest : List Oper} {op : Oper} {a : Act} {w : World} {Q : Act → Prop} (hgd : op.guard = none) (ty : TypeId) (x : Operand) (ho : op.op = .load ty x)
    (b o : Nat) (hx : a.eval x = .pointer (some ⟨b, o, none⟩)) (cs : Array Value) (d : TypeDesc) (hc : w.rangeAt b o cs.toList)
    (hu : P.underlying ty = some d) (hd : d.isRow = true) (hi : (P.info? ty).map (·.size) = some cs.size)
    (h : wpStill P ops w Q rest (a.put op.dst (.agg cs))) : wpStill P ops w Q (op :: rest) a :=
  wpStill_step fun _ hK => by
    rw [if_pos (by simp [Region.wanted, hgd])]
    unfold Oper.still execOp
    have := run_loadVar_mid w b o ty cs.toList d hc hu hd (by simpa using hi)
    simp only [ho, hx, Instr.loadAt, Instr.sureAddr, Sem.run_bind, Sem.run_pure, Result.andThen_ok, this]
    exact ⟨rfl, hK _ (by simpa using h)⟩
/-- A row is stored into the middle of a block. -/
theorem wpList_storeMid {ops : Array Oper} {rest : List Oper} {op : Oper} {a : Act} {w : World} {Q : Exit → Act → World → Prop} (hgd : op.guard = none) (ty : TypeId) (x y : Operand) (ho : op.op = .store ty x y)
    (b o : Nat) (cells : Array Value) (hx : a.eval x = .pointer (some ⟨b, o, none⟩)) (hy : a.eval y = .agg cells)
    (t : TypeId) (old new : Array Value) (hh : Holds w b t old) (hn : splat old o cells.toList = new) (hz : o + cells.size ≤ old.size)
    (hi : (P.info? ty).map (·.size) = some cells.size) (h1 : cells.all (·.oneCell') = true)
    (h : ∀ w', Holds w' b t new → Only b w w' → w'.heap.size = w.heap.size → wpList P ops Q rest (a.put op.dst undef) w') : wpList P ops Q (op :: rest) a w :=
  wpList_plain hgd fun _ hK => by
    unfold Oper.wp execOp
    simp only [ho, hx, hy, Instr.storeAt, Instr.sureAddr, Sem.run_bind, Sem.run_pure, Result.andThen_ok, run_storeVar_mid w b o ty cells (hh.there o _ hz) hi h1]
    exact hK _ _ (h _ (hn ▸ Holds.setCells _ o w old hh) (Only.setCells _ _ _ _ (Only.refl _ _)) (size_setCells _ _ _))

theorem run_copy_str (w : World) (dT sT ty elem : TypeId) (b o dLen dCap : Nat) (r : ByteArray) (t : TypeId) (old : Array Value)
    (hu : P.underlying dT = some (.slice elem)) (hs : (P.info? elem).map (·.size) = some 1) (hh : Holds w b t old) (hz : o + dLen ≤ old.size) :
    (Builtin.copy_ #[dT, sT] ty #[.slice (some ⟨b, o, none⟩) dLen dCap, .string r]).run P w = .ok (goInt (Nat.min r.size dLen)) (w.setCells b o (octs (r.data.toList.take (Nat.min r.size dLen)))) := by
  have hle : (octs (r.data.toList.take (Nat.min r.size dLen))).length = Nat.min r.size dLen := by
    rw [octs_length, List.length_take]
    have : r.data.toList.length = r.size := rfl
    rw [this]; exact Nat.min_eq_left (Nat.min_le_left _ _)
  have hmin : Nat.min r.size dLen ≤ dLen := Nat.min_le_right _ _
  have hth := hh.there o dLen hz
  have hst := run_storeCells_cells (P := P) b o (octs (r.data.toList.take (Nat.min r.size dLen))) 0 w (by rw [hle]; intro j hj; exact (hth j (by omega)).1) (by rw [hle]; intro j hj; exact (hth j (by omega)).2) (by
    intro v hv
    obtain ⟨x, _, rfl⟩ := List.mem_map.1 hv
    rfl)
  have hcells : ((r.extract 0 (Nat.min r.size dLen)).data.map fun c => Value.int .u8 (c.toNat : Int)).toList = octs (r.data.toList.take (Nat.min r.size dLen)) := by
    simp [octs, oct]
  have hzz : (Go.sizeOf elem).run P w = .ok 1 w := by
    cases hq : P.info? elem with
    | none => simp [hq] at hs
    | some i =>
      have hi : i.size = 1 := by simpa [hq] using hs
      simp [Go.sizeOf, typeInfo, hq, hi]
  unfold Builtin.copy_
  simp only [List.getElem?_toArray, List.getElem?_cons_zero, List.getElem?_cons_succ, Sem.run_bind, run_underlying hu, Result.andThen_ok, Builtin.lenOf, Sem.run_pure, Builtin.firstCells, hzz, hcells, Nat.add_zero] at hst ⊢
  rw [hst]
  rfl
/-- The built-in copy of a string's bytes into the middle of a block. -/
theorem wpList_copyStr {ops : Array Oper} {rest : List Oper} {op : Oper} {a : Act} {w : World} {Q : Exit → Act → World → Prop} (hgd : op.guard = none) (d x : Operand) (dT sT : TypeId)
    (hop : op.op = Op.call { callee := Callee.builtin Builtin.copy, args := #[d, x], argTypes := #[dT, sT] })
    (elem : TypeId) (hu : P.underlying dT = some (.slice elem)) (hs : (P.info? elem).map (·.size) = some 1)
    (b o dLen dCap : Nat) (hd : a.eval d = .slice (some ⟨b, o, none⟩) dLen dCap) (r : ByteArray) (hx : a.eval x = .string r) (t : TypeId) (old : Array Value) (hh : Holds w b t old) (hz : o + dLen ≤ old.size)
    (h : ∀ w', Holds w' b t (splat old o (octs (r.data.toList.take (Nat.min r.size dLen)))) → Only b w w' → w'.heap.size = w.heap.size → wpList P ops Q rest (a.put op.dst (goInt (Nat.min r.size dLen))) w') : wpList P ops Q (op :: rest) a w :=
  wpList_plain hgd fun _ hK => by
    have hrun := run_copy_str (P := P) w dT sT op.type elem b o dLen dCap r t old hu hs hh hz
    unfold Oper.wp
    simp [execOp, hop, resolve, invoke, builtin, hd, hx, hrun, Result.andThen]
    exact hK _ _ (h _ (Holds.setCells _ o w old hh) (Only.setCells _ _ _ _ (Only.refl _ _)) (size_setCells _ _ _))
/-- The built-in copy of bytes of one block into another one. -/
theorem wpList_copyRow {ops : Array Oper} {rest : List Oper} {op : Oper} {a : Act} {w : World} {Q : Exit → Act → World → Prop} (hgd : op.guard = none) (d x : Operand) (dT sT : TypeId)
    (hop : op.op = Op.call { callee := Callee.builtin Builtin.copy, args := #[d, x], argTypes := #[dT, sT] })
    (elem : TypeId) (hu : P.underlying dT = some (.slice elem)) (hs : (P.info? elem).map (·.size) = some 1)
    (b o dLen dCap : Nat) (hd : a.eval d = .slice (some ⟨b, o, none⟩) dLen dCap) (c p sLen sCap : Nat) (hx : a.eval x = .slice (some ⟨c, p, none⟩) sLen sCap) (l : List UInt8) (hl : l.length = Nat.min sLen dLen)
    (hsrc : w.rangeAt c p (octs l)) (t : TypeId) (old : Array Value) (hh : Holds w b t old) (hz : o + dLen ≤ old.size)
    (h : ∀ w', Holds w' b t (splat old o (octs l)) → Only b w w' → w'.heap.size = w.heap.size → wpList P ops Q rest (a.put op.dst (goInt l.length)) w') : wpList P ops Q (op :: rest) a w :=
  wpList_plain hgd fun _ hK => by
    have hmin : Nat.min sLen dLen ≤ dLen := Nat.min_le_right _ _
    have hth := hh.there o dLen hz
    have hrun := run_copy_cells (P := P) w dT sT op.type elem b o dLen dCap ⟨c, p, none⟩ sLen sCap (octs l) hu hs (by rw [octs_length]; exact hl)
      (fun j v hv => by rw [Addr.add_mid]; exact hsrc j v hv) (fun j hj => (hth j (by rw [octs_length] at hj; omega)).1) (fun j hj => (hth j (by rw [octs_length] at hj; omega)).2)
      (by
        intro v hv
        obtain ⟨x, _, rfl⟩ := List.mem_map.1 hv
        rfl)
    unfold Oper.wp
    simp [execOp, hop, resolve, invoke, builtin, hd, hx, hrun, Result.andThen, octs_length]
    exact hK _ _ (h _ (Holds.setCells _ o w old hh) (Only.setCells _ _ _ _ (Only.refl _ _)) (size_setCells _ _ _))
/-- A region that draws its order: n operations that turn nothing, then the rest in its own order. -/
theorem wp_region_tail {id : Nat} {Q : Exit → Act → World → Prop} {a : Act} {w : World} {l : List Oper} (n : Nat) (hm : P.follows .mixedOrders = true) (hB : Region.lexTailB .any l.toArray n = true)
    (h : wpStill P l.toArray w.drew (fun a' => wpList P l.toArray Q (l.drop n) a' w.drew) (l.take n) a) : (Code.region id l.toArray true).wp P Q a w :=
  wp_region_still_tail n hm hB h
/-- A step of a region that draws its order: a row is loaded. -/
theorem step_load {ops : Array Oper} {op : Oper} {a : Act} {w : World} {K : Act → World → Prop} {Q : Exit → Act → World → Prop} {E : Prop} (hgd : op.guard = none) (ty : TypeId) (x : Operand) (ho : op.op = .load ty x)
    (b o : Nat) (hx : a.eval x = .pointer (some ⟨b, o, none⟩)) (cs : Array Value) (d : TypeDesc) (hc : w.rangeAt b o cs.toList)
    (hu : P.underlying ty = some d) (hd : d.isRow = true) (hi : (P.info? ty).map (·.size) = some cs.size)
    (h : K (a.put op.dst (.agg cs)) w) : if Region.wanted op (yielded ops a.tmps) = true then Oper.wp P op a w K Q else E := by
  rw [if_pos (by simp [Region.wanted, hgd])]
  exact wp_load_mid ty x ho b o hx cs.toList d hc hu hd (by simpa using hi) (by simpa using h)
/-- A step of a region that draws its order: a row is stored. -/
theorem step_store {ops : Array Oper} {op : Oper} {a : Act} {w : World} {K : Act → World → Prop} {Q : Exit → Act → World → Prop} {E : Prop} (hgd : op.guard = none) (ty : TypeId) (x y : Operand) (ho : op.op = .store ty x y)
    (b o : Nat) (cells : Array Value) (hx : a.eval x = .pointer (some ⟨b, o, none⟩)) (hy : a.eval y = .agg cells)
    (t : TypeId) (old new : Array Value) (hh : Holds w b t old) (hn : splat old o cells.toList = new) (hz : o + cells.size ≤ old.size)
    (hi : (P.info? ty).map (·.size) = some cells.size) (h1 : cells.all (·.oneCell') = true)
    (h : ∀ w', Holds w' b t new → Only b w w' → w'.heap.size = w.heap.size → K (a.put op.dst undef) w') : if Region.wanted op (yielded ops a.tmps) = true then Oper.wp P op a w K Q else E := by
  rw [if_pos (by simp [Region.wanted, hgd])]
  exact wp_store_mid ty x y ho b o cells hx hy (hh.there o _ hz) hi h1 (h _ (hn ▸ Holds.setCells _ o w old hh) (Only.setCells _ _ _ _ (Only.refl _ _)) (size_setCells _ _ _))
theorem wpAny_one {ops : Array Oper} {md : Region.Mode} {fuel : Nat} {listed : Array Bool} {a : Act} {w : World} {Q : Exit → Act → World → Prop} (i : Nat) {o : Oper} (ho : ops[i]? = some o) (hr : Region.ready md ops listed = [i])
    (h : ∀ K' : Act → World → Prop, (∀ a w, wpAny P md ops Q fuel (listed.setIfInBounds i true) a w → K' a w) → if Region.wanted o (yielded ops a.tmps) = true then Oper.wp P o a w K' Q else K' (a.put o.dst undef) w) :
    wpAny P md ops Q (fuel + 1) listed a w :=
  wpAny_ready (rs := [i]) hr (by simp) (AllReady.cons ho h AllReady.nil)
theorem wpAny_two {ops : Array Oper} {md : Region.Mode} {fuel : Nat} {listed : Array Bool} {a : Act} {w : World} {Q : Exit → Act → World → Prop} (i j : Nat) {o o' : Oper} (ho : ops[i]? = some o) (ho' : ops[j]? = some o') (hr : Region.ready md ops listed = [i, j])
    (h : ∀ K' : Act → World → Prop, (∀ a w, wpAny P md ops Q fuel (listed.setIfInBounds i true) a w → K' a w) → if Region.wanted o (yielded ops a.tmps) = true then Oper.wp P o a w K' Q else K' (a.put o.dst undef) w)
    (h' : ∀ K' : Act → World → Prop, (∀ a w, wpAny P md ops Q fuel (listed.setIfInBounds j true) a w → K' a w) → if Region.wanted o' (yielded ops a.tmps) = true then Oper.wp P o' a w K' Q else K' (a.put o'.dst undef) w) :
    wpAny P md ops Q (fuel + 1) listed a w :=
  wpAny_ready (rs := [i, j]) hr (by simp) (AllReady.cons ho h (AllReady.cons ho' h' AllReady.nil))
end
end Go.Proofs.YtjbenoaefjlbaaaDoor
