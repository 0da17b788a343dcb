/-
  hashOf, hashesOf, marked, Clone and the document's set.
-/
import Derived.Test.YtbidoangdnmjfaaDoorMConcat
import Derived.Laws.IdiomCopy
import Derived.Lib.LazyBuf
namespace Go.Proofs.YtbidoangdnmjfaaDoor
open Go Go.RowKit

/-- Cells set one by one. -/
def splat (cs : Array Value) : Nat → List Value → Array Value
  | _, [] => cs
  | o, v :: r => splat (cs.setIfInBounds o v) (o + 1) r
theorem Holds.setCells {b : Nat} {t : TypeId} : ∀ (vs : List Value) (o : Nat) (w : World) (cs : Array Value), Holds w b t cs → Holds (w.setCells b o vs) b t (splat cs o vs)
  | [], _, _, _, h => h
  | v :: r, o, _, _, h => Holds.setCells r (o + 1) _ _ (h.set o v)
theorem Only.setCells {b : Nat} : ∀ (vs : List Value) (o : Nat) (w0 w : World), Only b w0 w → Only b w0 (w.setCells b o vs)
  | [], _, _, _, h => h
  | v :: r, o, _, _, h => Only.setCells r (o + 1) _ _ (h.set o v)
theorem size_setCells {b : Nat} : ∀ (vs : List Value) (o : Nat) (w : World), (w.setCells b o vs).heap.size = w.heap.size
  | [], _, _ => rfl
  | v :: r, o, w => by rw [World.setCells, size_setCells r (o + 1), World.size_setCell]
theorem splat_get : ∀ (vs : List Value) (o : Nat) (cs : Array Value) (i : Nat), o + vs.length ≤ cs.size →
    (splat cs o vs)[i]? = if o ≤ i ∧ i < o + vs.length then vs[i - o]? else cs[i]?
  | [], o, cs, i, _ => by rw [if_neg (by simp)]; rfl
  | v :: r, o, cs, i, h => by
    have h' : o + (r.length + 1) ≤ cs.size := h
    rw [splat, splat_get r (o + 1) _ i (by simp; omega)]
    by_cases c : i = o
    · subst c
      rw [if_neg (by omega), if_pos (by simp)]
      simp [show i < cs.size by omega]
    · by_cases d : o + 1 ≤ i ∧ i < o + 1 + r.length
      · rw [if_pos d, if_pos (by simp; omega)]
        rw [show i - o = (i - (o + 1)) + 1 by omega, List.getElem?_cons_succ]
      · rw [if_neg d, if_neg (by simp; omega)]
        simp [Ne.symm c]
theorem splat_size : ∀ (vs : List Value) (o : Nat) (cs : Array Value), (splat cs o vs).size = cs.size
  | [], _, _ => rfl
  | v :: r, o, cs => by rw [splat, splat_size r]; simp

theorem splat_all {vs : List Value} {cs : Array Value} (h : vs.length = cs.size) : splat cs 0 vs = vs.toArray := by
  apply Array.ext_getElem?
  intro i
  rw [splat_get vs 0 cs i (by omega)]
  by_cases hi : i < vs.length
  · rw [if_pos (by omega)]; simp
  · rw [if_neg (by omega), Array.getElem?_eq_none (by omega), Array.getElem?_eq_none (by simp; omega)]
/-- The first 32 bytes. -/
def takeH (l : List UInt8) : H32 := if h : 32 ≤ l.length then ⟨l.take 32, by simp; omega⟩ else zeroH
theorem takeH_val {l : List UInt8} (h : 32 ≤ l.length) : (takeH l).1 = l.take 32 := by unfold takeH; rw [dif_pos h]
theorem hcl_take {l : List UInt8} (h : 32 ≤ l.length) : hcl (takeH l) = (l.take 32).map u8v := by rw [hcl_u8v, takeH_val h]
theorem run_copyH {w : World} {b : Nat} {t : TypeId} {z : H32} (hb : Holds w b t (hcl z).toArray) (r : ByteArray) (hr : 32 ≤ r.size) (ty : TypeId) :
    ∃ w', (Builtin.copy_ #[48, 9] ty #[.slice (some ⟨b, 0, none⟩) 32 32, .string r]).run Tryd.prog w = .ok (goInt 32) w' ∧ Holds w' b t (hcl (takeH r.data.toList)).toArray ∧ Only b w w' ∧ w'.heap.size = w.heap.size := by
  have hsz : r.data.toList.length = r.size := rfl
  obtain ⟨vs, hvs⟩ : ∃ vs, vs = (r.data.toList.take 32).map fun c => Value.int .u8 (c.toNat : Int) := ⟨_, rfl⟩
  have hle : vs.length = 32 := by rw [hvs, List.length_map, List.length_take, hsz]; omega
  have hcs : (hcl z).toArray.size = 32 := by simp [hcl_len]
  have hst := run_storeCells_cells (P := Tryd.prog) b 0 vs 0 w (by rw [hle]; intro j hj; rw [Nat.add_zero, hb.cell]; simp [hcl_len, hj]) (by rw [hle]; intro j hj; exact hb.frozen _) (by
    intro v hv
    rw [hvs] at hv
    obtain ⟨x, _, rfl⟩ := List.mem_map.1 hv
    rfl)
  have hcells : ((r.extract 0 32).data.map fun c => Value.int .u8 (c.toNat : Int)).toList = vs := by
    rw [hvs]; simp
  obtain ⟨i5, hi5, _, hs5, _⟩ := infoU8
  have hzz : (Go.sizeOf 5).run Tryd.prog w = .ok 1 w := by
    simp [Go.sizeOf, typeInfo, hi5, hs5]
  have hk : Nat.min r.size 32 = 32 := Nat.min_eq_right hr
  refine ⟨w.setCells b 0 vs, ?_, ?_, Only.setCells vs 0 w w (Only.refl _ _), size_setCells vs 0 w⟩
  · unfold Builtin.copy_
    simp only [List.getElem?_toArray, List.getElem?_cons_zero, List.getElem?_cons_succ, Sem.run_bind, run_underlying underBytes, Result.andThen_ok, Builtin.lenOf, Sem.run_pure, Builtin.firstCells, hzz, hk, hcells, Nat.add_zero] at hst ⊢
    rw [hst]
    rfl
  · have := Holds.setCells vs 0 w _ hb
    rw [splat_all (by rw [hle, hcs])] at this
    rw [hcl_take (by omega)]
    rw [hvs] at this ⊢
    exact this
theorem infoHclS (z : H32) : (Tryd.prog.info? 43).map (·.size) = some (hcl z).toArray.size := infoHcl z
set_option maxRecDepth 8000 in
set_option maxHeartbeats 1000000 in
theorem hashOf_any {w : World} (r : ByteArray) (hr : 32 ≤ r.size) : Calls Tryd.prog 29 #[.string r] w fun e w' => e = .returned (hla (takeH r.data.toList)) ∧ Below w.heap.size w w' := by
  obtain ⟨W0, hW0⟩ : ∃ W0, World.alloc w (.cells zero32 43) = W0 := ⟨_, rfl⟩
  have h0 : Holds W0 w.heap.size 43 (hcl zeroH).toArray := by rw [← hW0]; exact Holds.new _ _ _
  have hB0 : Below w.heap.size w W0 := by rw [← hW0]; exact below_new1 _ _
  obtain ⟨W1, hW1⟩ : ∃ W1, World.alloc W0 (.cells zero32 43) = W1 := ⟨_, rfl⟩
  have h1 : Holds W1 W0.heap.size 43 (hcl zeroH).toArray := by rw [← hW1]; exact Holds.new _ _ _
  have hB1 : Below W0.heap.size W0 W1 := by rw [← hW1]; exact below_new1 _ _
  rw [zero32_eq] at hW0 hW1
  obtain ⟨W2, hcp, h2, hO2, hs2⟩ := run_copyH h1 r hr 3
  have h02 := hO2.holds (below_holds hB1 h0) (by have := h0.lt; omega)
  have HB2 : Hid (Below w.heap.size w W2) := Only.fresh (below_new hB0 hB1) hO2 hB0.size
  generalize takeH r.data.toList = x at h2 ⊢
  clear h1 h0 hB0 hB1 hO2 hs2
  have h2c := h2.hash
  go_enter Tryd.func29, Tryd.ntmps29
  go_wp2_with (first
    | (refine wpList_ldH rfl _ rfl rfl h2c ?_)
    | (refine wpList_stH rfl _ _ rfl rfl rfl h02 ?_; intro W7 h7 hO7 hs7))
  refine bodyPost_ret (results_cellH rfl _ _ _ _ _ _ rfl h7 underSumM rfl (infoHcl x)) rfl ?_
  exact ⟨rfl, Only.fresh HB2.out hO7 (Nat.le_refl _)⟩
theorem fill32 (c0 c1 c2 c3 c4 c5 c6 c7 c8 c9 c10 c11 c12 c13 c14 c15 c16 c17 c18 c19 c20 c21 c22 c23 c24 c25 c26 c27 c28 c29 c30 c31 : Value) : Instr.fill (fun i => some (i * 32, 32)) ((Array.range (1 * 32)).map ((#[.int .u8 0, .int .u8 0, .int .u8 0, .int .u8 0, .int .u8 0, .int .u8 0, .int .u8 0, .int .u8 0, .int .u8 0, .int .u8 0, .int .u8 0, .int .u8 0, .int .u8 0, .int .u8 0, .int .u8 0, .int .u8 0, .int .u8 0, .int .u8 0, .int .u8 0, .int .u8 0, .int .u8 0, .int .u8 0, .int .u8 0, .int .u8 0, .int .u8 0, .int .u8 0, .int .u8 0, .int .u8 0, .int .u8 0, .int .u8 0, .int .u8 0, .int .u8 0] : Array Value)[· % 32]!)) [(0, .agg #[c0, c1, c2, c3, c4, c5, c6, c7, c8, c9, c10, c11, c12, c13, c14, c15, c16, c17, c18, c19, c20, c21, c22, c23, c24, c25, c26, c27, c28, c29, c30, c31])] = some #[c0, c1, c2, c3, c4, c5, c6, c7, c8, c9, c10, c11, c12, c13, c14, c15, c16, c17, c18, c19, c20, c21, c22, c23, c24, c25, c26, c27, c28, c29, c30, c31] := by kernel_rfl
theorem row32 (c0 c1 c2 c3 c4 c5 c6 c7 c8 c9 c10 c11 c12 c13 c14 c15 c16 c17 c18 c19 c20 c21 c22 c23 c24 c25 c26 c27 c28 c29 c30 c31 : Value) (w : World) : (Instr.buildSlice 23 1 #[(0, .agg #[c0, c1, c2, c3, c4, c5, c6, c7, c8, c9, c10, c11, c12, c13, c14, c15, c16, c17, c18, c19, c20, c21, c22, c23, c24, c25, c26, c27, c28, c29, c30, c31])]).run Tryd.prog w = .ok (.slice (some ⟨w.heap.size, 0, none⟩) 1 1) (w.alloc (.cells #[c0, c1, c2, c3, c4, c5, c6, c7, c8, c9, c10, c11, c12, c13, c14, c15, c16, c17, c18, c19, c20, c21, c22, c23, c24, c25, c26, c27, c28, c29, c30, c31] 43)) := by
  have h := fill32 c0 c1 c2 c3 c4 c5 c6 c7 c8 c9 c10 c11 c12 c13 c14 c15 c16 c17 c18 c19 c20 c21 c22 c23 c24 c25 c26 c27 c28 c29 c30 c31
  have hz := Tryd.zeroValue43 w
  have hs := Tryd.sizeOf43 w
  unfold Instr.buildSlice
  simp only [Sem.run_bind, run_underlying underHashes, Result.andThen_ok, hs]
  rw [if_neg (by decide), if_neg (by decide)]
  simp only [Sem.run_bind, hz, Result.andThen_ok, Sem.run_pure, Value.cells]
  have e : (#[Value.int IntKind.u8 0, Value.int IntKind.u8 0, Value.int IntKind.u8 0, Value.int IntKind.u8 0, Value.int IntKind.u8 0, Value.int IntKind.u8 0, Value.int IntKind.u8 0, Value.int IntKind.u8 0, Value.int IntKind.u8 0, Value.int IntKind.u8 0, Value.int IntKind.u8 0, Value.int IntKind.u8 0, Value.int IntKind.u8 0, Value.int IntKind.u8 0, Value.int IntKind.u8 0, Value.int IntKind.u8 0, Value.int IntKind.u8 0, Value.int IntKind.u8 0, Value.int IntKind.u8 0, Value.int IntKind.u8 0, Value.int IntKind.u8 0, Value.int IntKind.u8 0, Value.int IntKind.u8 0, Value.int IntKind.u8 0, Value.int IntKind.u8 0, Value.int IntKind.u8 0, Value.int IntKind.u8 0, Value.int IntKind.u8 0, Value.int IntKind.u8 0, Value.int IntKind.u8 0, Value.int IntKind.u8 0, Value.int IntKind.u8 0] : Array Value).size = 32 := rfl
  simp only [e, h]
  simp [go_sem]
theorem hla_lit (x : H32) : (hcl x).toArray = #[.int .u8 (((x.1.getD 0 0).toNat : Nat) : Int), .int .u8 (((x.1.getD 1 0).toNat : Nat) : Int), .int .u8 (((x.1.getD 2 0).toNat : Nat) : Int), .int .u8 (((x.1.getD 3 0).toNat : Nat) : Int), .int .u8 (((x.1.getD 4 0).toNat : Nat) : Int), .int .u8 (((x.1.getD 5 0).toNat : Nat) : Int), .int .u8 (((x.1.getD 6 0).toNat : Nat) : Int), .int .u8 (((x.1.getD 7 0).toNat : Nat) : Int), .int .u8 (((x.1.getD 8 0).toNat : Nat) : Int), .int .u8 (((x.1.getD 9 0).toNat : Nat) : Int), .int .u8 (((x.1.getD 10 0).toNat : Nat) : Int), .int .u8 (((x.1.getD 11 0).toNat : Nat) : Int), .int .u8 (((x.1.getD 12 0).toNat : Nat) : Int), .int .u8 (((x.1.getD 13 0).toNat : Nat) : Int), .int .u8 (((x.1.getD 14 0).toNat : Nat) : Int), .int .u8 (((x.1.getD 15 0).toNat : Nat) : Int), .int .u8 (((x.1.getD 16 0).toNat : Nat) : Int), .int .u8 (((x.1.getD 17 0).toNat : Nat) : Int), .int .u8 (((x.1.getD 18 0).toNat : Nat) : Int), .int .u8 (((x.1.getD 19 0).toNat : Nat) : Int), .int .u8 (((x.1.getD 20 0).toNat : Nat) : Int), .int .u8 (((x.1.getD 21 0).toNat : Nat) : Int), .int .u8 (((x.1.getD 22 0).toNat : Nat) : Int), .int .u8 (((x.1.getD 23 0).toNat : Nat) : Int), .int .u8 (((x.1.getD 24 0).toNat : Nat) : Int), .int .u8 (((x.1.getD 25 0).toNat : Nat) : Int), .int .u8 (((x.1.getD 26 0).toNat : Nat) : Int), .int .u8 (((x.1.getD 27 0).toNat : Nat) : Int), .int .u8 (((x.1.getD 28 0).toNat : Nat) : Int), .int .u8 (((x.1.getD 29 0).toNat : Nat) : Int), .int .u8 (((x.1.getD 30 0).toNat : Nat) : Int), .int .u8 (((x.1.getD 31 0).toNat : Nat) : Int)] := by
  refine (Value.agg.inj (hla_fn x)).trans ?_
  kernel_rfl
theorem run_buildH (x : H32) (w : World) : (Instr.buildSlice 23 1 #[(0, hla x)]).run Tryd.prog w = .ok (.slice (some ⟨w.heap.size, 0, none⟩) 1 1) (w.alloc (.cells (hcl x).toArray 43)) := by
  unfold hla
  rw [hla_lit]
  exact row32 _ _ _ _ _ _ _ _ _ _ _ _ _ _ _ _ _ _ _ _ _ _ _ _ _ _ _ _ _ _ _ _ w
theorem wpList_buildH {ops : Array Oper} {rest : List Oper} {op : Oper} {a : Act} {w : World} {Q : Exit → Act → World → Prop} (hgd : op.guard = none) (x : Operand) (ho : op.op = .buildSlice 23 1 #[(0, x)])
    {u : H32} (hx : a.eval x = hla u)
    (h : wpList Tryd.prog ops Q rest (a.put op.dst (.slice (some ⟨w.heap.size, 0, none⟩) 1 1)) (w.alloc (.cells (hcl u).toArray 43))) : wpList Tryd.prog ops Q (op :: rest) a w :=
  wpList_plain hgd fun _ hK => by
    unfold Oper.wp execOp
    simp only [ho]
    have e : (#[(0, x)] : Array (Nat × Operand)).map (fun (i, z) => (i, a.eval z)) = #[(0, hla u)] := by simp [hx]
    rw [e]
    simp only [Sem.run_bind, run_buildH u w, Result.andThen_ok, Sem.run_pure]
    exact hK _ _ h
theorem op_buildH {ops : Array Oper} {Q : Exit → Act → World → Prop} {K : Act → World → Prop} {k : Nat} {op : Oper} {a : Act} {w : World} (d : Option Tmp) (hdd : op.dst = d) (hk : ops[k]? = some op) (hw : Region.wanted op (yielded ops a.tmps) = true) (x : Operand) (ho : op.op = .buildSlice 23 1 #[(0, x)])
    {u : H32} (hx : a.eval x = hla u) (h : K (a.put d (.slice (some ⟨w.heap.size, 0, none⟩) 1 1)) (w.alloc (.cells (hcl u).toArray 43))) : wpOp Tryd.prog ops Q k K a w :=
  op_val d hdd hk hw (by
    unfold execOp
    simp only [ho]
    have e : (#[(0, x)] : Array (Nat × Operand)).map (fun (i, z) => (i, a.eval z)) = #[(0, hla u)] := by simp [hx]
    rw [e]
    simp only [Sem.run_bind, run_buildH u w, Result.andThen_ok, Sem.run_pure]) h
/-- Is a ref a hash? -/
def isH (r : ByteArray) : Bool := r.size == 33 && r.data.toList.getD 0 0 == 160
def refH (r : ByteArray) : H32 := takeH (r.data.toList.drop 1)
def ownL (r : ByteArray) : List H32 := if isH r then [refH r] else []
theorem byte0 {r : ByteArray} (h : 0 < r.size) : r.data.toList.getD 0 0 = r[0] := by
  rw [List.getD_eq_getElem?_getD, List.getElem?_eq_getElem (by exact h)]; rfl
set_option maxRecDepth 8000 in
set_option maxHeartbeats 1000000 in
theorem hashesOf_any {w : World} (r : ByteArray) : Calls Tryd.prog 33 #[.string r] w fun e w' => ∃ v, e = .returned v ∧ HashesAt w' v (ownL r) ∧ Below w.heap.size w w' := by
  by_cases h33 : r.size = 33
  · by_cases h0 : r[0]'(by omega) = 160
    · have hi : isH r = true := by unfold isH; rw [byte0 (by omega), h0, h33]; rfl
      have ho : ownL r = [refH r] := by unfold ownL; rw [if_pos hi]
      rw [ho]
      have hq : ((r[0]'(by omega)).toNat : Int) = 160 := by rw [h0]; rfl
      have h33i : (r.size : Int) = 33 := by omega
      have hof := hashOf_any (w := w) (r.extract 1 33) (by rw [ByteArray.size_extract]; omega)
      have hx : takeH (r.extract 1 33).data.toList = refH r := by
        rw [← h33]
        unfold refH
        congr 1
        simp
        rw [List.take_of_length_le]
        simp
      rw [hx] at hof
      generalize refH r = x at hof ⊢
      clear hi ho hx h0
      go_enter Tryd.func33, Tryd.ntmps33
      go_wp2_with fail
      refine hof.mono ?_
      rintro e w1 ⟨rfl, hB1⟩
      have hh1 := Holds.new w1 43 (hcl x).toArray
      go_wp2_with (refine wpList_buildH rfl _ rfl rfl ?_)
      go_ret
      exact ⟨_, rfl, .one hh1, below_new hB1 (below_new1 _ _)⟩
    · have hi : isH r = false := by
        unfold isH
        rw [byte0 (by omega)]
        simp [h0]
      have ho : ownL r = [] := by unfold ownL; rw [if_neg (by rw [hi]; decide)]
      rw [ho]
      have hq : ¬ ((r[0]'(by omega)).toNat : Int) = 160 := fun e => h0 (UInt8.toNat_inj.1 (by show _ = 160; omega))
      have h33i : (r.size : Int) = 33 := by omega
      clear hi ho h0
      go_enter Tryd.func33, Tryd.ntmps33
      go_wp2_with fail
      go_ret
      exact ⟨_, rfl, .nil _ _, Below.refl _ _⟩
  · have hi : isH r = false := by unfold isH; simp [h33]
    have ho : ownL r = [] := by unfold ownL; rw [if_neg (by rw [hi]; decide)]
    rw [ho]
    have h33i : ¬ (r.size : Int) = 33 := by omega
    clear hi ho
    go_enter Tryd.func33, Tryd.ntmps33
    go_wp2_with fail
    go_ret
    exact ⟨_, rfl, .nil _ _, Below.refl _ _⟩
theorem marked_any {m one : Nat} (has : Bool) (hm : m < 65536) (ho : one < 65536) (w : World) : Calls Tryd.prog 34 #[.int .u16 (m : Nat), .int .u16 (one : Nat), .bool has] w fun e w' => e = .returned (.int .u16 ((if has then m ||| one else andN m one : Nat) : Nat)) ∧ w' = w := by
  have h1 := or_u16 m one hm ho
  have h2 := andNot_u16 m one hm ho
  cases has with
  | true =>
    rw [if_pos rfl]
    generalize m ||| one = x at h1 ⊢
    go_enter Tryd.func34, Tryd.ntmps34
    go_wp2_with fail
    go_ret
    exact ⟨rfl, rfl⟩
  | false =>
    rw [if_neg (by decide)]
    generalize andN m one = x at h2 ⊢
    go_enter Tryd.func34, Tryd.ntmps34
    go_wp2_with fail
    go_ret
    exact ⟨rfl, rfl⟩
theorem set_any {m k : Nat} (is : Bool) (hm : m < 65536) (hk : k < 16) (w : World) : Calls Tryd.prog 36 #[.int .u16 (m : Nat), .int .i64 (k : Nat), .bool is] w fun e w' => e = .returned (.int .u16 (setM m k is : Nat)) ∧ w' = w := by
  have hq := qhas_any hm (k : Int) w
  rw [hasM_nat m k hk] at hq
  have hki : (k : Int) < 16 := by omega
  have hp := pow_lt16 hk
  have hpw : IntKind.u16.wrap (2 ^ k) = ((2 ^ k : Nat) : Int) := by
    rw [show ((2 : Int) ^ k) = ((2 ^ k : Nat) : Int) by simp, wrap_u16]
    generalize 2 ^ k = q at hp ⊢
    omega
  have hlt := setM_lt hm hk is
  cases hb : m.testBit k with
  | true =>
    rw [hb] at hq
    cases is with
    | true =>
      have HS : Hid (setM m k true = m) := by have := setM_same hm hk; rw [hb] at this; exact this
      rw [HS.out]
      clear hb hlt
      go_enter Tryd.func36, Tryd.ntmps36
      go_wp2_with fail
      refine hq.mono ?_
      rintro e w2 ⟨rfl, hw2⟩
      subst hw2
      go_wp2_with fail
      go_ret
      exact ⟨rfl, rfl⟩
    | false =>
      obtain ⟨h1, h2⟩ := setM_has_not hb
      rw [h1] at hlt ⊢
      clear hb h1
      generalize 2 ^ k = q at hp hpw h2 hlt ⊢
      have hqi : (q : Int) ≤ m := by omega
      have hmi : (m : Int) ≤ 65535 := by omega
      have hwr : IntKind.u16.wrap ((m : Int) - q) = (m : Int) - q := by rw [wrap_u16]; omega
      have HF : Hid (((m - q : Nat) : Int) = (m : Int) - q) := by show _ = _; omega
      rw [HF.out]
      go_enter Tryd.func36, Tryd.ntmps36
      go_wp2_with fail
      refine hq.mono ?_
      rintro e w2 ⟨rfl, hw2⟩
      subst hw2
      go_wp2_with fail
      go_ret
      exact ⟨rfl, rfl⟩
  | false =>
    rw [hb] at hq
    cases is with
    | true =>
      have h1 := setM_not_has hb
      rw [h1] at hlt ⊢
      clear hb h1
      generalize 2 ^ k = q at hp hpw hlt ⊢
      have hqi : (m : Int) + q ≤ 65535 := by omega
      have hwr : IntKind.u16.wrap ((m : Int) + q) = (m : Int) + q := by rw [wrap_u16]; omega
      have HF : Hid (((m + q : Nat) : Int) = (m : Int) + q) := by show _ = _; omega
      rw [HF.out]
      go_enter Tryd.func36, Tryd.ntmps36
      go_wp2_with fail
      refine hq.mono ?_
      rintro e w2 ⟨rfl, hw2⟩
      subst hw2
      go_wp2_with fail
      go_ret
      exact ⟨rfl, rfl⟩
    | false =>
      have HS : Hid (setM m k false = m) := by have := setM_same hm hk; rw [hb] at this; exact this
      rw [HS.out]
      clear hb hlt
      go_enter Tryd.func36, Tryd.ntmps36
      go_wp2_with fail
      refine hq.mono ?_
      rintro e w2 ⟨rfl, hw2⟩
      subst hw2
      go_wp2_with fail
      go_ret
      exact ⟨rfl, rfl⟩
theorem eql_noneH (n c : Nat) (w : World) : (binOp .eql 23 (.slice none n c) (.slice none 0 0)).run Tryd.prog w = .ok (.bool true) w := run_eql_slice_nil w 23 43 none n c underHashes
theorem eql_someH (ad : Addr) (n c : Nat) (w : World) : (binOp .eql 23 (.slice (some ad) n c) (.slice none 0 0)).run Tryd.prog w = .ok (.bool false) w := run_eql_slice_nil w 23 43 (some ad) n c underHashes
set_option maxRecDepth 8000 in
theorem clone_any {w : World} {v : Value} {L : List H32} (h : HashesAt w v L) (hl : L.length ≤ 1000000000) :
    Calls Tryd.prog 31 #[v] w fun e w' => ∃ v', e = .returned v' ∧ HashesAt w' v' L ∧ Below w.heap.size w w' := by
  have hown : OwnH (w.alloc (.cells #[] 43)) w.heap.size (.slice (some ⟨w.heap.size, 0, none⟩) 0 0) [] := World.ownsRow_made (w := w) (base := w.heap.size) (e := 43) (size := 32) #[] 0 (Nat.le_refl _) (by decide) rfl
  have hB0 : Below w.heap.size w (w.alloc (.cells #[] 43)) := (Below.refl _ _).alloc (Nat.le_refl _) _
  have hp := h.below hB0
  have q1 := eql_noneH
  have q2 := eql_someH
  have hdone : ∀ (v' : Value) (w1 : World), OwnH w1 w.heap.size v' ([] ++ L) → (w.alloc (.cells #[] 43)).grownBy w1 (Value.slice (some ⟨w.heap.size, 0, none⟩) 0 0).ownBlock → Below w.heap.size w w1 := fun v' w1 _ hg => below_grownE hB0 hg fun k hk => by simp [Value.ownBlock] at hk; omega
  rcases h with ⟨rfl, p, c, rfl⟩ | ⟨b, o, c, rfl, h2, h3⟩
  · cases p with
    | none =>
      go_enter Tryd.func31, Tryd.ntmps31
      go_wp2_with fail
      go_ret
      exact ⟨_, rfl, .nil _ _, Below.refl _ _⟩
    | some ad =>
      go_enter Tryd.func31, Tryd.ntmps31
      go_wp2_with (at_builtin; refine wpList_append_h rfl _ _ rfl rfl rfl hown hp (by simp) (by rw [World.size_alloc]; omega) ?_; intro v' w1 h1 h2)
      go_ret
      exact ⟨_, rfl, h1.at, hdone _ _ h1 h2⟩
  · go_enter Tryd.func31, Tryd.ntmps31
    go_wp2_with (at_builtin; refine wpList_append_h rfl _ _ rfl rfl rfl hown hp (by simpa using hl) (by rw [World.size_alloc]; omega) ?_; intro v' w1 h1 h2)
    go_ret
    exact ⟨_, rfl, h1.at, hdone _ _ h1 h2⟩
end Go.Proofs.YtbidoangdnmjfaaDoor
