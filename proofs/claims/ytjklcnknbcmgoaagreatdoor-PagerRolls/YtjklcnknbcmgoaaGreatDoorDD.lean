/-
  Texts of this claim, put together.
-/
import Derived.Test.YtjklcnknbcmgoaaGreatDoorDC
import Derived.Laws.IdiomCopy
import Derived.Lib.LazyBuf
/-
  The built-in copy of a text into a row of bytes.
-/
namespace Go.Proofs.YtjklcnknbcmgoaaGreatDoor
open Go Go.RowKit Go.Maps

theorem rowIs_setCells {b : Nat} {t : TypeId} {n : Nat} : ∀ (vs : List Value) (o : Nat) (w : World) (f : Nat → Value), w.rowIs b t n f → (w.setCells b o vs).rowIs b t n (fun j => if o ≤ j ∧ j < o + vs.length then vs.getD (j - o) undef else f j)
  | [], o, w, f, h => h.congr fun j _ => by rw [if_neg (by simp)]
  | v :: vs, o, w, f, h => by
    have h1 := rowIs_setCells vs (o + 1) _ _ (h.set o v)
    refine h1.congr fun j _ => ?_
    simp only [List.length_cons]
    by_cases e : j = o
    · subst e
      rw [if_neg (by omega), if_pos rfl, if_pos (by omega), Nat.sub_self]; rfl
    · by_cases hj : o + 1 ≤ j ∧ j < o + 1 + vs.length
      · rw [if_pos hj, if_pos (by omega), show j - o = (j - (o + 1)) + 1 by omega]; rfl
      · rw [if_neg hj, if_neg e, if_neg (by omega)]
theorem only_setCells {b : Nat} : ∀ (vs : List Value) (o : Nat) (w : World), Only b w (w.setCells b o vs)
  | [], _, _ => Only.refl _ _
  | v :: vs, o, w => ((Only.refl b w).set o v).trans (only_setCells vs (o + 1) _)

theorem run_copyS {w : World} {g : Nat} {t : TypeId} {n : Nat} {f : Nat → Value} (h : w.rowIs g t n f) (o dLen dCap : Nat) (ho : o + dLen ≤ n) (r : ByteArray) (k : Nat) (hk : Nat.min r.size dLen = k) (ty : TypeId) :
    ∃ w', (Builtin.copy_ #[120, 9] ty #[.slice (some ⟨g, o, none⟩) dLen dCap, .string r]).run Tryz.prog w = .ok (goInt k) w' ∧ w'.rowIs g t n (fun j => if o ≤ j ∧ j < o + k then .int .u8 (((r.data.toList.getD (j - o) 0).toNat : Nat) : Int) else f j) ∧ Only g w w' := by
  obtain ⟨vs, hvs⟩ : ∃ vs, vs = (r.data.toList.take k).map fun c => Value.int .u8 (c.toNat : Int) := ⟨_, rfl⟩
  have hsz : r.data.toList.length = r.size := rfl
  have hkr : k ≤ r.size := by rw [← hk]; exact Nat.min_le_left _ _
  have hkd : k ≤ dLen := by rw [← hk]; exact Nat.min_le_right _ _
  have hle : vs.length = k := by
    rw [hvs, List.length_map, List.length_take, hsz]
    omega
  have hst := run_storeCells_cells (P := Tryz.prog) g o vs 0 w (by rw [hle]; intro j hj; rw [Nat.add_zero, h.cell (by omega)]; rfl) (by rw [hle]; intro j hj; exact h.frozen _) (by
    intro v hv
    rw [hvs] at hv
    obtain ⟨x, _, rfl⟩ := List.mem_map.1 hv
    rfl)
  have hcells : ((r.extract 0 k).data.map fun c => Value.int .u8 (c.toNat : Int)).toList = vs := by
    rw [hvs]; simp
  obtain ⟨i5, hi5, _, hs5, _⟩ := info5
  have hzz : (Go.sizeOf 5).run Tryz.prog w = .ok 1 w := by
    simp [Go.sizeOf, typeInfo, hi5, hs5]
  refine ⟨_, ?_, (rowIs_setCells vs o w f h).congr fun j hj => ?_, only_setCells vs o w⟩
  · unfold Builtin.copy_
    simp only [List.getElem?_toArray, List.getElem?_cons_zero, List.getElem?_cons_succ, Sem.run_bind, run_underlying underBytes, Result.andThen_ok, Builtin.lenOf, Sem.run_pure, Builtin.firstCells, hzz, hk, hcells, Nat.add_zero] at hst ⊢
    rw [hst]
    rfl
  · rw [hle]
    by_cases hj : o ≤ j ∧ j < o + k
    · rw [if_pos hj, if_pos hj, hvs, List.getD_eq_getElem?_getD, List.getElem?_map, List.getElem?_take_of_lt (by omega), List.getElem?_eq_getElem (by rw [hsz]; omega), List.getD_eq_getElem?_getD, List.getElem?_eq_getElem (by rw [hsz]; omega)]
      rfl
    · rw [if_neg hj, if_neg hj]
theorem wpList_copyS {ops : Array Oper} {rest : List Oper} {op : Oper} {a : Act} {w : World} {Q : Exit → Act → World → Prop} (hgd : op.guard = none) (d x : Operand)
    (hop : op.op = Op.call { callee := Callee.builtin Builtin.copy, args := #[d, x], argTypes := #[120, 9] })
    {g : Nat} {t : TypeId} {n : Nat} {f : Nat → Value} (h : w.rowIs g t n f) (o dLen dCap : Nat) (hd : a.eval d = .slice (some ⟨g, o, none⟩) dLen dCap) (ho : o + dLen ≤ n) (r : ByteArray) (hx : a.eval x = .string r) (k : Nat) (hk : Nat.min r.size dLen = k)
    (hK : ∀ w', w'.rowIs g t n (fun j => if o ≤ j ∧ j < o + k then .int .u8 (((r.data.toList.getD (j - o) 0).toNat : Nat) : Int) else f j) → Only g w w' → wpList Tryz.prog ops Q rest (a.put op.dst (goInt k)) w') : wpList Tryz.prog ops Q (op :: rest) a w :=
  wpList_plain hgd fun _ hK' => by
    obtain ⟨w', hrun, h1, h2⟩ := run_copyS h o dLen dCap ho r k hk op.type
    unfold Oper.wp
    simp [execOp, hop, resolve, invoke, builtin, hd, hx, hrun, Result.andThen]
    exact hK' _ _ (hK w' h1 h2)
theorem zero102 : (Tryz.zeroCells154).toList = List.replicate 1024 (.int .u8 0) := by kernel_rfl
theorem row102 (w : World) : (w.alloc (.cells Tryz.zeroCells154 154)).rowIs w.heap.size 154 1024 (fun _ => .int .u8 0) := by
  have hg : ∀ j : Nat, (Tryz.zeroCells154)[j]? = (List.replicate 1024 (Value.int .u8 0))[j]? := fun j => by rw [← zero102, Array.getElem?_toList]
  have hs : (Tryz.zeroCells154).size = 1024 := by rw [← Array.length_toList, zero102, List.length_replicate]
  refine ⟨_, heap_alloc_new w _, hs, fun i hi => ?_⟩
  rw [hg, List.getElem?_replicate, if_pos hi]
end Go.Proofs.YtjklcnknbcmgoaaGreatDoor
/-
  What torn does.
-/
namespace Go.Proofs.YtjklcnknbcmgoaaGreatDoor
open Go Go.RowKit Go.Maps

/-- Is the sector picked? -/
def odd (x : Int) : Bool := x % 2 == 1
/-- The bytes of an old text, zeros behind it. -/
def oldAt (old : ByteArray) (j : Nat) : UInt8 := old.data.toList.getD j 0
/-- The text with the sectors of these picks, of the first n. -/
def tornAt (old data : ByteArray) (picks : List Int) (n j : Nat) : UInt8 :=
  if j / 256 < n ∧ odd (picks.getD (j / 256) 0) = true then data.data.toList.getD j 0 else oldAt old j
/-- Is one of the first n picked? -/
def anyAt (picks : List Int) (n : Nat) : Bool := (List.range n).any fun i => odd (picks.getD i 0)
def tornT (old data : ByteArray) (picks : List Int) : ByteArray :=
  if anyAt picks (min 4 picks.length) = true then ⟨((List.range 1024).map (tornAt old data picks (min 4 picks.length))).toArray⟩ else old

theorem and_one (x : Int) : bits .and .i64 x 1 = x % 2 := by
  unfold bits
  have e : (1 : Nat) % 2 ^ IntKind.i64.bits = 1 := by decide
  have e2 : (2 : Int) ^ IntKind.i64.bits = 18446744073709551616 := by decide
  simp
  rw [e, Nat.and_one_is_mod, e2, IntKind.wrap_i64]
  omega
theorem anyAt_succ (l : List Int) (i : Nat) : anyAt l (i + 1) = (anyAt l i || odd (l.getD i 0)) := by
  unfold anyAt
  rw [List.range_succ, List.any_append]
  simp
theorem tornAt_no {old data : ByteArray} {l : List Int} {i : Nat} (h : odd (l.getD i 0) = false) (j : Nat) : tornAt old data l (i + 1) j = tornAt old data l i j := by
  unfold tornAt
  by_cases e : j / 256 = i
  · rw [if_neg (by rw [e, h]; simp), if_neg (by omega)]
  · by_cases q : j / 256 < i ∧ odd (l.getD (j / 256) 0) = true
    · rw [if_pos q, if_pos ⟨by omega, q.2⟩]
    · rw [if_neg q, if_neg (fun r => q ⟨by omega, r.2⟩)]
theorem tornAt_yes {old data : ByteArray} {l : List Int} {i : Nat} (h : odd (l.getD i 0) = true) (j : Nat) : tornAt old data l (i + 1) j = if 256 * i ≤ j ∧ j < 256 * i + 256 then data.data.toList.getD j 0 else tornAt old data l i j := by
  unfold tornAt
  by_cases e : j / 256 = i
  · rw [if_pos (by rw [e]; exact ⟨by omega, h⟩), if_pos (by omega)]
  · rw [if_neg (show ¬ (256 * i ≤ j ∧ j < 256 * i + 256) by omega)]
    by_cases q : j / 256 < i ∧ odd (l.getD (j / 256) 0) = true
    · rw [if_pos q, if_pos ⟨by omega, q.2⟩]
    · rw [if_neg q, if_neg (fun r => q ⟨by omega, r.2⟩)]
theorem convert_rowT {w : World} {b cap : Nat} {t : TypeId} {l : List UInt8} (h : w.rowIs b t l.length (fun j => .int .u8 ((l.getD j 0).toNat : Int))) :
    (convert 120 9 (.slice (some ⟨b, 0, none⟩) l.length cap)).run Tryz.prog w = .ok (.string ⟨l.toArray⟩) w :=
  run_convert_bytes_back w 120 9 5 ⟨b, 0, none⟩ cap l underBytes (by kernel_rfl) (by kernel_rfl) (fun j hj => by
    have := h.cell hj
    rw [add_plain, Nat.zero_add, this, List.getD_eq_getElem?_getD, List.getElem?_eq_getElem hj]
    rfl)

theorem arr1024 : Tryz.prog.arrayLen 154 = 1024 := by kernel_rfl
theorem elm1024 : Tryz.prog.elem 154 = 5 := by kernel_rfl
theorem ht1024 : Tryz.prog.underlying 154 = some (.array (Tryz.prog.arrayLen 154) (Tryz.prog.elem 154)) := by rw [arr1024, elm1024]; exact Tryz.underlying154
theorem sizeU8 (w : World) : (Go.sizeOf 5).run Tryz.prog w = .ok 1 w := by
  obtain ⟨i5, hi5, _, hs5, _⟩ := info5
  simp [Go.sizeOf, typeInfo, hi5, hs5]
theorem run_sector (w : World) (g A : Nat) (hA : A + 256 ≤ 1024) :
    (Instr.sliceAt 154 (.pointer (some ⟨g, 0, none⟩)) (some (.int .i64 (A : Int))) (some (.int .i64 ((A : Int) + 256))) none).run Tryz.prog w = .ok (.slice (some ⟨g, A, none⟩) 256 (1024 - A)) w := by
  rw [run_sliceAt_array_lh w 154 _ ht1024 .i64 .i64 (A : Int) ((A : Int) + 256) (by omega) (by omega) (by rw [arr1024]; omega), elm1024, sizeU8, Result.andThen_ok, arr1024]
  unfold slicedAt
  rw [if_neg (by simp; omega), Addr.add_mid]
  simp
  omega
theorem slice_from (x : ByteArray) (p : Nat) (hp : p ≤ x.size) (w : World) : (Instr.sliceAt 9 (.string x) (some (.int .i64 (p : Int))) none none).run Tryz.prog w = .ok (.string (x.extract p x.size)) w := by
  have h1 : (p : Int) ≤ x.size := by omega
  go_simp

set_option maxRecDepth 100000 in
set_option maxHeartbeats 2000000 in
theorem torn_any {w : World} (old data : ByteArray) (ho : old.size = 0 ∨ old.size = 1024) (hdt : data.size = 1024) {v : Value} {l : List Int} (hl : ∀ W, Below w.heap.size w W → IntsAt W v l) (hlm : l.length ≤ 9223372036854775807) :
    Calls Tryz.prog 64 #[.string old, .string data, v] w fun e w' => e = .returned (.string (tornT old data l)) ∧ Below w.heap.size w w' := by
  obtain ⟨p, c, rfl⟩ := (hl w (Below.refl _ _)).len
  have hli : (l.length : Int) ≤ 9223372036854775807 := by omega
  have hr0 := row102 w
  have hB0 := below_new1 w (.cells Tryz.zeroCells154 154)
  obtain ⟨g, hg⟩ : ∃ g, w.heap.size = g := ⟨_, rfl⟩
  rw [hg] at hr0
  have HG : Hid (w.heap.size = g) := hg
  obtain ⟨W0, hW0⟩ : ∃ W, w.alloc (.cells Tryz.zeroCells154 154) = W := ⟨_, rfl⟩
  rw [hW0] at hr0 hB0
  obtain ⟨w1, hrun1, hr1, hO1⟩ := run_copyS hr0 0 1024 1024 (by omega) old old.size (by show min old.size 1024 = _; omega) 3
  unfold goInt at hrun1
  have hB1 : Below w.heap.size w w1 := Only.fresh hB0 hO1 (by omega)
  have hr1' : w1.rowIs g 154 1024 (fun j => .int .u8 (((tornAt old data l 0 j).toNat : Nat) : Int)) := hr1.congr fun j hj => by
    unfold tornAt oldAt
    rw [if_neg (show ¬ (j / 256 < 0 ∧ odd (l.getD (j / 256) 0) = true) from fun q => absurd q.1 (Nat.not_lt_zero _))]
    by_cases e : j < old.size
    · rw [if_pos (by omega), Nat.sub_zero]
    · rw [if_neg (by omega), List.getD_eq_getElem?_getD, List.getElem?_eq_none (by show old.size ≤ j; omega)]; rfl
  obtain ⟨mm, hmm⟩ : ∃ mm, min 4 l.length = mm := ⟨_, rfl⟩
  have hmi : min (4 : Int) l.length = (mm : Int) := by omega
  have hm4 : mm ≤ 4 := by omega
  have hml : mm ≤ l.length := by omega
  obtain ⟨T, hT⟩ : ∃ T, tornT old data l = T := ⟨_, rfl⟩
  have HT : Hid (T = if anyAt l mm = true then ⟨((List.range 1024).map (tornAt old data l mm)).toArray⟩ else old) := by
    show _ = _
    rw [← hT]
    unfold tornT
    rw [hmm]
  rw [hT]
  clear hT
  clear hr1 hO1 hr0 hB0 hmm
  go_enter Tryz.func64, Tryz.ntmps64
  go_wp2_with fail
  go_loopw [8, 17] (fun q y wr => ∃ i : Nat, i ≤ mm ∧ y = .int .i64 (i : Nat) ∧ q = .bool (anyAt l i) ∧ Below w.heap.size w wr ∧ wr.rowIs g 154 1024 (fun j => .int .u8 (((tornAt old data l i j).toNat : Nat) : Int))) (fun _ y _ => mm - (intOf y).toNat)
  case atStart => exact ⟨0, by omega, rfl, rfl, hB1, hr1'⟩
  case round =>
    obtain ⟨i, him, rfl, rfl, hB, hr⟩ := hrel
    by_cases hk : i < mm
    · have hki : (i : Int) < mm := by omega
      obtain ⟨x, hx⟩ : ∃ x, l[i]? = some x := ⟨_, List.getElem?_eq_getElem (by omega)⟩
      obtain ⟨gg, o, rfl, _, hcx⟩ := (hl wr hB).at hx
      have hx0 : l.getD i 0 = x := by rw [List.getD_eq_getElem?_getD, hx]; rfl
      have hband := and_one x
      cases hod : odd x with
      | false =>
        have hb0 : x % 2 = 0 := by unfold odd at hod; have := beq_eq_false_iff_ne.1 hod; omega
        rw [hb0] at hband
        have HR : Hid (wr.rowIs g 154 1024 (fun j => .int .u8 (((tornAt old data l (i + 1) j).toNat : Nat) : Int))) := hr.congr fun j _ => by rw [tornAt_no (by rw [hx0]; exact hod)]
        have HA : Hid (anyAt l i = anyAt l (i + 1)) := by show _ = _; rw [anyAt_succ, hx0, hod, Bool.or_false]
        clear hr hod
        go_wp2_with fail
        go_roundw
        case rel => exact ⟨i + 1, by omega, by go_num, by rw [HA.out], hB, HR.out⟩
        case measure => simp [intOf]; omega
      | true =>
        have hb1 : x % 2 = 1 := by unfold odd at hod; exact beq_iff_eq.1 hod
        rw [hb1] at hband
        obtain ⟨A, hA⟩ : ∃ A : Nat, A = i * 256 := ⟨_, rfl⟩
        have HAi : Hid ((i : Int) * 256 = (A : Int)) := by show _ = _; omega
        have hr2 : wr.drew.rowIs g 154 1024 (fun j => .int .u8 (((tornAt old data l i j).toNat : Nat) : Int)) := hr.drew
        obtain ⟨w2, hrun2, hr3, hO2⟩ := run_copyS hr2 A 256 (1024 - A) (by omega) (data.extract A 1024) 256 (by show min (data.extract A 1024).size 256 = _; rw [ByteArray.size_extract]; omega) 3
        unfold goInt at hrun2
        have HR : Hid (w2.rowIs g 154 1024 (fun j => .int .u8 (((tornAt old data l (i + 1) j).toNat : Nat) : Int))) := hr3.congr fun j hj => by
          rw [tornAt_yes (by rw [hx0]; exact hod)]
          by_cases q : A ≤ j ∧ j < A + 256
          · rw [if_pos q, if_pos (by omega)]
            congr 3
            have e : (data.extract A 1024).data.toList = (data.data.toList.take 1024).drop A := by simp [List.drop_take]
            rw [e, List.getD_eq_getElem?_getD, List.getD_eq_getElem?_getD, List.getElem?_drop, List.getElem?_take_of_lt (by omega), show A + (j - A) = j by omega]
          · rw [if_neg q, if_neg (by omega)]
        have HA : Hid (true = anyAt l (i + 1)) := by show _ = _; rw [anyAt_succ, hx0, hod, Bool.or_true]
        have HB : Hid (Below w.heap.size w w2) := Only.fresh hB.drew hO2 (by have := HG.out; omega)
        have HRun : Hid _ := hrun2
        have HA1 : Hid ((A : Int) + 256 ≤ 1024) := by show _ ≤ _; omega
        clear hr hr2 hr3 hO2 hod hrun2 hA
        go_wp2_with fail
        simp only [HAi.out]
        have hA0 : (0 : Int) ≤ A := by omega
        have hA1 := HA1.out
        have hrun2 := HRun.out
        have hdi : (data.size : Int) = 1024 := by omega
        refine wp_region_perm [0, 1, 2, 3, 4, 5, 6] [7] mixedP (by kernel_rfl) rfl (by kernel_rfl) (fun _ _ _ d _ h => by cases d <;> exact h) ?_
        simp only [pickOps, List.map_cons, List.map_nil, List.getElem?_toArray, List.getElem?_cons_zero, List.getElem?_cons_succ, Option.getD_some]
        go_big_quiet_step (exact fun _ => rfl)
        go_big_quiet_step (exact fun _ => rfl)
        go_big_quiet_step (exact fun _ => rfl)
        refine wpQ_val rfl (.slice (some ⟨g, A, none⟩) 256 (1024 - A)) (fun w => by have := run_sector w g A (by omega); go_simp) ?_
        go_frame
        go_big_quiet_step (exact fun _ => rfl)
        go_big_quiet_step (exact fun _ => rfl)
        refine wpQ_val rfl (.string (data.extract A 1024)) (fun w => by have := slice_from data A (by omega) w; rw [hdt] at this; go_simp) ?_
        go_frame
        refine wpQuiet_nil ?_
        go_wp2_with fail
        go_roundw
        case rel => exact ⟨i + 1, by omega, by go_num, by rw [HA.out], HB.out, HR.out⟩
        case measure => simp [intOf]; omega
    · have hni : ¬ (i : Int) < mm := by omega
      have him2 : i = mm := by omega
      subst him2
      cases hany : anyAt l i with
      | false =>
        have hTo : T = old := by rw [HT.out, hany]; rfl
        subst hTo
        clear HT hr
        go_wp2_with fail
        go_ret
        exact ⟨rfl, by rw [← HG.out]; exact hB⟩
      | true =>
        have hcv : (convert 120 9 (.slice (some ⟨g, 0, none⟩) 1024 1024)).run Tryz.prog wr = .ok (.string T) wr := by
          have hcv := convert_rowT (l := (List.range 1024).map (tornAt old data l i)) (cap := 1024) (w := wr) (b := g) (t := 154) (by
            rw [List.length_map, List.length_range]
            refine hr.congr fun j hj => ?_
            rw [List.getD_eq_getElem?_getD, List.getElem?_map, List.getElem?_range hj]
            rfl)
          rw [List.length_map, List.length_range] at hcv
          rw [hcv, HT.out, hany, if_pos rfl]
        clear HT hr
        go_wp2_with fail
        go_ret
        exact ⟨rfl, by rw [← HG.out]; exact hB⟩
end Go.Proofs.YtjklcnknbcmgoaaGreatDoor
/-
  What keep and Crash do.
-/
namespace Go.Proofs.YtjklcnknbcmgoaaGreatDoor
open Go Go.RowKit Go.Maps

theorem range_size (n : Nat) (f : Nat → UInt8) : (⟨((List.range n).map f).toArray⟩ : ByteArray).size = n := by
  show ((List.range n).map f).toArray.size = n
  rw [List.size_toArray, List.length_map, List.length_range]
theorem wpQ_valC {P : Program} {ops : Array Oper} {rest : List Oper} {op : Oper} {a : Act} {C : World → Prop} {Q : Act → Prop} (hw : Region.wanted op (yielded ops a.tmps) = true) (v : Value) (hv : ∀ w, C w → (execOp a.eval op).run P w = .ok (.value v) w)
    (h : wpQuiet P ops C Q rest (a.put op.dst v)) : wpQuiet P ops C Q (op :: rest) a :=
  wpQuiet_step fun _ hK => by
    rw [if_pos hw]
    refine ⟨v, fun w hC => ?_, hK _ h⟩
    unfold Oper.quietAt
    rw [hv w hC]
    exact ⟨rfl, rfl⟩
theorem tornT_size {old data : ByteArray} {l : List Int} (ho : old.size = 0 ∨ old.size = 1024) : (tornT old data l).size = 0 ∨ (tornT old data l).size = 1024 := by
  unfold tornT
  split
  · right
    exact range_size _ _
  · exact ho
/-- What a crash makes of one write. -/
def keepM (M : Int → Option Pg) (p : Int × ByteArray) (picks : List Int) : Int → Option Pg :=
  if (tornT ((M p.1).getD (⟨#[]⟩, ⟨#[]⟩)).2 p.2 picks).size = 0 then setM M p.1 none
  else setM M p.1 (some (tornT ((M p.1).getD (⟨#[]⟩, ⟨#[]⟩)).2 p.2 picks, tornT ((M p.1).getD (⟨#[]⟩, ⟨#[]⟩)).2 p.2 picks))
/-- What it makes of writes. -/
def crashTo : List (Int × ByteArray) → List Int → (Int → Option Pg) → (Int → Option Pg)
  | [], _, M => M
  | p :: L, picks, M => crashTo L (picks.drop 4) (keepM M p picks)
theorem crashTo_app (L : List (Int × ByteArray)) (p : Int × ByteArray) (picks : List Int) (M : Int → Option Pg) : crashTo (L ++ [p]) picks M = keepM (crashTo L picks M) p (picks.drop (4 * L.length)) := by
  induction L generalizing picks M with
  | nil => rfl
  | cons q L ih =>
    simp only [List.cons_append, crashTo, ih, List.drop_drop, List.length_cons]
    congr 2
    omega
/-- Pages that may be. -/
def okM (M : Int → Option Pg) : Prop := ∀ u x, M u = some x → (0 ≤ u ∧ u < 65536) ∧ x.1.size = 1024 ∧ (x.2.size = 0 ∨ x.2.size = 1024)
theorem okM.last {M : Int → Option Pg} (h : okM M) (u : Int) : ((M u).getD (⟨#[]⟩, ⟨#[]⟩)).2.size = 0 ∨ ((M u).getD (⟨#[]⟩, ⟨#[]⟩)).2.size = 1024 := by
  cases e : M u with
  | none => exact .inl rfl
  | some x => exact (h u x e).2.2
theorem okM.keep {M : Int → Option Pg} (h : okM M) {p : Int × ByteArray} (hp : 0 ≤ p.1 ∧ p.1 < 65536 ∧ p.2.size = 1024) (picks : List Int) : okM (keepM M p picks) := by
  have ht := tornT_size (data := p.2) (l := picks) (h.last p.1)
  unfold keepM
  split
  · intro u x hu
    unfold setM at hu
    split at hu
    · cases hu
    · exact h u x hu
  · rename_i hne
    intro u x hu
    unfold setM at hu
    split at hu
    · rename_i e
      injection hu with hu
      rw [← hu, e]
      exact ⟨⟨hp.1, hp.2.1⟩, by rcases ht with q | q; exact absurd q hne; exact q, ht⟩
    · exact h u x hu
theorem okM.crash : ∀ {L : List (Int × ByteArray)} {picks : List Int} {M : Int → Option Pg}, okM M → (∀ p ∈ L, 0 ≤ p.1 ∧ p.1 < 65536 ∧ p.2.size = 1024) → okM (crashTo L picks M)
  | [], _, _, h, _ => h
  | p :: L, picks, M, h, hL => okM.crash (L := L) (h.keep (hL p (by simp)) picks) (fun q hq => hL q (by simp [hq]))
theorem Dev.ok.okM {D : Dev} {N : Nat} (h : D.ok N) : okM D.pages := fun u x hu => ⟨h.keys u x hu, h.texts u x hu⟩

theorem infoWr2 (n : Int) (s : ByteArray) : (Tryz.prog.info? 94).map (·.size) = some (#[.int .i64 n, .string s] : Array Value).size := by kernel_rfl
theorem setM_none {M : Int → Option Pg} (h : ∀ u, M u = none) (n : Int) : setM M n none = M := by
  funext u
  unfold setM
  split
  · rw [h]
  · rfl

set_option maxRecDepth 8000 in
set_option maxHeartbeats 2000000 in
theorem keep_any {w : World} {h : Hd} {D : Dev} (a : DiskAt w h D) (hM : okM D.pages) (n : Int) (s : ByteArray) (hn : 0 ≤ n ∧ n < 65536) (hs : s.size = 1024) {v : Value} {l : List Int} (hl : ∀ W, Keep (Foot h) w W → IntsAt W v l) (hlm : l.length ≤ 9223372036854775807) :
    Calls Tryz.prog 38 #[.pointer (some ⟨h.b, 0, none⟩), .agg #[.int .i64 n, .string s], v] w fun e w' => e = .returned (.tuple #[]) ∧ ∃ h', h'.wv = h.wv ∧ h'.fo = h.fo ∧ Done w h w' h' { D with pages := keepM D.pages (n, s) l } := by
  obtain ⟨W0, hW⟩ : ∃ W0, World.alloc w (.cells #[.int .i64 n, .string s] 94) = W0 := ⟨_, rfl⟩
  have hB : Below w.heap.size w W0 := by rw [← hW]; exact below_new1 _ _
  have q1 : Holds W0 w.heap.size 94 #[.int .i64 n, .string s] := by rw [← hW]; exact Holds.new _ _ _
  obtain ⟨g, hg⟩ : ∃ g, w.heap.size = g := ⟨_, rfl⟩
  rw [hg] at q1
  have a0 := a.below hB
  have c1 : W0.drew.cell? ⟨h.b, 1, none⟩ = some (.map h.po) := a0.drew.ptr.cell 1
  have cg0 : W0.drew.cell? ⟨g, 0, none⟩ = some (.int .i64 n) := q1.drew.cell 0
  have cg1 : W0.drew.cell? ⟨g, 1, none⟩ = some (.string s) := q1.drew.cell 1
  have hlk := lookP a0.drew (u := n) hn.1 (by omega)
  have hfl := fieldP1
  have hto := torn_any (w := W0.drew) ((D.pages n).getD (⟨#[]⟩, ⟨#[]⟩)).2 s (hM.last n) hs (v := v) (l := l) (fun W hW => hl W ((Keep.below hB).trans (T := fun _ => False) ((Keep.drew _ _).trans' (Keep.below hW)) (fun _ q => q.elim))) hlm
  unfold keepM
  dsimp only
  generalize hT : tornT ((D.pages n).getD (⟨#[]⟩, ⟨#[]⟩)).2 s l = T at hto
  obtain ⟨p, c, rfl⟩ := (hl w (Keep.refl _ _)).len
  have hkeys : ∀ u x, D.pages u = some x → 0 ≤ u ∧ u < 65536 := fun u x hu => (hM u x hu).1
  have HX : Hid (Done w h W0.drew h D) := Done.ahead hB (Done.refl a0).drew
  by_cases hz : T.size = 0
  · rw [if_pos hz]
    have hTe : T.toList.isEmpty = true := by
      rw [ByteArray.toList_eq]
      have : T.data.toList.length = 0 := hz
      rw [List.eq_nil_of_length_eq_zero this]; rfl
    clear hT
    go_enter Tryz.func38, Tryz.ntmps38
    go_wp2_with fail
    refine wp_region_qtail 11 mixedP (by kernel_rfl) ?_
    simp only [List.take_succ_cons, List.take_zero, List.drop_succ_cons, List.drop_zero]
    go_big_quiet_step (fail)
    go_big_quiet_step (fail)
    go_big_quiet_step (fail)
    go_big_quiet_step (fail)
    go_big_quiet_step (fail)
    go_big_quiet_step (fail)
    refine wpQ_valC rfl (.agg #[.string ((D.pages n).getD (⟨#[]⟩, ⟨#[]⟩)).1, .string ((D.pages n).getD (⟨#[]⟩, ⟨#[]⟩)).2]) (fun W hC => by subst hC; go_simp) ?_
    go_frame
    go_big_quiet_step (fail)
    go_big_quiet_step (fail)
    go_big_quiet_step (fail)
    go_big_quiet_step (fail)
    refine wpQuiet_nil ?_
    go_wp2_with (first
      | (go_at_call 64; refine hto.mono ?_; rintro e w1 ⟨rfl, hB1⟩; clear hto; have a1 := a0.drew.below hB1; have q11 := below_holds hB1 q1.drew; have c11 : w1.cell? ⟨h.b, 1, none⟩ = some (.map h.po) := a1.ptr.cell 1; have d0 : w1.cell? ⟨g, 0, none⟩ = some (.int .i64 n) := q11.cell 0; have d1 : w1.cell? ⟨g, 1, none⟩ = some (.string s) := q11.cell 1))
    cases hpo : h.po with
    | none =>
      rw [hpo] at c11
      have hdr := fun w => Maps.drop_nil (P := Tryz.prog) (w := w) keyed3 Tryz.underlying58 (keyOf_u (wfI (u := n) (by omega) (by omega))) 0
      have hpn := a1.pages
      rw [hpo] at hpn
      refine wp_region_qtail 6 mixedP (by kernel_rfl) ?_
      simp only [List.take_succ_cons, List.take_zero, List.drop_succ_cons, List.drop_zero]
      have c11d : w1.drew.cell? ⟨h.b, 1, none⟩ = some (.map none) := c11
      have d0d : w1.drew.cell? ⟨g, 0, none⟩ = some (.int .i64 n) := d0
      go_big_quiet_step (fail)
      go_big_quiet_step (fail)
      go_big_quiet_step (fail)
      go_big_quiet_step (fail)
      go_big_quiet_step (fail)
      go_big_quiet_step (fail)
      refine wpQuiet_nil ?_
      go_wp2_with fail
      go_end0
      refine ⟨rfl, h, rfl, rfl, ?_⟩
      rw [setM_none hpn]
      exact (HX.out.below hB1).drew
    | some m =>
      rw [hpo] at c11
      have hmp : MapAt RP encP w1.drew m 65536 D.pages := by have := a1.drew.pages; rw [hpo] at this; exact this
      obtain ⟨w', hrun, r1, r2, r3⟩ := hmp.drop Tryz.underlying58 (wfI (u := n) (by omega) (by omega)) 0
      have DN : Hid (Done w h w' h { D with pages := setM D.pages n none }) := (HX.out.below hB1).drew.trans (Done.map a1.drew hpo r2 r1)
      clear r1 r2 r3 hmp
      refine wp_region_qtail 6 mixedP (by kernel_rfl) ?_
      simp only [List.take_succ_cons, List.take_zero, List.drop_succ_cons, List.drop_zero]
      have c11d : w1.drew.cell? ⟨h.b, 1, none⟩ = some (.map (some m)) := c11
      have d0d : w1.drew.cell? ⟨g, 0, none⟩ = some (.int .i64 n) := d0
      go_big_quiet_step (fail)
      go_big_quiet_step (fail)
      go_big_quiet_step (fail)
      go_big_quiet_step (fail)
      go_big_quiet_step (fail)
      go_big_quiet_step (fail)
      refine wpQuiet_nil ?_
      go_wp2_with fail
      go_end0
      exact ⟨rfl, h, rfl, rfl, DN.out⟩
  · rw [if_neg hz]
    have hTe : T.toList.isEmpty = false := by
      rw [ByteArray.toList_eq]
      cases e : T.data.toList with
      | nil => exact absurd (show T.data.toList.length = 0 by rw [e]; rfl) hz
      | cons x y => rfl
    have hb1 := buildP
    clear hT
    go_enter Tryz.func38, Tryz.ntmps38
    go_wp2_with fail
    refine wp_region_qtail 11 mixedP (by kernel_rfl) ?_
    simp only [List.take_succ_cons, List.take_zero, List.drop_succ_cons, List.drop_zero]
    go_big_quiet_step (fail)
    go_big_quiet_step (fail)
    go_big_quiet_step (fail)
    go_big_quiet_step (fail)
    go_big_quiet_step (fail)
    go_big_quiet_step (fail)
    refine wpQ_valC rfl (.agg #[.string ((D.pages n).getD (⟨#[]⟩, ⟨#[]⟩)).1, .string ((D.pages n).getD (⟨#[]⟩, ⟨#[]⟩)).2]) (fun W hC => by subst hC; go_simp) ?_
    go_frame
    go_big_quiet_step (fail)
    go_big_quiet_step (fail)
    go_big_quiet_step (fail)
    go_big_quiet_step (fail)
    refine wpQuiet_nil ?_
    go_wp2_with (first
      | (go_at_call 64; refine hto.mono ?_; rintro e w1 ⟨rfl, hB1⟩; clear hto; have a1 := a0.drew.below hB1; have q11 := below_holds hB1 q1.drew; have c11 : w1.cell? ⟨h.b, 1, none⟩ = some (.map h.po) := a1.ptr.cell 1; have d0 : w1.cell? ⟨g, 0, none⟩ = some (.int .i64 n) := q11.cell 0; have d1 : w1.cell? ⟨g, 1, none⟩ = some (.string s) := q11.cell 1; have hpt := put_any a1 hkeys hn.1 hn.2 (T, T); unfold mkP at hpt; dsimp only at hpt)
      | (go_at_call 59; refine hpt.mono ?_; rintro e w3 ⟨rfl, h3, hv3, hf3, hd3⟩))
    go_end0
    exact ⟨rfl, h3, hv3, hf3, (HX.out.below hB1).trans hd3⟩
end Go.Proofs.YtjklcnknbcmgoaaGreatDoor
/-
  What Crash does.
-/
namespace Go.Proofs.YtjklcnknbcmgoaaGreatDoor
open Go Go.RowKit Go.Maps

theorem underIntSl : Tryz.prog.underlying 31 = some (.slice 3) := Tryz.underlying31
theorem elemIntSl : Tryz.prog.elem 31 = 3 := by kernel_rfl
theorem htIntSl : Tryz.prog.underlying 31 = some (.slice (Tryz.prog.elem 31)) := by rw [elemIntSl]; exact underIntSl
theorem sizeInt (w : World) : (Go.sizeOf 3).run Tryz.prog w = .ok 1 w := Tryz.sizeOf3 w

/-- The rest of a slice of integers. -/
theorem ints_from (p : Option Addr) {n c : Nat} (m : Nat) (hm : m ≤ n) (hnc : n ≤ c) :
    ∃ p', (∀ w, (Instr.sliceAt 31 (.slice p n c) (some (.int .i64 (m : Int))) none none).run Tryz.prog w = .ok (.slice p' (n - m) (c - m)) w) ∧ ∀ W l, IntsAt W (.slice p n c) l → IntsAt W (.slice p' (n - m) (c - m)) (l.drop m) := by
  refine ⟨p.map fun a => if c = m then a else a.add (m * 1), fun w => ?_, fun W l h => ?_⟩
  · rw [run_sliceAt_slice w _ _ _ _ _ htIntSl, run_slice_l w _ _ _ _ htIntSl .i64 (m : Int) (by omega) (by omega), elemIntSl, sizeInt, Result.andThen_ok]
    unfold sliced
    simp
    split
    · cases p <;> rfl
    · rfl
  · rcases h with ⟨rfl, q, c', e⟩ | ⟨b, o, c', e, hc⟩
    · injection e with _ e2 _
      exact .inl ⟨by simp, _, c - m, by rw [show n - m = 0 by omega]⟩
    · injection e with e1 e2 e3
      subst e1 e3
      by_cases h0 : n - m = 0
      · exact .inl ⟨List.drop_of_length_le (by omega), _, c - m, by rw [h0]⟩
      · refine .inr ⟨b, o + m, c - m, ?_, fun i hi => ?_⟩
        · rw [Option.map_some, if_neg (by omega), Addr.add_mid, List.length_drop, e2, Nat.mul_one]
        · rw [List.length_drop] at hi
          have := hc (m + i) (by omega)
          rw [show o + m + i = o + (m + i) by omega, this]
          simp [List.getD_eq_getElem?_getD]

/-- The power goes, and comes again. -/
def Dev.crash (D : Dev) (picks : List Int) : Dev := { D with pages := crashTo D.writes picks D.pages, writes := [], off := false, armed := false, left := 0, fails := fun _ => Option.none, count := 0 }
theorem crash_ok {D : Dev} {N : Nat} (ok : D.ok N) (picks : List Int) : (D.crash picks).ok N := by
  have h := okM.crash (picks := picks) ok.okM ok.writes
  exact ⟨ok.size, fun u x hu => (h u x hu).1, fun u x hu => (h u x hu).2, fun p hp => by simp [Dev.crash] at hp, by simp [Dev.crash], ok.ops, by simp [Dev.crash], by simp [Dev.crash]⟩

set_option maxRecDepth 8000 in
set_option maxHeartbeats 2000000 in
theorem crash_any {w : World} {h : Hd} {D : Dev} (a : DiskAt w h D) {N : Nat} (ok : D.ok N) (hN : N < 1000000000) {p : Option Addr} {n c : Nat} {l : List Int} (hl : ∀ W, Keep (Foot h) w W → IntsAt W (.slice p n c) l) (hnl : n = l.length) (hnc : n ≤ c) (hlm : l.length ≤ 9223372036854775807) :
    Calls Tryz.prog 19 #[.pointer (some ⟨h.b, 0, none⟩), .slice p n c] w fun e w' => e = .returned (.tuple #[]) ∧ WRow w' h.wv D.writes ∧ ∃ h', h'.fo = none ∧ h'.wv = .slice none 0 0 ∧ Done w h w' h' (D.crash l) := by
  have hq := ptr_eql
  obtain ⟨b, po, wv, fo⟩ := h
  obtain ⟨p0, c0, hv⟩ := a.writes.len
  dsimp only at hv
  subst hv
  have hwr := ok.writes
  have hM := ok.okM
  have hmany := ok.many
  have hLi : (D.writes.length : Int) ≤ 1000000000 := by omega
  have c2 : w.cell? ⟨b, 2, none⟩ = some (.slice p0 D.writes.length c0) := a.ptr.cell 2
  have hbu := buildP
  go_enter Tryz.func19, Tryz.ntmps19
  go_wp2_with fail
  go_loopw [1, 13] (fun x y wr => ∃ k : Nat, y = .int .i64 (k : Nat) ∧ k ≤ D.writes.length ∧ (∃ p' n' c', x = .slice p' n' c' ∧ n' = (l.drop (4 * k)).length ∧ n' ≤ c' ∧ ∀ W, Keep (Foot ⟨b, po, .slice p0 D.writes.length c0, fo⟩) w W → IntsAt W (.slice p' n' c') (l.drop (4 * k))) ∧ ∃ h', h'.wv = .slice p0 D.writes.length c0 ∧ Done w ⟨b, po, .slice p0 D.writes.length c0, fo⟩ wr h' { D with pages := crashTo (D.writes.take k) l D.pages }) (fun _ y _ => D.writes.length - (intOf y).toNat)
  case atStart => exact ⟨0, rfl, Nat.zero_le _, ⟨p, n, c, rfl, hnl, hnc, hl⟩, _, rfl, Done.refl a⟩
  case round =>
    obtain ⟨k, rfl, hkL, ⟨p', n', c', rfl, hn', hnc', hl'⟩, ⟨b', po', wv', fo'⟩, hv', hdk⟩ := hrel
    dsimp only at hv'
    subst hv'
    have hb' : b' = b := hdk.newer.1
    subst hb'
    have hdl : (l.drop (4 * k)).length ≤ 9223372036854775807 := by rw [List.length_drop]; omega
    by_cases hk : k < D.writes.length
    · have hki : (k : Int) < D.writes.length := by omega
      obtain ⟨q, hpk⟩ : ∃ q, D.writes[k]? = some q := ⟨_, List.getElem?_eq_getElem hk⟩
      have hpm := hwr q (List.mem_of_getElem? hpk)
      have ak := hdk.at_
      obtain ⟨g, cap, e0, hlc, hcm, hgl, q0, q1⟩ := ak.writes.at hpk
      injection e0 with e1 e2 e3
      subst e1 e3
      have hMk : okM (crashTo (D.writes.take k) l D.pages) := okM.crash hM (fun p hp => hwr p (List.mem_of_mem_take hp))
      have hkp := keep_any (ak.below (below_new1 wr (.cells #[.int .i64 q.1, .string q.2] 94))) hMk q.1 q.2 ⟨hpm.1, hpm.2.1⟩ hpm.2.2 (v := .slice p' n' c') (l := l.drop (4 * k)) (fun W hW => hl' W ((hdk.below (below_new1 _ _)).keep.trans hW hdk.newer.2)) hdl
      dsimp only at hkp
      have hs : keepM (crashTo (D.writes.take k) l D.pages) (q.1, q.2) (l.drop (4 * k)) = crashTo (D.writes.take (k + 1)) l D.pages := by
        rw [List.take_add_one, hpk, Option.toList_some, crashTo_app, List.length_take, show min k D.writes.length = k by omega]
      rw [hs] at hkp
      clear hs
      obtain ⟨mm, hmm⟩ : ∃ mm, min 4 n' = mm := ⟨_, rfl⟩
      have hmi : min (4 : Int) n' = (mm : Int) := by omega
      obtain ⟨p2, hs2, hl2⟩ := ints_from p' (n := n') (c := c') mm (by omega) hnc'
      have HL : Hid (l.drop (4 * (k + 1)) = (l.drop (4 * k)).drop mm) := by
        show _ = _
        rw [List.drop_drop]
        by_cases h4 : 4 ≤ n'
        · congr 1; omega
        · rw [List.length_drop] at hn'
          rw [List.drop_of_length_le (by omega), List.drop_of_length_le (by omega)]
      have HN : Hid (n' - mm = (l.drop (4 * (k + 1))).length) := by
        show _ = _
        rw [HL.out, List.length_drop, ← hn']
      have hnn : (n' : Int) ≤ 9223372036854775807 := by omega
      clear ak a e2 hmm hn' hdl
      go_wp2_with (first
        | (go_at_call 38; refine hkp.mono ?_; rintro e w3 ⟨rfl, h3, hv3, _, hd3⟩; clear hkp))
      go_roundw
      case rel => exact ⟨k + 1, by go_num, by omega, ⟨p2, n' - mm, c' - mm, rfl, HN.out, by omega, fun W hW => by rw [HL.out]; exact hl2 W _ (hl' W hW)⟩, h3, hv3, (hdk.below (below_new1 _ _)).trans hd3⟩
      case measure => simp [intOf]; omega
    · have hkl : k = D.writes.length := by omega
      have ak := hdk.at_
      have k2 : wr.cell? ⟨b', 2, none⟩ = some (.slice p0 D.writes.length c0) := ak.ptr.cell 2
      have f2 := frozenD ak 2
      have hni : ¬ (k : Int) < D.writes.length := by omega
      have hdw := Done.wrote ak (Keep.refl _ _) (v := .slice none 0 0) (L := []) (.inl ⟨rfl, rfl⟩) (fun k hk => by obtain ⟨n, c, e, _⟩ := hk; cases e)
      dsimp only at hdw
      obtain ⟨W1, hW1⟩ : ∃ W, wr.setCell ⟨b', 2, none⟩ (.slice none 0 0) = W := ⟨_, rfl⟩
      rw [hW1] at hdw
      have a1 := hdw.at_
      have k4 : W1.cell? ⟨b', 4, none⟩ = some (.bool D.off) := a1.ptr.cell 4
      have f4 := frozenD a1 4
      dsimp only at f4
      have hd4 := Done.turn (D' := { D with pages := crashTo (D.writes.take k) l D.pages, writes := [], off := false }) a1 ((Only.refl _ _).set 4 (.bool false)) ((a1.ptr.set 4 _).congr rfl) rfl rfl rfl
      dsimp only at hd4
      obtain ⟨W2, hW2⟩ : ∃ W, W1.setCell ⟨b', 4, none⟩ (.bool false) = W := ⟨_, rfl⟩
      rw [hW2] at hd4
      have hcl := clear_any hd4.at_
      dsimp only at hcl
      have HRW : Hid (WRow W2 (.slice p0 D.writes.length c0) D.writes ∧ ∀ k, (Value.slice p0 D.writes.length c0).ownBlock = some k → k < W2.heap.size ∧ ¬ Foot ⟨b', po', .slice none 0 0, fo'⟩ k) := by
        have hrw : WRow wr (.slice p0 D.writes.length c0) D.writes := ak.writes
        have hob := hrw.obj
        have hne : ∀ k, (Value.slice p0 D.writes.length c0).ownBlock = some k → k ≠ b' := by
          rintro k hk rfl
          obtain ⟨cur, hq⟩ := hob _ hk
          have := ak.ptr
          unfold Holds at this
          rw [this] at hq
          injection hq with hq
          injection hq with _ hq
          exact absurd hq (by decide)
        have hsm : ∀ k, k ≠ b' → W2.heap[k]? = wr.heap[k]? := fun k hk => by
          rw [← hW2, Below.heap_setCell _ _ _ _ hk, ← hW1, Below.heap_setCell _ _ _ _ hk]
        refine ⟨hrw.block fun k hk => hsm k (hne k hk), fun k hk => ⟨?_, ?_⟩⟩
        · have := hrw.lt k hk
          rw [← hW2, ← hW1]
          simpa using this
        · rintro (q | q | ⟨_, _, q, _⟩)
          · exact hne k hk q
          · obtain ⟨cur, hq⟩ := hob k hk
            obtain ⟨es, clock, hq2⟩ := ak.pages.obj k q
            rw [hq2] at hq
            cases hq
          · cases q
      have HX : Hid (Done w ⟨b', po, .slice p0 D.writes.length c0, fo⟩ W2 ⟨b', po', .slice none 0 0, fo'⟩ { D with pages := crashTo D.writes l D.pages, writes := [], off := false }) := by
        have := (hdk.trans hdw).trans hd4
        rw [hkl, List.take_length] at this
        exact this
      rw [hkl, List.take_length] at hcl
      clear hdw hdk ak hd4 a a1 hn' hdl hkl
      go_wp2_with (first
        | (go_at_call 15; refine hcl.mono ?_; rintro e w3 ⟨rfl, h3, hv3, hf3, hd3⟩; clear hcl))
      go_end0
      exact ⟨rfl, HRW.out.1.block fun k hk => hd3.keep.block k (HRW.out.2 k hk).1 (HRW.out.2 k hk).2, h3, hf3, hv3, HX.out.trans hd3⟩
theorem crash_nil (v : Value) (w : World) : Calls Tryz.prog 19 #[.pointer none, v] w fun e w' => e = .returned (.tuple #[]) ∧ w' = w := by
  have hq := ptr_eql
  go_enter Tryz.func19, Tryz.ntmps19
  go_wp2_with fail
  exact bodyPost_ret (results_none rfl _ _ _) rfl ⟨rfl, rfl⟩
end Go.Proofs.YtjklcnknbcmgoaaGreatDoor
/-
  A device of a call's own: what its calls do.
-/
namespace Go.Proofs.YtjklcnknbcmgoaaGreatDoor
open Go Go.RowKit Go.Maps

/-- A device at block b, all of whose blocks are newer than the world w0. -/
def Own (w0 w : World) (b : Nat) (D : Dev) : Prop := ∃ h : Hd, h.b = b ∧ DiskAt w h D ∧ (∀ k, Foot h k → w0.heap.size ≤ k) ∧ Below w0.heap.size w0 w
theorem Own.step {w0 w w' : World} {h h' : Hd} {D' : Dev} (hf : ∀ k, Foot h k → w0.heap.size ≤ k) (hB : Below w0.heap.size w0 w) (d : Done w h w' h' D') : Own w0 w' h.b D' :=
  ⟨h', d.newer.1, d.at_, fun k hk => by
    rcases d.newer.2 k hk with q | q
    · exact hf k q
    · have := hB.size; omega, Keep.fresh hB d.keep hf⟩
theorem Own.below {w0 w w' : World} {b : Nat} {D : Dev} (o : Own w0 w b D) (hB : Below w.heap.size w w') : Own w0 w' b D := by
  obtain ⟨h, h1, h2, h3, h4⟩ := o
  exact ⟨h, h1, h2.below hB, h3, below_new h4 hB⟩
theorem Own.drew {w0 w : World} {b : Nat} {D : Dev} (o : Own w0 w b D) : Own w0 w.drew b D := by
  obtain ⟨h, h1, h2, h3, h4⟩ := o
  exact ⟨h, h1, h2.drew, h3, h4.drew⟩
theorem Own.all {w0 w : World} {b : Nat} {D : Dev} (o : Own w0 w b D) : Below w0.heap.size w0 w := by
  obtain ⟨h, h1, h2, h3, h4⟩ := o
  exact h4

theorem own_new (n : Int) (w : World) : Calls Tryz.prog 9 #[.int .i64 n] w fun e w' => ∃ b, e = .returned (.pointer (some ⟨b, 0, none⟩)) ∧ Own w w' b (Dev.new n) :=
  (new_any n w).mono fun _ _ ⟨h, he, h1, h2, h3⟩ => ⟨h.b, he, h, rfl, h1, fun k hk => h2 k hk.blk, h3⟩

section
variable {w0 w : World} {b : Nat} {D : Dev} {N : Nat}
theorem own_write (o : Own w0 w b D) (ok : D.ok N) (hN : N < 1000000000) (n : Int) (hn : -9223372036854775808 ≤ n ∧ n ≤ 9223372036854775807) (s : ByteArray) :
    Calls Tryz.prog 49 #[.pointer (some ⟨b, 0, none⟩), .int .i64 n, .string s] w fun e w' => e = .returned (.int .i64 (D.write n s).1) ∧ Own w0 w' b (D.write n s).2 := by
  obtain ⟨h, rfl, a, hf, hB⟩ := o
  exact (write_any a ok hN n hn s).mono fun e w' ⟨he, _, h', d⟩ => ⟨he, Own.step hf hB d⟩
theorem own_read (o : Own w0 w b D) (ok : D.ok N) (hN : N < 1000000000) (n : Int) (hn : -9223372036854775808 ≤ n ∧ n ≤ 9223372036854775807) :
    Calls Tryz.prog 44 #[.pointer (some ⟨b, 0, none⟩), .int .i64 n] w fun e w' => e = .returned (.tuple #[.string (D.read n).1, .int .i64 (D.read n).2.1]) ∧ Own w0 w' b (D.read n).2.2 := by
  obtain ⟨h, rfl, a, hf, hB⟩ := o
  exact (read_any a ok hN n hn).mono fun e w' ⟨he, d⟩ => ⟨he, Own.step hf hB d⟩
theorem own_sync (o : Own w0 w b D) (ok : D.ok N) (hN : N < 1000000000) :
    Calls Tryz.prog 32 #[.pointer (some ⟨b, 0, none⟩)] w fun e w' => e = .returned (.int .i64 D.sync.1) ∧ Own w0 w' b D.sync.2 := by
  obtain ⟨h, rfl, a, hf, hB⟩ := o
  exact (sync_any a ok hN).mono fun e w' ⟨he, h', d⟩ => ⟨he, Own.step hf hB d⟩
theorem own_on (o : Own w0 w b D) : Calls Tryz.prog 16 #[.pointer (some ⟨b, 0, none⟩)] w fun e w' => e = .returned (.bool (!D.off)) ∧ w' = w := by
  obtain ⟨h, rfl, a, hf, hB⟩ := o
  exact on_any a
theorem own_pages (o : Own w0 w b D) : Calls Tryz.prog 30 #[.pointer (some ⟨b, 0, none⟩)] w fun e w' => e = .returned (.int .i64 D.size) ∧ w' = w := by
  obtain ⟨h, rfl, a, hf, hB⟩ := o
  exact pages_any a
theorem own_limit (o : Own w0 w b D) (n : Int) : Calls Tryz.prog 29 #[.pointer (some ⟨b, 0, none⟩), .int .i64 n] w fun e w' => e = .returned (.tuple #[]) ∧ Own w0 w' b { D with size := keptP n } := by
  obtain ⟨h, rfl, a, hf, hB⟩ := o
  exact (limit_any a n).mono fun e w' ⟨he, d⟩ => ⟨he, Own.step hf hB d⟩
theorem own_arm (o : Own w0 w b D) (n : Int) : Calls Tryz.prog 12 #[.pointer (some ⟨b, 0, none⟩), .int .i64 n] w fun e w' => e = .returned (.tuple #[]) ∧ Own w0 w' b { D with armed := true, left := max n 0 } := by
  obtain ⟨h, rfl, a, hf, hB⟩ := o
  exact (arm_any a n).mono fun e w' ⟨he, d⟩ => ⟨he, Own.step hf hB d⟩
theorem own_clear (o : Own w0 w b D) : Calls Tryz.prog 15 #[.pointer (some ⟨b, 0, none⟩)] w fun e w' => e = .returned (.tuple #[]) ∧ Own w0 w' b { D with armed := false, left := 0, fails := fun _ => none, count := 0 } := by
  obtain ⟨h, rfl, a, hf, hB⟩ := o
  exact (clear_any a).mono fun e w' ⟨he, h', _, _, d⟩ => ⟨he, Own.step hf hB d⟩

theorem ints_kept {v : Value} {l : List Int} {h : Hd} (hl : IntsAt w v l) (hb : ∀ k, v.ownBlock = some k → k < w.heap.size ∧ ¬ Foot h k) : ∀ W, Keep (Foot h) w W → IntsAt W v l := fun _ hW =>
  hl.block fun k hk => hW.block k (hb k hk).1 (hb k hk).2
theorem ints_lt {v : Value} {l : List Int} (hl : IntsAt w v l) (h0 : l ≠ []) : ∀ k, v.ownBlock = some k → k < w.heap.size := by
  rintro k hk
  rcases hl with ⟨rfl, _⟩ | ⟨b, o, c, rfl, h2⟩
  · exact absurd rfl h0
  · simp [Value.ownBlock] at hk
    subst hk
    exact World.block_lt_of_cell? w _ (h2 0 (List.length_pos_iff.2 h0))
theorem ints_arg {v : Value} {l : List Int} {h : Hd} (hl : IntsAt w0 v l) (hf : ∀ k, Foot h k → w0.heap.size ≤ k) (hB : Below w0.heap.size w0 w) : ∀ W, Keep (Foot h) w W → IntsAt W v l := fun W hW => by
  by_cases h0 : l = []
  · rcases hl with q | ⟨b, o, c, rfl, h2⟩
    · exact .inl q
    · exact .inl ⟨h0, _, _, by rw [h0]; rfl⟩
  · refine hl.block fun k hk => ?_
    have hk0 := ints_lt hl h0 k hk
    exact (hW.block k (by have := hB.size; omega) (fun q => by have := hf k q; omega)).trans (hB.block k hk0)
/-- With a slice that was there ahead. -/
theorem own_crash (o : Own w0 w b D) (ok : D.ok N) (hN : N < 1000000000) {p : Option Addr} {n c : Nat} {l : List Int} (hl : IntsAt w0 (.slice p n c) l) (hnl : n = l.length) (hnc : n ≤ c) (hlm : l.length ≤ 9223372036854775807) :
    Calls Tryz.prog 19 #[.pointer (some ⟨b, 0, none⟩), .slice p n c] w fun e w' => e = .returned (.tuple #[]) ∧ Own w0 w' b (D.crash l) := by
  obtain ⟨h, rfl, a, hf, hB⟩ := o
  exact (crash_any a ok hN (ints_arg hl hf hB) hnl hnc hlm).mono fun e w' ⟨he, _, h', _, _, d⟩ => ⟨he, Own.step hf hB d⟩
theorem own_fail (o : Own w0 w b D) {v : Value} {l : List Int} (hl : IntsAt w0 v l) (hlm : l.length ≤ 9223372036854775807) (hin : ∀ x ∈ l, -9223372036854775808 ≤ x ∧ x ≤ 9223372036854775807) :
    Calls Tryz.prog 13 #[.pointer (some ⟨b, 0, none⟩), v] w fun e w' => e = .returned (.tuple #[]) ∧ Own w0 w' b { D with fails := failsOf l, count := 0 } := by
  obtain ⟨h, rfl, a, hf, hB⟩ := o
  exact (fail_any a (ints_arg hl hf hB) hlm hin).mono fun e w' ⟨he, h', _, d⟩ => ⟨he, Own.step hf hB d⟩
/-- With a slice that was made behind the device. -/
theorem own_crash_new (o : Own w0 w b D) (ok : D.ok N) (hN : N < 1000000000) (cs : Array Value) (t : TypeId) {l : List Int} (hcs : cs = (l.map fun x => Value.int .i64 x).toArray) (hlm : l.length ≤ 9223372036854775807) :
    Calls Tryz.prog 19 #[.pointer (some ⟨b, 0, none⟩), .slice (some ⟨w.heap.size, 0, none⟩) l.length l.length] (w.alloc (.cells cs t)) fun e w' => e = .returned (.tuple #[]) ∧ Own w0 w' b (D.crash l) := by
  obtain ⟨h, rfl, a, hf, hB⟩ := o
  have hB1 := below_new1 w (.cells cs t)
  have hI : IntsAt (w.alloc (.cells cs t)) (.slice (some ⟨w.heap.size, 0, none⟩) l.length l.length) l := .inr ⟨_, 0, _, rfl, fun i hi => by
    rw [(Holds.new w t cs).cell, hcs]
    simp [hi]⟩
  refine (crash_any (a.below hB1) ok hN (ints_kept hI ?_) rfl (Nat.le_refl _) hlm).mono fun e w' ⟨he, _, h', _, _, d⟩ => ⟨he, Own.step hf (below_new hB hB1) d⟩
  intro k hk
  simp [Value.ownBlock] at hk
  subst hk
  exact ⟨by simp, fun q => by have := a.lt _ q.blk; omega⟩
theorem own_fail_new (o : Own w0 w b D) (cs : Array Value) (t : TypeId) {l : List Int} (hcs : cs = (l.map fun x => Value.int .i64 x).toArray) (hlm : l.length ≤ 9223372036854775807) (hin : ∀ x ∈ l, -9223372036854775808 ≤ x ∧ x ≤ 9223372036854775807) :
    Calls Tryz.prog 13 #[.pointer (some ⟨b, 0, none⟩), .slice (some ⟨w.heap.size, 0, none⟩) l.length l.length] (w.alloc (.cells cs t)) fun e w' => e = .returned (.tuple #[]) ∧ Own w0 w' b { D with fails := failsOf l, count := 0 } := by
  obtain ⟨h, rfl, a, hf, hB⟩ := o
  have hB1 := below_new1 w (.cells cs t)
  have hI : IntsAt (w.alloc (.cells cs t)) (.slice (some ⟨w.heap.size, 0, none⟩) l.length l.length) l := .inr ⟨_, 0, _, rfl, fun i hi => by
    rw [(Holds.new w t cs).cell, hcs]
    simp [hi]⟩
  refine (fail_any (a.below hB1) (ints_kept hI ?_) hlm hin).mono fun e w' ⟨he, h', _, d⟩ => ⟨he, Own.step hf (below_new hB hB1) d⟩
  intro k hk
  simp [Value.ownBlock] at hk
  subst hk
  exact ⟨by simp, fun q => by have := a.lt _ q.blk; omega⟩
end

/-! No device. -/
theorem begin_nil (r : Bool) (w : World) : Calls Tryz.prog 58 #[.pointer none, .bool r] w fun e w' => e = .returned (.int .i64 15) ∧ w' = w := by
  have hon := on_nil w
  go_enter Tryz.func58, Tryz.ntmps58
  go_wp2_with (go_at_call 16; refine hon.mono ?_; rintro e w1 ⟨rfl, rfl⟩)
  go_ret
  exact ⟨rfl, rfl⟩
theorem read_nil (n : Int) (w : World) : Calls Tryz.prog 44 #[.pointer none, .int .i64 n] w fun e w' => e = .returned (.tuple #[.string ⟨#[]⟩, .int .i64 15]) ∧ w' = w := by
  have hh := has_nil n w
  have hb := fun r => begin_nil r w
  go_enter Tryz.func44, Tryz.ntmps44
  go_wp2_with (first
    | (go_at_call 68; refine hh.mono ?_; rintro e w1 ⟨rfl, rfl⟩)
    | (go_at_call 58; refine (hb _).mono ?_; rintro e w1 ⟨rfl, rfl⟩))
  go_ret2
  exact ⟨rfl, rfl⟩
theorem write_nil (n : Int) (s : ByteArray) (w : World) : Calls Tryz.prog 49 #[.pointer none, .int .i64 n, .string s] w fun e w' => e = .returned (.int .i64 15) ∧ w' = w := by
  have hf : (decide (0 ≤ n) && decide (n < 0)) = false := by
    by_cases h : 0 ≤ n
    · rw [decide_eq_false (show ¬ n < 0 by omega), Bool.and_false]
    · rw [decide_eq_false h]; rfl
  have hh := has_nil n w
  rw [hf] at hh
  have hb := fun r => begin_nil r w
  go_enter Tryz.func49, Tryz.ntmps49
  go_wp2_with (first
    | (go_at_call 68; refine hh.mono ?_; rintro e w1 ⟨rfl, rfl⟩)
    | (go_at_call 58; refine (hb _).mono ?_; rintro e w1 ⟨rfl, rfl⟩))
  go_ret
  exact ⟨rfl, rfl⟩
theorem sync_nil (w : World) : Calls Tryz.prog 32 #[.pointer none] w fun e w' => e = .returned (.int .i64 15) ∧ w' = w := by
  have hb := fun r => begin_nil r w
  go_enter Tryz.func32, Tryz.ntmps32
  go_wp2_with (first
    | (go_at_call 58; refine (hb _).mono ?_; rintro e w1 ⟨rfl, rfl⟩))
  go_ret
  exact ⟨rfl, rfl⟩
end Go.Proofs.YtjklcnknbcmgoaaGreatDoor
