/-
  Leaves: the list of four that they are; another account's, or root's, is another one. Roots, held against each other.
-/
import Derived.Test.YtamijfdhaahalaaDoorSBackPure
import Derived.Test.YtamijfdhaahalaaDoorSLeafW
import Derived.Test.YtamijfdhaahalaaDoorSEqLaws
import Derived.Test.YtamijfdhaahalaaDoorDecodeW
namespace Go.Proofs.YtamijfdhaahalaaDoor
open Go Go.RowKit

def codeS (c : ByteArray) : ByteArray := if c.size = 0 then rootS noneF else c
theorem codeS_size {c : ByteArray} (h : c.size = 0 ∨ c.size = 32) : (codeS c).size = 32 := by
  unfold codeS
  split
  · exact rootS_size _
  · omega
theorem leafL_eq (n : Nat) (b c : ByteArray) (R : Nat → UInt8) : leafL n b c R = listL (rowS [⟨(num n).toArray⟩, b, rootS R, codeS c]) := rfl
def leafT (n : Nat) (b c : ByteArray) (z : Int) (R : Nat → UInt8) : ByteArray := if okA b.data.toList c.data.toList z = true then ⟨(leafL n b c R).toArray⟩ else ⟨#[]⟩
theorem leaf_any (n : Nat) (b c : ByteArray) (z : Int) (R : Nat → UInt8) (w : World) (hT : K.Tabs w) (hn : n < 18446744073709551616) :
    Calls Tryd.prog 26 #[.agg (acct n b c z), .agg (K.bytesA 32 R)] w fun e w' => e = .returned (.tuple #[.string (leafT n b c z R), .int .i64 (chkE b.data.toList c.data.toList z)]) ∧ Below w.heap.size w w' := by
  cases h : okA b.data.toList c.data.toList z with
  | false =>
    have := leaf_no n b c z R w h
    unfold leafT chkE
    rw [h]
    exact this
  | true =>
    obtain ⟨_, _, o3, _⟩ := (okA_iff b c z).1 h
    obtain ⟨k, rfl⟩ := Int.eq_ofNat_of_zero_le o3
    have : Calls Tryd.prog 26 #[.agg (acct n b c k), .agg (K.bytesA 32 R)] w fun e w' => e = .returned (.tuple #[.string ⟨(leafL n b c R).toArray⟩, .int .i64 0]) ∧ Below w.heap.size w w' := by
      by_cases h0 : c.size = 0
      · exact leaf_none n k b c R w hT hn h h0
      · exact leaf_code n k b c R w hT hn h h0
    unfold leafT chkE
    rw [h]
    exact this
theorem leaf_small {n : Nat} {b c : ByteArray} {z : Int} (R : Nat → UInt8) (h : okA b.data.toList c.data.toList z = true) : ∀ x ∈ [⟨(num n).toArray⟩, b, rootS R, codeS c], x.size ≤ 32 := by
  obtain ⟨o1, o2, _, _⟩ := (okA_iff b c z).1 h
  have hbs := right_size o1
  have h1 := num_size n
  have h2 := rootS_size R
  have h3 := codeS_size o2
  intro x hx
  simp only [List.mem_cons, List.mem_nil_iff, or_false] at hx
  rcases hx with rfl | rfl | rfl | rfl <;> omega
theorem quad_leaf {n : Nat} {b c : ByteArray} {z : Int} {R : Nat → UInt8} (h : okA b.data.toList c.data.toList z = true) : quad (leafL n b c R) = some [num n, b.data.toList, rootL R, (codeS c).data.toList] := by
  rw [leafL_eq]
  exact quad_row rfl (fun x hx => by have := leaf_small R h x hx; omega)
theorem bytes_eq {x y : ByteArray} (h : x.data.toList = y.data.toList) : x = y := by
  obtain ⟨⟨l⟩⟩ := x
  obtain ⟨⟨m⟩⟩ := y
  simp only at h
  rw [h]
theorem leaf_inj {n m : Nat} {b c b' c' : ByteArray} {z z' : Int} {R Q : Nat → UInt8} (hn : n < 18446744073709551616) (hm : m < 18446744073709551616) (h : okA b.data.toList c.data.toList z = true) (h' : okA b'.data.toList c'.data.toList z' = true)
    (e : leafT n b c z R = leafT m b' c' z' Q) : n = m ∧ b = b' ∧ ∀ i, i < 32 → R i = Q i := by
  unfold leafT at e
  rw [if_pos h, if_pos h'] at e
  have el : leafL n b c R = leafL m b' c' Q := by
    have := congrArg (fun x : ByteArray => x.data.toList) e
    simpa using this
  have q1 := quad_leaf (n := n) (R := R) h
  rw [el, quad_leaf (n := m) (R := Q) h'] at q1
  simp only [Option.some.injEq, List.cons.injEq, and_true] at q1
  obtain ⟨e1, e2, e3, _⟩ := q1
  refine ⟨?_, (bytes_eq e2).symm, fun i hi => ?_⟩
  · have := congrArg uint e1
    rw [uint_num m hm, uint_num n hn] at this
    exact (Option.some.inj this).symm
  · have h1 := rootL_get R i hi
    rw [← e3, rootL_get Q i hi] at h1
    exact (Option.some.inj h1).symm
theorem leafT_size (n : Nat) (b c : ByteArray) (z : Int) (R : Nat → UInt8) : (leafT n b c z R).size ≤ 1000000 := by
  unfold leafT
  split
  · next h =>
    have hl := rowS_len 32 _ (leaf_small (n := n) R h)
    have hd := hd_len 192 (rowS [⟨(num n).toArray⟩, b, rootS R, codeS c]).length
    show (leafL n b c R).length ≤ _
    rw [leafL_eq]
    unfold listL
    rw [List.length_append]
    simp only [List.length_cons, List.length_nil] at hl
    omega
  · show (0 : Nat) ≤ _; omega

/-- Four texts as things. -/
def row4 (a b c d : List UInt8) : Row := .item false a .nil (.item false b .nil (.item false c .nil (.item false d .nil .nil)))
theorem rowS_nil : rowS [] = [] := rfl
theorem things_row (m : Nat) (x : ByteArray) (xs : List ByteArray) (hx : x.size < 10000) : things (m + 1) (rowS (x :: xs)) = (things (m + 1) (rowS xs)).map (Row.item false x.data.toList .nil) := by
  have hs := split_bytes x.data.toList (rowS xs) (by rw [sizeB]; omega)
  rw [rowS_cons]
  refine things_text ?_ hs
  intro e
  rw [e] at hs
  cases hs
theorem decode_leaf {n : Nat} {b c : ByteArray} {z : Int} {R : Nat → UInt8} (h : okA b.data.toList c.data.toList z = true) : decode (leafL n b c R) = some (.item true [] (row4 (num n) b.data.toList (rootL R) (codeS c).data.toList) .nil) := by
  have hsm := leaf_small (n := n) R h
  have hl := rowS_len 32 _ hsm
  simp only [List.length_cons, List.length_nil] at hl
  have hs := split_list (rowS [⟨(num n).toArray⟩, b, rootS R, codeS c]) [] (by omega)
  rw [List.append_nil] at hs
  have hne : listL (rowS [⟨(num n).toArray⟩, b, rootS R, codeS c]) ≠ [] := by
    intro e
    rw [e] at hs
    cases hs
  have h0 := hsm ⟨(num n).toArray⟩ (by simp)
  have h1 := hsm b (by simp)
  have h2 := hsm (rootS R) (by simp)
  have h3 := hsm (codeS c) (by simp)
  have ht : things 15 (rowS [⟨(num n).toArray⟩, b, rootS R, codeS c]) = some (row4 (num n) b.data.toList (rootL R) (codeS c).data.toList) := by
    rw [things_row 14 _ _ (by omega), things_row 14 _ _ (by omega), things_row 14 _ _ (by omega), things_row 14 _ _ (by omega), rowS_nil, things_nil]
    rfl
  unfold decode
  rw [leafL_eq, hs]
  show things (15 + 1) _ = _
  rw [things_list hne hs, ht]
  show (things 16 []).map _ = _
  rw [things_nil]
  rfl

theorem run_equal_bytes (w : World) (R Q : Nat → UInt8) : (Op.equalIn 10000 34 (.agg (K.bytesA 32 R)) (.agg (K.bytesA 32 Q))).run Tryd.prog w = .ok ((List.range 32).all fun i => K.oct (R i) == K.oct (Q i)) w := by
  have hu : Tryd.prog.underlying 34 = some (.array 32 5) := by kernel_rfl
  have he : Tryd.prog.underlying 5 = some (.int .u8) := by kernel_rfl
  have hsz : ∀ w, (Go.sizeOf 5).run Tryd.prog w = .ok 1 w := fun w => by
    have h : (Tryd.prog.info? 5).map (·.size) = some 1 := by kernel_rfl
    cases hq : Tryd.prog.info? 5 with
    | none => simp [hq] at h
    | some i =>
      have hi : i.size = 1 := by simpa [hq] using h
      simp [Go.sizeOf, typeInfo, hq, hi]
  unfold K.bytesA
  rw [List.range_eq_range', Op.equalIn]
  simp only [Sem.run_bind, run_underlying hu, Result.andThen_ok, hsz, Std.Legacy.Range.forIn_eq_forIn_range', Std.Legacy.Range.size, Nat.sub_zero, Nat.add_sub_cancel, Nat.div_one]
  have hl : ∀ i ∈ List.range' 0 32 1, i < 32 := fun i hi => by simpa using (List.mem_range'_1.1 hi).2
  generalize List.range' 0 32 1 = l at hl ⊢
  induction l with
  | nil => simp
  | cons i l ih =>
    have hi : i < 32 := hl i (by simp)
    have pf : ∀ h : Nat → UInt8, (part 5 (Array.ofFn (n := 32) fun i => .int .u8 (K.oct (h i.val))) (i * 1)).run Tryd.prog w = .ok (.int .u8 (K.oct (h i))) w := fun h => by
      simp [part, isAgg, run_underlying he, hi]
    have pe := run_equalIn_int w 9998 5 .u8 .u8 (K.oct (R i)) (K.oct (Q i)) he
    simp only [List.forIn_cons, Sem.run_bind, pf R, pf Q, pe, Result.andThen_ok, List.all_cons]
    cases hb : (K.oct (R i) == K.oct (Q i))
    · simp
    · simp only [Bool.not_true, Bool.false_eq_true, if_false, Sem.run_pure, Result.andThen_ok, Bool.true_and]
      exact ih fun j hj => hl j (by simp [hj])
theorem eql_roots (w : World) {R Q : Nat → UInt8} (h : ∀ i, i < 32 → R i = Q i) : (Op.equalIn 10000 34 (.agg (K.bytesA 32 R)) (.agg (K.bytesA 32 Q))).run Tryd.prog w = .ok true w := by
  rw [run_equal_bytes]
  congr 1
  refine List.all_eq_true.2 fun i hi => ?_
  rw [h i (by simpa using hi)]; simp
theorem neq_roots (w : World) {R Q : Nat → UInt8} (h : ¬ ∀ i, i < 32 → R i = Q i) : (Op.equalIn 10000 34 (.agg (K.bytesA 32 R)) (.agg (K.bytesA 32 Q))).run Tryd.prog w = .ok false w := by
  rw [run_equal_bytes]
  congr 1
  refine Bool.eq_false_iff.2 fun q => h fun i hi => ?_
  have := List.all_eq_true.1 q i (by simpa using hi)
  simp only [beq_iff_eq, K.oct] at this
  exact UInt8.toNat_inj.1 (by omega)
theorem guardSum4 : Tryd.prog.eqGuardType Tryd.prog.depth 34 = false := by kernel_rfl
section
variable {P : Program}
/-- Some cells of a greater row are loaded, by an operation that may have a guard. -/
theorem wpList_midG {ops : Array Oper} {rest : List Oper} {op : Oper} {a : Act} {w : World} {Q : Exit → Act → World → Prop} (hw : Region.wanted op (yielded ops a.tmps) = true) (ty : TypeId) (x : Operand) (ho : op.op = .load ty x)
    (b o : Nat) (hx : a.eval x = .pointer (some ⟨b, o, none⟩)) (cs : Array Value) (d : TypeDesc) (hc : w.rangeAt b o cs.toList)
    (hu : P.underlying ty = some d) (hd : d.isRow = true) (hi : (P.info? ty).map (·.size) = some cs.size)
    (h : wpList P ops Q rest (a.put op.dst (.agg cs)) w) : wpList P ops Q (op :: rest) a w :=
  wpList_step fun _ hK => by
    rw [if_pos hw]
    unfold Oper.wp execOp
    have hr := run_loadVar_mid (P := P) w b o ty cs.toList d hc hu hd (by simpa using hi)
    rw [Array.toArray_toList] at hr
    simp only [ho, hx, Instr.loadAt, Instr.sureAddr, Sem.run_bind, Sem.run_pure, Result.andThen_ok, hr]
    exact hK _ _ h
end
end Go.Proofs.YtamijfdhaahalaaDoor
