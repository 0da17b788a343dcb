/-
  The order of texts; rows whose keys rise; which writes and blocks may be.
-/
import Derived.Test.YtadpopjhhanapaaJMem
import Derived.BigQuiet
import Derived.Maps.RangeWalk
import Derived.Laws.ResultCell
import Derived.WalkSmall
namespace Go.Proofs.Ytadpopjhhanapaa
open Go Go.RowKit

/-- Keys byte by byte. -/
def kl (a b : ByteArray) : Bool := Op.bytesLess a.toList b.toList
theorem bl_nil (x : List UInt8) : Op.bytesLess x [] = false := by cases x <;> rfl
theorem bl_cons (a b : UInt8) (x y : List UInt8) : Op.bytesLess (a :: x) (b :: y) = (decide (a.toNat < b.toNat) || (decide (a.toNat = b.toNat) && Op.bytesLess x y)) := by
  show (decide (a < b) || (a == b && Op.bytesLess x y)) = _
  rw [show decide (a < b) = decide (a.toNat < b.toNat) from by simp [UInt8.lt_iff_toNat_lt]]
  rw [show (a == b) = decide (a.toNat = b.toNat) from by
    by_cases h : a = b
    · subst h; simp
    · have : ¬ a.toNat = b.toNat := fun e => h (UInt8.toNat_inj.1 e)
      simp [h, this]]
theorem bl_asymm : ∀ x y : List UInt8, Op.bytesLess x y = true → Op.bytesLess y x = false
  | x, [], h => by rw [bl_nil] at h; cases h
  | [], _ :: _, _ => by rw [bl_nil]
  | a :: x, b :: y, h => by
    rw [bl_cons] at h ⊢
    have ih := bl_asymm x y
    simp only [Bool.or_eq_true, Bool.and_eq_true, decide_eq_true_eq] at h
    rw [Bool.or_eq_false_iff, Bool.and_eq_false_iff]
    rcases h with h | ⟨h1, h2⟩
    · exact ⟨by simp; omega, .inl (by simp; omega)⟩
    · exact ⟨by simp; omega, .inr (ih h2)⟩
theorem bl_trans : ∀ x y z : List UInt8, Op.bytesLess x y = true → Op.bytesLess y z = true → Op.bytesLess x z = true
  | x, [], z, h, _ => by rw [bl_nil] at h; cases h
  | x, _ :: _, [], _, h => by rw [bl_nil] at h; cases h
  | [], _ :: _, _ :: _, _, _ => rfl
  | a :: x, b :: y, c :: z, h1, h2 => by
    rw [bl_cons] at h1 h2 ⊢
    have ih := bl_trans x y z
    simp only [Bool.or_eq_true, Bool.and_eq_true, decide_eq_true_eq] at h1 h2 ⊢
    rcases h1 with h1 | ⟨h1, h1'⟩
    · rcases h2 with h2 | ⟨h2, _⟩
      · left; omega
      · left; omega
    · rcases h2 with h2 | ⟨h2, h2'⟩
      · left; omega
      · right; exact ⟨by omega, ih h1' h2'⟩
theorem bl_tri : ∀ x y : List UInt8, Op.bytesLess x y = false → Op.bytesLess y x = false → x = y
  | [], [], _, _ => rfl
  | [], _ :: _, h, _ => by cases h
  | _ :: _, [], _, h => by cases h
  | a :: x, b :: y, h1, h2 => by
    rw [bl_cons] at h1 h2
    have ih := bl_tri x y
    simp only [Bool.or_eq_false_iff, Bool.and_eq_false_iff, decide_eq_false_iff_not] at h1 h2
    have e : a.toNat = b.toNat := by omega
    rw [UInt8.toNat_inj.1 e, ih (h1.2.resolve_left fun h => h e) (h2.2.resolve_left fun h => h e.symm)]
theorem ba_ext {a b : ByteArray} (h : a.toList = b.toList) : a = b := ByteArray.ext (Array.toList_inj.mp (by rw [ByteArray.toList_eq, ByteArray.toList_eq] at h; exact h))
theorem kl_irrefl (a : ByteArray) : kl a a = false := by
  cases h : kl a a with
  | false => rfl
  | true => exact (bl_asymm _ _ h).symm.trans h |>.symm ▸ rfl
theorem kl_asymm {a b : ByteArray} (h : kl a b = true) : kl b a = false := bl_asymm _ _ h
theorem kl_trans {a b c : ByteArray} (h : kl a b = true) (k : kl b c = true) : kl a c = true := bl_trans _ _ _ h k
theorem kl_tri {a b : ByteArray} (h : kl a b = false) (k : kl b a = false) : a = b := ba_ext (bl_tri _ _ h k)
theorem kl_ne {a b : ByteArray} (h : kl a b = true) : a ≠ b := fun e => by subst e; rw [kl_irrefl] at h; cases h
/-- not b < a, a < c: then b < c, or so. -/
theorem kl_le_lt {a b c : ByteArray} (h : kl b a = false) (k : kl b c = true) : kl a c = true := by
  cases h1 : kl a b with
  | true => exact kl_trans h1 k
  | false => rw [kl_tri h1 h]; exact k
theorem kl_lt_le {a b c : ByteArray} (h : kl a b = true) (k : kl c b = false) : kl a c = true := by
  cases h1 : kl b c with
  | true => exact kl_trans h h1
  | false => rw [← kl_tri h1 k]; exact h

theorem le_no {a b : ByteArray} (h : kl a b = true) : (Op.bytesLess b.toList a.toList || b.toList == a.toList) = false := by
  have h1 : Op.bytesLess b.toList a.toList = false := kl_asymm h
  have h2 : (b.toList == a.toList) = false := beq_eq_false_iff_ne.2 fun e => kl_ne h (ba_ext e).symm
  rw [h1, h2]; rfl
theorem le_yes {a b : ByteArray} (h : kl a b = false) : (Op.bytesLess b.toList a.toList || b.toList == a.toList) = true := by
  cases h1 : Op.bytesLess b.toList a.toList with
  | true => rfl
  | false => rw [kl_tri (a := b) (b := a) h1 h]; simp
theorem run_leqE {a b : ByteArray} {r : Bool} (h : (Op.bytesLess a.toList b.toList || a.toList == b.toList) = r) (w : World) : (binOp .leq 9 (.string a) (.string b)).run Try.prog w = .ok (.bool r) w := by rw [← h]; simp [binOp, Op.stringOp]
theorem run_leqE' (a b : ByteArray) (w : World) : (binOp .leq 9 (.string a) (.string b)).run Try.prog w = .ok (.bool (!kl b a)) w := by
  refine run_leqE ?_ w
  cases h1 : kl b a with
  | true => exact le_no h1
  | false => exact le_yes h1
theorem run_eqlE (a b : ByteArray) (w : World) : (binOp .eql 9 (.string a) (.string b)).run Try.prog w = .ok (.bool (decide (a = b))) w := by
  by_cases h : a = b
  · subst h; simp [go_sem]
  · have : ¬ a.toList = b.toList := fun e => h (ba_ext e)
    simp [go_sem, h, this]
theorem beqD (a b : ByteArray) : (a.toList == b.toList) = decide (a = b) := by
  by_cases h : a = b
  · subst h; simp
  · rw [decide_eq_false h]
    exact beq_eq_false_iff_ne.2 fun e => h (ba_ext e)

/-- Keys of z bytes that rise, of things that are right. -/
def riseL {α : Type} (key : α → ByteArray) (ok : α → Bool) (z : Nat) : ByteArray → List α → Bool
  | _, [] => true
  | last, x :: l => ok x && (decide ((key x).size = z) && kl last (key x)) && riseL key ok z (key x) l
def okS (x : Sl) : Bool := rightN x.v.data.toList
def bareW (x : Wr) : Bool := !x.r && decide (x.n = 0) && decide (x.b = ⟨#[]⟩) && decide (x.c = ⟨#[]⟩) && decide (x.L.length = 0)
def okW (x : Wr) : Bool := !(x.g && !bareW x) && decide (x.L.length ≤ 64) && okA x.b.data.toList x.c.data.toList 0 && riseL Sl.k okS 32 ⟨#[]⟩ x.L
def okB (n : Int) (L : List Wr) : Bool := decide (1 ≤ n) && decide (n ≤ 2147483647) && decide (L.length ≤ 64) && riseL Wr.a okW 20 ⟨#[]⟩ L

section
variable {w : World} {ad : Addr}
theorem infoSlot2 : (Try.prog.info? 50).map (·.size) = some 2 := by kernel_rfl
theorem infoWrite2 : (Try.prog.info? 38).map (·.size) = some 7 := by kernel_rfl
theorem infoBlk2 : (Try.prog.info? 24).map (·.size) = some 2 := by kernel_rfl
theorem ldSlot {b o : Nat} {x : Sl} (h : SlotAt w b o x) : (loadVar 50 ⟨b, o, none⟩).run Try.prog w = .ok (sla x) w :=
  run_loadVar_mid w b o 50 [.string x.k, .string x.v] _ (fun j v hv => h.range j v hv) Try.underlying50 rfl infoSlot2
theorem ldWrite {b o : Nat} {x : Wr} (h : WriteAt w b o x) : (loadVar 38 ⟨b, o, none⟩).run Try.prog w = .ok (wra x) w :=
  run_loadVar_mid w b o 38 (wrC x).toList _ (fun j v hv => h.range j v hv) Try.underlying38 rfl infoWrite2
end
section
variable {ops : Array Oper} {rest : List Oper} {op : Oper} {a : Act} {Q : Exit → Act → World → Prop} {w : World}
theorem run_leqJ (ty : TypeId) (x y : Operand) {u v : ByteArray} (ρ : Operand → Value) (hx : ρ x = .string u) (hy : ρ y = .string v) (ho : op.op = .binOp .leq 9 x y ty) (w : World) : (execOp ρ op).run Try.prog w = .ok (.value (.bool (!kl v u))) w := by
  have h1 : (Op.bytesLess u.toList v.toList || u.toList == v.toList) = !kl v u := by
    cases h1 : kl v u with
    | true => exact le_no h1
    | false => exact le_yes h1
  unfold execOp
  simp [ho, hx, hy, go_sem]
  exact h1
theorem wpList_leqJ (hw : Region.wanted op (yielded ops a.tmps) = true) (ty : TypeId) (x y : Operand) (ho : op.op = .binOp .leq 9 x y ty) {u v : ByteArray} (hx : a.eval x = .string u) (hy : a.eval y = .string v) {r : Bool} (hr : (!kl v u) = r)
    (h : wpList Try.prog ops Q rest (a.put op.dst (.bool r)) w) : wpList Try.prog ops Q (op :: rest) a w :=
  wpList_step fun _ hK => by
    rw [if_pos hw]
    unfold Oper.wp
    rw [run_leqJ ty x y a.eval hx hy ho w]
    rw [hr]
    exact hK _ _ h
theorem wpList_ldJ (hw : Region.wanted op (yielded ops a.tmps) = true) (ty : TypeId) (x : Operand) (ho : op.op = .load ty x) {ad : Addr} (hx : a.eval x = .pointer (some ad)) {v : Value} (hh : (loadVar ty ad).run Try.prog w = .ok v w)
    (h : wpList Try.prog ops Q rest (a.put op.dst v) w) : wpList Try.prog ops Q (op :: rest) a w :=
  wpList_step fun _ hK => by
    rw [if_pos hw]
    unfold Oper.wp execOp
    simp only [ho, hx, Instr.loadAt, Instr.sureAddr, Sem.run_bind, Sem.run_pure, Result.andThen_ok, hh]
    exact hK _ _ h
end
section
variable {ops : Array Oper} {rest : List Oper} {op : Oper} {a : Act} {C : World → Prop} {Q : Act → Prop}
/-- A load, in a class of worlds. -/
theorem wpQ_ld (hw : Region.wanted op (yielded ops a.tmps) = true) (ty : TypeId) (x : Operand) (ho : op.op = .load ty x) {ad : Addr} (hx : a.eval x = .pointer (some ad)) {v : Value} (hh : ∀ w, C w → (loadVar ty ad).run Try.prog w = .ok v w)
    (h : wpQuiet Try.prog ops C Q rest (a.put op.dst v)) : wpQuiet Try.prog ops C Q (op :: rest) a :=
  wpQuiet_step fun _ hK => by
    rw [if_pos hw]
    refine ⟨v, fun w hw => ?_, hK _ h⟩
    unfold Oper.quietAt execOp
    simp only [ho, hx, Instr.loadAt, Instr.sureAddr, Sem.run_bind, Sem.run_pure, Result.andThen_ok, hh w hw]
    exact ⟨rfl, rfl⟩
end
section
variable {P : Program} {ops : Array Oper} {rest : List Oper} {op : Oper} {a : Act} {C : World → Prop} {Q : Act → Prop}
theorem wpQ_call (hw : Region.wanted op (yielded ops a.tmps) = true) (f : FuncId)
    (vs : Array Value) (hf : ∀ w, (execOp a.eval op).run P w = .ok (.enter f vs) w) (v : Value) (hc : ∀ w, C w → Calls P f vs w fun e w' => e = .returned v ∧ C w')
    (h : wpQuiet P ops C Q rest (a.put op.dst v)) : wpQuiet P ops C Q (op :: rest) a :=
  wpQuiet_step fun _ hK => by
    rw [if_pos hw]
    refine ⟨v, fun w hw => ?_, hK _ h⟩
    unfold Oper.quietAt
    rw [hf w]
    exact ⟨rfl, hc w hw⟩
theorem wpQ_val (hw : Region.wanted op (yielded ops a.tmps) = true) (v : Value) (hv : ∀ w, (execOp a.eval op).run P w = .ok (.value v) w)
    (h : wpQuiet P ops C Q rest (a.put op.dst v)) : wpQuiet P ops C Q (op :: rest) a :=
  wpQuiet_step fun _ hK => by
    rw [if_pos hw]
    refine ⟨v, fun w _ => ?_, hK _ h⟩
    unfold Oper.quietAt
    rw [hv w]
    exact ⟨rfl, rfl⟩
theorem wp_region_class {id : Nat} {Q : Exit → Act → World → Prop} {a : Act} {w : World} {l : List Oper} (C : World → Prop) (hm : P.follows .mixedOrders = true) (hB : Region.lexB .any l.toArray = true) (h0 : C w.drew)
    (h : wpQuiet P l.toArray C (fun a' => ∀ w', C w' → Q .normal a' w') l a) : (Code.region id l.toArray true).wp P Q a w :=
  wp_region_quiet (C := C) hm hB h0 (by simpa using h)
end
theorem then_normalJ {K : Act → World → Prop} {Q : Exit → Act → World → Prop} {a : Act} {w : World} (h : K a w) : Exit.then K Q .normal a w := h
theorem ldTxt {w : World} {ad : Addr} {x : ByteArray} (h : w.cell? ad = some (.string x)) : (loadVar 9 ad).run Try.prog w = .ok (.string x) w := by simp [go_sem, h]
end Go.Proofs.Ytadpopjhhanapaa
