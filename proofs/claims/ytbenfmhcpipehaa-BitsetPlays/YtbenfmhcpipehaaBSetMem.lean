/-
  Sets in memory: a pointer to a struct whose one field is a map, or nil; what looks into them and what is written.
-/
import Derived.Test.YtbenfmhcpipehaaBMap
import Derived.WalkArith
namespace Go.Proofs.Ytbenfmhcpipehaa
open Go Go.RowKit Go.Maps

theorem zeroVal (w : World) : (zeroValue 74).run Try.prog w = .ok (.agg (contA fun _ => false)) w := by
  rw [zeroC]; exact Try.zeroValue74 w

theorem wfI {u : Int} (h : -9223372036854775808 ≤ u) (h' : u ≤ 9223372036854775807) : (Lit.int .i64 u).wf = true := by
  exact WalkArith.wf_i64 ⟨h, h'⟩

theorem keyOf_u {u : Int} (h : (Lit.int .i64 u).wf = true) : keyOf Try.prog 3 (.int .i64 u) = some (.int .i64 u) := Maps.keyOf_int_mk Try.underlying3 h

theorem keyU_pos {u : Int} {v : Nat} (h : Lit.int .i64 u = keyU v) : 0 ≤ u := by
  unfold keyU at h
  injection h with _ h
  omega

/-- What stands at a key. -/
def atI (M : Nat → Bool) (u : Int) (l : Nat) : Bool := if 0 ≤ u then atU M u.toNat l else false
theorem atI_nat (M : Nat → Bool) (u : Nat) : atI M (u : Int) = atU M u := by
  funext l
  unfold atI
  rw [if_pos (by omega), Int.toNat_natCast]

theorem run_look {w : World} {m : Nat} {M : Nat → Bool} (h : MapAt w m M) {u : Int} (hu : (Lit.int .i64 u).wf = true) : (Instr.lookup 68 (.map (some m)) (.int .i64 u) false).run Try.prog w = .ok (.agg (contA (atI M u))) w := by
  obtain ⟨D, ho, hr⟩ := h
  obtain ⟨v, ps, hrun, hv⟩ := ho.lookup keyed3 Try.underlying68 (zeroVal w) (cR_mk _) (keyOf_u hu)
  obtain ⟨p, rfl, hp⟩ := cR_inv hv
  have hp : D.atKey (.int .i64 u) (dC fun _ => false) = dC p := congrArg Prod.fst hp
  rw [hrun]
  have : contA p = contA (atI M u) := by
    apply dC_inj
    rw [← hp]
    by_cases h0 : 0 ≤ u
    · obtain ⟨n, rfl⟩ := Int.eq_ofNat_of_zero_le h0
      exact (hr.at n).trans (dC_congr fun l _ => by rw [atI_nat])
    · have hh : Maps.has D (.int .i64 u) = false := by
        cases hh : Maps.has D (.int .i64 u)
        · rfl
        · obtain ⟨v, hv, _⟩ := (hr.has _).1 hh
          exact absurd (keyU_pos hv) h0
      rw [Maps.atKey_of_not_has hh]
      exact dC_congr fun l _ => by unfold atI; rw [if_neg h0]
  rw [this]
theorem run_look_nil (w : World) {u : Int} (hu : (Lit.int .i64 u).wf = true) : (Instr.lookup 68 (.map none) (.int .i64 u) false).run Try.prog w = .ok (.agg (contA fun _ => false)) w := by
  have := Maps.look_nil false keyed3 Try.underlying68 (zeroVal w) (keyOf_u hu)
  simpa using this

/-- A map or none. -/
def MapV (w : World) : Option Nat → (Nat → Bool) → Prop
  | none, M => ∀ n, M n = false
  | some m, M => MapAt w m M
theorem run_lookV {w : World} {mo : Option Nat} {M : Nat → Bool} (h : MapV w mo M) {u : Int} (hu : (Lit.int .i64 u).wf = true) : (Instr.lookup 68 (.map mo) (.int .i64 u) false).run Try.prog w = .ok (.agg (contA (atI M u))) w := by
  cases mo with
  | none =>
    rw [run_look_nil w hu]
    have : contA (fun _ => false) = contA (atI M u) := contA_congr fun l _ => by
      unfold atI atU
      split
      · rw [h]
      · rfl
    rw [this]
  | some m => exact run_look h hu

theorem MapAt.lt {w : World} {m : Nat} {M : Nat → Bool} (h : MapAt w m M) : m < w.heap.size := by obtain ⟨D, ho, _⟩ := h; exact ho.lt
theorem MapAt.block {w w' : World} {m : Nat} {M : Nat → Bool} (h : MapAt w m M) (hb : w'.heap[m]? = w.heap[m]?) : MapAt w' m M := by
  obtain ⟨D, ⟨es, clock, hm, F, hs, hD⟩, hr⟩ := h
  exact ⟨D, ⟨es, clock, hb.trans hm, F, hs, hD⟩, hr⟩
theorem MapAt.bound {w : World} {m : Nat} {M : Nat → Bool} (h : MapAt w m M) : ∀ n, M n = true → n < 2147483648 := by obtain ⟨D, _, hr⟩ := h; exact hr.bound
theorem MapV.bound {w : World} {mo : Option Nat} {M : Nat → Bool} (h : MapV w mo M) : ∀ n, M n = true → n < 2147483648 := by
  cases mo with
  | none => intro n hn; rw [h] at hn; cases hn
  | some m => exact MapAt.bound h
theorem MapV.block {w w' : World} {mo : Option Nat} {M : Nat → Bool} (h : MapV w mo M) (hb : ∀ m, mo = some m → w'.heap[m]? = w.heap[m]?) : MapV w' mo M := by
  cases mo with
  | none => exact h
  | some m => exact MapAt.block h (hb m rfl)
theorem MapV.lt {w : World} {mo : Option Nat} {M : Nat → Bool} (h : MapV w mo M) : ∀ m, mo = some m → m < w.heap.size := by
  rintro m rfl
  exact MapAt.lt h
theorem MapAt.obj {w : World} {m : Nat} {M : Nat → Bool} (h : MapAt w m M) : ∃ es clock, w.heap[m]? = some (.map es clock) := by
  obtain ⟨D, ⟨es, clock, hm, _⟩, _⟩ := h
  exact ⟨es, clock, hm⟩

/-- A container is laid into a map. -/
theorem run_upd {w : World} {m : Nat} {M : Nat → Bool} (h : MapAt w m M) {u : Nat} (hu : u < NU) {q : Nat → Bool} (hq : ∃ l, l < 256 ∧ q l = true) :
    ∃ w', (Instr.mapUpdate 68 (.map (some m)) (.int .i64 (u : Nat)) (.agg (contA q))).run Try.prog w = .ok () w' ∧ MapAt w' m (setU M u q) ∧ Only m w w' ∧ w'.heap.size = w.heap.size := by
  obtain ⟨D, ho, hr⟩ := h
  have hw : (Lit.int .i64 (u : Int)).wf = true := by
    rw [NU_eq] at hu
    exact wfI (by omega) (by omega)
  have hm := ho.isMap
  obtain ⟨es, clock, hb, F, hs, rfl⟩ := ho
  obtain ⟨es', clock', hrun, F', hput, _⟩ := Maps.fit_store (R' := cR) keyed3 Try.underlying68 hb F (Nat.lt_of_le_of_lt hs (by decide)) (fun _ _ _ _ hz => hz) (keyOf_u hw) (cR_mk q)
  refine ⟨_, hrun, ?_, ?_, ?_⟩
  · have hr2 := hr.put hm hu hq
    refine ⟨_, hr2.size (n := es'.size) ⟨es', clock', ChangeMaps.heap_setBlock_same hb _, F', Nat.le_refl _, ?_⟩, hr2⟩
    rw [DataW.put_eq]
    unfold keyU
    rw [hput]
  · exact ⟨rfl, rfl, rfl, by simp [ChangeMaps.setBlock], fun k _ hk => ChangeMaps.heap_setBlock_other hb _ (fun e => hk e)⟩
  · simp [ChangeMaps.setBlock]
theorem wpList_upd {ops : Array Oper} {rest : List Oper} {op : Oper} {a : Act} {w : World} {Q : Exit → Act → World → Prop} (hgd : op.guard = none) (x y z : Operand) (ho : op.op = .mapUpdate 68 x y z)
    {m u : Nat} {q M : Nat → Bool} (hx : a.eval x = .map (some m)) (hy : a.eval y = .int .i64 (u : Nat)) (hz : a.eval z = .agg (contA q)) (h : MapAt w m M) (hu : u < NU) (hq : ∃ l, l < 256 ∧ q l = true)
    (hK : ∀ w', MapAt w' m (setU M u q) → Only m w w' → w'.heap.size = w.heap.size → wpList Try.prog ops Q rest (a.put op.dst undef) w') : wpList Try.prog ops Q (op :: rest) a w := by
  refine wpList_plain hgd fun K' hK' => ?_
  obtain ⟨w', hrun, r1, r2, r3⟩ := run_upd h hu hq
  unfold Oper.wp
  simp [execOp, ho, hx, hy, hz, hrun, Result.andThen]
  exact hK' _ _ (hK w' r1 r2 r3)
theorem MapAt.made (w : World) (M : Nat → Bool) (h : ∀ n, M n = false) : MapAt (w.alloc (.map #[] 0)) w.heap.size M :=
  ⟨_, (World.ownsMap_made w Try.prog 3 cR).mono (Nat.zero_le _), Reads.empty h⟩

/-- What a value says of a set: nil, or a pointer to a set; its map. -/
structure View (w : World) (s : Value) (mo : Option Nat) (M : Nat → Bool) : Prop where
  ptr : (s = .pointer none ∧ mo = none) ∨ ∃ b, s = .pointer (some ⟨b, 0, none⟩) ∧ Holds w b 70 #[.map mo]
  map : MapV w mo M
/-- A set that is no nil one. -/
structure SetAt (w : World) (b : Nat) (mo : Option Nat) (M : Nat → Bool) : Prop where
  ptr : Holds w b 70 #[.map mo]
  map : MapV w mo M
theorem SetAt.view {w : World} {b : Nat} {mo : Option Nat} {M : Nat → Bool} (h : SetAt w b mo M) : View w (.pointer (some ⟨b, 0, none⟩)) mo M := ⟨.inr ⟨b, rfl, h.ptr⟩, h.map⟩
theorem View.nil (w : World) : View w (.pointer none) none (fun _ => false) := ⟨.inl ⟨rfl, rfl⟩, fun _ => rfl⟩
theorem View.below {w w' : World} {s : Value} {mo : Option Nat} {M : Nat → Bool} (h : View w s mo M) (hb : Below w.heap.size w w') : View w' s mo M := by
  refine ⟨?_, h.map.block fun m hm => hb.block m (h.map.lt m hm)⟩
  rcases h.ptr with h1 | ⟨b, h1, h2⟩
  · exact .inl h1
  · exact .inr ⟨b, h1, below_holds hb h2⟩
theorem SetAt.below {w w' : World} {b : Nat} {mo : Option Nat} {M : Nat → Bool} (h : SetAt w b mo M) (hb : Below w.heap.size w w') : SetAt w' b mo M :=
  ⟨below_holds hb h.ptr, h.map.block fun m hm => hb.block m (h.map.lt m hm)⟩

/-- The world but for a set's two blocks, and for new ones. -/
structure OnlyS (b : Nat) (mo : Option Nat) (w w' : World) : Prop where
  os : w'.os = w.os
  tape : w'.tape = w.tape
  output : w'.output = w.output
  size : w.heap.size ≤ w'.heap.size
  block : ∀ k, k < w.heap.size → k ≠ b → some k ≠ mo → w'.heap[k]? = w.heap[k]?
theorem OnlyS.refl (b : Nat) (mo : Option Nat) (w : World) : OnlyS b mo w w := ⟨rfl, rfl, rfl, Nat.le_refl _, fun _ _ _ _ => rfl⟩
theorem OnlyS.below {b : Nat} {mo : Option Nat} {w w' : World} (h : Below w.heap.size w w') : OnlyS b mo w w' := ⟨h.os, h.tape, h.output, h.size, fun k hk _ _ => h.block k hk⟩
theorem OnlyS.only {b : Nat} {mo : Option Nat} {w w' : World} (h : Only b w w') : OnlyS b mo w w' := ⟨h.os, h.tape, h.output, h.size, fun k hk hb _ => h.block k hk hb⟩
theorem OnlyS.onlyM {b m : Nat} {w w' : World} (h : Only m w w') : OnlyS b (some m) w w' := ⟨h.os, h.tape, h.output, h.size, fun k hk _ hm => h.block k hk (fun e => hm (by rw [e]))⟩
/-- The map is the old one, or a new one. -/
def Newer (w : World) (mo mo' : Option Nat) : Prop := mo' = mo ∨ ∃ m, mo' = some m ∧ w.heap.size ≤ m
theorem Newer.refl (w : World) (mo : Option Nat) : Newer w mo mo := .inl rfl
theorem OnlyS.trans {b : Nat} {mo mo' : Option Nat} {w w1 w2 : World} (h : OnlyS b mo w w1) (hn : Newer w mo mo') (k : OnlyS b mo' w1 w2) : OnlyS b mo w w2 :=
  ⟨k.os.trans h.os, k.tape.trans h.tape, k.output.trans h.output, Nat.le_trans h.size k.size, fun i hi h1 h2 => (k.block i (Nat.lt_of_lt_of_le hi h.size) h1 (fun e => by
    rcases hn with rfl | ⟨m, rfl, hm⟩
    · exact h2 e
    · injection e with e
      omega)).trans (h.block i hi h1 h2)⟩
theorem Newer.trans {w w1 : World} {mo mo' mo2 : Option Nat} (h : Newer w mo mo') (hs : w.heap.size ≤ w1.heap.size) (k : Newer w1 mo' mo2) : Newer w mo mo2 := by
  rcases k with rfl | ⟨m, rfl, hm⟩
  · exact h
  · exact .inr ⟨m, rfl, by omega⟩
/-- Where both blocks are new, nothing has turned. -/
theorem OnlyS.fresh {b : Nat} {mo : Option Nat} {w w1 w2 : World} (h : Below w.heap.size w w1) (k : OnlyS b mo w1 w2) (hb : w.heap.size ≤ b) (hm : ∀ m, mo = some m → w.heap.size ≤ m) : Below w.heap.size w w2 :=
  ⟨k.os.trans h.os, k.tape.trans h.tape, k.output.trans h.output, Nat.le_trans h.size k.size, fun i hi => (k.block i (Nat.lt_of_lt_of_le hi h.size) (by omega) (fun e => by have := hm i e.symm; omega)).trans (h.block i hi)⟩
/-- Another set. -/
theorem View.onlyS {w w' : World} {s : Value} {mo mo' : Option Nat} {M : Nat → Bool} {b' : Nat} (h : View w s mo M) (k : OnlyS b' mo' w w') (h1 : s ≠ .pointer (some ⟨b', 0, none⟩)) (h2 : mo = none ∨ mo ≠ mo') (hb' : ∃ t cs, Holds w b' t cs) (hm' : ∀ m, mo' = some m → ∃ es clock, w.heap[m]? = some (.map es clock)) : View w' s mo M := by
  obtain ⟨t', cs', hb'⟩ := hb'
  refine ⟨?_, ?_⟩
  · rcases h.ptr with h3 | ⟨b, h3, h4⟩
    · exact .inl h3
    · refine .inr ⟨b, h3, ?_⟩
      unfold Holds at *
      rw [k.block b (Array.getElem?_eq_some_iff.1 h4).1 (fun e => h1 (by rw [h3, e])) (fun e => by
        obtain ⟨es, clock, hq⟩ := hm' b e.symm
        rw [h4] at hq; cases hq)]
      exact h4
  · refine h.map.block fun m hm => ?_
    subst hm
    refine k.block m (h.map.lt m rfl) (fun e => ?_) (fun e => ?_)
    · obtain ⟨es, clock, hq⟩ := MapAt.obj h.map
      subst e
      unfold Holds at hb'
      rw [hb'] at hq; cases hq
    · rcases h2 with h2 | h2
      · cases h2
      · exact h2 e
end Go.Proofs.Ytbenfmhcpipehaa
