/-
  Maps whose keys are numbers, in memory, as functions.
-/
import Derived.Test.YtonmjkalkkfhhaaDMem
import Derived.Maps.RangeWalk
import Derived.Maps.OwnSet
import Derived.Maps.OwnOps
import Derived.Maps.Ext
import Derived.WalkArith
namespace Go.Proofs.Ytonmjkalkkfhhaa
open Go Go.RowKit Go.Maps

theorem keyed3 : Keyed Try.prog 3 := Maps.int_keyed Try.underlying3
theorem wfI {u : Int} (h : -9223372036854775808 ≤ u) (h' : u ≤ 9223372036854775807) : (Lit.int .i64 u).wf = true := by
  exact WalkArith.wf_i64 ⟨h, h'⟩
theorem keyOf_u {u : Int} (h : (Lit.int .i64 u).wf = true) : keyOf Try.prog 3 (.int .i64 u) = some (.int .i64 u) := Maps.keyOf_int_mk Try.underlying3 h
/-- A key. -/
def keyI (u : Int) : Lit := .int .i64 u
theorem keyI_inj {u v : Int} (h : keyI u = keyI v) : u = v := by
  unfold keyI at h
  injection h with _ h
theorem keyI_lit (u : Int) : WideAt.IsKeyLit (keyI u) := by unfold keyI; simp [WideAt.IsKeyLit]

section
variable {α : Type} {enc : α → DataW Unit}
/-- What a map says. -/
structure Says (enc : α → DataW Unit) (D : DataW Unit) (M : Int → Option α) : Prop where
  has : ∀ kl, Maps.has D kl = true ↔ ∃ u x, kl = keyI u ∧ M u = some x
  val : ∀ u x, M u = some x → ∀ z, D.atKey (keyI u) z = enc x
theorem Says.hasI {D : DataW Unit} {M : Int → Option α} (h : Says enc D M) (u : Int) : Maps.has D (keyI u) = (M u).isSome := by
  cases hm : M u with
  | some x => exact (h.has _).2 ⟨u, x, rfl, hm⟩
  | none =>
    cases hh : Maps.has D (keyI u)
    · rfl
    · obtain ⟨v, x, e, hv⟩ := (h.has _).1 hh
      rw [← keyI_inj e, hm] at hv
      cases hv
theorem Says.empty : Says enc (.map []) (fun _ => none) where
  has kl := by simp [Maps.has]
  val u x h := by cases h
/-- One more, or another one. -/
def setM (M : Int → Option α) (u : Int) (x : Option α) (v : Int) : Option α := if v = u then x else M v
theorem setM_same (M : Int → Option α) (u : Int) (x : Option α) : setM M u x u = x := by unfold setM; rw [if_pos rfl]
theorem setM_other (M : Int → Option α) {u v : Int} (x : Option α) (h : v ≠ u) : setM M u x v = M v := by unfold setM; rw [if_neg h]
theorem Says.put {D : DataW Unit} {M : Int → Option α} (h : Says enc D M) (hD : Maps.IsMap D) (u : Int) (x : α) : Says enc (D.put (keyI u) (enc x)) (setM M u (some x)) where
  has kl := by
    by_cases e : kl = keyI u
    · subst e
      rw [Maps.has_put_same hD (keyI_lit u)]
      exact ⟨fun _ => ⟨u, x, rfl, setM_same _ _ _⟩, fun _ => rfl⟩
    · rw [Maps.has_put_other e, h.has]
      constructor
      · rintro ⟨v, y, rfl, hv⟩
        exact ⟨v, y, rfl, by rw [setM_other _ _ (fun q => e (by rw [q]))]; exact hv⟩
      · rintro ⟨v, y, rfl, hv⟩
        exact ⟨v, y, rfl, by rw [setM_other _ _ (fun q => e (by rw [q]))] at hv; exact hv⟩
  val v y hv z := by
    by_cases e : v = u
    · subst e
      rw [setM_same] at hv
      injection hv with hv
      rw [Maps.atKey_put_same hD (keyI_lit v), hv]
    · rw [setM_other _ _ e] at hv
      rw [Maps.atKey_put_other (fun q => e (keyI_inj q)), h.val v y hv]
theorem Says.del {D : DataW Unit} {M : Int → Option α} (h : Says enc D M) (u : Int) : Says enc (D.del (keyI u)) (setM M u none) where
  has kl := by
    by_cases e : kl = keyI u
    · subst e
      rw [Maps.has_del_same]
      constructor
      · intro h; cases h
      · rintro ⟨v, y, hv, hy⟩
        rw [← keyI_inj hv, setM_same] at hy
        cases hy
    · rw [Maps.has_del_other e, h.has]
      constructor
      · rintro ⟨v, y, rfl, hv⟩
        exact ⟨v, y, rfl, by rw [setM_other _ _ (fun q => e (by rw [q]))]; exact hv⟩
      · rintro ⟨v, y, rfl, hv⟩
        exact ⟨v, y, rfl, by rw [setM_other _ _ (fun q => e (by rw [q]))] at hv; exact hv⟩
  val v y hv z := by
    by_cases e : v = u
    · subst e
      rw [setM_same] at hv
      cases hv
    · rw [setM_other _ _ e] at hv
      rw [Maps.atKey_del_other (fun q => e (keyI_inj q)), h.val v y hv]

/-- How the elements of a map read. -/
structure Elem (R : Value → Option (DataW Unit × List MemPlace)) (mk : α → Value) (enc : α → DataW Unit) : Prop where
  of : ∀ x, R (mk x) = some (enc x, [])
  inv : ∀ v y, R v = some y → ∃ x, v = mk x ∧ y = (enc x, [])
  inj : ∀ x y, enc x = enc y → x = y

/-- Block m is a map that says M, of at most n entries. -/
def MapAt (R : Value → Option (DataW Unit × List MemPlace)) (enc : α → DataW Unit) (w : World) (m n : Nat) (M : Int → Option α) : Prop := ∃ D : DataW Unit, w.ownsMap Try.prog 3 R m n D ∧ Says enc D M
/-- A map or none. -/
def MapV (R : Value → Option (DataW Unit × List MemPlace)) (enc : α → DataW Unit) (w : World) (n : Nat) : Option Nat → (Int → Option α) → Prop
  | none, M => ∀ u, M u = none
  | some m, M => MapAt R enc w m n M
variable {R : Value → Option (DataW Unit × List MemPlace)} {mk : α → Value}
theorem MapAt.lt {w : World} {m n : Nat} {M : Int → Option α} (h : MapAt R enc w m n M) : m < w.heap.size := by obtain ⟨D, ho, _⟩ := h; exact ho.lt
theorem MapAt.block {w w' : World} {m n : Nat} {M : Int → Option α} (h : MapAt R enc w m n M) (hb : w'.heap[m]? = w.heap[m]?) : MapAt R enc w' m n M := by
  obtain ⟨D, ⟨es, clock, hm, F, hs, hD⟩, hr⟩ := h
  exact ⟨D, ⟨es, clock, hb.trans hm, F, hs, hD⟩, hr⟩
theorem MapAt.obj {w : World} {m n : Nat} {M : Int → Option α} (h : MapAt R enc w m n M) : ∃ es clock, w.heap[m]? = some (.map es clock) := by
  obtain ⟨D, ⟨es, clock, hm, _⟩, _⟩ := h
  exact ⟨es, clock, hm⟩
theorem MapV.block {w w' : World} {mo : Option Nat} {n : Nat} {M : Int → Option α} (h : MapV R enc w n mo M) (hb : ∀ m, mo = some m → w'.heap[m]? = w.heap[m]?) : MapV R enc w' n mo M := by
  cases mo with
  | none => exact h
  | some m => exact MapAt.block h (hb m rfl)
theorem MapV.lt {w : World} {mo : Option Nat} {n : Nat} {M : Int → Option α} (h : MapV R enc w n mo M) : ∀ m, mo = some m → m < w.heap.size := by
  rintro m rfl
  exact MapAt.lt h
theorem MapV.obj {w : World} {mo : Option Nat} {n : Nat} {M : Int → Option α} (h : MapV R enc w n mo M) : ∀ m, mo = some m → ∃ es clock, w.heap[m]? = some (.map es clock) := by
  rintro m rfl
  exact MapAt.obj h
theorem MapAt.mono {w : World} {m n n' : Nat} {M : Int → Option α} (h : MapAt R enc w m n M) (hn : n ≤ n') : MapAt R enc w m n' M := by
  obtain ⟨D, ho, hr⟩ := h
  exact ⟨D, ho.mono hn, hr⟩
theorem MapV.mono {w : World} {mo : Option Nat} {n n' : Nat} {M : Int → Option α} (h : MapV R enc w n mo M) (hn : n ≤ n') : MapV R enc w n' mo M := by
  cases mo with
  | none => exact h
  | some m => exact MapAt.mono h hn
theorem MapAt.made (w : World) : MapAt R enc (w.alloc (.map #[] 0)) w.heap.size 0 (fun _ : Int => none) :=
  ⟨_, World.ownsMap_made w Try.prog 3 R, Says.empty⟩
theorem MapAt.congr {w : World} {m n : Nat} {M M' : Int → Option α} (h : MapAt R enc w m n M) (e : ∀ u, M u = M' u) : MapAt R enc w m n M' := by
  rw [← show M = M' from funext e]; exact h

variable {t e : TypeId}
/-- A value is asked. -/
theorem MapAt.look (E : Elem R mk enc) (ht : Try.prog.underlying t = some (.map 3 e)) {z : α} {w : World} (hz : (zeroValue e).run Try.prog w = .ok (mk z) w) {m n : Nat} {M : Int → Option α} (h : MapAt R enc w m n M) {u : Int} (hu : (Lit.int .i64 u).wf = true) (c : Bool) :
    (Instr.lookup t (.map (some m)) (.int .i64 u) c).run Try.prog w = .ok (if c then .tuple #[mk ((M u).getD z), .bool (M u).isSome] else mk ((M u).getD z)) w := by
  obtain ⟨D, ho, hr⟩ := h
  have hat : D.atKey (.int .i64 u) (enc z) = enc ((M u).getD z) := by
    cases hm : M u with
    | some x => exact hr.val u x hm _
    | none => exact Maps.atKey_of_not_has (by have := hr.hasI u; rw [hm] at this; exact this) _
  have hv : ∀ v ps, R v = some (D.atKey (.int .i64 u) (enc z), ps) → v = mk ((M u).getD z) := fun v ps hv => by
    obtain ⟨x, rfl, hp⟩ := E.inv _ _ hv
    have := congrArg Prod.fst hp
    simp only at this
    rw [hat] at this
    rw [E.inj _ _ this]
  cases c with
  | false =>
    obtain ⟨v, ps, hrun, hv2⟩ := ho.lookup keyed3 ht hz (E.of z) (keyOf_u hu)
    rw [hrun, hv v ps hv2]; rfl
  | true =>
    obtain ⟨v, ps, hrun, hv2⟩ := ho.look_ok keyed3 ht hz (E.of z) (keyOf_u hu)
    rw [hrun, hv v ps hv2]
    have := hr.hasI u
    unfold keyI at this
    rw [this]; rfl
theorem MapV.look (E : Elem R mk enc) (ht : Try.prog.underlying t = some (.map 3 e)) {z : α} {w : World} (hz : (zeroValue e).run Try.prog w = .ok (mk z) w) {mo : Option Nat} {n : Nat} {M : Int → Option α} (h : MapV R enc w n mo M) {u : Int} (hu : (Lit.int .i64 u).wf = true) (c : Bool) :
    (Instr.lookup t (.map mo) (.int .i64 u) c).run Try.prog w = .ok (if c then .tuple #[mk ((M u).getD z), .bool (M u).isSome] else mk ((M u).getD z)) w := by
  cases mo with
  | some m => exact MapAt.look E ht hz h hu c
  | none =>
    have := Maps.look_nil c keyed3 ht hz (keyOf_u hu)
    rw [this, h u]
    cases c <;> rfl
/-- A value is laid. -/
theorem MapAt.upd (E : Elem R mk enc) (ht : Try.prog.underlying t = some (.map 3 e)) {w : World} {m n : Nat} {M : Int → Option α} (h : MapAt R enc w m n M) (hn : n < maxLen) {u : Int} (hu : (Lit.int .i64 u).wf = true) (x : α) :
    ∃ w', (Instr.mapUpdate t (.map (some m)) (.int .i64 u) (mk x)).run Try.prog w = .ok () w' ∧ MapAt R enc w' m (n + 1) (setM M u (some x)) ∧ Only m w w' ∧ w'.heap.size = w.heap.size := by
  obtain ⟨D, ho, hr⟩ := h
  have hm := ho.isMap
  obtain ⟨w', hrun, h1, h2⟩ := ho.store keyed3 ht hn (keyOf_u hu) (E.of x)
  obtain ⟨es, clock, es', clock', hb, hw⟩ := h2
  refine ⟨w', hrun, ⟨_, h1, hr.put hm u x⟩, ?_, ?_⟩
  · rw [hw]
    exact ⟨rfl, rfl, rfl, by simp [ChangeMaps.setBlock], fun k _ hk => ChangeMaps.heap_setBlock_other hb _ (fun e => hk e)⟩
  · rw [hw]; simp [ChangeMaps.setBlock]
/-- A value is struck. -/
theorem MapAt.drop (ht : Try.prog.underlying t = some (.map 3 e)) {w : World} {m n : Nat} {M : Int → Option α} (h : MapAt R enc w m n M) {u : Int} (hu : (Lit.int .i64 u).wf = true) (ty : TypeId) :
    ∃ w', (Builtin.delete_ #[t, 3] ty #[.map (some m), .int .i64 u]).run Try.prog w = .ok (.tuple #[]) w' ∧ MapAt R enc w' m n (setM M u none) ∧ Only m w w' ∧ w'.heap.size = w.heap.size := by
  obtain ⟨D, ho, hr⟩ := h
  obtain ⟨w', hrun, h1, h2⟩ := ho.drop keyed3 ht (keyOf_u hu) ty
  obtain ⟨es, clock, es', clock', hb, hw⟩ := h2
  refine ⟨w', hrun, ⟨_, h1, hr.del u⟩, ?_, ?_⟩
  · rw [hw]
    exact ⟨rfl, rfl, rfl, by simp [ChangeMaps.setBlock], fun k _ hk => ChangeMaps.heap_setBlock_other hb _ (fun e => hk e)⟩
  · rw [hw]; simp [ChangeMaps.setBlock]
end
end Go.Proofs.Ytonmjkalkkfhhaa
