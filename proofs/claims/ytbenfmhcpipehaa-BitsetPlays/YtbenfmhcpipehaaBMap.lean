/-
  A set's containers in a map, in memory.
-/
import Derived.Test.YtbenfmhcpipehaaBWriteW
import Derived.Maps.RangeWalk
import Derived.Maps.OwnSet
import Derived.Maps.OwnOps
import Derived.Maps.Ext
namespace Go.Proofs.Ytbenfmhcpipehaa
open Go Go.RowKit Go.Maps

/-- What a cell of a container is as a number. -/
def valAt (cs : Array Value) (i : Nat) : Nat := match cs[i]? with
  | some (.int _ n) => n.toNat
  | _ => 0
def okCell : Value → Bool
  | .int .u8 n => decide (0 ≤ n) && decide (n < 256)
  | _ => false
/-- A container as a datum. -/
def dC (p : Nat → Bool) : DataW Unit := .lit (.string ((List.range 32).map fun i => UInt8.ofNat (bt p i)))
/-- How a container reads. -/
def cR : Value → Option (DataW Unit × List MemPlace)
  | .agg cs => if cs.size = 32 ∧ cs.all okCell = true then some (dC (ofBytes (valAt cs)), []) else none
  | _ => none

theorem dC_inj {p q : Nat → Bool} (h : dC p = dC q) : contA p = contA q := by
  unfold dC at h
  injection h with h
  injection h with h
  refine contA_congr fun l hl => ?_
  have h1 := congrArg (fun x : List UInt8 => x[l / 8]?) h
  simp only [List.getElem?_map, List.getElem?_range (show l / 8 < 32 by omega), Option.map_some] at h1
  injection h1 with h1
  have h2 := congrArg UInt8.toNat h1
  simp only [UInt8.toNat_ofNat', Nat.reducePow, Nat.mod_eq_of_lt (bt_lt p _), Nat.mod_eq_of_lt (bt_lt q _)] at h2
  have e : l = 8 * (l / 8) + l % 8 := by omega
  rw [e, ← bt_testBit p (l / 8) (l % 8) (by omega), ← bt_testBit q (l / 8) (l % 8) (by omega), h2]
theorem dC_congr {p q : Nat → Bool} (h : ∀ l, l < 256 → p l = q l) : dC p = dC q := by
  unfold dC
  congr 2
  refine List.map_congr_left fun i hi => ?_
  have := List.mem_range.1 hi
  rw [bt_congr fun j hj => h _ (by omega)]

theorem okCell_inv {v : Value} (h : okCell v = true) : ∃ n : Nat, v = .int .u8 (n : Nat) ∧ n < 256 := by
  unfold okCell at h
  split at h
  · rename_i n
    simp at h
    exact ⟨n.toNat, by congr 1; omega, by omega⟩
  · cases h

theorem cR_mk (p : Nat → Bool) : cR (.agg (contA p)) = some (dC p, []) := by
  unfold cR
  have h1 : (contA p).all okCell = true := by
    refine Array.all_eq_true_iff_forall_mem.2 fun v hv => ?_
    obtain ⟨i, rfl⟩ := Array.mem_ofFn.1 hv
    have := bt_lt p i.val
    simp [okCell]
    omega
  simp only
  rw [if_pos ⟨contA_size p, h1⟩]
  refine congrArg (fun d => some (d, [])) (dC_congr fun l hl => ?_)
  unfold ofBytes valAt
  rw [contA_get p (l / 8) (by omega)]
  simp only [Int.toNat_natCast]
  rw [bt_testBit p _ _ (by omega), show 8 * (l / 8) + l % 8 = l by omega]

theorem cells_eq {cs : Array Value} (h1 : cs.size = 32) (h2 : cs.all okCell = true) : cs = contA (ofBytes (valAt cs)) := by
  refine Array.ext_getElem? fun i => ?_
  by_cases hi : i < 32
  · have hi1 : i < cs.size := by omega
    obtain ⟨v, hv⟩ : ∃ v, cs[i]? = some v := ⟨_, Array.getElem?_eq_getElem hi1⟩
    obtain ⟨n, hn, hlt⟩ := okCell_inv (Array.all_eq_true_iff_forall_mem.1 h2 v (Array.mem_of_getElem? hv))
    have hv2 : valAt cs i = n := by
      unfold valAt
      rw [hv, hn]
      simp
    rw [contA_get _ i hi, bt_ofBytes _ _ (by rw [hv2]; exact hlt), hv2, hv, hn]
  · rw [Array.getElem?_eq_none (by omega), Array.getElem?_eq_none (by rw [contA_size]; omega)]

theorem cR_inv {v : Value} {y : DataW Unit × List MemPlace} (h : cR v = some y) : ∃ p, v = .agg (contA p) ∧ y = (dC p, []) := by
  unfold cR at h
  split at h
  · rename_i cs
    split at h
    · rename_i hc
      injection h with h
      exact ⟨ofBytes (valAt cs), congrArg Value.agg (cells_eq hc.1 hc.2), h.symm⟩
    · cases h
  · cases h

/-- The number of upper parts. -/
def NU : Nat := 8388608
theorem NU_eq : NU = 8388608 := rfl

/-- The container of an upper part. -/
def atU (M : Nat → Bool) (u : Nat) (l : Nat) : Bool := M (256 * u + l)
/-- Has it members? -/
def liveU (M : Nat → Bool) (u : Nat) : Prop := ∃ l, l < 256 ∧ M (256 * u + l) = true

def keyU (u : Nat) : Lit := .int .i64 (u : Nat)
theorem keyU_inj {u v : Nat} (h : keyU u = keyU v) : u = v := by
  unfold keyU at h
  injection h with _ h
  omega
theorem keyU_lit (u : Nat) : WideAt.IsKeyLit (keyU u) := by unfold keyU; simp [WideAt.IsKeyLit]

/-- What a map says of a set. -/
structure Reads (D : DataW Unit) (M : Nat → Bool) : Prop where
  val : ∀ u, Maps.has D (keyU u) = true → ∀ z, D.atKey (keyU u) z = dC (atU M u)
  has : ∀ kl, Maps.has D kl = true ↔ ∃ u, kl = keyU u ∧ liveU M u
  bound : ∀ n, M n = true → n < 2147483648

theorem liveU_lt {M : Nat → Bool} (h : ∀ n, M n = true → n < 2147483648) {u : Nat} (hu : liveU M u) : u < NU := by
  obtain ⟨l, hl, hm⟩ := hu
  have := h _ hm
  rw [NU_eq]
  omega
theorem dead_at {M : Nat → Bool} {u : Nat} (h : ¬ liveU M u) : ∀ l, l < 256 → atU M u l = false := fun l hl => by
  cases e : atU M u l
  · rfl
  · exact absurd ⟨l, hl, e⟩ h

theorem Reads.at {D : DataW Unit} {M : Nat → Bool} (h : Reads D M) (u : Nat) : D.atKey (keyU u) (dC fun _ => false) = dC (atU M u) := by
  cases hh : Maps.has D (keyU u)
  · rw [Maps.atKey_of_not_has hh]
    refine dC_congr fun l hl => (dead_at (fun hu => ?_) l hl).symm
    rw [(h.has _).2 ⟨u, rfl, hu⟩] at hh
    cases hh
  · exact h.val u hh _

theorem Reads.empty {M : Nat → Bool} (h : ∀ n, M n = false) : Reads (.map []) M where
  val u hu := by simp [Maps.has] at hu
  has kl := by
    simp [Maps.has]
    rintro u rfl ⟨l, _, hl⟩
    rw [h] at hl
    cases hl
  bound n hn := by rw [h] at hn; cases hn

/-- One container is laid anew. -/
def setU (M : Nat → Bool) (u : Nat) (q : Nat → Bool) (n : Nat) : Bool := if n / 256 = u then q (n % 256) else M n
theorem atU_setU_same (M : Nat → Bool) (u : Nat) (q : Nat → Bool) : ∀ l, l < 256 → atU (setU M u q) u l = q l := fun l hl => by
  unfold atU setU
  rw [if_pos (by omega), show (256 * u + l) % 256 = l by omega]
theorem atU_setU_other (M : Nat → Bool) (u v : Nat) (q : Nat → Bool) (h : v ≠ u) : ∀ l, l < 256 → atU (setU M u q) v l = atU M v l := fun l hl => by
  unfold atU setU
  rw [if_neg (by omega)]

theorem Reads.put {D : DataW Unit} {M : Nat → Bool} (h : Reads D M) (hD : Maps.IsMap D) {u : Nat} (hu : u < NU) {q : Nat → Bool} (hq : ∃ l, l < 256 ∧ q l = true) : Reads (D.put (keyU u) (dC q)) (setU M u q) where
  val v hv z := by
    by_cases e : v = u
    · subst e
      rw [Maps.atKey_put_same hD (keyU_lit v)]
      exact dC_congr fun l hl => (atU_setU_same M v q l hl).symm
    · have hne : keyU v ≠ keyU u := fun q => e (keyU_inj q)
      rw [Maps.has_put_other hne] at hv
      rw [Maps.atKey_put_other hne, h.val v hv]
      exact dC_congr fun l hl => (atU_setU_other M u v q e l hl).symm
  has kl := by
    by_cases e : kl = keyU u
    · subst e
      rw [Maps.has_put_same hD (keyU_lit u)]
      refine ⟨fun _ => ⟨u, rfl, ?_⟩, fun _ => rfl⟩
      obtain ⟨l, hl, hql⟩ := hq
      exact ⟨l, hl, by have := atU_setU_same M u q l hl; unfold atU at this; rw [this, hql]⟩
    · rw [Maps.has_put_other e, h.has]
      constructor
      · rintro ⟨v, rfl, l, hl, hm⟩
        exact ⟨v, rfl, l, hl, by have := atU_setU_other M u v q (fun q => e (by rw [q])) l hl; unfold atU at this; rw [this, hm]⟩
      · rintro ⟨v, rfl, l, hl, hm⟩
        exact ⟨v, rfl, l, hl, by have := atU_setU_other M u v q (fun q => e (by rw [q])) l hl; unfold atU at this; rw [← this, hm]⟩
  bound n hn := by
    unfold setU at hn
    split at hn
    · rename_i e
      rw [NU_eq] at hu
      omega
    · exact h.bound n hn

/-- One container is struck. -/
theorem Reads.del {D : DataW Unit} {M : Nat → Bool} (h : Reads D M) {u : Nat} : Reads (D.del (keyU u)) (setU M u fun _ => false) where
  val v hv z := by
    by_cases e : v = u
    · subst e
      rw [Maps.has_del_same] at hv
      cases hv
    · have hne : keyU v ≠ keyU u := fun q => e (keyU_inj q)
      rw [Maps.has_del_other hne] at hv
      rw [Maps.atKey_del_other hne, h.val v hv]
      exact dC_congr fun l hl => (atU_setU_other M u v _ e l hl).symm
  has kl := by
    by_cases e : kl = keyU u
    · subst e
      rw [Maps.has_del_same]
      constructor
      · intro h; cases h
      · rintro ⟨v, hv, l, hl, hm⟩
        have hv := keyU_inj hv
        subst hv
        have := atU_setU_same M u (fun _ => false) l hl
        unfold atU at this
        rw [this] at hm
        cases hm
    · rw [Maps.has_del_other e, h.has]
      constructor
      · rintro ⟨v, rfl, l, hl, hm⟩
        exact ⟨v, rfl, l, hl, by have := atU_setU_other M u v (fun _ => false) (fun q => e (by rw [q])) l hl; unfold atU at this; rw [this, hm]⟩
      · rintro ⟨v, rfl, l, hl, hm⟩
        exact ⟨v, rfl, l, hl, by have := atU_setU_other M u v (fun _ => false) (fun q => e (by rw [q])) l hl; unfold atU at this; rw [← this, hm]⟩
  bound n hn := by
    unfold setU at hn
    split at hn
    · cases hn
    · exact h.bound n hn

theorem nodup_len : ∀ (N : Nat) (l : List Nat), l.Nodup → (∀ x ∈ l, x < N) → l.length ≤ N
  | 0, l, _, h => by
    cases l with
    | nil => simp
    | cons x l => have := h x (by simp); omega
  | N + 1, l, hn, h => by
    have h1 := nodup_len N (l.erase N) (hn.erase N) (fun x hx => by
      have h2 := h x (List.mem_of_mem_erase hx)
      have h3 : x ≠ N := fun e => by subst e; exact (List.Nodup.not_mem_erase hn) hx
      omega)
    have h2 := List.length_erase (a := N) (l := l)
    split at h2 <;> omega
def litN : Lit → Nat
  | .int _ n => n.toNat
  | _ => 0
theorem keys_len {l : List (Lit × DataW Unit)} {N : Nat} (hp : l.Pairwise (fun p q => p.1 ≠ q.1)) (h : ∀ p ∈ l, ∃ u, u < N ∧ p.1 = keyU u) : l.length ≤ N := by
  have := nodup_len N (l.map fun p => litN p.1) (by
    unfold List.Nodup
    rw [List.pairwise_map]
    refine hp.imp_of_mem fun {p q} hpm hqm hne e => ?_
    obtain ⟨u, _, hu⟩ := h p hpm
    obtain ⟨v, _, hv⟩ := h q hqm
    rw [hu, hv] at e
    simp [litN, keyU] at e
    rw [hu, hv, e] at hne
    exact hne rfl) (by
    intro x hx
    obtain ⟨p, hpm, rfl⟩ := List.mem_map.1 hx
    obtain ⟨u, hu, e⟩ := h p hpm
    rw [e]
    simp [litN, keyU]
    exact hu)
  simpa using this

theorem keyed3 : Keyed Try.prog 3 := Maps.int_keyed Try.underlying3

/-- Block m is a map that says M. -/
def MapAt (w : World) (m : Nat) (M : Nat → Bool) : Prop := ∃ D : DataW Unit, w.ownsMap Try.prog 3 cR m NU D ∧ Reads D M

theorem Reads.size {D : DataW Unit} {M : Nat → Bool} (h : Reads D M) {w : World} {m n : Nat} (ho : w.ownsMap Try.prog 3 cR m n D) : w.ownsMap Try.prog 3 cR m NU D := by
  obtain ⟨es0, he, hp, hk⟩ := ho.entries keyed3
  obtain ⟨es, clock, hb, F, _, hD⟩ := ho
  refine ⟨es, clock, hb, F, ?_, hD⟩
  have e1 : es.size = es0.length := by
    rw [hD] at he
    injection he with he
    rw [← he, length_read]
  rw [e1]
  refine keys_len hp fun p hpm => ?_
  have hh : Maps.has D p.1 = true := by
    rw [he]
    exact List.any_eq_true.2 ⟨p, hpm, WideAt.sameKey_self (hk p hpm)⟩
  obtain ⟨u, hu, hl⟩ := (h.has p.1).1 hh
  exact ⟨u, liveU_lt h.bound hl, hu⟩
end Go.Proofs.Ytbenfmhcpipehaa
