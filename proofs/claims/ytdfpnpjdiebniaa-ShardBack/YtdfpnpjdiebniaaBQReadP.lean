/-
  What the document's Read leans on.
-/
import Derived.Test.YtdfpnpjdiebniaaBRefBytesW
namespace Go.Proofs.Ytdfpnpjdiebniaa
open Go Go.RowKit Go.Maps

/-- Does the t-th byte tell of the member i? -/
def matchF (n : Nat) (body : List Nat) (i t : Nat) : Bool := if n ≤ 32 then decide (body[t]?.getD 0 = i) else decide (t = i / 8) && (body[t]?.getD 0).testBit (i % 8)
def inF (n : Nat) (body : List Nat) (k i : Nat) : Bool := (List.range k).any (matchF n body i)
theorem inF_zero (n : Nat) (body : List Nat) (i : Nat) : inF n body 0 i = false := rfl
theorem inF_succ (n : Nat) (body : List Nat) (k i : Nat) : inF n body (k + 1) i = (inF n body k i || matchF n body i k) := by
  unfold inF
  rw [List.range_succ, List.any_append]
  simp
def newTo (up n : Nat) (body : List Nat) (long k : Nat) : List Nat := ((List.range k).filter (inF n body long)).map fun i => up * 256 + i
theorem newTo_zero (up n : Nat) (body : List Nat) (long : Nat) : newTo up n body long 0 = [] := rfl
theorem newTo_succ (up n : Nat) (body : List Nat) (long k : Nat) : newTo up n body long (k + 1) = newTo up n body long k ++ (if inF n body long k then [up * 256 + k] else []) := by
  unfold newTo
  rw [List.range_succ, List.filter_append, List.map_append]
  congr 1
  cases h : inF n body long k <;> simp [h]
theorem newTo_len (up n : Nat) (body : List Nat) (long k : Nat) : (newTo up n body long k).length ≤ k := by
  unfold newTo
  rw [List.length_map]
  exact Nat.le_trans (List.length_filter_le _ _) (by simp)
theorem newTo_lt {up n : Nat} {body : List Nat} {long k : Nat} (hu : up ≤ 8388607) (hk : k ≤ 256) : ∀ x ∈ newTo up n body long k, x < 2147483648 := fun x hx => by
  unfold newTo at hx
  obtain ⟨i, hi, rfl⟩ := List.mem_map.1 hx
  have := List.mem_range.1 (List.mem_filter.1 hi).1
  omega

theorem inF_at {l : List Nat} {u : Nat} {p : Nat → Bool} {r : List Nat} (h : SplitOk l u p r) {i : Nat} (hi : i < 256) : inF (l[3]?.getD 0 + 1) ((l.drop 4).take (kindSz (l[3]?.getD 0 + 1))) (kindSz (l[3]?.getD 0 + 1)) i = p i := by
  have hsz := h.size
  by_cases e : l[3]?.getD 0 + 1 ≤ 32
  · have hk : kindSz (l[3]?.getD 0 + 1) = l[3]?.getD 0 + 1 := by unfold kindSz; rw [if_pos e]
    rw [hk] at hsz ⊢
    have hp := contA_inj (h.list e).2 i hi
    rw [hp]
    have hlen : ((l.drop 4).take (l[3]?.getD 0 + 1)).length = l[3]?.getD 0 + 1 := by rw [List.length_take, List.length_drop]; omega
    generalize (l.drop 4).take (l[3]?.getD 0 + 1) = B at hlen
    unfold inF ofList
    rw [Bool.eq_iff_iff, List.any_eq_true]
    unfold matchF
    simp only [if_pos e, decide_eq_true_eq]
    constructor
    · rintro ⟨t, ht, hb⟩
      have htl : t < B.length := by rw [hlen]; exact List.mem_range.1 ht
      rw [List.getElem?_eq_getElem htl] at hb
      rw [← hb]
      exact List.getElem_mem htl
    · intro hm
      obtain ⟨t, ht⟩ := List.getElem?_of_mem hm
      have htl := (List.getElem?_eq_some_iff.1 ht).1
      exact ⟨t, List.mem_range.2 (by rw [← hlen]; exact htl), by rw [ht]; rfl⟩
  · have hk : kindSz (l[3]?.getD 0 + 1) = 32 := by unfold kindSz; rw [if_neg e]
    rw [hk] at hsz ⊢
    have hp := contA_inj (h.bits (by omega)).1 i hi
    rw [hp]
    generalize (l.drop 4).take 32 = B
    unfold inF bitsP ofBytes
    rw [Bool.eq_iff_iff, List.any_eq_true]
    unfold matchF
    simp only [if_neg e, Bool.and_eq_true, decide_eq_true_eq]
    constructor
    · rintro ⟨t, ht, e1, e2⟩
      rw [← e1]; exact e2
    · intro hm
      exact ⟨i / 8, List.mem_range.2 (by omega), rfl, hm⟩
theorem newTo_at {l : List Nat} {u : Nat} {N : Nat → Bool} {r : List Nat} (h : SplitOk l u (atU N u) r) : newTo u (l[3]?.getD 0 + 1) ((l.drop 4).take (kindSz (l[3]?.getD 0 + 1))) (kindSz (l[3]?.getD 0 + 1)) 256 = ofU N 0 u := by
  unfold newTo ofU lowsL
  have e1 : (List.range 256).filter (inF (l[3]?.getD 0 + 1) ((l.drop 4).take (kindSz (l[3]?.getD 0 + 1))) (kindSz (l[3]?.getD 0 + 1))) = (List.range 256).filter fun l => decide (0 - 256 * u ≤ l) && atU N u l :=
    List.filter_congr fun i hi => by
      rw [inF_at h (List.mem_range.1 hi)]
      simp
  rw [e1]
  refine List.map_congr_left fun i _ => ?_
  omega

/-- So far: whatever set has all these bytes has these members, and its bytes go on like this. -/
structure QD (x r : List UInt8) (out : List Nat) : Prop where
  all : ∀ N : Nat → Bool, (∀ n, N n = true → n < 2147483648) → bytesM N = x → ∃ i, i ≤ (uppers N 0).length ∧ r = restB N (uppers N 0) i ∧ out = ((uppers N 0).take i).flatMap (ofU N 0)
theorem QD.start (x : List UInt8) : QD x x [] := ⟨fun N _ h => ⟨0, Nat.zero_le _, by rw [← h]; rfl, rfl⟩⟩
/-- What is read next. -/
theorem QD.next {x r : List UInt8} {out : List Nat} (h : QD x r out) (hr : r ≠ []) {N : Nat → Bool} (hN : ∀ n, N n = true → n < 2147483648) (hx : bytesM N = x) :
    ∃ i u, i < (uppers N 0).length ∧ (uppers N 0)[i]? = some u ∧ out = ((uppers N 0).take i).flatMap (ofU N 0) ∧ SplitOk (toN r) u (atU N u) (toN (restB N (uppers N 0) (i + 1))) := by
  obtain ⟨i, hi, hl, ho⟩ := h.all N hN hx
  have hlt : i < (uppers N 0).length := by
    rcases Nat.lt_or_ge i (uppers N 0).length with h | h
    · exact h
    · have : restB N (uppers N 0) i = [] := by unfold restB; rw [List.drop_of_length_le h]; rfl
      exact absurd (hl.trans this) hr
  obtain ⟨u, hu⟩ : ∃ v, (uppers N 0)[i]? = some v := ⟨_, List.getElem?_eq_getElem hlt⟩
  have hm := mem_uppers.1 (List.mem_of_getElem? hu)
  refine ⟨i, u, hlt, hu, ho, ?_⟩
  have hok := split_part hm.1 hm.2.2 (restB N (uppers N 0) (i + 1))
  rw [← restB_step hu, ← hl] at hok
  exact hok
theorem QD.step {x r r' : List UInt8} {out : List Nat} (h : QD x r out) (hr : r ≠ []) (hrest : toN r' = (toN r).drop (4 + kindSz ((toN r)[3]?.getD 0 + 1))) :
    QD x r' (out ++ newTo ((toN r)[0]?.getD 0 * 65536 + (toN r)[1]?.getD 0 * 256 + (toN r)[2]?.getD 0) ((toN r)[3]?.getD 0 + 1) (((toN r).drop 4).take (kindSz ((toN r)[3]?.getD 0 + 1))) (kindSz ((toN r)[3]?.getD 0 + 1)) 256) := ⟨fun N hN hx => by
  obtain ⟨i, u, hlt, hu, ho, hok⟩ := h.next hr hN hx
  refine ⟨i + 1, hlt, toN_inj (hrest.trans hok.rest.symm), ?_⟩
  rw [take_snoc hu, List.flatMap_append, ← ho, ← hok.upper, newTo_at hok]
  simp⟩
theorem QD.done {x : List UInt8} {out : List Nat} (h : QD x [] out) {N : Nat → Bool} (hN : ∀ n, N n = true → n < 2147483648) (hx : bytesM N = x) : out = memFrom N 0 := by
  obtain ⟨i, hi, hl, ho⟩ := h.all N hN hx
  have hie : i = (uppers N 0).length := by
    rcases Nat.lt_or_ge i (uppers N 0).length with h | h
    · obtain ⟨u, hu⟩ : ∃ v, (uppers N 0)[i]? = some v := ⟨_, List.getElem?_eq_getElem h⟩
      rw [restB_step hu] at hl
      exact absurd hl.symm (partB_ne _ _ _)
    · omega
  rw [ho, hie, List.take_length]
  rfl
end Go.Proofs.Ytdfpnpjdiebniaa
