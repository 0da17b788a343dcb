/-
  Towards ShardBack: which rows of chunks are no set's; a chunk's upper set anew.
-/
import Derived.Test.YtdfpnpjdiebniaaHJoinW
import Derived.Test.YtdfpnpjdiebniaaHLaw
import Derived.Test.YtdfpnpjdiebniaaBBackP
namespace Go.Proofs.Ytdfpnpjdiebniaa
open Go Go.RowKit

theorem chk_at {ps : List (List Nat)} {i : Nat} {u : Int} {x : ByteArray} (h : (chk ps)[i]? = some (u, x)) : ∃ p, ps[i]? = some p ∧ x = dataOf p := by
  have hi := (List.getElem?_eq_some_iff.1 h).1
  rw [chk_len] at hi
  refine ⟨_, List.getElem?_eq_getElem hi, ?_⟩
  have h2 := chk_get ps i _ (List.getElem?_eq_getElem hi)
  rw [h] at h2
  injection h2 with h2
  exact (Prod.mk.inj h2).2
theorem chk_data {ps qs : List (List Nat)} (hp : Good ps) (hq : Good qs) {i : Nat} {u v : Int} {x : ByteArray} (h1 : (chk ps)[i]? = some (u, x)) (h2 : (chk qs)[i]? = some (v, x)) : ps[i]? = qs[i]? := by
  obtain ⟨p, a1, a2⟩ := chk_at h1
  obtain ⟨q, b1, b2⟩ := chk_at h2
  rw [a1, b1, dataOf_inj (hp.at a1).1 (hq.at b1).1 (a2.symm.trans b2)]
theorem chk_upper {ps : List (List Nat)} (hg : Good ps) {i : Nat} {u : Int} {x : ByteArray} (h : (chk ps)[i]? = some (u, x)) : 0 ≤ u ∧ u ≤ 2147483647 := by
  obtain ⟨p, hp, _⟩ := chk_at h
  have h2 := chk_get ps i p hp
  rw [h] at h2
  injection h2 with h2
  have h3 := (Prod.mk.inj h2).1
  have h4 := last_lt (hg.at hp).1
  split at h3 <;> omega
theorem back_bad1 {ps : List (List Nat)} (hg : Good ps) {k : Nat} {u u' : Int} {s : ByteArray} (hk : (chk ps)[k]? = some (u, s)) (hu : u' ≠ u) : ∀ qs, Good qs → (chk ps).set k (u', s) ≠ chk qs := by
  intro qs hq e
  have hkl := (List.getElem?_eq_some_iff.1 hk).1
  have hpq : ps = qs := by
    refine List.ext_getElem? fun i => ?_
    by_cases hi : i < ps.length
    · obtain ⟨⟨v, x⟩, hx⟩ : ∃ y, (chk ps)[i]? = some y := ⟨_, List.getElem?_eq_getElem (by rw [chk_len]; exact hi)⟩
      by_cases hik : k = i
      · subst hik
        have : (chk qs)[k]? = some (u', s) := by rw [← e, List.getElem?_set_self hkl]
        exact chk_data hg hq hk this
      · have : (chk qs)[i]? = some (v, x) := by rw [← e, List.getElem?_set_ne hik]; exact hx
        exact chk_data hg hq hx this
    · have hl : ps.length = qs.length := by
        have := congrArg List.length e
        rw [List.length_set, chk_len, chk_len] at this
        exact this
      rw [List.getElem?_eq_none (by omega), List.getElem?_eq_none (by omega)]
  subst hpq
  have h1 : ((chk ps).set k (u', s))[k]? = some (u', s) := List.getElem?_set_self hkl
  rw [e, hk] at h1
  injection h1 with h1
  exact hu (Prod.mk.inj h1).1.symm
theorem Good.twice {qs : List (List Nat)} (hq : Good qs) {i j : Nat} (hij : i < j) {p : List Nat} (h1 : qs[i]? = some p) (h2 : qs[j]? = some p) : False := by
  have hr := (List.pairwise_flatten.1 hq.nums.rises).2
  obtain ⟨hi, e1⟩ := List.getElem?_eq_some_iff.1 h1
  obtain ⟨hj, e2⟩ := List.getElem?_eq_some_iff.1 h2
  have h := List.pairwise_iff_getElem.1 hr i j hi hj hij
  rw [e1, e2] at h
  obtain ⟨_, ha, _⟩ := hq.at h1
  have hm := head_mem ha
  exact Nat.lt_irrefl _ (h _ hm _ hm)
theorem back_bad2 {ps : List (List Nat)} {k : Nat} {y : Ck} (hk : (chk ps)[k]? = some y) : ∀ qs, Good qs → chk ps ++ [y] ≠ chk qs := by
  intro qs hq e
  have hkl := (List.getElem?_eq_some_iff.1 hk).1
  have h1 : (chk qs)[k]? = some y := by rw [← e, List.getElem?_append_left hkl]; exact hk
  have h2 : (chk qs)[(chk ps).length]? = some y := by rw [← e]; simp
  obtain ⟨u, s⟩ := y
  obtain ⟨p, a1, a2⟩ := chk_at h1
  obtain ⟨q, b1, b2⟩ := chk_at h2
  have := dataOf_inj (hq.at a1).1 (hq.at b1).1 (a2.symm.trans b2)
  subst this
  exact hq.twice hkl a1 b1
theorem dataOf_size (p : List Nat) : (dataOf p).size ≤ 2147483648 := by
  have := bytesM_len (ofN p)
  show (bytesM (ofN p)).toArray.size ≤ _
  rw [List.size_toArray]
  omega
theorem chk_size {ps : List (List Nat)} : ∀ c ∈ chk ps, c.2.size ≤ 2147483648 := fun c hc => by
  obtain ⟨i, hi⟩ := List.mem_iff_getElem?.1 hc
  obtain ⟨u, x⟩ := c
  obtain ⟨p, _, e⟩ := chk_at hi
  show x.size ≤ _
  rw [e]
  exact dataOf_size p
theorem ccells_setU : ∀ (L : List Ck) (i : Nat) (u u' : Int) (t : ByteArray), L[i]? = some (u, t) → ccells (L.set i (u', t)) = (ccells L).set (i * 2) (.int .i64 u')
  | a :: l, 0, u, u', t, h => by
    have e : a = (u, t) := by simpa using h
    subst e
    rfl
  | a :: l, i + 1, u, u', t, h => by
    have ih := ccells_setU l i u u' t (by simpa using h)
    have e : ∀ l', ccells (a :: l') = [.int .i64 a.1, .string a.2] ++ ccells l' := fun _ => rfl
    rw [List.set_cons_succ, e, e, ih]
    rw [show (i + 1) * 2 = (i * 2) + 2 by omega]
    rfl
theorem OwnChunks.putU {w : World} {base g n cap : Nat} {L : List Ck} (h : OwnChunks w base (.slice (some ⟨g, 0, none⟩) n cap) L) {i : Nat} {u : Int} {t : ByteArray} (hi : L[i]? = some (u, t)) (u' : Int) :
    OwnChunks (w.setCell ⟨g, i * 2, none⟩ (.int .i64 u')) base (.slice (some ⟨g, 0, none⟩) n cap) (L.set i (u', t)) := by
  obtain ⟨g', cap', cur, e, h1, h2, h3, h4, h5, h6⟩ := h.row (List.getElem?_eq_some_iff.1 hi).1
  injection e with e1 e2 e3
  injection e1 with e1
  injection e1 with e1
  subst e1 e2 e3
  have hl : (L.set i (u', t)).length = L.length := List.length_set
  unfold OwnChunks
  rw [hl]
  refine ⟨by rw [ccells_len, hl], .inr ⟨g, cap, _, rfl, h1, h2.set (i * 2) (.int .i64 u'), h3, h4, by rw [Array.size_setIfInBounds]; exact h5, ?_⟩⟩
  rw [ccells_setU L i u u' t hi, ← h6, Array.toList_setIfInBounds, List.take_set]
theorem OwnChunks.putD {w : World} {base g n cap : Nat} {L : List Ck} (h : OwnChunks w base (.slice (some ⟨g, 0, none⟩) n cap) L) {i : Nat} {u : Int} {t : ByteArray} (hi : L[i]? = some (u, t)) (s : ByteArray) :
    OwnChunks (w.setCell ⟨g, i * 2 + 1, none⟩ (.string s)) base (.slice (some ⟨g, 0, none⟩) n cap) (L.set i (u, s)) := by
  obtain ⟨g', cap', cur, e, h1, h2, h3, h4, h5, h6⟩ := h.row (List.getElem?_eq_some_iff.1 hi).1
  injection e with e1 e2 e3
  injection e1 with e1
  injection e1 with e1
  subst e1 e2 e3
  exact OwnChunks.setD h1 h2 h3 h4 h5 h6 hi s
/-- A chunk put back where another one had stood meanwhile. -/
theorem OwnChunks.putBack {w : World} {base g n cap : Nat} {L : List Ck} {i : Nat} {u u' : Int} {s : ByteArray} (hi : L[i]? = some (u, s)) (h : OwnChunks w base (.slice (some ⟨g, 0, none⟩) n cap) (L.set i (u', s))) :
    OwnChunks ((w.setCell ⟨g, i * 2, none⟩ (.int .i64 u)).setCell ⟨g, i * 2 + 1, none⟩ (.string s)) base (.slice (some ⟨g, 0, none⟩) n cap) L := by
  have hil := (List.getElem?_eq_some_iff.1 hi).1
  have e1 : (L.set i (u', s))[i]? = some (u', s) := List.getElem?_set_self hil
  have h1 := h.putU e1 u
  rw [List.set_set] at h1
  have e2 : L.set i (u, s) = L := by
    refine List.ext_getElem? fun j => ?_
    by_cases hj : i = j
    · subst hj; rw [List.getElem?_set_self hil, hi]
    · rw [List.getElem?_set_ne hj]
  rw [e2] at h1
  have h2 := h1.putD hi s
  rw [e2] at h2
  exact h2
end Go.Proofs.Ytdfpnpjdiebniaa
