/-
  What shard's read does of chunks that are no set's: what holds of those that were read so far. Nothing of memory.
-/
import Derived.Test.YtdfpnpjdiebniaaHGD
namespace Go.Proofs.Ytdfpnpjdiebniaa
open Go Go.RowKit

def fitsB (n g : Nat) (u : Int) (last : Bool) : Bool := if last then decide (1 ≤ n) && decide (n ≤ 64) && decide (u = 2147483647) else decide (n = 64) && decide (u = (g : Int))
/-- The chunks up to here may be a set's. -/
structure Pre (L : List Ck) (ps : List (List Nat)) : Prop where
  len : ps.length ≤ L.length
  nums : ∀ p ∈ ps, Nums p
  data : ∀ (j : Nat) p, ps[j]? = some p → ∃ u, L[j]? = some (u, dataOf p) ∧ fitsB p.length (p.getLastD 0) u (decide (j + 1 = L.length)) = true
  rise : ∀ (j : Nat) p, ps[j]? = some p → bef ps j < (p.headD 0 : Nat)
theorem Pre.nil (L : List Ck) : Pre L [] := ⟨Nat.zero_le _, fun p hp => by (cases hp), fun j p hp => by simp at hp, fun j p hp => by simp at hp⟩
theorem bef_app (ps : List (List Nat)) (p : List Nat) {j : Nat} (hj : j ≤ ps.length) : bef (ps ++ [p]) j = bef ps j := by
  cases j with
  | zero => rfl
  | succ i =>
    show ((((ps ++ [p])[i]?.getD []).getLastD 0 : Nat) : Int) = (((ps[i]?.getD []).getLastD 0 : Nat) : Int)
    rw [List.getElem?_append_left (by omega)]
theorem Pre.add {L : List Ck} {ps : List (List Nat)} (h : Pre L ps) {p : List Nat} {u : Int} (hp : Nums p) (hd : L[ps.length]? = some (u, dataOf p)) (hf : fitsB p.length (p.getLastD 0) u (decide (ps.length + 1 = L.length)) = true) (hr : bef ps ps.length < (p.headD 0 : Nat)) : Pre L (ps ++ [p]) := by
  have hl := (List.getElem?_eq_some_iff.1 hd).1
  have key : ∀ (j : Nat) q, (ps ++ [p])[j]? = some q → (j < ps.length ∧ ps[j]? = some q) ∨ (j = ps.length ∧ q = p) := fun j q hq => by
    by_cases hj : j < ps.length
    · rw [List.getElem?_append_left hj] at hq
      exact .inl ⟨hj, hq⟩
    · rw [List.getElem?_append_right (by omega)] at hq
      have : j - ps.length = 0 := by
        have := (List.getElem?_eq_some_iff.1 hq).1
        simp at this
        omega
      rw [this] at hq
      simp at hq
      exact .inr ⟨by omega, hq.symm⟩
  refine ⟨by rw [List.length_append]; simp; omega, fun q hq => ?_, fun j q hq => ?_, fun j q hq => ?_⟩
  · rcases List.mem_append.1 hq with hq | hq
    · exact h.nums q hq
    · rw [List.mem_singleton.1 hq]; exact hp
  · rcases key j q hq with ⟨_, hq⟩ | ⟨rfl, rfl⟩
    · exact h.data j q hq
    · exact ⟨u, hd, hf⟩
  · rcases key j q hq with ⟨hj, hq⟩ | ⟨rfl, rfl⟩
    · rw [bef_app ps p (by omega)]; exact h.rise j q hq
    · rw [bef_app ps q (Nat.le_refl _)]; exact hr
theorem fits_one {n g : Nat} {u : Int} {last : Bool} (h : fitsB n g u last = true) : 1 ≤ n ∧ n ≤ 64 ∧ (last = false → n = 64) ∧ u = (if last then 2147483647 else (g : Int)) := by
  unfold fitsB at h
  cases last
  · simp at h
    exact ⟨by omega, by omega, fun _ => h.1, by simpa using h.2⟩
  · simp at h
    exact ⟨h.1.1, h.1.2, fun q => by (cases q), by simpa using h.2⟩
theorem parted_of : ∀ {ps : List (List Nat)}, (∀ (j : Nat) p, ps[j]? = some p → 1 ≤ p.length ∧ p.length ≤ 64 ∧ (j + 1 < ps.length → p.length = 64)) → Parted ps
  | [], _ => trivial
  | [p], h => ⟨(h 0 p rfl).1, (h 0 p rfl).2.1⟩
  | p :: q :: r, h => ⟨(h 0 p rfl).2.2 (by simp), parted_of fun j x hx => by
    have := h (j + 1) x (by simpa using hx)
    exact ⟨this.1, this.2.1, fun hj => this.2.2 (by simpa using hj)⟩⟩
theorem head_min {p : List Nat} (h : Nums p) : ∀ x ∈ p, p.headD 0 ≤ x := fun x hx => by
  cases p with
  | nil => cases hx
  | cons a l =>
    rcases List.mem_cons.1 hx with rfl | hx
    · exact Nat.le_refl _
    · exact Nat.le_of_lt ((List.pairwise_cons.1 h.rises).1 x hx)
theorem last_maxB {p : List Nat} (h : Nums p) (h1 : 1 ≤ p.length) : ∀ x ∈ p, x ≤ p.getLastD 0 := fun x hx => by
  obtain ⟨i, hi⟩ := List.mem_iff_getElem?.1 hx
  obtain ⟨hil, rfl⟩ := List.getElem?_eq_some_iff.1 hi
  have e : p.getLastD 0 = p[p.length - 1]'(by omega) := by
    have hh := last_getD p (by omega)
    rw [List.getD_eq_getElem?_getD, List.getElem?_map, List.getElem?_eq_getElem (by omega)] at hh
    have : ((p[p.length - 1]'(by omega) : Nat) : Int) = ((p.getLastD 0 : Nat) : Int) := hh
    omega
  rw [e]
  rcases Nat.lt_or_ge i (p.length - 1) with h2 | h2
  · exact Nat.le_of_lt (List.pairwise_iff_getElem.1 h.rises i (p.length - 1) hil (by omega) h2)
  · have : i = p.length - 1 := by omega
    subst this
    exact Nat.le_refl _
/-- Parts each of which stands ahead of the next one. -/
theorem flat_nums : ∀ {ps : List (List Nat)}, (∀ p ∈ ps, Nums p ∧ 1 ≤ p.length) → (∀ (j : Nat) p q, ps[j]? = some p → ps[j + 1]? = some q → p.getLastD 0 < q.headD 0) → Nums ps.flatten ∧ ∀ p, ps[0]? = some p → ∀ x ∈ ps.flatten, p.headD 0 ≤ x
  | [], _, _ => ⟨⟨List.Pairwise.nil, fun x hx => by simp at hx⟩, fun p hp => by simp at hp⟩
  | p :: ps, h1, h2 => by
    obtain ⟨ih1, ih2⟩ := flat_nums (ps := ps) (fun q hq => h1 q (List.mem_cons_of_mem _ hq)) (fun j a b ha hb => h2 (j + 1) a b (by simpa using ha) (by simpa using hb))
    obtain ⟨hp, hp1⟩ := h1 p List.mem_cons_self
    have hlt : ∀ x ∈ p, ∀ y ∈ ps.flatten, x < y := fun x hx y hy => by
      cases ps with
      | nil => simp at hy
      | cons q r =>
        have a1 := last_maxB hp hp1 x hx
        have a2 := h2 0 p q rfl rfl
        have a3 := ih2 q rfl y hy
        omega
    refine ⟨⟨?_, ?_⟩, ?_⟩
    · rw [List.flatten_cons]
      exact List.pairwise_append.2 ⟨hp.rises, ih1.rises, hlt⟩
    · intro x hx
      rw [List.flatten_cons] at hx
      rcases List.mem_append.1 hx with hx | hx
      · exact hp.bound x hx
      · exact ih1.bound x hx
    · intro p' hp' x hx
      have e : p = p' := by simpa using hp'
      subst e
      rw [List.flatten_cons] at hx
      rcases List.mem_append.1 hx with hx | hx
      · exact head_min hp x hx
      · have := hlt _ (head_mem hp1) x hx
        omega
theorem Pre.good {L : List Ck} {ps : List (List Nat)} (h : Pre L ps) (hl : ps.length = L.length) : Good ps ∧ L = chk ps := by
  have hone : ∀ (j : Nat) p, ps[j]? = some p → 1 ≤ p.length ∧ p.length ≤ 64 ∧ (j + 1 < ps.length → p.length = 64) := fun j p hp => by
    obtain ⟨u, _, hf⟩ := h.data j p hp
    obtain ⟨a1, a2, a3, _⟩ := fits_one hf
    exact ⟨a1, a2, fun hj => a3 (decide_eq_false (by omega))⟩
  have hpar := parted_of hone
  have hnum := (flat_nums (ps := ps) (fun p hp => ⟨h.nums p hp, (hpar.one p hp).1⟩) (fun j p q hp hq => by
    have := h.rise (j + 1) q hq
    have e : bef ps (j + 1) = ((p.getLastD 0 : Nat) : Int) := by show ((((ps[j]?.getD []).getLastD 0 : Nat)) : Int) = _; rw [hp]; rfl
    rw [e] at this
    omega)).1
  refine ⟨⟨hpar, hnum⟩, ?_⟩
  refine List.ext_getElem? fun j => ?_
  by_cases hj : j < ps.length
  · obtain ⟨p, hp⟩ : ∃ p, ps[j]? = some p := ⟨_, List.getElem?_eq_getElem hj⟩
    obtain ⟨u, hu, hf⟩ := h.data j p hp
    rw [hu, chk_get ps j p hp]
    have := (fits_one hf).2.2.2
    rw [this, hl]
    by_cases hq : j + 1 = L.length <;> simp [hq]
  · rw [List.getElem?_eq_none (by omega), List.getElem?_eq_none (by rw [chk_len]; omega)]
end Go.Proofs.Ytdfpnpjdiebniaa
