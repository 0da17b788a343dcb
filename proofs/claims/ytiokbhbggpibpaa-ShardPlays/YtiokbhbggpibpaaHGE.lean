/-
  Texts of this claim, put together.
-/
import Derived.Test.YtiokbhbggpibpaaHGD
import Derived.Test.YtiokbhbggpibpaaBTake
/-
  What shard's read does of chunks that are no set's: what holds of those that were read so far. Nothing of memory.
-/
namespace Go.Proofs.Ytiokbhbggpibpaa
open Go Go.RowKit

def fitsB (n g : Nat) (u : Int) (last : Bool) : Bool := if last then decide (1 ≤ n) && decide (n ≤ 64) && decide (u = 2147483647) else decide (n = 64) && decide (u = (g : Int))
/-- The chunks up to here may be a set's. -/
structure Pre (L : List Ck) (ps : List (List Nat)) : Prop where
  len : ps.length ≤ L.length
  nums : ∀ p ∈ ps, Nums p
  data : ∀ (j : Nat) p, ps[j]? = some p → ∃ u, L[j]? = some (u, dataOf p) ∧ fitsB p.length (p.getLastD 0) u (decide (j + 1 = L.length)) = true
  rise : ∀ (j : Nat) p, ps[j]? = some p → bef ps j < (p.headD 0 : Nat)
theorem Pre.nil (L : List Ck) : Pre L [] := ⟨Nat.zero_le _, fun p hp => by (cases hp), fun j p hp => by simp at hp, fun j p hp => by simp at hp⟩
theorem bef_app (ps : List (List Nat)) (p : List Nat) {j : Nat} (hj : j ≤ ps.length) : bef (ps ++ [p]) j = bef ps j := by
  cases j with
  | zero => rfl
  | succ i =>
    show ((((ps ++ [p])[i]?.getD []).getLastD 0 : Nat) : Int) = (((ps[i]?.getD []).getLastD 0 : Nat) : Int)
    rw [List.getElem?_append_left (by omega)]
theorem Pre.add {L : List Ck} {ps : List (List Nat)} (h : Pre L ps) {p : List Nat} {u : Int} (hp : Nums p) (hd : L[ps.length]? = some (u, dataOf p)) (hf : fitsB p.length (p.getLastD 0) u (decide (ps.length + 1 = L.length)) = true) (hr : bef ps ps.length < (p.headD 0 : Nat)) : Pre L (ps ++ [p]) := by
  have hl := (List.getElem?_eq_some_iff.1 hd).1
  have key : ∀ (j : Nat) q, (ps ++ [p])[j]? = some q → (j < ps.length ∧ ps[j]? = some q) ∨ (j = ps.length ∧ q = p) := fun j q hq => by
    by_cases hj : j < ps.length
    · rw [List.getElem?_append_left hj] at hq
      exact .inl ⟨hj, hq⟩
    · rw [List.getElem?_append_right (by omega)] at hq
      have : j - ps.length = 0 := by
        have := (List.getElem?_eq_some_iff.1 hq).1
        simp at this
        omega
      rw [this] at hq
      simp at hq
      exact .inr ⟨by omega, hq.symm⟩
  refine ⟨by rw [List.length_append]; simp; omega, fun q hq => ?_, fun j q hq => ?_, fun j q hq => ?_⟩
  · rcases List.mem_append.1 hq with hq | hq
    · exact h.nums q hq
    · rw [List.mem_singleton.1 hq]; exact hp
  · rcases key j q hq with ⟨_, hq⟩ | ⟨rfl, rfl⟩
    · exact h.data j q hq
    · exact ⟨u, hd, hf⟩
  · rcases key j q hq with ⟨hj, hq⟩ | ⟨rfl, rfl⟩
    · rw [bef_app ps p (by omega)]; exact h.rise j q hq
    · rw [bef_app ps q (Nat.le_refl _)]; exact hr
theorem fits_one {n g : Nat} {u : Int} {last : Bool} (h : fitsB n g u last = true) : 1 ≤ n ∧ n ≤ 64 ∧ (last = false → n = 64) ∧ u = (if last then 2147483647 else (g : Int)) := by
  unfold fitsB at h
  cases last
  · simp at h
    exact ⟨by omega, by omega, fun _ => h.1, by simpa using h.2⟩
  · simp at h
    exact ⟨h.1.1, h.1.2, fun q => by (cases q), by simpa using h.2⟩
theorem parted_of : ∀ {ps : List (List Nat)}, (∀ (j : Nat) p, ps[j]? = some p → 1 ≤ p.length ∧ p.length ≤ 64 ∧ (j + 1 < ps.length → p.length = 64)) → Parted ps
  | [], _ => trivial
  | [p], h => ⟨(h 0 p rfl).1, (h 0 p rfl).2.1⟩
  | p :: q :: r, h => ⟨(h 0 p rfl).2.2 (by simp), parted_of fun j x hx => by
    have := h (j + 1) x (by simpa using hx)
    exact ⟨this.1, this.2.1, fun hj => this.2.2 (by simpa using hj)⟩⟩
theorem head_min {p : List Nat} (h : Nums p) : ∀ x ∈ p, p.headD 0 ≤ x := fun x hx => by
  cases p with
  | nil => cases hx
  | cons a l =>
    rcases List.mem_cons.1 hx with rfl | hx
    · exact Nat.le_refl _
    · exact Nat.le_of_lt ((List.pairwise_cons.1 h.rises).1 x hx)
theorem last_maxB {p : List Nat} (h : Nums p) (h1 : 1 ≤ p.length) : ∀ x ∈ p, x ≤ p.getLastD 0 := fun x hx => by
  obtain ⟨i, hi⟩ := List.mem_iff_getElem?.1 hx
  obtain ⟨hil, rfl⟩ := List.getElem?_eq_some_iff.1 hi
  have e : p.getLastD 0 = p[p.length - 1]'(by omega) := by
    have hh := last_getD p (by omega)
    rw [List.getD_eq_getElem?_getD, List.getElem?_map, List.getElem?_eq_getElem (by omega)] at hh
    have : ((p[p.length - 1]'(by omega) : Nat) : Int) = ((p.getLastD 0 : Nat) : Int) := hh
    omega
  rw [e]
  rcases Nat.lt_or_ge i (p.length - 1) with h2 | h2
  · exact Nat.le_of_lt (List.pairwise_iff_getElem.1 h.rises i (p.length - 1) hil (by omega) h2)
  · have : i = p.length - 1 := by omega
    subst this
    exact Nat.le_refl _
/-- Parts each of which stands ahead of the next one. -/
theorem flat_nums : ∀ {ps : List (List Nat)}, (∀ p ∈ ps, Nums p ∧ 1 ≤ p.length) → (∀ (j : Nat) p q, ps[j]? = some p → ps[j + 1]? = some q → p.getLastD 0 < q.headD 0) → Nums ps.flatten ∧ ∀ p, ps[0]? = some p → ∀ x ∈ ps.flatten, p.headD 0 ≤ x
  | [], _, _ => ⟨⟨List.Pairwise.nil, fun x hx => by simp at hx⟩, fun p hp => by simp at hp⟩
  | p :: ps, h1, h2 => by
    obtain ⟨ih1, ih2⟩ := flat_nums (ps := ps) (fun q hq => h1 q (List.mem_cons_of_mem _ hq)) (fun j a b ha hb => h2 (j + 1) a b (by simpa using ha) (by simpa using hb))
    obtain ⟨hp, hp1⟩ := h1 p List.mem_cons_self
    have hlt : ∀ x ∈ p, ∀ y ∈ ps.flatten, x < y := fun x hx y hy => by
      cases ps with
      | nil => simp at hy
      | cons q r =>
        have a1 := last_maxB hp hp1 x hx
        have a2 := h2 0 p q rfl rfl
        have a3 := ih2 q rfl y hy
        omega
    refine ⟨⟨?_, ?_⟩, ?_⟩
    · rw [List.flatten_cons]
      exact List.pairwise_append.2 ⟨hp.rises, ih1.rises, hlt⟩
    · intro x hx
      rw [List.flatten_cons] at hx
      rcases List.mem_append.1 hx with hx | hx
      · exact hp.bound x hx
      · exact ih1.bound x hx
    · intro p' hp' x hx
      have e : p = p' := by simpa using hp'
      subst e
      rw [List.flatten_cons] at hx
      rcases List.mem_append.1 hx with hx | hx
      · exact head_min hp x hx
      · have := hlt _ (head_mem hp1) x hx
        omega
theorem Pre.good {L : List Ck} {ps : List (List Nat)} (h : Pre L ps) (hl : ps.length = L.length) : Good ps ∧ L = chk ps := by
  have hone : ∀ (j : Nat) p, ps[j]? = some p → 1 ≤ p.length ∧ p.length ≤ 64 ∧ (j + 1 < ps.length → p.length = 64) := fun j p hp => by
    obtain ⟨u, _, hf⟩ := h.data j p hp
    obtain ⟨a1, a2, a3, _⟩ := fits_one hf
    exact ⟨a1, a2, fun hj => a3 (decide_eq_false (by omega))⟩
  have hpar := parted_of hone
  have hnum := (flat_nums (ps := ps) (fun p hp => ⟨h.nums p hp, (hpar.one p hp).1⟩) (fun j p q hp hq => by
    have := h.rise (j + 1) q hq
    have e : bef ps (j + 1) = ((p.getLastD 0 : Nat) : Int) := by show ((((ps[j]?.getD []).getLastD 0 : Nat)) : Int) = _; rw [hp]; rfl
    rw [e] at this
    omega)).1
  refine ⟨⟨hpar, hnum⟩, ?_⟩
  refine List.ext_getElem? fun j => ?_
  by_cases hj : j < ps.length
  · obtain ⟨p, hp⟩ : ∃ p, ps[j]? = some p := ⟨_, List.getElem?_eq_getElem hj⟩
    obtain ⟨u, hu, hf⟩ := h.data j p hp
    rw [hu, chk_get ps j p hp]
    have := (fits_one hf).2.2.2
    rw [this, hl]
    by_cases hq : j + 1 = L.length <;> simp [hq]
  · rw [List.getElem?_eq_none (by omega), List.getElem?_eq_none (by rw [chk_len]; omega)]
end Go.Proofs.Ytiokbhbggpibpaa
/-
  A region that draws its order, with operations that are not done since their guard says so. Plain; nothing of the program.
-/
namespace Go.Proofs.Ytiokbhbggpibpaa
open Go Go.RowKit
section
variable {P : Program} {ops : Array Oper} {md : Region.Mode} {Q : Exit → Act → World → Prop} {C : World → Prop}

/-- One that is not done may be passed first. -/
theorem anyC_drop {k : Nat} {o : Oper} (hk : ops[k]? = some o) (hs : Region.noSelect ops = true) (hQ : ∀ c a w, Q (.panic c) (Act.put a o.dst undef) w → Q (.panic c) a w) :
    ∀ (n : Nat) (seen : Array Bool) (a : Act) (w : World), Region.free md ops seen k = true → (Region.ready md ops seen).contains k = true → Region.wanted o (yielded ops a.tmps) = false →
      anyC P md ops C Q n (seen.setIfInBounds k true) (a.put o.dst undef) w → anyC P md ops C Q (n + 1) seen a w := by
  intro n
  have step : ∀ (n : Nat) (seen : Array Bool) (a : Act) (w : World), Region.wanted o (yielded ops a.tmps) = false → anyC P md ops C Q n (seen.setIfInBounds k true) (a.put o.dst undef) w → wpOp P ops Q k (anyC P md ops C Q n (seen.setIfInBounds k true)) a w := fun n seen a w hw h => by
    unfold wpOp
    rw [hk]
    dsimp only
    rw [if_neg (by rw [hw]; decide)]
    exact h
  have main : ∀ (n : Nat) (seen : Array Bool) (a : Act) (w : World),
      (∀ j oj, ops[j]? = some oj → j ≠ k → seen.getD j true = false → (∀ e ∈ oj.after, Region.binds md e = true → e.on ≠ k) → o.apart ops oj = true) →
      k ∈ Region.ready md ops seen → Region.wanted o (yielded ops a.tmps) = false →
      anyC P md ops C Q n (seen.setIfInBounds k true) (a.put o.dst undef) w → anyC P md ops C Q (n + 1) seen a w := by
    intro n
    induction n with
    | zero =>
      intro seen a w _ hr hw h
      refine ⟨h.1, fun h0 => absurd hr (by rw [h0]; exact List.not_mem_nil), fun j hj => ?_⟩
      by_cases e : j = k
      · rw [e]; exact step 0 seen a w hw h
      · have := ready_mono hj e
        rw [h.2.1] at this
        exact absurd this List.not_mem_nil
    | succ n ih =>
      intro seen a w hfr hr hw h
      refine ⟨h.1, fun h0 => absurd hr (by rw [h0]; exact List.not_mem_nil), fun j hj => ?_⟩
      by_cases e : j = k
      · rw [e]; exact step (n + 1) seen a w hw h
      · obtain ⟨hun, oj, hoj, hall⟩ := mem_ready.1 hj
        have hno : ∀ e ∈ oj.after, Region.binds md e = true → e.on ≠ k := by
          intro e' he hb heq
          have q1 := hall e' he hb
          have q0 := (mem_ready.1 hr).1
          rw [heq] at q1
          by_cases hlt : k < seen.size
          · simp [hlt] at q0 q1
            rw [q0] at q1
            cases q1
          · simp [Array.getElem?_eq_none (Nat.le_of_not_lt hlt)] at q1
        have st := carry (o := o) (v := undef) hoj (hfr j oj hoj e hun hno) (Region.noSelect_spec hs k o · · hk) (Region.noSelect_spec hs j oj · · hoj) hQ (h.2.2 j (ready_mono hj e))
        refine wpOp_mono (fun b w' ⟨hal, hb⟩ => ?_) st
        refine ih (seen.setIfInBounds j true) b w' ?_ (ready_mono hr (Ne.symm e)) (hal.wa.trans hw) ?_
        · intro i oi hi hik hu hn
          refine hfr i oi hi hik ?_ hn
          by_cases eij : j = i
          · rw [← eij]; exact hun
          · rw [getD_set_ne true eij] at hu; exact hu
        · rw [Array.setIfInBounds_comm _ _ e]; exact hb
  exact fun seen a w hf hr hw h => main n seen a w (Region.free_spec hk hf) (by simpa using hr) hw h
inductive PlanD where
  | take (k : Nat)
  | one (k : Nat)
  | drop (k : Nat)
def planOkD (md : Region.Mode) (ops : Array Oper) : List PlanD → Array Bool → Bool
  | [], seen => (Region.ready md ops seen).isEmpty
  | .take k :: t, seen => (Region.ready md ops seen).contains k && Region.free md ops seen k && planOkD md ops t (seen.setIfInBounds k true)
  | .drop k :: t, seen => (Region.ready md ops seen).contains k && Region.free md ops seen k && planOkD md ops t (seen.setIfInBounds k true)
  | .one k :: t, seen => decide (Region.ready md ops seen = [k]) && planOkD md ops t (seen.setIfInBounds k true)
def wpPlanD (P : Program) (ops : Array Oper) (C : World → Prop) (Q : Exit → Act → World → Prop) : List PlanD → Act → World → Prop
  | [], a, w => Q .normal a w
  | .take k :: t, a, w => Region.wanted (ops[k]?.getD default) (yielded ops a.tmps) = true ∧ ∃ v, YieldsC P C (ops[k]?.getD default) v a ∧ wpPlanD P ops C Q t (a.put (ops[k]?.getD default).dst v) w
  | .drop k :: t, a, w => Region.wanted (ops[k]?.getD default) (yielded ops a.tmps) = false ∧ wpPlanD P ops C Q t (a.put (ops[k]?.getD default).dst undef) w
  | .one k :: t, a, w => wpOp P ops Q k (fun b w' => C w' ∧ wpPlanD P ops C Q t b w') a w
theorem anyC_planD (hs : Region.noSelect ops = true) (hQ : ∀ c a w d v, Q (.panic c) (Act.put a d v) w → Q (.panic c) a w) : ∀ (t : List PlanD) (seen : Array Bool) (a : Act) (w : World), planOkD md ops t seen = true → C w → wpPlanD P ops C Q t a w → anyC P md ops C Q t.length seen a w
  | [], seen, a, w, hB, hC, h => anyC_end (by simpa [planOkD] using hB) hC h
  | .take k :: t, seen, a, w, hB, hC, h => by
    simp only [planOkD, Bool.and_eq_true] at hB
    obtain ⟨hw, v, hy, h⟩ := h
    exact anyC_take (ready_get (md := md) (seen := seen) (by simpa using hB.1.1)) hs (fun c a w => hQ c a w _ _) t.length seen a w hB.1.2 hB.1.1 hw hy (anyC_planD hs hQ t _ _ _ hB.2 hC h)
  | .drop k :: t, seen, a, w, hB, hC, h => by
    simp only [planOkD, Bool.and_eq_true] at hB
    obtain ⟨hw, h⟩ := h
    exact anyC_drop (ready_get (md := md) (seen := seen) (by simpa using hB.1.1)) hs (fun c a w => hQ c a w _ _) t.length seen a w hB.1.2 hB.1.1 hw (anyC_planD hs hQ t _ _ _ hB.2 hC h)
  | .one k :: t, seen, a, w, hB, hC, h => by
    simp only [planOkD, Bool.and_eq_true, decide_eq_true_eq] at hB
    exact anyC_one hB.1 hC (wpOp_mono (fun b w' h' => anyC_planD hs hQ t _ b w' hB.2 h'.1 h'.2) h)
theorem wp_region_planD {id : Nat} {a : Act} {w : World} {l : List Oper} (C : World → Prop) (t : List PlanD) (hm : P.follows .mixedOrders = true) (hs : Region.noSelect l.toArray = true) (hl : t.length = l.length)
    (hB : planOkD .any l.toArray t (Array.replicate l.length false) = true) (hQ : ∀ c a w d v, Q (.panic c) (Act.put a d v) w → Q (.panic c) a w) (hC : C w.drew)
    (h : wpPlanD P l.toArray C Q t a w.drew) : (Code.region id l.toArray true).wp P Q a w := by
  refine wp_region_anyC C hm ?_
  rw [← hl]
  rw [← hl] at hB
  exact anyC_planD hs hQ t _ a _ hB hC h
variable {t : List PlanD} {k : Nat} {op : Oper} {a : Act} {w : World}
theorem planD_val (d : Option Tmp) (hdd : op.dst = d) (hk : ops[k]?.getD default = op) (hw : Region.wanted op (yielded ops a.tmps) = true) (v : Value) (hv : ∀ w, (execOp a.eval op).run P w = .ok (.value v) w) (h : wpPlanD P ops C Q t (a.put d v) w) : wpPlanD P ops C Q (.take k :: t) a w :=
  ⟨by rw [hk]; exact hw, v, fun w' _ => by rw [hk]; exact hv w', by rw [hk, hdd]; exact h⟩
theorem planD_drop (d : Option Tmp) (hdd : op.dst = d) (hk : ops[k]?.getD default = op) (hw : Region.wanted op (yielded ops a.tmps) = false) (h : wpPlanD P ops C Q t (a.put d undef) w) : wpPlanD P ops C Q (.drop k :: t) a w :=
  ⟨by rw [hk]; exact hw, by rw [hk, hdd]; exact h⟩
end
end Go.Proofs.Ytiokbhbggpibpaa
/-
  What shard's read does of chunks that are no set's.
-/
namespace Go.Proofs.Ytiokbhbggpibpaa
open Go Go.RowKit

theorem fits_any (n g : Nat) (u : Int) (last : Bool) (w : World) : Calls Try.prog 60 #[.int .i64 (n : Nat), .int .i64 (g : Nat), .int .i64 u, .bool last] w fun e w' => e = .returned (.bool (fitsB n g u last)) ∧ w' = w := by
  obtain ⟨fb, hfb⟩ : ∃ fb, fitsB n g u last = fb := ⟨_, rfl⟩
  rw [hfb]
  unfold fitsB at hfb
  cases last with
  | true =>
    simp only [if_true] at hfb
    by_cases h1 : 1 ≤ n
    · by_cases h2 : n ≤ 64
      · have h1i : (1 : Int) ≤ n := by omega
        have h2i : (n : Int) ≤ 64 := by omega
        by_cases h3 : u = 2147483647
        · subst h3
          rw [decide_eq_true h1, decide_eq_true h2] at hfb
          have : fb = true := hfb.symm
          subst this
          go_enter Try.func60, Try.ntmps60
          go_wp2_with fail
          go_ret
          exact ⟨rfl, rfl⟩
        · have h3i : (u == 2147483647) = false := beq_eq_false_iff_ne.2 h3
          rw [decide_eq_false h3, Bool.and_false] at hfb
          subst hfb
          go_enter Try.func60, Try.ntmps60
          go_wp2_with fail
          go_ret
          exact ⟨rfl, rfl⟩
      · have h1i : (1 : Int) ≤ n := by omega
        have h2i : ¬ (n : Int) ≤ 64 := by omega
        rw [decide_eq_false h2, Bool.and_false, Bool.false_and] at hfb
        subst hfb
        go_enter Try.func60, Try.ntmps60
        go_wp2_with fail
        go_ret
        exact ⟨rfl, rfl⟩
    · have h1i : ¬ (1 : Int) ≤ n := by omega
      rw [decide_eq_false h1, Bool.false_and, Bool.false_and] at hfb
      subst hfb
      go_enter Try.func60, Try.ntmps60
      go_wp2_with fail
      go_ret
      exact ⟨rfl, rfl⟩
  | false =>
    simp only [Bool.false_eq_true, if_false] at hfb
    by_cases h1 : n = 64
    · subst h1
      by_cases h3 : u = (g : Int)
      · subst h3
        have : fb = true := by rw [← hfb]; simp
        subst this
        clear hfb
        go_enter Try.func60, Try.ntmps60
        go_wp2_with fail
        go_ret
        exact ⟨rfl, rfl⟩
      · have h3i : (u == (g : Int)) = false := beq_eq_false_iff_ne.2 h3
        rw [decide_eq_false h3, Bool.and_false] at hfb
        subst hfb
        go_enter Try.func60, Try.ntmps60
        go_wp2_with fail
        go_ret
        exact ⟨rfl, rfl⟩
    · have h1i : ((n : Int) == 64) = false := beq_eq_false_iff_ne.2 (by omega)
      have h1j : ¬ (n : Int) = 64 := by omega
      rw [decide_eq_false h1, Bool.false_and] at hfb
      subst hfb
      go_enter Try.func60, Try.ntmps60
      go_wp2_with fail
      go_ret
      exact ⟨rfl, rfl⟩
theorem Pre.bef {L : List Ck} {ps : List (List Nat)} (h : Pre L ps) : -1 ≤ bef ps ps.length ∧ bef ps ps.length < 2147483648 := by
  cases hk : ps.length with
  | zero => exact ⟨by show (-1 : Int) ≤ -1; omega, by show (-1 : Int) < _; omega⟩
  | succ j =>
    obtain ⟨q, hq⟩ : ∃ q, ps[j]? = some q := ⟨_, List.getElem?_eq_getElem (by omega)⟩
    obtain ⟨u, _, hf⟩ := h.data j q hq
    show -1 ≤ (((ps[j]?.getD []).getLastD 0 : Nat) : Int) ∧ (((ps[j]?.getD []).getLastD 0 : Nat) : Int) < _
    rw [hq, Option.getD_some]
    have := (h.nums q (List.mem_of_getElem? hq)).bound _ (last_mem (fits_one hf).1)
    omega
theorem head_lt {p : List Nat} (h : Nums p) : p.headD 0 < 2147483648 := by
  cases p with
  | nil => show 0 < _; omega
  | cons a l => exact h.bound a List.mem_cons_self
theorem last_lt {p : List Nat} (h : Nums p) : p.getLastD 0 < 2147483648 := by
  by_cases hz : 1 ≤ p.length
  · exact h.bound _ (last_mem hz)
  · have : p = [] := List.eq_nil_of_length_eq_zero (by omega)
    subst this
    show 0 < _
    omega
set_option maxRecDepth 8000 in
set_option maxHeartbeats 8000000 in
theorem hread_bad {w : World} {v : Value} {L : List Ck} (hv : ChunksAt w v L) (hno : ∀ ps, Good ps → L ≠ chk ps) (hsz : ∀ c ∈ L, c.2.size ≤ 2147483648) (hl : L.length ≤ 1000000) :
    Calls Try.prog 37 #[v] w fun e w' => e = .returned (.tuple #[.slice none 0 0, .int .i64 10]) ∧ Below w.heap.size w w' := by
  have hnot := run_notH
  obtain ⟨p0, c0, rfl⟩ := hv.shape
  obtain ⟨n, hn⟩ : ∃ n, L.length = n := ⟨_, rfl⟩
  have HN : Hid (L.length = n) := hn
  rw [hn] at hv hl ⊢
  clear hn
  have hni : (n : Int) ≤ 1000000 := by omega
  have hmk := make_ptrs n hl
  have hwn := wrapH1 n hl
  obtain ⟨q, hq⟩ : ∃ q, w.heap.size = q := ⟨_, rfl⟩
  obtain ⟨W0, hW0⟩ : ∃ W0, w.alloc (.cells (madeCells #[.pointer none] n) 29) = W0 := ⟨_, rfl⟩
  have hH : Holds W0 q 29 (madeCells #[.pointer none] n) := by rw [← hW0, ← hq]; exact Holds.new _ _ _
  have hB : Below w.heap.size w W0 := by rw [← hW0]; exact below_new1 _ _
  have hmz := size_madeCells #[.pointer none] n
  generalize madeCells #[.pointer none] n = cur0 at hH hmz hW0 hmk
  have F0 : Hid (Holds W0 q 29 cur0 ∧ cur0.size = n ∧ Below w.heap.size w W0) := ⟨hH, hmz, hB⟩
  have hqw : w.heap.size ≤ q := by omega
  clear hH hB hmz
  go_enter Try.func37, Try.ntmps37
  go_wp2_with fail
  go_loopw [5, 19] (fun x y wr => ∃ (k : Nat) (cur : Array Value) (ps : List (List Nat)), y = .int .i64 (k : Nat) ∧ k ≤ n ∧ x = .int .i64 (bef ps k) ∧ Hid (ps.length = k) ∧ Pre L ps ∧ Holds wr q 29 cur ∧ cur.size = n ∧ Below w.heap.size w wr) (fun _ y _ => n - (intOf y).toNat)
  case atStart => exact ⟨0, cur0, [], rfl, Nat.zero_le _, rfl, rfl, Pre.nil L, F0.out.1, F0.out.2.1, F0.out.2.2⟩
  case round =>
    clear F0
    obtain ⟨k, cur, ps, rfl, hk, rfl, HK, hP, hH, hcs, hB⟩ := hrel
    obtain ⟨hbf1, hbf2⟩ := hP.bef
    rw [HK.out] at hbf1 hbf2
    by_cases hkn : k < n
    · have hki : (k : Int) < n := by omega
      obtain ⟨⟨u, dt⟩, hx⟩ : ∃ x, L[k]? = some x := ⟨_, List.getElem?_eq_getElem (by rw [HN.out]; exact hkn)⟩
      have hdz := hsz _ (List.mem_of_getElem? hx)
      obtain ⟨b, o, rfl, hnn, c0', c1⟩ := (hv.below hB).at hx
      clear hnn
      dsimp only at c0' c1 hdz
      have HADD : Hid (∀ p, Nums p → dataOf p = dt → fitsB p.length (p.getLastD 0) u (decide (k + 1 = n)) = true → bef ps k < (p.headD 0 : Nat) → Pre L (ps ++ [p]) ∧ bef (ps ++ [p]) (k + 1) = ((p.getLastD 0 : Nat) : Int) ∧ (ps ++ [p]).length = k + 1) := fun p h1 h2 h3 h4 => by
        refine ⟨hP.add (u := u) h1 (by rw [HK.out, h2]; exact hx) (by rw [HK.out, HN.out]; exact h3) (by rw [HK.out]; exact h4), ?_, by rw [List.length_append, HK.out]; rfl⟩
        show (((((ps ++ [p])[k]?).getD []).getLastD 0 : Nat) : Int) = _
        rw [← HK.out]
        simp
      generalize bef ps k = bk at hbf1 hbf2 HADD ⊢
      have hrd := fun W => read_any dt hdz W
      clear hx hP hdz
      obtain ⟨W1, hW1⟩ : ∃ W1, wr.alloc (.cells #[.int .i64 u, .string dt] 44) = W1 := ⟨_, rfl⟩
      obtain ⟨z, hz⟩ : ∃ z, wr.heap.size = z := ⟨_, rfl⟩
      have hZ : Holds W1 z 44 #[.int .i64 u, .string dt] := by rw [← hW1, ← hz]; exact Holds.new _ _ _
      have hB1 : Below wr.heap.size wr W1 := by rw [← hW1]; exact below_new1 _ _
      have e0 : W1.cell? ⟨z, 0, none⟩ = some (.int .i64 u) := hZ.cell 0
      have e1 : W1.cell? ⟨z, 1, none⟩ = some (.string dt) := hZ.cell 1
      go_wp2_with fail
      refine (hrd W1).mono ?_
      rintro e w2 ⟨hB2, hcase⟩
      clear hrd
      rcases hcase with ⟨M, b2, rfl, mo2, hs2, hb2, hm2, hbm⟩ | ⟨rfl, _⟩
      · obtain ⟨p, hpe⟩ : ∃ p, memFrom M 0 = p := ⟨_, rfl⟩
        have hpn : Nums p := by rw [← hpe]; exact nums_of hs2.map.bound
        have hMp : M = ofN p := by rw [← hpe, ofN_mem hs2.map.bound]
        have hdp : dataOf p = dt := by
          rw [← hpe, dataOf_mem hs2.map.bound, hbm]
        subst hMp
        clear hpe hbm
        go_wp2_with fail
        refine (least_any hs2.view 0 0 rfl (by omega)).mono ?_
        rintro e w3 ⟨nl, bl, rfl, hle, hB3⟩
        have HL : Hid (nl = p.headD 0) := least_head hpn hle
        have hnl3 : (nl : Int) < 2147483648 := by rw [HL.out]; have := head_lt hpn; omega
        clear hle
        go_wp2_with fail
        refine (great_any (hs2.below hB3).view).mono ?_
        rintro e w4 ⟨ng, bg, rfl, hgr, hB4⟩
        have hgr' := great_getLast hpn hgr
        have hng : (ng : Int) < 2147483648 := by have := last_lt hpn; omega
        have HG : Hid (ng = p.getLastD 0) := hgr'
        clear hgr hgr'
        have hs4 := (hs2.below hB3).below hB4
        have hZ4 := below_holds hB4 (below_holds hB3 (below_holds hB2 hZ))
        have hBw4 := below_new (below_new (below_new (below_new hB hB1) hB2) hB3) hB4
        have HBq : Hid (Below w.heap.size w w4) := hBw4
        by_cases hlb : (nl : Int) ≤ bk
        · as_aux_lemma =>
          go_wp2_with fail
          refine wp_region_planD (fun _ => True) [.take 0, .take 1, .take 2, .take 3, .drop 4, .drop 5, .drop 6, .drop 7, .drop 8, .drop 9, .drop 10, .drop 11, .drop 12, .drop 13, .drop 14, .drop 15, .take 16] mixedP (by kernel_rfl) rfl (by kernel_rfl) (fun _ _ _ d _ h => by cases d <;> exact h) trivial ?_
          refine planD_val (some 42) rfl rfl rfl (.int .i64 (nl : Nat)) (fun _ => by go_simp) ?_
          go_frame
          refine planD_val (some 43) rfl rfl rfl (.int .i64 bk) (fun _ => by go_simp) ?_
          go_frame
          refine planD_val (some 44) rfl rfl rfl (.bool true) (fun _ => by go_simp) ?_
          go_frame
          refine planD_val (some 45) rfl rfl rfl (.bool true) (fun _ => by go_simp) ?_
          go_frame
          refine planD_drop (some 46) rfl rfl rfl ?_
          go_frame
          refine planD_drop (some 47) rfl rfl rfl ?_
          go_frame
          refine planD_drop (some 48) rfl rfl rfl ?_
          go_frame
          refine planD_drop (some 49) rfl rfl rfl ?_
          go_frame
          refine planD_drop (some 50) rfl rfl rfl ?_
          go_frame
          refine planD_drop (some 51) rfl rfl rfl ?_
          go_frame
          refine planD_drop (some 52) rfl rfl rfl ?_
          go_frame
          refine planD_drop (some 53) rfl rfl rfl ?_
          go_frame
          refine planD_drop (some 54) rfl rfl rfl ?_
          go_frame
          refine planD_drop (some 55) rfl rfl rfl ?_
          go_frame
          refine planD_drop (some 56) rfl rfl rfl ?_
          go_frame
          refine planD_drop (some 57) rfl rfl rfl ?_
          go_frame
          refine planD_val (some 58) rfl rfl rfl (.bool true) (fun _ => by go_simp) ?_
          go_frame
          refine then_normalH ?_
          go_at_K
          have HB9 : Hid (Below w.heap.size w w4.drew) := ⟨HBq.out.os, HBq.out.tape, HBq.out.output, HBq.out.size, HBq.out.block⟩
          clear hs4 hZ4 hBw4 HBq
          go_wp2_with fail
          go_ret2
          exact ⟨rfl, HB9.out⟩
        · as_aux_lemma =>
          have hcar : card (ofN p) = p.length := by rw [card_len, hpn.mem]
          have hln := fun W (hW : Below w4.heap.size w4 W) => len_any (hs4.below hW).view
          have hcl := card_le (ofN p)
          rw [hcar] at hln hcl
          obtain ⟨pl, hpl⟩ : ∃ pl, p.length = pl := ⟨_, rfl⟩
          have HPL : Hid (p.length = pl) := hpl
          rw [hpl] at hln hcl
          clear hcar hpl
          obtain ⟨last, hlast⟩ : ∃ last, decide (k + 1 = n) = last := ⟨_, rfl⟩
          have hlast2 : ((k : Int) == (n : Int) - 1) = last := by rw [← hlast, Bool.eq_iff_iff]; simp; omega
          have hft := fun W => fits_any pl ng u last W
          obtain ⟨fb, hfb⟩ : ∃ fb, fitsB pl ng u last = fb := ⟨_, rfl⟩
          have HFB : Hid (fitsB pl ng u last = fb) := hfb
          have HLA : Hid (decide (k + 1 = n) = last) := hlast
          rw [hfb] at hft
          clear hfb hlast
          have hpli : (pl : Int) ≤ 2147483648 := by omega
          obtain ⟨nb, hnb⟩ : ∃ nb, (!fb) = nb := ⟨_, rfl⟩
          go_wp2_with fail
          refine wp_region_plan (fun W => Below w4.heap.size w4 W) [.take 0, .take 1, .take 2, .take 3, .take 4, .take 6, .take 7, .take 8, .take 9, .take 10, .take 11, .take 12, .take 13, .one 5, .one 14, .take 15, .take 16] mixedP (by kernel_rfl) rfl (by kernel_rfl) (fun _ _ _ d _ h => by cases d <;> exact h) (below_drewH _) ?_
          refine plan_valG (some 42) rfl rfl rfl (.int .i64 (nl : Nat)) (fun _ => by go_simp) ?_
          go_frame
          refine plan_valG (some 43) rfl rfl rfl (.int .i64 bk) (fun _ => by go_simp) ?_
          go_frame
          refine plan_valG (some 44) rfl rfl rfl (.bool false) (fun _ => by go_simp) ?_
          go_frame
          refine plan_valG (some 45) rfl rfl rfl (.bool false) (fun _ => by go_simp) ?_
          go_frame
          refine plan_valG (some 46) rfl rfl rfl (.pointer (some ⟨b2, 0, none⟩)) (fun _ => by go_simp) ?_
          go_frame
          refine plan_valG (some 48) rfl rfl rfl (.int .i64 (ng : Nat)) (fun _ => by go_simp) ?_
          go_frame
          refine plan_valG (some 49) rfl rfl rfl (.pointer (some ⟨z, 0, none⟩)) (fun _ => by go_simp) ?_
          go_frame
          refine plan_ldG (some 50) rfl rfl rfl _ _ rfl rfl (v := .int .i64 u) (fun W hW => ldIntH ((below_holds hW hZ4).cell 0)) ?_
          go_frame
          refine plan_valG (some 51) rfl rfl rfl (.int .i64 (k : Nat)) (fun _ => by go_simp) ?_
          go_frame
          refine plan_valG (some 52) rfl rfl rfl (.slice (some ⟨b, o, none⟩) n c0) (fun _ => by go_simp) ?_
          go_frame
          refine plan_valG (some 53) rfl rfl rfl (.int .i64 (n : Nat)) (fun _ => by go_simp) ?_
          go_frame
          refine plan_valG (some 54) rfl rfl rfl (.int .i64 ((n : Int) - 1)) (fun _ => by go_simp) ?_
          go_frame
          refine plan_valG (some 55) rfl rfl rfl (.bool last) (fun _ => by go_simp) ?_
          go_frame
          refine plan_callG (some 47) rfl rfl rfl (f := 24) (vs := #[.pointer (some ⟨b2, 0, none⟩)]) (by go_simp) ((hln _ (below_drewH _)).mono ?_)
          rintro e w5 ⟨rfl, hB5⟩
          have hB5' := below_new (below_drewH w4) hB5
          refine ⟨_, rfl, hB5', ?_⟩
          go_frame
          refine plan_callG (some 56) rfl rfl rfl (f := 60) (vs := #[.int .i64 (pl : Nat), .int .i64 (ng : Nat), .int .i64 u, .bool last]) (by go_simp) ((hft w5).mono ?_)
          rintro e w5' ⟨rfl, hw5⟩
          have hw5' := hw5.symm
          clear hw5
          subst hw5'
          refine ⟨_, rfl, hB5', ?_⟩
          go_frame
          refine plan_valG (some 57) rfl rfl rfl (.bool nb) (fun _ => by go_simp) ?_
          go_frame
          refine plan_valG (some 58) rfl rfl rfl (.bool nb) (fun _ => by go_simp) ?_
          go_frame
          refine then_normalH ?_
          go_at_K
          cases nb with
          | true =>
            have HB9 : Hid (Below w.heap.size w w5) := below_new hBw4 hB5'
            clear hs4 hZ4 hBw4 HBq hB5' hB5 hln hft
            go_wp2_with fail
            go_ret2
            exact ⟨rfl, HB9.out⟩
          | false =>
            have hfbt : fb = true := by cases fb with
              | true => rfl
              | false => cases hnb
            subst hfbt
            have hH5 := below_holds hB5' (below_holds hB4 (below_holds hB3 (below_holds hB2 (below_holds hB1 hH))))
            have hcq : ∃ y, w5.cell? ⟨q, k, none⟩ = some y := by rw [hH5.cell k, Array.getElem?_eq_getElem (by omega)]; exact ⟨_, rfl⟩
            obtain ⟨y0, hy0⟩ := hcq
            have hfq := hH5.frozen k
            have F5 : Hid (∃ ps2, Pre L ps2 ∧ bef ps2 (k + 1) = (ng : Int) ∧ ps2.length = k + 1 ∧ Holds (w5.setCell ⟨q, k, none⟩ (.pointer (some ⟨b2, 0, none⟩))) q 29 (cur.setIfInBounds k (.pointer (some ⟨b2, 0, none⟩))) ∧ (cur.setIfInBounds k (.pointer (some ⟨b2, 0, none⟩))).size = n ∧ Below w.heap.size w (w5.setCell ⟨q, k, none⟩ (.pointer (some ⟨b2, 0, none⟩)))) := by
              obtain ⟨a1, a2, a3⟩ := HADD.out p hpn hdp (by rw [HPL.out, ← HG.out, HLA.out]; exact HFB.out) (by rw [← HL.out]; omega)
              exact ⟨ps ++ [p], a1, by rw [HG.out]; exact a2, a3, hH5.set k _, by rw [Array.size_setIfInBounds]; exact hcs, Only.fresh (below_new hBw4 hB5') ((Only.refl q w5).set k _) hqw⟩
            clear hs4 hZ4 hBw4 HBq hB5' hB5 hln hft hH5 hH hB HADD hB1 hB2 hB3 hB4 hs2 hZ hcs
            go_wp2_with fail
            obtain ⟨ps2, a1, a2, a3, a4, a5, a6⟩ := F5.out
            exact ⟨⟨k + 1, _, ps2, by go_num, by omega, by rw [a2], a3, a1, a4, a5, a6⟩, by simp [intOf]; omega⟩
      · have HBq : Hid (Below w.heap.size w w2) := below_new (below_new hB hB1) hB2
        go_wp2_with fail
        go_ret2
        exact ⟨rfl, HBq.out⟩
    · exfalso
      obtain rfl : k = n := by omega
      obtain ⟨h1, h2⟩ := hP.good (by rw [HK.out, HN.out])
      exact hno ps h1 h2
end Go.Proofs.Ytiokbhbggpibpaa
