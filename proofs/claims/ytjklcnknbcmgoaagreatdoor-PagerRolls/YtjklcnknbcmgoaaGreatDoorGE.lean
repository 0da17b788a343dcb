/-
  Texts of this claim, put together.
-/
import Derived.Test.YtjklcnknbcmgoaaGreatDoorGA
import Derived.Laws.AppendOwn
/-
  Runs of pages, as data: what spares are.
-/
namespace Go.Proofs.YtjklcnknbcmgoaaGreatDoor
open Go Go.RowKit

/-- Runs: the first page, and the one behind the last. -/
abbrev Runs := List (Int × Int)
def Srt : Runs → Prop
  | [] => True
  | r :: L => r.1 < r.2 ∧ (∀ q ∈ L, r.2 ≤ q.1) ∧ Srt L
def inR : Runs → Int → Prop
  | [], _ => False
  | r :: L, n => (r.1 ≤ n ∧ n < r.2) ∨ inR L n
def lookR : Runs → Int → Option Int
  | [], _ => none
  | r :: L, f => if f = r.1 then some r.2 else lookR L f
def totR : Runs → Int
  | [] => 0
  | r :: L => (r.2 - r.1) + totR L
def fsR (L : Runs) : List Int := L.map (·.1)
def atR (L : Runs) (x : Int) : Nat := (fsR L).countP (· < x)
def addR (L : Runs) (f e : Int) : Runs := L.take (atR L f) ++ (f, e) :: L.drop (atR L f)
def cutR (L : Runs) (x : Int) : Runs := L.take (atR L x)

theorem atR_nil (x : Int) : atR [] x = 0 := rfl
theorem atR_lt {r : Int × Int} {L : Runs} {x : Int} (h : r.1 < x) : atR (r :: L) x = atR L x + 1 := by
  simp [atR, fsR, h]
theorem Srt.first {r : Int × Int} {L : Runs} (h : Srt (r :: L)) : ∀ q ∈ L, r.1 < q.1 := fun q hq => by have := h.1; have := h.2.1 q hq; omega
theorem atR_ge {r : Int × Int} {L : Runs} {x : Int} (hs : Srt (r :: L)) (h : ¬ r.1 < x) : atR (r :: L) x = 0 := by
  unfold atR fsR
  rw [List.countP_eq_zero]
  intro a ha
  simp only [List.map_cons, List.mem_cons, List.mem_map] at ha
  rcases ha with rfl | ⟨q, hq, rfl⟩
  · simpa using h
  · have := hs.first q hq
    simp; omega
theorem atR_le (L : Runs) (x : Int) : atR L x ≤ L.length := by
  have := List.countP_le_length (p := fun y : Int => decide (y < x)) (l := fsR L)
  simpa [fsR, atR] using this
theorem fsR_len (L : Runs) : (fsR L).length = L.length := by simp [fsR]
theorem addR_nil (f e : Int) : addR [] f e = [(f, e)] := rfl
theorem addR_lt {r : Int × Int} {L : Runs} {f e : Int} (h : r.1 < f) : addR (r :: L) f e = r :: addR L f e := by
  unfold addR; rw [atR_lt h]; simp
theorem addR_ge {r : Int × Int} {L : Runs} {f e : Int} (hs : Srt (r :: L)) (h : ¬ r.1 < f) : addR (r :: L) f e = (f, e) :: r :: L := by
  unfold addR; rw [atR_ge hs h]; simp
theorem cutR_lt {r : Int × Int} {L : Runs} {f : Int} (h : r.1 < f) : cutR (r :: L) f = r :: cutR L f := by
  unfold cutR; rw [atR_lt h]; simp
theorem cutR_ge {r : Int × Int} {L : Runs} {f : Int} (hs : Srt (r :: L)) (h : ¬ r.1 < f) : cutR (r :: L) f = [] := by
  unfold cutR; rw [atR_ge hs h]; simp
theorem mem_addR {L : Runs} {f e : Int} {q : Int × Int} : q ∈ addR L f e ↔ q = (f, e) ∨ q ∈ L := by
  unfold addR
  rw [List.mem_append, List.mem_cons]
  constructor
  · rintro (h | h | h)
    · exact .inr (List.mem_of_mem_take h)
    · exact .inl h
    · exact .inr (List.mem_of_mem_drop h)
  · rintro (h | h)
    · exact .inr (.inl h)
    · rw [← List.take_append_drop (atR L f) L, List.mem_append] at h
      rcases h with h | h
      · exact .inl h
      · exact .inr (.inr h)
theorem inR_iff {L : Runs} {n : Int} : inR L n ↔ ∃ q ∈ L, q.1 ≤ n ∧ n < q.2 := by
  induction L with
  | nil => simp [inR]
  | cons r L ih => simp [inR, ih]
theorem inR_add {L : Runs} {f e n : Int} : inR (addR L f e) n ↔ (f ≤ n ∧ n < e) ∨ inR L n := by
  rw [inR_iff, inR_iff]
  constructor
  · rintro ⟨q, hq, h⟩
    rcases mem_addR.1 hq with rfl | hq
    · exact .inl h
    · exact .inr ⟨q, hq, h⟩
  · rintro (h | ⟨q, hq, h⟩)
    · exact ⟨(f, e), mem_addR.2 (.inl rfl), h⟩
    · exact ⟨q, mem_addR.2 (.inr hq), h⟩
theorem Srt.pos {L : Runs} (h : Srt L) : ∀ q ∈ L, q.1 < q.2 := by
  induction L with
  | nil => simp
  | cons r L ih =>
    intro q hq
    rcases List.mem_cons.1 hq with rfl | hq
    · exact h.1
    · exact ih h.2.2 q hq
theorem srt_add {L : Runs} (hs : Srt L) {f e : Int} (hfe : f < e) (hno : ∀ n, f ≤ n → n < e → ¬ inR L n) : Srt (addR L f e) := by
  induction L with
  | nil => exact ⟨hfe, by simp, trivial⟩
  | cons r L ih =>
    have hp := hs.1
    by_cases h : r.1 < f
    · rw [addR_lt h]
      refine ⟨hs.1, ?_, ih hs.2.2 (fun n h1 h2 q => hno n h1 h2 (.inr q))⟩
      intro q hq
      rcases mem_addR.1 hq with rfl | hq
      · show r.2 ≤ f
        apply Int.not_lt.1
        intro hh
        exact hno f (Int.le_refl _) hfe (.inl ⟨by omega, hh⟩)
      · exact hs.2.1 q hq
    · rw [addR_ge hs h]
      have he : e ≤ r.1 := by
        apply Int.not_lt.1
        intro hh
        exact hno r.1 (by omega) hh (.inl ⟨Int.le_refl _, hp⟩)
      refine ⟨hfe, ?_, hs⟩
      intro q hq
      rcases List.mem_cons.1 hq with rfl | hq
      · exact he
      · have := hs.first q hq
        show e ≤ q.1
        omega
theorem totR_add {L : Runs} (hs : Srt L) (f e : Int) : totR (addR L f e) = totR L + (e - f) := by
  induction L with
  | nil => simp [addR_nil, totR]
  | cons r L ih =>
    by_cases h : r.1 < f
    · rw [addR_lt h]; simp only [totR]; rw [ih hs.2.2]; omega
    · rw [addR_ge hs h]; simp only [totR]; omega
theorem lookR_none {L : Runs} {f : Int} (h : ∀ q ∈ L, q.1 ≠ f) : lookR L f = none := by
  induction L with
  | nil => rfl
  | cons r L ih =>
    unfold lookR
    rw [if_neg (fun e => h r (List.mem_cons_self) e.symm)]
    exact ih (fun q hq => h q (List.mem_cons_of_mem _ hq))
theorem lookR_mem {L : Runs} {f e : Int} (h : lookR L f = some e) : (f, e) ∈ L := by
  induction L with
  | nil => cases h
  | cons r L ih =>
    unfold lookR at h
    split at h
    · rename_i hf
      injection h with h
      subst hf h
      exact List.mem_cons_self
    · exact List.mem_cons_of_mem _ (ih h)
theorem lookR_of {L : Runs} (hs : Srt L) {q : Int × Int} (hq : q ∈ L) : lookR L q.1 = some q.2 := by
  induction L with
  | nil => cases hq
  | cons r L ih =>
    unfold lookR
    rcases List.mem_cons.1 hq with rfl | hq
    · rw [if_pos rfl]
    · have := hs.first q hq
      rw [if_neg (by omega)]
      exact ih hs.2.2 hq
theorem lookR_add {L : Runs} (hs : Srt L) {f e : Int} : ∀ v, lookR (addR L f e) v = setM (lookR L) f (some e) v := by
  intro v
  unfold setM
  induction L with
  | nil => rw [addR_nil]; simp [lookR]
  | cons r L ih =>
    by_cases h : r.1 < f
    · rw [addR_lt h]
      unfold lookR
      rw [ih hs.2.2]
      by_cases h1 : v = r.1
      · rw [if_pos h1, if_pos h1, if_neg (by omega)]
      · rw [if_neg h1, if_neg h1]
    · rw [addR_ge hs h]
      conv => lhs; unfold lookR
theorem fsR_add {L : Runs} {f e : Int} : fsR (addR L f e) = (fsR L).take (atR L f) ++ f :: (fsR L).drop (atR L f) := by
  unfold addR fsR; simp
theorem fsR_sorted {L : Runs} (hs : Srt L) : (fsR L).Pairwise (· < ·) := by
  induction L with
  | nil => exact List.Pairwise.nil
  | cons r L ih =>
    refine List.Pairwise.cons ?_ (ih hs.2.2)
    intro a ha
    rw [List.mem_map] at ha
    obtain ⟨q, hq, rfl⟩ := ha
    exact hs.first q hq
/-- What 'has' looks at. -/
theorem inR_has {L : Runs} (hs : Srt L) (n : Int) : ((fsR L).contains n = true ∨ (0 < atR L n ∧ n < (lookR L ((fsR L).getD (atR L n - 1) 0)).getD 0)) ↔ inR L n := by
  induction L with
  | nil => simp [fsR, atR, inR]
  | cons r L ih =>
    have ih := ih hs.2.2
    have hp := hs.1
    by_cases h : r.1 < n
    · rw [atR_lt h]
      by_cases h0 : atR L n = 0
      · have hno : ¬ (0 < atR L n ∧ n < (lookR L ((fsR L).getD (atR L n - 1) 0)).getD 0) := by omega
        have e1 : (fsR (r :: L)).contains n = (fsR L).contains n := by
          have hne2 : (n == r.1) = false := by simp; omega
          simp [fsR, hne2]
        rw [e1, h0]
        have e2 : (fsR (r :: L)).getD (0 + 1 - 1) 0 = r.1 := rfl
        rw [e2]
        have e3 : lookR (r :: L) r.1 = some r.2 := by unfold lookR; rw [if_pos rfl]
        rw [e3]
        unfold inR
        rw [← ih]
        constructor
        · rintro (q | ⟨_, q⟩)
          · exact .inr (.inl q)
          · exact .inl ⟨by omega, q⟩
        · rintro (q | q | q)
          · exact .inr ⟨by omega, q.2⟩
          · exact .inl q
          · exact absurd q hno
      · obtain ⟨k, hk⟩ : ∃ k, atR L n = k + 1 := ⟨atR L n - 1, by omega⟩
        have e1 : (fsR (r :: L)).contains n = (fsR L).contains n := by
          have hne2 : (n == r.1) = false := by simp; omega
          simp [fsR, hne2]
        have hlt : k < (fsR L).length := by rw [fsR_len]; have := atR_le L n; omega
        have hm : (fsR L).getD k 0 ∈ fsR L := by
          rw [List.getD_eq_getElem?_getD, List.getElem?_eq_getElem hlt]; exact List.getElem_mem hlt
        obtain ⟨q0, hq0, hq1⟩ : ∃ q ∈ L, q.1 = (fsR L).getD k 0 := by
          simp only [fsR, List.mem_map] at hm
          exact hm
        have hge : r.2 ≤ (fsR L).getD k 0 := by rw [← hq1]; exact hs.2.1 q0 hq0
        have hbelow : (fsR L).getD k 0 < n := by
          have hsorted := fsR_sorted hs.2.2
          apply Int.not_le.1
          intro hle
          -- all from k on are not below n: the count is at most k
          have : atR L n ≤ k := by
            unfold atR
            rw [← List.take_append_drop k (fsR L), List.countP_append]
            have z : ((fsR L).drop k).countP (fun y => decide (y < n)) = 0 := by
              rw [List.countP_eq_zero]
              intro a ha
              obtain ⟨j, hj, rfl⟩ := List.getElem_of_mem ha
              rw [List.getElem_drop]
              have hj2 : k + j < (fsR L).length := by simp at hj; omega
              have hkk : (fsR L).getD k 0 = (fsR L)[k] := by rw [List.getD_eq_getElem?_getD, List.getElem?_eq_getElem hlt]; rfl
              rcases Nat.eq_zero_or_pos j with rfl | hjp
              · have hz : ¬ (fsR L)[k] < n := by rw [← hkk]; omega
                simpa using hz
              · have := List.pairwise_iff_getElem.1 hsorted k (k + j) hlt hj2 (by omega)
                rw [← hkk] at this
                simp; omega
            rw [z]
            have := List.countP_le_length (p := fun y : Int => decide (y < n)) (l := (fsR L).take k)
            simp at this
            omega
          omega
        rw [e1, hk]
        have e2 : (fsR (r :: L)).getD (k + 1 + 1 - 1) 0 = (fsR L).getD k 0 := rfl
        rw [e2]
        have e3 : lookR (r :: L) ((fsR L).getD k 0) = lookR L ((fsR L).getD k 0) := by
          conv => lhs; unfold lookR
          rw [if_neg (by omega)]
        rw [e3]
        rw [hk] at ih
        have e4 : k + 1 - 1 = k := rfl
        rw [e4] at ih
        unfold inR
        rw [← ih]
        constructor
        · rintro (q | ⟨_, q⟩)
          · exact .inr (.inl q)
          · exact .inr (.inr ⟨by omega, q⟩)
        · rintro (q | q | ⟨_, q⟩)
          · omega
          · exact .inl q
          · exact .inr ⟨by omega, q⟩
    · rw [atR_ge hs h]
      constructor
      · rintro (q | ⟨q, _⟩)
        · have q' : n ∈ fsR (r :: L) := by simpa using q
          simp only [fsR, List.map_cons, List.mem_cons, List.mem_map] at q'
          rcases q' with rfl | ⟨x, hx, rfl⟩
          · exact .inl ⟨Int.le_refl _, hp⟩
          · exact .inr (inR_iff.2 ⟨x, hx, Int.le_refl _, hs.2.2.pos x hx⟩)
        · omega
      · rintro (q | q)
        · refine .inl ?_
          have : n = r.1 := by omega
          simp [fsR, this]
        · obtain ⟨x, hx, h1, h2⟩ := inR_iff.1 q
          have := hs.first x hx
          refine .inl ?_
          omega
/-- The least one is taken. -/
def tookR : Runs → Runs
  | [] => []
  | r :: L => if r.1 + 1 < r.2 then (r.1 + 1, r.2) :: L else L
theorem tookR_cons (r : Int × Int) (L : Runs) : tookR (r :: L) = if r.1 + 1 < r.2 then (r.1 + 1, r.2) :: L else L := rfl
theorem srt_took {L : Runs} (hs : Srt L) : Srt (tookR L) := by
  cases L with
  | nil => exact hs
  | cons r L =>
    rw [tookR_cons]
    by_cases h : r.1 + 1 < r.2
    · rw [if_pos h]
      exact ⟨h, hs.2.1, hs.2.2⟩
    · rw [if_neg h]
      exact hs.2.2
theorem totR_nonneg {L : Runs} (hs : Srt L) : 0 ≤ totR L := by
  induction L with
  | nil => exact Int.le_refl _
  | cons r L ih => have := ih hs.2.2; have := hs.1; simp only [totR]; omega
theorem totR_zero {L : Runs} (hs : Srt L) : totR L = 0 ↔ L = [] := by
  cases L with
  | nil => simp [totR]
  | cons r L =>
    have := totR_nonneg hs.2.2; have := hs.1
    simp only [totR]
    constructor
    · intro h; omega
    · intro h; cases h
theorem totR_took {r : Int × Int} {L : Runs} (hs : Srt (r :: L)) : totR (tookR (r :: L)) = totR (r :: L) - 1 := by
  have := hs.1
  rw [tookR_cons]
  split
  · simp only [totR]; omega
  · simp only [totR]; omega
theorem inR_took {r : Int × Int} {L : Runs} (hs : Srt (r :: L)) (n : Int) : inR (tookR (r :: L)) n ↔ inR (r :: L) n ∧ n ≠ r.1 := by
  have hp := hs.1
  have hL : inR L n → r.2 ≤ n := fun q => by
    obtain ⟨x, hx, h1, _⟩ := inR_iff.1 q
    have := hs.2.1 x hx
    omega
  rw [tookR_cons]
  split
  · show (r.1 + 1 ≤ n ∧ n < r.2) ∨ inR L n ↔ ((r.1 ≤ n ∧ n < r.2) ∨ inR L n) ∧ n ≠ r.1
    constructor
    · rintro (q | q)
      · exact ⟨.inl ⟨by omega, q.2⟩, by omega⟩
      · exact ⟨.inr q, by have := hL q; omega⟩
    · rintro ⟨q | q, hn⟩
      · exact .inl ⟨by omega, q.2⟩
      · exact .inr q
  · show inR L n ↔ ((r.1 ≤ n ∧ n < r.2) ∨ inR L n) ∧ n ≠ r.1
    constructor
    · intro q
      exact ⟨.inr q, by have := hL q; omega⟩
    · rintro ⟨q | q, hn⟩
      · omega
      · exact q
theorem fsR_took {r : Int × Int} {L : Runs} : fsR (tookR (r :: L)) = if r.1 + 1 < r.2 then (r.1 + 1) :: fsR L else fsR L := by
  rw [tookR_cons]
  split <;> rfl
theorem lookR_took {r : Int × Int} {L : Runs} (hs : Srt (r :: L)) : ∀ v, lookR (tookR (r :: L)) v = if r.1 + 1 < r.2 then setM (setM (lookR (r :: L)) r.1 none) (r.1 + 1) (some r.2) v else setM (lookR (r :: L)) r.1 none v := by
  intro v
  have hn : lookR L r.1 = none := lookR_none (fun q hq e => by have := hs.first q hq; omega)
  rw [tookR_cons]
  split
  · rename_i h
    unfold setM
    conv => lhs; unfold lookR
    dsimp only
    by_cases h1 : v = r.1 + 1
    · rw [if_pos h1, if_pos h1]
    · rw [if_neg h1, if_neg h1]
      by_cases h2 : v = r.1
      · rw [if_pos h2, h2, hn]
      · rw [if_neg h2]
        conv => rhs; unfold lookR
        rw [if_neg h2]
  · unfold setM
    by_cases h2 : v = r.1
    · rw [if_pos h2, h2, hn]
    · rw [if_neg h2]
      conv => rhs; unfold lookR
      rw [if_neg h2]
theorem cutR_nil (x : Int) : cutR [] x = [] := rfl
theorem srt_cut {L : Runs} (hs : Srt L) (x : Int) : Srt (cutR L x) := by
  induction L with
  | nil => exact hs
  | cons r L ih =>
    by_cases h : r.1 < x
    · rw [cutR_lt h]
      exact ⟨hs.1, fun q hq => hs.2.1 q (List.mem_of_mem_take hq), ih hs.2.2⟩
    · rw [cutR_ge hs h]; exact trivial
theorem mem_cutR {L : Runs} (hs : Srt L) {x : Int} {q : Int × Int} : q ∈ cutR L x ↔ q ∈ L ∧ q.1 < x := by
  induction L with
  | nil => simp [cutR_nil]
  | cons r L ih =>
    by_cases h : r.1 < x
    · rw [cutR_lt h, List.mem_cons, List.mem_cons, ih hs.2.2]
      constructor
      · rintro (rfl | q)
        · exact ⟨.inl rfl, h⟩
        · exact ⟨.inr q.1, q.2⟩
      · rintro ⟨rfl | q, hq⟩
        · exact .inl rfl
        · exact .inr ⟨q, hq⟩
    · rw [cutR_ge hs h]
      constructor
      · intro q; cases q
      · rintro ⟨q, hq⟩
        rcases List.mem_cons.1 q with rfl | q
        · exact absurd hq h
        · have := hs.first _ q
          omega
end Go.Proofs.YtjklcnknbcmgoaaGreatDoor
/-
  Spares in memory: a row of numbers, and a map from numbers to numbers.
-/
namespace Go.Proofs.YtjklcnknbcmgoaaGreatDoor
open Go Go.RowKit Go.Maps

/-- A number as a map's element. -/
def mkI (x : Int) : Value := .int .i64 x
def encI (x : Int) : DataW Unit := .lit (.int .i64 x)
def RI : Value → Option (DataW Unit × List MemPlace)
  | .int .i64 x => some (encI x, [])
  | _ => none
theorem elemI : Elem RI mkI encI where
  of x := rfl
  inv v y h := by
    unfold RI at h
    split at h
    · rename_i x
      injection h with h
      exact ⟨x, rfl, h.symm⟩
    · cases h
  inj x y h := by
    unfold encI at h
    injection h with h
    injection h
theorem zeroI (w : World) : (zeroValue 3).run Tryz.prog w = .ok (mkI 0) w := Tryz.zeroValue3 w

/-- A row of numbers in memory, of one who has it alone: nil, or a part of a block. -/
def IRow (w : World) (v : Value) (zs : List Int) : Prop :=
  (v = .slice none 0 0 ∧ zs = []) ∨
  ∃ g off cap cur, v = .slice (some ⟨g, off, none⟩) zs.length cap ∧ Holds w g 3 cur ∧ zs.length ≤ cap ∧ off + cap ≤ cur.size ∧ cur.size ≤ maxLen ∧ cur.size ≠ 0 ∧ ∀ j z, zs[j]? = some z → cur[off + j]? = some (.int .i64 z)
theorem IRow.nil (w : World) : IRow w (.slice none 0 0) [] := .inl ⟨rfl, rfl⟩
theorem IRow.block {w w' : World} {v : Value} {zs : List Int} (h : IRow w v zs) (hb : ∀ k, v.ownBlock = some k → w'.heap[k]? = w.heap[k]?) : IRow w' v zs := by
  rcases h with h | ⟨g, off, cap, cur, rfl, h1, h2⟩
  · exact .inl h
  · exact .inr ⟨g, off, cap, cur, rfl, (hb g rfl).trans h1, h2⟩
theorem IRow.lt {w : World} {v : Value} {zs : List Int} (h : IRow w v zs) : ∀ k, v.ownBlock = some k → k < w.heap.size := by
  rintro k hk
  rcases h with ⟨rfl, _⟩ | ⟨g, off, cap, cur, rfl, h1, _⟩
  · cases hk
  · simp [Value.ownBlock] at hk
    subst hk
    exact h1.lt
theorem IRow.obj {w : World} {v : Value} {zs : List Int} (h : IRow w v zs) : ∀ k, v.ownBlock = some k → ∃ cur, Holds w k 3 cur := by
  rintro k hk
  rcases h with ⟨rfl, _⟩ | ⟨g, off, cap, cur, rfl, h1, _⟩
  · cases hk
  · simp [Value.ownBlock] at hk
    subst hk
    exact ⟨cur, h1⟩
/-- Some cells of a block are written. -/
theorem holds_setCells {g : Nat} {t : TypeId} : ∀ (vs : List Value) (o : Nat) (w : World) (cur : Array Value), Holds w g t cur →
    ∃ cur', Holds (w.setCells g o vs) g t cur' ∧ cur'.size = cur.size ∧ Only g w (w.setCells g o vs) ∧ ∀ k, cur'[k]? = if o ≤ k ∧ k < o + vs.length ∧ k < cur.size then vs[k - o]? else cur[k]?
  | [], o, w, cur, h => ⟨cur, h, rfl, Only.refl _ _, fun k => by rw [if_neg (by simp; omega)]⟩
  | v :: vs, o, w, cur, h => by
    obtain ⟨cur', h1, h2, h3, h4⟩ := holds_setCells vs (o + 1) (w.setCell ⟨g, o, none⟩ v) (cur.setIfInBounds o v) (h.set o v)
    refine ⟨cur', h1, h2.trans (by simp), ?_, ?_⟩
    · exact (((Only.refl g w).set o v)).trans h3
    · intro k
      rw [h4 k]
      simp only [List.length_cons, Array.size_setIfInBounds]
      by_cases hk : k = o
      · subst hk
        rw [if_neg (by omega)]
        by_cases hc : k < cur.size
        · rw [if_pos (by omega)]
          simp [hc]
        · rw [if_neg (by omega)]
          simp [hc]
      · rw [Array.getElem?_setIfInBounds_ne (by omega)]
        by_cases hc : o + 1 ≤ k ∧ k < o + 1 + vs.length ∧ k < cur.size
        · rw [if_pos hc, if_pos (by omega)]
          rw [show k - o = (k - (o + 1)) + 1 by omega]
          rfl
        · rw [if_neg hc, if_neg (by omega)]
end Go.Proofs.YtjklcnknbcmgoaaGreatDoor
