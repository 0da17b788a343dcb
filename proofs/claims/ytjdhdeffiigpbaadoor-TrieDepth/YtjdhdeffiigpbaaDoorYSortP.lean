/-
  Rows of pairs, sorted by their keys, those with one key in their order: pure.
-/
import Derived.Test.YtjdhdeffiigpbaaDoorChecked
namespace Go.Proofs.YtjdhdeffiigpbaaDoor
open Go

abbrev Pr := ByteArray × ByteArray
/-- A key's bytes. -/
def kb (p : Pr) : List UInt8 := p.1.data.toList
/-- Texts by their order. -/
def ltB : List UInt8 → List UInt8 → Bool
  | [], [] => false
  | [], _ :: _ => true
  | _ :: _, [] => false
  | a :: s, b :: t => if a < b then true else if b < a then false else ltB s t
theorem ltB_irrefl : ∀ s, ltB s s = false
  | [] => rfl
  | a :: s => by simp [ltB, ltB_irrefl s]
theorem ltB_trans : ∀ {s t u}, ltB s t = true → ltB t u = true → ltB s u = true
  | [], [], _, h, _ => by simp [ltB] at h
  | [], _ :: _, [], _, h => by simp [ltB] at h
  | [], _ :: _, _ :: _, _, _ => rfl
  | _ :: _, [], _, h, _ => by simp [ltB] at h
  | _ :: _, _ :: _, [], _, h => by simp [ltB] at h
  | a :: s, b :: t, c :: u, h1, h2 => by
    simp only [ltB] at h1 h2 ⊢
    by_cases hab : a < b
    · by_cases hbc : b < c
      · rw [if_pos (UInt8.lt_trans hab hbc)]
      · rw [if_neg hbc] at h2
        by_cases hcb : c < b
        · rw [if_pos hcb] at h2; cases h2
        · have : b = c := UInt8.le_antisymm (UInt8.not_lt.1 hcb) (UInt8.not_lt.1 hbc)
          subst this
          rw [if_pos hab]
    · rw [if_neg hab] at h1
      by_cases hba : b < a
      · rw [if_pos hba] at h1; cases h1
      · have : a = b := UInt8.le_antisymm (UInt8.not_lt.1 hba) (UInt8.not_lt.1 hab)
        subst this
        rw [if_neg (UInt8.lt_irrefl a)] at h1
        by_cases hbc : a < c
        · rw [if_pos hbc]
        · rw [if_neg hbc] at h2 ⊢
          by_cases hcb : c < a
          · rw [if_pos hcb] at h2; cases h2
          · rw [if_neg hcb] at h2 ⊢
            exact ltB_trans h1 h2
theorem ltB_total : ∀ {s t}, ltB s t = false → ltB t s = false → s = t
  | [], [], _, _ => rfl
  | [], _ :: _, h, _ => by simp [ltB] at h
  | _ :: _, [], _, h => by simp [ltB] at h
  | a :: s, b :: t, h1, h2 => by
    simp only [ltB] at h1 h2
    by_cases hab : a < b
    · rw [if_pos hab] at h1; cases h1
    · rw [if_neg hab] at h1
      by_cases hba : b < a
      · rw [if_pos hba] at h2; cases h2
      · rw [if_neg hba] at h1 h2
        rw [if_neg hab] at h2
        have : a = b := UInt8.le_antisymm (UInt8.not_lt.1 hba) (UInt8.not_lt.1 hab)
        rw [this, ltB_total h1 h2]
theorem ltB_asymm {s t} (h : ltB s t = true) : ltB t s = false := by
  cases e : ltB t s with
  | false => rfl
  | true => rw [← ltB_trans h e, ltB_irrefl]
/-- Keys of a pair ahead of, or like, another one's. -/
def leP (p q : Pr) : Prop := ltB (kb q) (kb p) = false
theorem leP_refl (p : Pr) : leP p p := ltB_irrefl _
theorem leP_trans {p q r : Pr} (h1 : leP p q) (h2 : leP q r) : leP p r := by
  unfold leP at *
  cases e : ltB (kb r) (kb p) with
  | false => rfl
  | true =>
    cases e2 : ltB (kb p) (kb q) with
    | true => rw [ltB_trans e e2] at h2; exact h2
    | false =>
      rw [ltB_total h1 e2] at h2
      rw [← e]; exact h2
theorem leP_of_lt {p q : Pr} (h : ltB (kb p) (kb q) = true) : leP p q := ltB_asymm h
theorem ltP_le {p q r : Pr} (h1 : ltB (kb p) (kb q) = true) (h2 : leP q r) : ltB (kb p) (kb r) = true := by
  cases e : ltB (kb p) (kb r) with
  | true => rfl
  | false =>
    have h3 : leP r p := e
    have h4 : leP q p := leP_trans h2 h3
    unfold leP at h4
    rw [h4] at h1; exact h1
theorem leP_lt {p q r : Pr} (h1 : leP p q) (h2 : ltB (kb q) (kb r) = true) : ltB (kb p) (kb r) = true := by
  cases e : ltB (kb p) (kb r) with
  | true => rfl
  | false =>
    have h3 : leP r p := e
    have h4 : leP r q := leP_trans h3 h1
    unfold leP at h4
    rw [h4] at h2; exact h2
def SrtP (l : List Pr) : Prop := l.Pairwise leP
/-- Those of one key. -/
def ofK (k : List UInt8) (l : List Pr) : List Pr := l.filter (fun p => kb p == k)
theorem ofK_app (k : List UInt8) (l m : List Pr) : ofK k (l ++ m) = ofK k l ++ ofK k m := by simp [ofK]
theorem mem_ofK {k : List UInt8} {l : List Pr} {p : Pr} : p ∈ ofK k l ↔ p ∈ l ∧ kb p = k := by simp [ofK]
/-- l' is l sorted, those with one key in their order. -/
structure StS (l l' : List Pr) : Prop where
  srt : SrtP l'
  of : ∀ k, ofK k l' = ofK k l
theorem StS.mem {l l' : List Pr} (h : StS l l') (p : Pr) : p ∈ l' ↔ p ∈ l := by
  have h1 : p ∈ ofK (kb p) l' ↔ p ∈ ofK (kb p) l := by rw [h.of]
  rw [mem_ofK, mem_ofK] at h1
  simpa using h1
/-- There is one such row alone. -/
theorem StS.uniq : ∀ {a b : List Pr}, SrtP a → SrtP b → (∀ k, ofK k a = ofK k b) → a = b
  | [], [], _, _, _ => rfl
  | [], y :: b, _, _, h => by
    have := h (kb y)
    simp [ofK] at this
  | x :: a, [], _, _, h => by
    have := h (kb x)
    simp [ofK] at this
  | x :: a, y :: b, ha, hb, h => by
    have ha' := List.pairwise_cons.1 ha
    have hb' := List.pairwise_cons.1 hb
    have hxb : x ∈ y :: b := (mem_ofK.1 (by rw [← h (kb x)]; exact mem_ofK.2 ⟨List.mem_cons_self, rfl⟩)).1
    have hya : y ∈ x :: a := (mem_ofK.1 (by rw [h (kb y)]; exact mem_ofK.2 ⟨List.mem_cons_self, rfl⟩)).1
    have h1 : leP x y := by
      rcases List.mem_cons.1 hya with e | e
      · rw [e]; exact leP_refl _
      · exact ha'.1 y e
    have h2 : leP y x := by
      rcases List.mem_cons.1 hxb with e | e
      · rw [e]; exact leP_refl _
      · exact hb'.1 x e
    have hk : kb x = kb y := ltB_total h2 h1
    have hx := h (kb x)
    have e1 : ofK (kb x) (x :: a) = x :: ofK (kb x) a := by simp [ofK]
    have e2 : ofK (kb x) (y :: b) = y :: ofK (kb x) b := by simp [ofK, hk]
    rw [e1, e2] at hx
    injection hx with hxy hx'
    subst hxy
    rw [StS.uniq ha'.2 hb'.2 (fun k => by
      have := h k
      by_cases e : kb x = k
      · subst e
        exact hx'
      · have n1 : ofK k (x :: a) = ofK k a := by simp [ofK, e]
        have n2 : ofK k (x :: b) = ofK k b := by simp [ofK, e]
        rw [n1, n2] at this
        exact this)]
theorem StS.eq {l a b : List Pr} (ha : StS l a) (hb : StS l b) : a = b := StS.uniq ha.srt hb.srt (fun k => (ha.of k).trans (hb.of k).symm)
theorem ofK_len_nil {l : List Pr} (h : ∀ k, ofK k l = []) : l = [] := by
  cases l with
  | nil => rfl
  | cons x l =>
    have := h (kb x)
    simp [ofK] at this
theorem StS.len {l l' : List Pr} (h : StS l l') : l'.length = l.length := by
  have key : ∀ (a b : List Pr), (∀ k, ofK k a = ofK k b) → a.length = b.length := by
    intro a
    induction a with
    | nil => intro b hb; rw [ofK_len_nil (fun k => (hb k).symm)]
    | cons x a ih =>
      intro b hb
      have hx : x ∈ b := (mem_ofK.1 (by rw [← hb (kb x)]; exact mem_ofK.2 ⟨List.mem_cons_self, rfl⟩)).1
      -- the first one of that key in b
      obtain ⟨u, y, v, rfl, hu, hy⟩ : ∃ u y v, b = u ++ y :: v ∧ ofK (kb x) u = [] ∧ kb y = kb x := by
        clear hb ih
        induction b with
        | nil => cases hx
        | cons z b ihb =>
          by_cases e : kb z = kb x
          · exact ⟨[], z, b, rfl, rfl, e⟩
          · have hx' : x ∈ b := by
              rcases List.mem_cons.1 hx with q | q
              · exact absurd (by rw [q]) e
              · exact q
            obtain ⟨u, y, v, e1, e2, e3⟩ := ihb hx'
            exact ⟨z :: u, y, v, by rw [e1]; rfl, by simp [ofK, e]; simpa [ofK] using e2, e3⟩
      have h0 := hb (kb x)
      rw [ofK_app, hu, List.nil_append] at h0
      have e1 : ofK (kb x) (x :: a) = x :: ofK (kb x) a := by simp [ofK]
      have e2 : ofK (kb x) (y :: v) = y :: ofK (kb x) v := by simp [ofK, hy]
      rw [e1, e2] at h0
      injection h0 with h01 h02
      have := ih (u ++ v) (fun k => by
        have hk := hb k
        rw [ofK_app] at hk ⊢
        by_cases e : kb x = k
        · subst e
          rw [hu, List.nil_append]
          exact h02
        · have n1 : ofK k (x :: a) = ofK k a := by simp [ofK, e]
          have n2 : ofK k (y :: v) = ofK k v := by simp [ofK, hy, e]
          rw [n1, n2] at hk
          exact hk)
      simp only [List.length_cons, List.length_append] at this ⊢
      omega
  exact key l' l h.of
/-- Parts of which each is behind the one ahead of it. -/
theorem srtP_app {a b : List Pr} : SrtP (a ++ b) ↔ SrtP a ∧ SrtP b ∧ ∀ x ∈ a, ∀ y ∈ b, leP x y := List.pairwise_append
/-- The merge of two halves, each cut in two, where those of the second half's front are all ahead of those of the first half's rest. -/
theorem StS.halves {A1 A2 B1 B2 l r : List Pr} (hA : SrtP (A1 ++ A2)) (hB : SrtP (B1 ++ B2)) (h1 : StS (A1 ++ B1) l) (h2 : StS (A2 ++ B2) r) (hab : ∀ x ∈ A1, ∀ y ∈ B2, leP x y) (hba : ∀ y ∈ B1, ∀ x ∈ A2, ltB (kb y) (kb x) = true) : StS ((A1 ++ A2) ++ (B1 ++ B2)) (l ++ r) := by
  obtain ⟨sA1, sA2, cA⟩ := srtP_app.1 hA
  obtain ⟨sB1, sB2, cB⟩ := srtP_app.1 hB
  refine ⟨srtP_app.2 ⟨h1.srt, h2.srt, fun x hx y hy => ?_⟩, fun k => ?_⟩
  · rcases List.mem_append.1 ((h1.mem x).1 hx) with ex | ex
    · rcases List.mem_append.1 ((h2.mem y).1 hy) with ey | ey
      · exact cA x ex y ey
      · exact hab x ex y ey
    · rcases List.mem_append.1 ((h2.mem y).1 hy) with ey | ey
      · exact leP_of_lt (hba x ex y ey)
      · exact cB x ex y ey
  · rw [ofK_app, h1.of, h2.of]
    simp only [ofK_app]
    have hz : ofK k B1 = [] ∨ ofK k A2 = [] := by
      cases e1 : ofK k B1 with
      | nil => exact .inl rfl
      | cons y m =>
        cases e2 : ofK k A2 with
        | nil => exact .inr rfl
        | cons x m2 =>
          have hy := mem_ofK.1 (show y ∈ ofK k B1 by rw [e1]; exact List.mem_cons_self)
          have hx := mem_ofK.1 (show x ∈ ofK k A2 by rw [e2]; exact List.mem_cons_self)
          have := hba y hy.1 x hx.1
          rw [hy.2, hx.2, ltB_irrefl] at this
          cases this
    rcases hz with e | e <;> rw [e] <;> simp
/-- One more put into a sorted row, behind those that are not behind it. -/
theorem StS.insert {u v : List Pr} {x : Pr} (h : SrtP (u ++ v)) (hu : ∀ y ∈ u, leP y x) (hv : ∀ y ∈ v, ltB (kb x) (kb y) = true) : StS ((u ++ v) ++ [x]) (u ++ x :: v) := by
  obtain ⟨s1, s2, c⟩ := srtP_app.1 h
  refine ⟨srtP_app.2 ⟨s1, List.pairwise_cons.2 ⟨fun y hy => leP_of_lt (hv y hy), s2⟩, fun y hy z hz => ?_⟩, fun k => ?_⟩
  · rcases List.mem_cons.1 hz with e | e
    · rw [e]; exact hu y hy
    · exact c y hy z e
  · rw [show u ++ x :: v = (u ++ [x]) ++ v by simp]
    simp only [ofK_app]
    by_cases e : kb x = k
    · have hn : ofK k v = [] := by
        rw [List.eq_nil_iff_forall_not_mem]
        intro y hy
        have hy' := mem_ofK.1 hy
        have := hv y hy'.1
        rw [hy'.2, e, ltB_irrefl] at this
        cases this
      rw [hn]; simp
    · have hn : ofK k [x] = [] := by simp [ofK, e]
      rw [hn]; simp
theorem StS.refl {l : List Pr} (h : SrtP l) : StS l l := ⟨h, fun _ => rfl⟩
theorem StS.trans {l m r : List Pr} (h1 : ∀ k, ofK k m = ofK k l) (h2 : StS m r) : StS l r := ⟨h2.srt, fun k => (h2.of k).trans (h1 k)⟩
end Go.Proofs.YtjdhdeffiigpbaaDoor
