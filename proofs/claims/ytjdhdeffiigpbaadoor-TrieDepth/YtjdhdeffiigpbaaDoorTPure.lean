/-
  Pairs, a map's node, sorted pairs, what a builder holds: pure.
-/
import Derived.Test.YtjdhdeffiigpbaaDoorYSortP
import Derived.Test.YtjdhdeffiigpbaaDoorTNode
namespace Go.Proofs.YtjdhdeffiigpbaaDoor
open Go Nb

/-- A value's bytes. -/
def vb (p : Pr) : List UInt8 := p.2.data.toList
/-- Pairs that may be, with keys of L nibbles. -/
structure May (L : Nat) (l : List Pr) : Prop where
  len : ∀ p ∈ l, (kb p).length = L
  nib : ∀ p ∈ l, rightL (kb p) = true
  val : ∀ p ∈ l, vb p ≠ []
  apart : l.Pairwise (fun p q => kb p ≠ kb q)
/-- All keys are alike ahead of d. -/
def Alike (d : Nat) (l : List Pr) : Prop := ∀ p ∈ l, ∀ q ∈ l, (kb p).take d = (kb q).take d
/-- They are alike ahead of q, and not at it. -/
structure Lcp (l : List Pr) (q : Nat) : Prop where
  alike : Alike q l
  differ : ∃ x ∈ l, ∃ y ∈ l, (kb x)[q]? ≠ (kb y)[q]?
theorem take_get {x y : List UInt8} {d i : Nat} (h : x.take d = y.take d) (hi : i < d) : x[i]? = y[i]? := by
  have := congrArg (fun z => z[i]?) h
  simpa [List.getElem?_take, hi] using this
theorem Lcp.le {l : List Pr} {q q' : Nat} (h : Lcp l q) (h' : Alike q' l) : q' ≤ q := by
  obtain ⟨x, hx, y, hy, hne⟩ := h.differ
  refine Nat.not_lt.1 fun hlt => hne (take_get (h' x hx y hy) hlt)
theorem Lcp.uniq {l : List Pr} {q q' : Nat} (h : Lcp l q) (h' : Lcp l q') : q = q' :=
  Nat.le_antisymm (h'.le h.alike) (h.le h'.alike)
theorem Alike.sub {d : Nat} {l m : List Pr} (h : Alike d l) (hs : ∀ x ∈ m, x ∈ l) : Alike d m := fun p hp q hq => h p (hs p hp) q (hs q hq)
theorem Alike.le {d e : Nat} {l : List Pr} (h : Alike d l) (he : e ≤ d) : Alike e l := fun p hp q hq => by
  have := congrArg (List.take e) (h p hp q hq)
  rwa [List.take_take, List.take_take, Nat.min_eq_left he] at this
theorem May.filter {L : Nat} {l : List Pr} (h : May L l) (f : Pr → Bool) : May L (l.filter f) :=
  ⟨fun p hp => h.len p (List.mem_filter.1 hp).1, fun p hp => h.nib p (List.mem_filter.1 hp).1, fun p hp => h.val p (List.mem_filter.1 hp).1, h.apart.filter f⟩
theorem May.perm {L : Nat} {l m : List Pr} (h : May L l) (hp : l.Perm m) : May L m :=
  ⟨fun p q => h.len p (hp.mem_iff.2 q), fun p q => h.nib p (hp.mem_iff.2 q), fun p q => h.val p (hp.mem_iff.2 q),
   (hp.pairwise_iff fun e => Ne.symm e).1 h.apart⟩
/-- How much the first one shares with all. -/
def minPre (k : List UInt8) : List Pr → Nat
  | [] => k.length
  | x :: l => min (pre k (kb x)) (minPre k l)
theorem minPre_le (k : List UInt8) : ∀ l : List Pr, minPre k l ≤ k.length
  | [] => Nat.le_refl _
  | _ :: _ => Nat.le_trans (Nat.min_le_left _ _) (pre_le _ _).1
theorem minPre_mem (k : List UInt8) : ∀ (l : List Pr) (x : Pr), x ∈ l → minPre k l ≤ pre k (kb x)
  | y :: l, x, h => by
    rcases List.mem_cons.1 h with rfl | h
    · exact Nat.min_le_left _ _
    · exact Nat.le_trans (Nat.min_le_right _ _) (minPre_mem k l x h)
theorem minPre_at (k : List UInt8) : ∀ l : List Pr, l ≠ [] → ∃ x ∈ l, minPre k l = pre k (kb x)
  | [x], _ => ⟨x, List.mem_cons_self, Nat.min_eq_left (pre_le _ _).1⟩
  | x :: y :: l, _ => by
    obtain ⟨z, hz, he⟩ := minPre_at k (y :: l) (by simp)
    rcases Nat.le_total (pre k (kb x)) (minPre k (y :: l)) with h | h
    · exact ⟨x, List.mem_cons_self, Nat.min_eq_left h⟩
    · exact ⟨z, List.mem_cons_of_mem _ hz, by rw [← he]; exact Nat.min_eq_right h⟩
theorem take_pre {x y : List UInt8} {q : Nat} (h : q ≤ pre x y) : x.take q = y.take q := by
  have := congrArg (List.take q) (pre_take x y)
  rwa [List.take_take, List.take_take, Nat.min_eq_left h] at this
theorem pre_of_take {x y : List UInt8} {d : Nat} (h : x.take d = y.take d) (hx : d ≤ x.length) (hy : d ≤ y.length) : d ≤ pre x y := by
  refine Nat.not_lt.1 fun hlt => ?_
  rcases pre_ne x y with e | e | e
  · omega
  · omega
  · exact e (take_get h hlt)
theorem lcp_minPre {L : Nat} {p : Pr} {l : List Pr} (hm : May L (p :: l)) (hl : l ≠ []) : Lcp (p :: l) (minPre (kb p) l) := by
  have key : ∀ x ∈ p :: l, (kb p).take (minPre (kb p) l) = (kb x).take (minPre (kb p) l) := by
    intro x hx
    rcases List.mem_cons.1 hx with rfl | hx
    · rfl
    · exact take_pre (minPre_mem _ _ _ hx)
  refine ⟨fun x hx y hy => (key x hx).symm.trans (key y hy), ?_⟩
  obtain ⟨x, hx, he⟩ := minPre_at (kb p) l hl
  refine ⟨p, List.mem_cons_self, x, List.mem_cons_of_mem _ hx, ?_⟩
  rw [he]
  have hne := (List.pairwise_cons.1 hm.apart).1 x hx
  have h1 := hm.len p List.mem_cons_self
  have h2 := hm.len x (List.mem_cons_of_mem _ hx)
  rcases pre_ne (kb p) (kb x) with e | e | e
  · exact absurd (by have := pre_take (kb p) (kb x); rwa [e, List.take_length, h1, ← h2, List.take_length] at this) hne
  · exact absurd (by have := pre_take (kb p) (kb x); rwa [e, List.take_length, h2, ← h1, List.take_length] at this) hne
  · exact e
theorem Lcp.lt {L : Nat} {l : List Pr} {q : Nat} (hm : May L l) (h : Lcp l q) : q < L := by
  obtain ⟨x, hx, y, hy, hne⟩ := h.differ
  refine Nat.not_le.1 fun hle => hne ?_
  rw [List.getElem?_eq_none (by rw [hm.len x hx]; exact hle), List.getElem?_eq_none (by rw [hm.len y hy]; exact hle)]
/-- The nibble at a place. -/
def nibAt (q : Nat) (p : Pr) : Nat := ((kb p).getD q 0).toNat
theorem nibAt_lt {L : Nat} {l : List Pr} (hm : May L l) {q : Nat} {p : Pr} (hp : p ∈ l) : nibAt q p < 16 := by
  unfold nibAt
  rw [List.getD_eq_getElem?_getD]
  rcases Nat.lt_or_ge q (kb p).length with h | h
  · rw [List.getElem?_eq_getElem h]; exact right_at _ (hm.nib p hp) q h
  · rw [List.getElem?_eq_none h]; decide
theorem nibAt_eq {L : Nat} {l : List Pr} (hm : May L l) {q : Nat} (hq : q < L) {x y : Pr} (hx : x ∈ l) (hy : y ∈ l) (h : nibAt q x = nibAt q y) : (kb x)[q]? = (kb y)[q]? := by
  unfold nibAt at h
  rw [List.getD_eq_getElem?_getD, List.getD_eq_getElem?_getD] at h
  have h1 : q < (kb x).length := by rw [hm.len x hx]; exact hq
  have h2 : q < (kb y).length := by rw [hm.len y hy]; exact hq
  rw [List.getElem?_eq_getElem h1, List.getElem?_eq_getElem h2] at h
  rw [List.getElem?_eq_getElem h1, List.getElem?_eq_getElem h2]
  exact congrArg some (UInt8.toNat_inj.1 h)
def atN (q c : Nat) (l : List Pr) : List Pr := l.filter fun x => nibAt q x == c
theorem mem_atN {q c : Nat} {l : List Pr} {x : Pr} : x ∈ atN q c l ↔ x ∈ l ∧ nibAt q x = c := by unfold atN; simp
/-- A branch of refs. -/
def brL (f : Nat → List UInt8) : List UInt8 := listL (((List.range 16).map fun c => if f c = [] then [128] else f c).flatten ++ [128])
theorem brL_congr {f g : Nat → List UInt8} (h : ∀ c, c < 16 → f c = g c) : brL f = brL g := by
  unfold brL
  congr 3
  refine List.map_congr_left fun c hc => ?_
  rw [h c (List.mem_range.1 hc)]
/-- A map's node from depth on. -/
def node (d : Nat) (l : List Pr) : List UInt8 :=
  match l with
  | [] => []
  | [p] => leafL ((kb p).drop d) (vb p)
  | p :: x :: rest =>
    let q := minPre (kb p) (x :: rest)
    let b := brL fun c => if h : atN q c (p :: x :: rest) ≠ [] ∧ (atN q c (p :: x :: rest)).length < (p :: x :: rest).length then refN (node (q + 1) (atN q c (p :: x :: rest))) else []
    if d < q then extL (((kb p).take q).drop d) (refN b) else b
termination_by l.length
decreasing_by exact h.2
theorem node_one (d : Nat) (p : Pr) : node d [p] = leafL ((kb p).drop d) (vb p) := by
  rw [node]
/-- What stands for each nibble. -/
def kids (q : Nat) (l : List Pr) (c : Nat) : List UInt8 := if atN q c l = [] then [] else refN (node (q + 1) (atN q c l))
theorem atN_less {L : Nat} {l : List Pr} {q : Nat} (hm : May L l) (h : Lcp l q) (c : Nat) : (atN q c l).length < l.length := by
  unfold atN
  refine List.length_filter_lt_length_iff_exists.2 ?_
  obtain ⟨x, hx, y, hy, hne⟩ := h.differ
  by_cases hc : nibAt q x = c
  · refine ⟨y, hy, ?_⟩
    have : nibAt q y ≠ c := fun e => hne (nibAt_eq hm (h.lt hm) hx hy (hc.trans e.symm))
    simpa using this
  · exact ⟨x, hx, by simpa using hc⟩
theorem node_many {L : Nat} {l : List Pr} {q d : Nat} {p : Pr} (hm : May L l) (h : Lcp l q) (hp : p ∈ l) :
    node d l = if d < q then extL (((kb p).take q).drop d) (refN (brL (kids q l))) else brL (kids q l) := by
  have hl : ∀ c, (atN q c l).length < l.length := atN_less hm h
  have ha := h.alike
  match l, hm, h, hl, ha, hp with
  | [y], hm, h, hl, ha, hp =>
    obtain ⟨x, hx, z, hz, hne⟩ := h.differ
    rw [List.mem_singleton.1 hx, List.mem_singleton.1 hz] at hne
    exact absurd rfl hne
  | y :: x :: rest, hm, h, hl, ha, hp =>
    have hq : minPre (kb y) (x :: rest) = q := (lcp_minPre hm (by simp)).uniq h
    rw [node]
    simp only [hq]
    have hb : (brL fun c => if _h : atN q c (y :: x :: rest) ≠ [] ∧ (atN q c (y :: x :: rest)).length < (y :: x :: rest).length then refN (node (q + 1) (atN q c (y :: x :: rest))) else []) = brL (kids q (y :: x :: rest)) := by
      refine brL_congr fun c _ => ?_
      unfold kids
      by_cases hc : atN q c (y :: x :: rest) = []
      · rw [if_pos hc, dif_neg (by simp [hc])]
      · rw [if_neg hc, dif_pos ⟨hc, hl c⟩]
    rw [hb, ha p hp y List.mem_cons_self]
theorem Lcp.perm {l m : List Pr} {q : Nat} (h : Lcp l q) (hp : l.Perm m) : Lcp m q := by
  obtain ⟨x, hx, y, hy, hne⟩ := h.differ
  exact ⟨h.alike.sub fun x hx => hp.mem_iff.2 hx, x, hp.mem_iff.1 hx, y, hp.mem_iff.1 hy, hne⟩
theorem may_cases {L : Nat} {l : List Pr} (hm : May L l) : l = [] ∨ (∃ p, l = [p]) ∨ ∃ q, Lcp l q := by
  match l, hm with
  | [], _ => exact .inl rfl
  | [p], _ => exact .inr (.inl ⟨p, rfl⟩)
  | p :: x :: rest, hm => exact .inr (.inr ⟨_, lcp_minPre hm (by simp)⟩)
theorem node_perm : ∀ (n : Nat) (l m : List Pr) (L d : Nat), l.length < n → l.Perm m → May L l → node d l = node d m
  | 0, _, _, _, _, h, _, _ => by omega
  | n + 1, l, m, L, d, h, hp, hm => by
    rcases may_cases hm with rfl | ⟨p, rfl⟩ | ⟨q, hq⟩
    · rw [List.nil_perm.1 hp]
    · rw [List.singleton_perm.1 hp]
    · obtain ⟨x, hx, _⟩ := hq.differ
      rw [node_many hm hq hx, node_many (hm.perm hp) (hq.perm hp) (hp.mem_iff.1 hx)]
      have hk : brL (kids q l) = brL (kids q m) := by
        refine brL_congr fun c _ => ?_
        have hpc : (atN q c l).Perm (atN q c m) := hp.filter _
        have hle := atN_less hm hq c
        unfold kids
        by_cases he : atN q c l = []
        · rw [if_pos he, if_pos (by rw [he] at hpc; exact (List.nil_perm.1 hpc))]
        · rw [if_neg he, if_neg (by intro e; rw [e] at hpc; exact he (List.perm_nil.1 hpc)), node_perm n _ _ L (q + 1) (by omega) hpc (hm.filter _)]
      rw [hk]
/-! Sorted pairs. -/
/-- Keys rise. -/
def Rise (l : List Pr) : Prop := l.Pairwise fun p q => ltB (kb p) (kb q) = true
theorem mid_take : ∀ (q : Nat) (a x b : List UInt8), ltB x a = false → ltB b x = false → a.take q = b.take q → q ≤ a.length → q ≤ x.length → x.take q = a.take q
  | 0, _, _, _, _, _, _, _, _ => by simp
  | q + 1, a, x, b, h1, h2, h, ha, hx => by
    match a, x, b, h1, h2, h, ha, hx with
    | a :: s, x :: t, [], h1, h2, h, ha, hx => simp at h
    | a :: s, x :: t, b :: u, h1, h2, h, ha, hx =>
      simp only [List.take_succ_cons, List.cons.injEq] at h
      obtain ⟨rfl, h⟩ := h
      simp only [ltB] at h1 h2
      by_cases hxa : x < a
      · rw [if_pos hxa] at h1; cases h1
      · by_cases hax : a < x
        · rw [if_pos hax] at h2; cases h2
        · have e : a = x := UInt8.le_antisymm (UInt8.not_lt.1 hxa) (UInt8.not_lt.1 hax)
          subst e
          simp only [UInt8.lt_irrefl, if_false] at h1 h2
          rw [List.take_succ_cons, List.take_succ_cons, mid_take q s t u h1 h2 h (by simpa using ha) (by simpa using hx)]
theorem ltB_at : ∀ (q : Nat) (a b : List UInt8), ltB a b = true → a.take q = b.take q → q < a.length → q < b.length → (a.getD q 0).toNat ≤ (b.getD q 0).toNat
  | q, [], _, _, _, ha, _ => by simp at ha
  | q, _ :: _, [], _, _, _, hb => by simp at hb
  | 0, a :: s, b :: t, h, _, _, _ => by
    simp only [ltB] at h
    by_cases hab : a < b
    · exact Nat.le_of_lt hab
    · rw [if_neg hab] at h
      by_cases hba : b < a
      · rw [if_pos hba] at h; cases h
      · have e : a = b := UInt8.le_antisymm (UInt8.not_lt.1 hba) (UInt8.not_lt.1 hab)
        rw [e]; exact Nat.le_refl _
  | q + 1, a :: s, b :: t, h, h2, ha, hb => by
    simp only [List.take_succ_cons, List.cons.injEq] at h2
    obtain ⟨rfl, h2⟩ := h2
    simp only [ltB, UInt8.lt_irrefl, if_false] at h
    have := ltB_at q s t h h2 (by simpa using ha) (by simpa using hb)
    simpa [List.getD_eq_getElem?_getD] using this
theorem Rise.nib {L : Nat} {l : List Pr} {q : Nat} (hr : Rise l) (hm : May L l) (ha : Alike q l) (hq : q < L) : l.Pairwise fun x y => nibAt q x ≤ nibAt q y := by
  refine hr.imp_of_mem ?_
  intro x y hx hy h
  exact ltB_at q _ _ h (ha x hx y hy) (by rw [hm.len x hx]; exact hq) (by rw [hm.len y hy]; exact hq)
theorem Rise.apart {l : List Pr} (hr : Rise l) : l.Pairwise fun p q => kb p ≠ kb q :=
  hr.imp fun {p q} h e => by rw [e, ltB_irrefl] at h; cases h
/-- Those that have a nibble of n or more at a place. -/
def fromN (q n : Nat) (l : List Pr) : List Pr := l.filter fun x => decide (n ≤ nibAt q x)
theorem fromN_step : ∀ {q n : Nat} {l : List Pr}, l.Pairwise (fun x y => nibAt q x ≤ nibAt q y) → fromN q n l = atN q n l ++ fromN q (n + 1) l
  | q, n, [], _ => rfl
  | q, n, x :: l, h => by
    obtain ⟨h1, h2⟩ := List.pairwise_cons.1 h
    have ih := fromN_step (q := q) (n := n) h2
    unfold fromN atN at *
    rcases Nat.lt_trichotomy (nibAt q x) n with hlt | he | hgt
    · rw [List.filter_cons_of_neg (by simpa using hlt), List.filter_cons_of_neg (by simp; omega), List.filter_cons_of_neg (by simp; omega)]
      exact ih
    · rw [List.filter_cons_of_pos (by simp; omega), List.filter_cons_of_pos (by simpa using he), List.filter_cons_of_neg (by simp; omega), ih]
      rfl
    · have hnone : l.filter (fun x => nibAt q x == n) = [] := by
        refine List.filter_eq_nil_iff.2 fun y hy => ?_
        have := h1 y hy
        simp; omega
      rw [List.filter_cons_of_pos (by simp; omega), List.filter_cons_of_neg (by simp; omega), List.filter_cons_of_pos (by simp; omega), ih, hnone]
      rfl
theorem fromN_zero (q : Nat) (l : List Pr) : fromN q 0 l = l := List.filter_eq_self.2 fun _ _ => by simp
theorem fromN_last {L : Nat} {l : List Pr} (hm : May L l) (q : Nat) : fromN q 16 l = [] :=
  List.filter_eq_nil_iff.2 fun _ hx => by have := nibAt_lt hm (q := q) hx; simpa using this
/-- What a row begins with, of one nibble. -/
theorem takeN {q n : Nat} {l m : List Pr} : (atN q n l ++ fromN q (n + 1) m).takeWhile (fun x => nibAt q x == n) = atN q n l := by
  rw [List.takeWhile_append_of_pos (fun x hx => by simpa using (mem_atN.1 hx).2)]
  have : (fromN q (n + 1) m).takeWhile (fun x => nibAt q x == n) = [] := by
    match h : fromN q (n + 1) m with
    | [] => rfl
    | x :: r =>
      have hx : x ∈ fromN q (n + 1) m := by rw [h]; exact List.mem_cons_self
      unfold fromN at hx
      have := (List.mem_filter.1 hx).2
      rw [List.takeWhile_cons_of_neg]
      simp at this ⊢; omega
  rw [this, List.append_nil]
theorem pre_drop {x y : List UInt8} {d : Nat} (h : x.take d = y.take d) (hx : d ≤ x.length) (hy : d ≤ y.length) : d + pre (x.drop d) (y.drop d) = pre x y := by
  have h1 := pre_le (x.drop d) (y.drop d)
  have h2 := pre_take (x.drop d) (y.drop d)
  have h3 := pre_ne (x.drop d) (y.drop d)
  rw [List.length_drop, List.length_drop] at h1
  rw [List.length_drop, List.length_drop, List.getElem?_drop, List.getElem?_drop] at h3
  refine (pre_eq _ _ _ (by omega) (by omega) ?_ ?_).symm
  · rw [List.take_add, List.take_add, h, h2]
  · rcases h3 with h3 | h3 | h3
    · exact .inl (by omega)
    · exact .inr (.inl (by omega))
    · exact .inr (.inr h3)
/-- Of rising keys the first and the last share what all do. -/
theorem Rise.lcp {L : Nat} {a b : Pr} {l : List Pr} (hr : Rise (a :: l)) (hm : May L (a :: l)) (hb : (a :: l).getLast? = some b) (hl : l ≠ []) : Lcp (a :: l) (pre (kb a) (kb b)) := by
  have hbm : b ∈ a :: l := List.mem_of_getLast? hb
  have hla := hm.len a List.mem_cons_self
  have hlb := hm.len b hbm
  have hbl : b ∈ l := by
    rw [List.getLast?_cons_of_ne_nil hl] at hb
    exact List.mem_of_getLast? hb
  have hab := (List.pairwise_cons.1 hr).1 b hbl
  have hple := pre_le (kb a) (kb b)
  have key : ∀ x ∈ a :: l, (kb x).take (pre (kb a) (kb b)) = (kb a).take (pre (kb a) (kb b)) := by
    intro x hx
    refine mid_take _ _ _ (kb b) ?_ ?_ (pre_take _ _) hple.1 (by rw [hm.len x hx, ← hla]; exact hple.1)
    · rcases List.mem_cons.1 hx with rfl | hx
      · exact ltB_irrefl _
      · exact ltB_asymm ((List.pairwise_cons.1 hr).1 x hx)
    · obtain ⟨ys, hys⟩ := List.getLast?_eq_some_iff.1 hb
      rw [hys] at hx
      rcases List.mem_append.1 hx with hx | hx
      · unfold Rise at hr
        rw [hys] at hr
        exact ltB_asymm ((List.pairwise_append.1 hr).2.2 x hx b List.mem_cons_self)
      · rw [List.mem_singleton.1 hx]; exact ltB_irrefl _
  refine ⟨fun x hx y hy => (key x hx).trans (key y hy).symm, a, List.mem_cons_self, b, hbm, ?_⟩
  rcases pre_ne (kb a) (kb b) with e | e | e
  · have := pre_take (kb a) (kb b)
    rw [e, List.take_length, hla, ← hlb, List.take_length] at this
    rw [this, ltB_irrefl] at hab; cases hab
  · have := pre_take (kb a) (kb b)
    rw [e, List.take_length, hlb, ← hla, List.take_length] at this
    rw [this, ltB_irrefl] at hab; cases hab
  · exact e
/-! What a builder holds. -/
abbrev Stk := List (Nat × (Nat → List UInt8))
def behind (d : Nat) : Stk → Nat
  | [] => d
  | e :: _ => max d (e.1 + 1)
def withR (f : Nat → List UInt8) (c : Nat) (r : List UInt8) : Nat → List UInt8 := fun i => if i = c then r else f i
def extd (path b : List UInt8) : List UInt8 := if path = [] then b else extL path (refN b)
def foldS (k : List UInt8) (d : Nat) : List UInt8 → Stk → List UInt8 × Stk
  | n, [] => (n, [])
  | n, e :: s => if d ≤ e.1 then foldS k d (extd ((k.take e.1).drop (behind d s)) (brL (withR e.2 (k.getD e.1 0).toNat (refN n)))) s else (n, e :: s)
def folded (k v : List UInt8) (d : Nat) (s : Stk) : List UInt8 × Stk := foldS k d (leafL (k.drop (behind d s)) v) s
def stackUp (q c : Nat) (r : List UInt8) : Stk → Stk
  | [] => [(q, withR (fun _ => []) c r)]
  | e :: s => if e.1 = q then (q, withR e.2 c r) :: s else (q, withR (fun _ => []) c r) :: e :: s
def parted (k v : List UInt8) (q : Nat) (s : Stk) : Stk :=
  stackUp q (k.getD q 0).toNat (refN (folded k v (q + 1) s).1) (folded k v (q + 1) s).2
/-- Those that are like k ahead of d. -/
def alikeTo (k : List UInt8) (d : Nat) (l : List Pr) : List Pr := l.filter fun x => (kb x).take d == k.take d
theorem mem_alikeTo {k : List UInt8} {d : Nat} {l : List Pr} {x : Pr} : x ∈ alikeTo k d l ↔ x ∈ l ∧ (kb x).take d = k.take d := by unfold alikeTo; simp
theorem alikeTo_zero (k : List UInt8) (l : List Pr) : alikeTo k 0 l = l := List.filter_eq_self.2 fun _ _ => by simp
theorem alikeTo_app (k : List UInt8) (d : Nat) (l m : List Pr) : alikeTo k d (l ++ m) = alikeTo k d l ++ alikeTo k d m := List.filter_append ..
theorem atN_app (q c : Nat) (l m : List Pr) : atN q c (l ++ m) = atN q c l ++ atN q c m := List.filter_append ..
/-- What is open, of the places below B, along k. -/
structure Stack (k : List UInt8) (l : List Pr) (B : Nat) (s : Stk) : Prop where
  falls : s.Pairwise fun a b => b.1 < a.1
  all : ∀ p, (∃ f, (p, f) ∈ s) ↔ p < B ∧ ∃ x ∈ l, kb x ≠ k ∧ pre (kb x) k = p
  refs : ∀ p f, (p, f) ∈ s → ∀ c, c < 16 → f c = if c = (k.getD p 0).toNat then [] else kids p (alikeTo k p l) c
theorem behind_cons (d : Nat) (e : Nat × (Nat → List UInt8)) (s : Stk) : behind d (e :: s) = max d (e.1 + 1) := rfl
theorem behind_le {d p : Nat} {f : Nat → List UInt8} {s : Stk} (h : ((p, f) :: s).Pairwise fun a b => b.1 < a.1) (hd : d ≤ p) : behind d s ≤ p := by
  match s, h with
  | [], _ => exact hd
  | e :: s, h =>
    have := (List.pairwise_cons.1 h).1 e List.mem_cons_self
    rw [behind_cons]; simp at this; omega
theorem behind_gt {d : Nat} {s : Stk} (h : s.Pairwise fun a b => b.1 < a.1) {p : Nat} {f : Nat → List UInt8} (hm : (p, f) ∈ s) : p < behind d s := by
  match s, h, hm with
  | e :: s, h, hm =>
    rw [behind_cons]
    rcases List.mem_cons.1 hm with he | he
    · rw [← he]; simp; omega
    · have := (List.pairwise_cons.1 h).1 _ he
      simp at this; omega
theorem le_behind (d : Nat) (s : Stk) : d ≤ behind d s := by cases s <;> simp [behind]; omega
theorem Stack.tail {k : List UInt8} {l : List Pr} {B p : Nat} {f : Nat → List UInt8} {s : Stk} (h : Stack k l B ((p, f) :: s)) : Stack k l p s := by
  obtain ⟨h1, h2⟩ := List.pairwise_cons.1 h.falls
  refine ⟨h2, fun p' => ?_, fun p' f' hm => h.refs p' f' (List.mem_cons_of_mem _ hm)⟩
  have hp := (h.all p).1 ⟨f, List.mem_cons_self⟩
  constructor
  · rintro ⟨f', hf⟩
    exact ⟨h1 _ hf, ((h.all p').1 ⟨f', List.mem_cons_of_mem _ hf⟩).2⟩
  · rintro ⟨hlt, hx⟩
    obtain ⟨f', hf⟩ := (h.all p').2 ⟨by omega, hx⟩
    rcases List.mem_cons.1 hf with e | e
    · have : p' = p := congrArg Prod.fst e
      omega
    · exact ⟨f', e⟩
theorem pre_lt {L : Nat} {l : List Pr} (hm : May L l) {x y : Pr} (hx : x ∈ l) (hy : y ∈ l) (hne : kb x ≠ kb y) : pre (kb x) (kb y) < L := by
  refine Nat.not_le.1 fun hle => hne ?_
  have h1 := hm.len x hx
  have h2 := hm.len y hy
  have := take_pre hle
  rwa [List.take_of_length_le (by omega), List.take_of_length_le (by omega)] at this
theorem pre_at {L : Nat} {l : List Pr} (hm : May L l) {x y : Pr} (hx : x ∈ l) (hy : y ∈ l) (hne : kb x ≠ kb y) : (kb x)[pre (kb x) (kb y)]? ≠ (kb y)[pre (kb x) (kb y)]? := by
  have := pre_lt hm hx hy hne
  rcases pre_ne (kb x) (kb y) with e | e | e
  · rw [hm.len x hx] at e; omega
  · rw [hm.len y hy] at e; omega
  · exact e
theorem take_succ_iff {L : Nat} {l : List Pr} (hm : May L l) {x y : Pr} (hx : x ∈ l) (hy : y ∈ l) {p : Nat} (hp : p < L) : (kb x).take (p + 1) = (kb y).take (p + 1) ↔ (kb x).take p = (kb y).take p ∧ nibAt p x = nibAt p y := by
  have h1 : p < (kb x).length := by rw [hm.len x hx]; exact hp
  have h2 : p < (kb y).length := by rw [hm.len y hy]; exact hp
  constructor
  · intro h
    refine ⟨by have := congrArg (List.take p) h; rwa [List.take_take, List.take_take, Nat.min_eq_left (Nat.le_succ p)] at this, ?_⟩
    have := take_get h (Nat.lt_succ_self p)
    unfold nibAt
    rw [List.getD_eq_getElem?_getD, List.getD_eq_getElem?_getD, this]
  · rintro ⟨h3, h4⟩
    have h5 := nibAt_eq hm hp hx hy h4
    rw [List.take_add_one, List.take_add_one, h3, h5]
/-- One open branch is closed. -/
theorem close_one {L : Nat} {l : List Pr} {last : Pr} {d B p : Nat} {f : Nat → List UInt8} {s : Stk} (hm : May L l) (hl : last ∈ l) (hs : Stack (kb last) l B ((p, f) :: s)) (hd : d ≤ p) :
    extd (((kb last).take p).drop (behind d s)) (brL (withR f ((kb last).getD p 0).toNat (refN (node (p + 1) (alikeTo (kb last) (p + 1) l))))) = node (behind d s) (alikeTo (kb last) (behind d s) l) := by
  obtain ⟨hpB, x, hx, hxk, hxp⟩ := (hs.all p).1 ⟨f, List.mem_cons_self⟩
  have hpL : p < L := by rw [← hxp]; exact pre_lt hm hx hl hxk
  have hkl := hm.len last hl
  have hb := behind_le hs.falls hd
  obtain ⟨b, hbe⟩ : ∃ b, b = behind d s := ⟨_, rfl⟩
  rw [← hbe] at hb ⊢
  have hG : alikeTo (kb last) b l = alikeTo (kb last) p l := by
    unfold alikeTo
    refine List.filter_congr fun y hy => ?_
    rw [Bool.eq_iff_iff, beq_iff_eq, beq_iff_eq]
    constructor
    · intro h
      by_cases hyk : kb y = kb last
      · rw [hyk]
      · have h1 : b ≤ pre (kb y) (kb last) := pre_of_take h (by rw [hm.len y hy]; omega) (by omega)
        refine take_pre (Nat.not_lt.1 fun hlt => ?_)
        obtain ⟨g, hg⟩ := (hs.all _).2 ⟨Nat.lt_trans hlt hpB, y, hy, hyk, rfl⟩
        rcases List.mem_cons.1 hg with e | e
        · have : pre (kb y) (kb last) = p := congrArg Prod.fst e
          omega
        · have := behind_gt (d := d) hs.tail.falls e
          omega
    · intro h
      have := congrArg (List.take b) h
      rwa [List.take_take, List.take_take, Nat.min_eq_left hb] at this
  rw [hG]
  have hlG : last ∈ alikeTo (kb last) p l := mem_alikeTo.2 ⟨hl, rfl⟩
  have hlcp : Lcp (alikeTo (kb last) p l) p := by
    refine ⟨fun y hy z hz => (mem_alikeTo.1 hy).2.trans (mem_alikeTo.1 hz).2.symm, x, mem_alikeTo.2 ⟨hx, take_pre (Nat.le_of_eq hxp.symm)⟩, last, hlG, ?_⟩
    have := pre_at hm hx hl hxk
    rwa [hxp] at this
  have hmG : May L (alikeTo (kb last) p l) := hm.filter _
  rw [node_many hmG hlcp hlG]
  have hkids : brL (withR f ((kb last).getD p 0).toNat (refN (node (p + 1) (alikeTo (kb last) (p + 1) l)))) = brL (kids p (alikeTo (kb last) p l)) := by
    refine brL_congr fun c hc => ?_
    unfold withR
    by_cases he : c = ((kb last).getD p 0).toNat
    · have hat : atN p c (alikeTo (kb last) p l) = alikeTo (kb last) (p + 1) l := by
        unfold atN alikeTo
        rw [List.filter_filter]
        refine List.filter_congr fun y hy => ?_
        rw [Bool.eq_iff_iff, Bool.and_eq_true, beq_iff_eq, beq_iff_eq, beq_iff_eq, take_succ_iff hm hy hl hpL, he]
        exact And.comm
      rw [if_pos he]
      unfold kids
      rw [hat, if_neg]
      exact fun e => by
        have : last ∈ alikeTo (kb last) (p + 1) l := mem_alikeTo.2 ⟨hl, rfl⟩
        rw [e] at this; cases this
    · rw [if_neg he, hs.refs p f List.mem_cons_self c hc, if_neg he]
  rw [hkids]
  unfold extd
  have hlen : (((kb last).take p).drop b).length = p - b := by rw [List.length_drop, List.length_take]; omega
  by_cases hbp : b < p
  · rw [if_neg (by intro e; rw [e] at hlen; simp at hlen; omega), if_pos hbp]
  · rw [if_pos (List.eq_nil_of_length_eq_zero (by omega)), if_neg hbp]
theorem foldS_spec {L : Nat} {l : List Pr} {last : Pr} {d : Nat} (hm : May L l) (hl : last ∈ l) : ∀ (s : Stk) (B : Nat), Stack (kb last) l B s →
    foldS (kb last) d (node (behind d s) (alikeTo (kb last) (behind d s) l)) s = (node d (alikeTo (kb last) d l), s.dropWhile fun e => decide (d ≤ e.1))
  | [], B, hs => rfl
  | (p, f) :: s, B, hs => by
    unfold foldS
    by_cases hd : d ≤ p
    · have hb : behind d ((p, f) :: s) = p + 1 := by unfold behind; simp; omega
      rw [if_pos hd, hb, close_one hm hl hs hd, foldS_spec hm hl s p hs.tail, List.dropWhile_cons_of_pos (by simpa using hd)]
    · have hb : behind d ((p, f) :: s) = d := by unfold behind; simp; omega
      rw [if_neg hd, hb, List.dropWhile_cons_of_neg (by simpa using hd)]
theorem behind_leL {L d : Nat} {k : List UInt8} {l : List Pr} : ∀ {s : Stk}, Stack k l L s → d ≤ L → behind d s ≤ L
  | [], _, hd => hd
  | e :: s, hs, hd => by
    have := ((hs.all e.1).1 ⟨e.2, List.mem_cons_self⟩).1
    rw [behind_cons]; omega
theorem alone_last {L : Nat} {m : List Pr} {last : Pr} {d : Nat} {s : Stk} (hm : May L (m ++ [last])) (hd : d ≤ L) (hs : Stack (kb last) (m ++ [last]) L s) : alikeTo (kb last) (behind d s) (m ++ [last]) = [last] := by
  have hl : last ∈ m ++ [last] := by simp
  have hkl := hm.len last hl
  rw [alikeTo_app]
  have h1 : alikeTo (kb last) (behind d s) m = [] := by
    refine List.filter_eq_nil_iff.2 fun x hx => ?_
    rw [beq_iff_eq]
    intro h
    have hxm : x ∈ m ++ [last] := List.mem_append_left _ hx
    have hne : kb x ≠ kb last := (List.pairwise_append.1 hm.apart).2.2 x hx last (by simp)
    obtain ⟨f, hf⟩ := (hs.all _).2 ⟨pre_lt hm hxm hl hne, x, hxm, hne, rfl⟩
    have h2 := behind_gt (d := d) hs.falls hf
    have h3 := behind_leL hs hd
    have := pre_of_take h (by rw [hm.len x hxm]; exact h3) (by omega)
    omega
  rw [h1]
  unfold alikeTo
  rw [List.filter_cons_of_pos (by simp)]
  rfl
/-- The node from d on of those that are like the last one ahead of it. -/
theorem folded_spec {L : Nat} {m : List Pr} {last : Pr} {d : Nat} {s : Stk} (hm : May L (m ++ [last])) (hd : d ≤ L) (hs : Stack (kb last) (m ++ [last]) L s) :
    folded (kb last) (vb last) d s = (node d (alikeTo (kb last) d (m ++ [last])), s.dropWhile fun e => decide (d ≤ e.1)) := by
  have h := foldS_spec (d := d) hm (by simp) s L hs
  rw [alone_last hm hd hs, node_one] at h
  exact h
theorem mem_rest {d : Nat} : ∀ {s : Stk}, (s.Pairwise fun a b => b.1 < a.1) → ∀ e, e ∈ s.dropWhile (fun e => decide (d ≤ e.1)) ↔ e ∈ s ∧ e.1 < d
  | [], _, e => by simp
  | a :: s, h, e => by
    obtain ⟨h1, h2⟩ := List.pairwise_cons.1 h
    by_cases hd : d ≤ a.1
    · rw [List.dropWhile_cons_of_pos (by simpa using hd), mem_rest h2, List.mem_cons]
      constructor
      · rintro ⟨h3, h4⟩; exact ⟨.inr h3, h4⟩
      · rintro ⟨rfl | h3, h4⟩
        · omega
        · exact ⟨h3, h4⟩
    · rw [List.dropWhile_cons_of_neg (by simpa using hd)]
      constructor
      · intro h3
        refine ⟨h3, ?_⟩
        rcases List.mem_cons.1 h3 with rfl | h4
        · omega
        · have := h1 e h4; omega
      · exact fun h3 => h3.1
theorem rest_falls {d : Nat} {s : Stk} (h : s.Pairwise fun a b => b.1 < a.1) : (s.dropWhile fun e => decide (d ≤ e.1)).Pairwise fun a b => b.1 < a.1 :=
  h.sublist (List.dropWhile_sublist _)
theorem stackUp_cons (q c : Nat) (r : List UInt8) (p : Nat) (f : Nat → List UInt8) (s : Stk) : stackUp q c r ((p, f) :: s) = if p = q then (q, withR f c r) :: s else (q, withR (fun _ => []) c r) :: (p, f) :: s := rfl
theorem stackUp_mem {q c : Nat} {r : List UInt8} {s : Stk} (h : s.Pairwise fun a b => b.1 < a.1) (hq : ∀ e ∈ s, e.1 < q + 1) (p : Nat) (f : Nat → List UInt8) :
    (p, f) ∈ stackUp q c r s ↔ (p < q ∧ (p, f) ∈ s) ∨ (p = q ∧ ((∃ g, (q, g) ∈ s ∧ f = withR g c r) ∨ ((∀ g, (q, g) ∉ s) ∧ f = withR (fun _ => []) c r))) := by
  match s, h, hq with
  | [], _, _ =>
    simp [stackUp]
  | (p0, g0) :: s, h, hq =>
    obtain ⟨h1, h2⟩ := List.pairwise_cons.1 h
    have hp0 : p0 < q + 1 := hq _ List.mem_cons_self
    by_cases he : p0 = q
    · subst he
      have hs : ∀ g, (p0, g) ∉ s := fun g hg => by have := h1 _ hg; simp at this
      rw [stackUp_cons, if_pos rfl, List.mem_cons]
      constructor
      · rintro (e | e)
        · rw [Prod.mk.injEq] at e
          exact .inr ⟨e.1, .inl ⟨g0, List.mem_cons_self, e.2⟩⟩
        · exact .inl ⟨h1 _ e, List.mem_cons_of_mem _ e⟩
      · rintro (⟨h3, h4⟩ | ⟨rfl, ⟨g, hg, hf⟩ | ⟨hg, hf⟩⟩)
        · rcases List.mem_cons.1 h4 with e | e
          · have := congrArg Prod.fst e; simp at this; omega
          · exact .inr e
        · rcases List.mem_cons.1 hg with e | e
          · rw [Prod.mk.injEq] at e
            exact .inl (by rw [hf, e.2])
          · exact absurd e (hs g)
        · exact absurd List.mem_cons_self (hg g0)
    · have hs : ∀ g, (q, g) ∉ (p0, g0) :: s := fun g hg => by
        rcases List.mem_cons.1 hg with e | e
        · exact he (congrArg Prod.fst e).symm
        · have := h1 _ e; simp at this; omega
      rw [stackUp_cons, if_neg he, List.mem_cons]
      constructor
      · rintro (e | e)
        · rw [Prod.mk.injEq] at e
          exact .inr ⟨e.1, .inr ⟨hs, e.2⟩⟩
        · refine .inl ⟨?_, e⟩
          rcases List.mem_cons.1 e with e | e
          · have := congrArg Prod.fst e; simp at this; omega
          · have := h1 _ e; simp at this; omega
      · rintro (⟨h3, h4⟩ | ⟨rfl, ⟨g, hg, hf⟩ | ⟨hg, hf⟩⟩)
        · exact .inr h4
        · exact absurd hg (hs g)
        · exact .inl (by rw [hf])
theorem stackUp_falls {q c : Nat} {r : List UInt8} {s : Stk} (h : s.Pairwise fun a b => b.1 < a.1) (hq : ∀ e ∈ s, e.1 < q + 1) : (stackUp q c r s).Pairwise fun a b => b.1 < a.1 := by
  match s, h, hq with
  | [], _, _ => simp [stackUp]
  | (p0, g0) :: s, h, hq =>
    obtain ⟨h1, h2⟩ := List.pairwise_cons.1 h
    rw [stackUp_cons]
    by_cases he : p0 = q
    · rw [if_pos he]
      exact List.pairwise_cons.2 ⟨fun e hm => by have := h1 e hm; simp at this ⊢; omega, h2⟩
    · rw [if_neg he]
      refine List.pairwise_cons.2 ⟨fun e hm => ?_, h⟩
      have hp0 : p0 < q + 1 := hq _ List.mem_cons_self
      rcases List.mem_cons.1 hm with rfl | hm
      · simp; omega
      · have := h1 e hm; simp at this ⊢; omega
theorem pre_lt_three {x y z : List UInt8} (h : pre x y < pre y z) : pre x z = pre x y := by
  rcases pre_three x y z with ⟨h1, h2⟩ | ⟨h1, h2⟩ | ⟨h1, h2⟩ <;> omega
theorem alikeTo_mem_congr {k k' : List UInt8} {p : Nat} (l : List Pr) (h : k.take p = k'.take p) : alikeTo k p l = alikeTo k' p l := by unfold alikeTo; rw [h]
theorem kids_app {p c : Nat} {l : List Pr} {y : Pr} (hy : nibAt p y ≠ c) : kids p (l ++ [y]) c = kids p l c := by
  have : atN p c (l ++ [y]) = atN p c l := by
    rw [atN_app]
    have : atN p c [y] = [] := by unfold atN; rw [List.filter_cons_of_neg (by simpa using hy)]; rfl
    rw [this, List.append_nil]
  unfold kids; rw [this]
set_option maxHeartbeats 1000000 in
theorem parted_spec {L : Nat} {m : List Pr} {last y : Pr} {s : Stk} (hm : May L (m ++ [last] ++ [y])) (hr : Rise (m ++ [last] ++ [y])) (hs : Stack (kb last) (m ++ [last]) L s) :
    Stack (kb y) (m ++ [last] ++ [y]) L (parted (kb last) (vb last) (pre (kb last) (kb y)) s) := by
  obtain ⟨l, hle⟩ : ∃ l, l = m ++ [last] := ⟨_, rfl⟩
  have hml : May L l := ⟨fun p hp => hm.len p (List.mem_append_left _ (hle ▸ hp)), fun p hp => hm.nib p (List.mem_append_left _ (hle ▸ hp)), fun p hp => hm.val p (List.mem_append_left _ (hle ▸ hp)), by rw [hle]; exact (List.pairwise_append.1 hm.apart).1⟩
  have hll : last ∈ l := by rw [hle]; simp
  have hry : ∀ x ∈ l, ltB (kb x) (kb y) = true := fun x hx => (List.pairwise_append.1 hr).2.2 x (hle ▸ hx) y (by simp)
  have hrl : ∀ x ∈ l, kb x ≠ kb last → ltB (kb x) (kb last) = true := fun x hx hne => by
    rw [hle] at hx
    rcases List.mem_append.1 hx with h | h
    · exact (List.pairwise_append.1 (List.pairwise_append.1 hr).1).2.2 x h last (by simp)
    · exact absurd (by rw [List.mem_singleton.1 h]) hne
  have hfd := fun d (hd : d ≤ L) => folded_spec (m := m) (last := last) (d := d) (s := s) (by rw [← hle]; exact hml) hd hs
  rw [← hle] at hs hm hr hfd ⊢
  clear hle
  have hym : y ∈ l ++ [y] := by simp
  have hlm : last ∈ l ++ [y] := List.mem_append_left _ hll
  have hne : kb last ≠ kb y := fun e => by have := hry last hll; rw [e, ltB_irrefl] at this; cases this
  have hqL := pre_lt hm hlm hym hne
  have hqt := pre_take (kb last) (kb y)
  have hqa := pre_at hm hlm hym hne
  obtain ⟨q, hq⟩ : ∃ q, q = pre (kb last) (kb y) := ⟨_, rfl⟩
  rw [← hq] at hqL hqt hqa ⊢
  have hll1 := hm.len last hlm
  have hyl := hm.len y hym
  have hnib : nibAt q last < nibAt q y := by
    refine Nat.lt_of_le_of_ne (ltB_at q _ _ (hry last hll) hqt (by omega) (by omega)) fun e => hqa (nibAt_eq hm hqL hlm hym e)
  have hnle : ∀ x ∈ l, (kb x).take q = (kb last).take q → nibAt q x ≤ nibAt q last := by
    intro x hx hxt
    by_cases e : kb x = kb last
    · unfold nibAt; rw [e]; exact Nat.le_refl _
    · exact ltB_at q _ _ (hrl x hx e) hxt (by rw [hml.len x hx]; omega) (by omega)
  have hF := hfd (q + 1) (by omega)
  unfold parted
  rw [hF]
  simp only []
  have hc0 : ((kb last).getD q 0).toNat = nibAt q last := rfl
  rw [hc0]
  obtain ⟨s', hs'⟩ : ∃ s', s' = s.dropWhile fun e => decide (q + 1 ≤ e.1) := ⟨_, rfl⟩
  have hrest : ∀ e, e ∈ s' ↔ e ∈ s ∧ e.1 < q + 1 := by rw [hs']; exact mem_rest hs.falls
  have hfalls : s'.Pairwise fun a b => b.1 < a.1 := by rw [hs']; exact rest_falls hs.falls
  rw [← hs']
  have hmem := stackUp_mem (q := q) (c := nibAt q last) (r := refN (node (q + 1) (alikeTo (kb last) (q + 1) l))) hfalls (fun e he => ((hrest e).1 he).2)
  have hqy : alikeTo (kb y) q (l ++ [y]) = alikeTo (kb last) q l ++ [y] := by
    rw [alikeTo_app, alikeTo_mem_congr l hqt.symm]
    congr 1
    unfold alikeTo
    rw [List.filter_cons_of_pos (by simp)]; rfl
  have hat : atN q (nibAt q last) (alikeTo (kb last) q l) = alikeTo (kb last) (q + 1) l := by
    unfold atN alikeTo
    rw [List.filter_filter]
    refine List.filter_congr fun z hz => ?_
    rw [Bool.eq_iff_iff, Bool.and_eq_true, beq_iff_eq, beq_iff_eq, beq_iff_eq, take_succ_iff hml hz hll hqL]
    exact And.comm
  have hself : refN (node (q + 1) (alikeTo (kb last) (q + 1) l)) = kids q (alikeTo (kb last) q l) (nibAt q last) := by
    unfold kids
    rw [hat, if_neg]
    intro e
    have : last ∈ alikeTo (kb last) (q + 1) l := mem_alikeTo.2 ⟨hll, rfl⟩
    rw [e] at this; cases this
  have hcy : ((kb y).getD q 0).toNat = nibAt q y := rfl
  have hnoy : kids q (alikeTo (kb last) q l) (nibAt q y) = [] := by
    unfold kids
    rw [if_pos]
    refine List.filter_eq_nil_iff.2 fun z hz => ?_
    obtain ⟨h1, h2⟩ := mem_alikeTo.1 hz
    have := hnle z h1 h2
    simp; omega
  refine ⟨stackUp_falls hfalls (fun e he => ((hrest e).1 he).2), fun p => ?_, fun p f hpf c hc => ?_⟩
  · constructor
    · rintro ⟨f, hf⟩
      rcases (hmem p f).1 hf with ⟨h1, h2⟩ | ⟨rfl, _⟩
      · obtain ⟨h3, x, hx, hxk, hxp⟩ := (hs.all p).1 ⟨f, ((hrest _).1 h2).1⟩
        refine ⟨h3, x, List.mem_append_left _ hx, ?_, ?_⟩
        · intro e
          rw [e, pre_comm, ← hq] at hxp
          omega
        · rw [pre_lt_three (x := kb x) (y := kb last) (z := kb y) (by omega)]; exact hxp
      · exact ⟨hqL, last, hlm, hne, hq.symm⟩
    · rintro ⟨h1, x, hx, hxk, hxp⟩
      have hxl : x ∈ l := by
        rcases List.mem_append.1 hx with h | h
        · exact h
        · exact absurd (by rw [List.mem_singleton.1 h]) hxk
      have hpq : p ≤ q := by
        refine Nat.not_lt.1 fun hlt => ?_
        have h2 : (kb x).take (q + 1) = (kb y).take (q + 1) := take_pre (by omega)
        obtain ⟨h3, h4⟩ := (take_succ_iff hm hx hym hqL).1 h2
        have := hnle x hxl (h3.trans hqt.symm)
        omega
      rcases Nat.lt_or_eq_of_le hpq with hlt | rfl
      · have h2 : pre (kb x) (kb last) = p := by
          have hcm := pre_comm (kb y) (kb last)
          rcases pre_three (kb x) (kb y) (kb last) with ⟨h4, h5⟩ | ⟨h4, h5⟩ | ⟨h4, h5⟩ <;> omega
        have h3 : kb x ≠ kb last := fun e => by rw [e, ← hq] at hxp; omega
        obtain ⟨f, hf⟩ := (hs.all p).2 ⟨h1, x, hxl, h3, h2⟩
        exact ⟨f, (hmem p f).2 (.inl ⟨hlt, (hrest _).2 ⟨hf, Nat.lt_succ_of_lt hlt⟩⟩)⟩
      · by_cases hg : ∃ g, (p, g) ∈ s'
        · obtain ⟨g, hg⟩ := hg
          exact ⟨_, (hmem p _).2 (.inr ⟨rfl, .inl ⟨g, hg, rfl⟩⟩)⟩
        · exact ⟨_, (hmem p _).2 (.inr ⟨rfl, .inr ⟨fun g hgm => hg ⟨g, hgm⟩, rfl⟩⟩)⟩
  · rcases (hmem p f).1 hpf with ⟨h1, h2⟩ | ⟨rfl, ⟨g, hg, rfl⟩ | ⟨hg, rfl⟩⟩
    · have hold := hs.refs p f ((hrest _).1 h2).1 c hc
      have htk : (kb last).take (p + 1) = (kb y).take (p + 1) := take_pre (by omega)
      obtain ⟨h3, h4⟩ := (take_succ_iff hm hlm hym (p := p) (by omega)).1 htk
      have h5 : ((kb last).getD p 0).toNat = ((kb y).getD p 0).toNat := h4
      rw [hold, h5]
      by_cases he : c = ((kb y).getD p 0).toNat
      · rw [if_pos he, if_pos he]
      · rw [if_neg he, if_neg he, alikeTo_app, ← alikeTo_mem_congr l h3]
        have : alikeTo (kb y) p [y] = [y] := by unfold alikeTo; rw [List.filter_cons_of_pos (by simp)]; rfl
        rw [this, kids_app (fun e => he e.symm)]
    · have hold := hs.refs p g ((hrest _).1 hg).1 c hc
      rw [hqy, hcy]
      unfold withR
      by_cases he : c = nibAt p last
      · rw [if_pos he, if_neg (by omega), kids_app (by omega), hself, he]
      · rw [if_neg he, hold, if_neg (fun e => he (e.trans hc0))]
        by_cases hy : c = nibAt p y
        · rw [if_pos hy, hy, hnoy]
        · rw [if_neg hy, kids_app (fun e => hy e.symm)]
    · rw [hqy, hcy]
      unfold withR
      by_cases he : c = nibAt p last
      · rw [if_pos he, if_neg (by omega), kids_app (by omega), hself, he]
      · rw [if_neg he]
        by_cases hy : c = nibAt p y
        · rw [if_pos hy]
        · rw [if_neg hy, kids_app (fun e => hy e.symm)]
          unfold kids
          rw [if_pos]
          refine List.filter_eq_nil_iff.2 fun z hz => ?_
          obtain ⟨h1, h2⟩ := mem_alikeTo.1 hz
          rw [beq_iff_eq]
          intro h3
          have hzk : kb z ≠ kb last := fun e => he (by rw [← h3]; unfold nibAt; rw [e])
          have hzp : pre (kb z) (kb last) = p := by
            refine Nat.le_antisymm (Nat.not_lt.1 fun hlt => ?_) (pre_of_take h2 (by rw [hml.len z h1]; omega) (by omega))
            have h4 : (kb z).take (p + 1) = (kb last).take (p + 1) := take_pre (by omega)
            exact he (h3.symm.trans ((take_succ_iff hml h1 hll hqL).1 h4).2)
          obtain ⟨f, hf⟩ := (hs.all p).2 ⟨hqL, z, h1, hzk, hzp⟩
          exact hg f ((hrest _).2 ⟨hf, Nat.lt_succ_self _⟩)
theorem stack_one {L : Nat} (p : Pr) : Stack (kb p) [p] L [] :=
  ⟨List.Pairwise.nil, fun q => ⟨(fun ⟨_, h⟩ => by cases h), fun ⟨_, x, hx, hne, _⟩ => absurd (by rw [List.mem_singleton.1 hx]) hne⟩, (fun _ _ h => by cases h)⟩
end Go.Proofs.YtjdhdeffiigpbaaDoor
