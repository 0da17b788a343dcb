/-
  Texts of this claim, put together.
-/
import Derived.Test.YtiokbhbggpibpaaHAppW
import Derived.OwnWalk
/-
  What Find does.
-/
namespace Go.Proofs.Ytiokbhbggpibpaa
open Go Go.RowKit

/-- What Find tells, where the chunk that is asked first tells enough. -/
def FindIs (L : List Ck) (f : Int) (A : Value) : Prop :=
  (which (L.map (·.1)) f = none ∧ A = .tuple #[.int .i64 0, .bool false, .int .i64 0]) ∨
  ∃ (k : Nat) (u : Int) (p : List Nat), which (L.map (·.1)) f = some k ∧ L[k]? = some (u, dataOf p) ∧ Nums p ∧
    ((∃ x : Nat, x ∈ p ∧ f ≤ (x : Int) ∧ (∀ y ∈ p, f ≤ ((y : Nat) : Int) → x ≤ y) ∧ A = .tuple #[.int .i64 (x : Nat), .bool true, .int .i64 0]) ∨
     ((∀ y ∈ p, ((y : Nat) : Int) < f) ∧ k + 1 = L.length ∧ A = .tuple #[.int .i64 0, .bool false, .int .i64 0]))
theorem least_one {p : List Nat} {f : Int} {x : Nat} (h1 : x ∈ p) (h2 : f ≤ (x : Int)) (h3 : ∀ y ∈ p, f ≤ ((y : Nat) : Int) → x ≤ y) {m : Nat} (hm : max f 0 = (m : Int)) {n : Nat} {b : Bool} (h : LeastOf (ofN p) m n b) : n = x ∧ b = true := by
  cases b with
  | false =>
    have := h.2 x (decide_eq_true h1) rfl
    omega
  | true =>
    obtain ⟨q1, q2, q3⟩ := h
    have hn : n ∈ p := of_decide_eq_true q1
    have a1 := h3 n hn (by omega)
    have a2 := q3 x (decide_eq_true h1) rfl (by omega)
    exact ⟨by omega, rfl⟩
theorem least_zero {p : List Nat} {f : Int} (h1 : ∀ y ∈ p, ((y : Nat) : Int) < f) {m : Nat} (hm : max f 0 = (m : Int)) {n : Nat} {b : Bool} (h : LeastOf (ofN p) m n b) : b = false := by
  cases b with
  | false => rfl
  | true =>
    obtain ⟨q1, q2, q3⟩ := h
    have := h1 n (of_decide_eq_true q1)
    omega
set_option maxRecDepth 8000 in
set_option maxHeartbeats 4000000 in
theorem hfind_ok {w : World} {v : Value} {L : List Ck} (hv : ChunksAt w v L) (hl : L.length ≤ 10000) (f : Int) (hf : f ≤ 9223372036854775807) {A : Value} (hA : FindIs L f A) :
    Calls Try.prog 22 #[v, .int .i64 f] w fun e w' => e = .returned A ∧ Below w.heap.size w w' := by
  have hnot := run_notH
  have hup := uppers_any hv (by omega)
  obtain ⟨p0, c0, rfl⟩ := hv.shape
  obtain ⟨n, hn⟩ : ∃ n, L.length = n := ⟨_, rfl⟩
  have HN : Hid (L.length = n) := hn
  have hul : (L.map (·.1)).length ≤ 1000000 := by rw [List.length_map]; omega
  rw [hn] at hv hup hl ⊢
  clear hn
  have hni : (n : Int) ≤ 10000 := by omega
  go_enter Try.func22, Try.ntmps22
  go_wp2_with fail
  refine hup.mono ?_
  rintro e w1 ⟨v1, rfl, hi1, hB1⟩
  clear hup
  have hwh := which_any hi1 hul f
  obtain ⟨p1, c1, rfl⟩ := hi1.lenH
  generalize (L.map (·.1)).length = ul at hwh ⊢
  rcases hA with ⟨hnone, rfl⟩ | ⟨k, u, p, hsome, hk, hpn, hcase⟩
  · rw [hnone] at hwh
    unfold whV at hwh
    dsimp only at hwh
    go_wp2_with fail
    refine hwh.mono ?_
    rintro e w2 ⟨rfl, hw2⟩
    have hw2' := hw2.symm
    clear hw2 hwh
    subst hw2'
    go_wp2_with fail
    go_ret3
    exact ⟨rfl, hB1⟩
  · rw [hsome] at hwh
    unfold whV at hwh
    dsimp only at hwh
    have hkl : k < n := by have := (List.getElem?_eq_some_iff.1 hk).1; rw [HN.out] at this; exact this
    have hki : (k : Int) < n := by omega
    obtain ⟨c2, hc2⟩ : ∃ c2 : Nat, min 2 (n - k) = c2 := ⟨_, rfl⟩
    have hmin : min (2 : Int) ((n : Int) - (k : Int)) = (c2 : Int) := by omega
    have hc2p : (0 : Int) < c2 := by omega
    have hc2n : 0 < c2 := by omega
    obtain ⟨m, hm⟩ : ∃ m : Nat, max f 0 = (m : Int) := ⟨(max f 0).toNat, by omega⟩
    go_wp2_with fail
    refine hwh.mono ?_
    rintro e w2 ⟨rfl, hw2⟩
    have hw2' := hw2.symm
    clear hw2 hwh
    subst hw2'
    obtain ⟨b, o, rfl, hnn, c0', c1'⟩ := (hv.below hB1).at hk
    clear hnn
    dsimp only at c0' c1'
    have hrd : ∀ W, Calls Try.prog 28 #[.string (dataOf p)] W fun e w' => ∃ b, e = .returned (.tuple #[.pointer (some ⟨b, 0, none⟩), .int .i64 0]) ∧ ∃ mo, SetAt w' b mo (ofN p) ∧ W.heap.size ≤ b ∧ (∀ m, mo = some m → W.heap.size ≤ m) ∧ Below W.heap.size W w' := fun W => read_back (ofN_bound hpn.bound) W
    generalize dataOf p = dt at c1' hrd
    have hc1 : Hid (c2 = min 2 (n - k)) := hc2.symm
    clear hc2
    go_wp2_with fail
    go_loopw [28] (fun y wr => ∃ i : Nat, y = .int .i64 (i : Nat) ∧ i ≤ 1 ∧ (i = 1 → Hid (c2 = 1 ∧ A = .tuple #[.int .i64 0, .bool false, .int .i64 0])) ∧ Below w.heap.size w wr ∧ (i = 0 → wr = w1)) (fun y _ => 1 - (intOf y).toNat)
    case atStart => exact ⟨0, rfl, by omega, fun h => by omega, hB1, fun _ => rfl⟩
    case round =>
      obtain ⟨i, rfl, hi1', hi2, hBr, hiw⟩ := hrel
      by_cases hiz : i = 0
      · subst hiz
        obtain rfl := hiw rfl
        clear hi2 hiw
        go_wp2_with fail
        refine (hrd _).mono ?_
        rintro e w3 ⟨b3, rfl, mo3, hs3, hb3, hm3, hB3⟩
        clear hrd
        have hlt := least_any hs3.view f m hm (by omega)
        go_wp2_with fail
        refine hlt.mono ?_
        rintro e w4 ⟨x4, b4, rfl, hle, hB4⟩
        clear hlt
        have hB5 := below_new (below_new hBr hB3) hB4
        rcases hcase with ⟨x, h1, h2, h3, rfl⟩ | ⟨h1, h2, rfl⟩
        · obtain ⟨rfl, rfl⟩ := least_one h1 h2 h3 hm hle
          clear hle h3
          go_wp2_with fail
          go_ret3
          exact ⟨rfl, hB5⟩
        · obtain rfl := least_zero h1 hm hle
          have hlast : Hid (c2 = 1) := by show c2 = 1; rw [hc1.out]; rw [HN.out] at h2; omega
          clear hle h1 h2
          go_wp2_with fail
          go_roundw
          case rel => exact ⟨1, by rfl, by omega, fun _ => ⟨hlast.out, trivial⟩, hB5, fun h => by omega⟩
          case measure => simp [intOf]
      · have hi11 : i = 1 := by omega
        obtain ⟨h1, h2⟩ := (hi2 hi11).out
        subst hi11
        subst h2
        have hnc : ¬ (1 : Int) < c2 := by omega
        have HC : Hid (c2 = 1) := h1
        have hbr := hBr
        clear h1 hi2 hiw hmin hc2p hc2n
        go_wp2_with fail
        go_ret3
        exact ⟨rfl, hbr⟩
end Go.Proofs.Ytiokbhbggpibpaa
/-
  What Find tells of chunks that are a set's. Nothing of memory.
-/
namespace Go.Proofs.Ytiokbhbggpibpaa
open Go Go.RowKit

theorem which_spec : ∀ (us : List Int) (f : Int) (s : Nat), (whichFrom us f s = none ∧ ∀ u ∈ us, u < f) ∨ ∃ k u, whichFrom us f s = some (s + k) ∧ us[k]? = some u ∧ f ≤ u ∧ ∀ (j : Nat) u', j < k → us[j]? = some u' → u' < f
  | [], _, _ => .inl ⟨rfl, fun u hu => by (cases hu)⟩
  | u :: r, f, s => by
    by_cases hf : f ≤ u
    · exact .inr ⟨0, u, by rw [whichFrom, if_pos hf]; rfl, rfl, hf, fun j u' hj => by omega⟩
    · rcases which_spec r f (s + 1) with ⟨h1, h2⟩ | ⟨k, v, h1, h2, h3, h4⟩
      · refine .inl ⟨by rw [whichFrom, if_neg hf]; exact h1, fun x hx => ?_⟩
        rcases List.mem_cons.1 hx with rfl | hx
        · omega
        · exact h2 x hx
      · refine .inr ⟨k + 1, v, by rw [whichFrom, if_neg hf, h1, show s + 1 + k = s + (k + 1) by omega], by simpa using h2, h3, fun j u' hj hu' => ?_⟩
        cases j with
        | zero =>
          have : u = u' := by simpa using hu'
          omega
        | succ i => exact h4 i u' (by omega) (by simpa using hu')
/-- The least from a number on. -/
def LeastL (m : List Nat) (f : Int) (x : Nat) (b : Bool) : Prop := (b = true ∧ x ∈ m ∧ f ≤ (x : Int) ∧ ∀ y ∈ m, f ≤ ((y : Nat) : Int) → x ≤ y) ∨ (b = false ∧ x = 0 ∧ ∀ y ∈ m, ((y : Nat) : Int) < f)
theorem last_maxH {p : List Nat} (h : Nums p) (h1 : 1 ≤ p.length) : ∀ x ∈ p, x ≤ p.getLastD 0 := fun x hx => by
  obtain ⟨i, hi⟩ := List.mem_iff_getElem?.1 hx
  obtain ⟨hil, rfl⟩ := List.getElem?_eq_some_iff.1 hi
  have e : p.getLastD 0 = p[p.length - 1]'(by omega) := by
    have hh := last_getD p (by omega)
    rw [List.getD_eq_getElem?_getD, List.getElem?_map, List.getElem?_eq_getElem (by omega)] at hh
    have : ((p[p.length - 1]'(by omega) : Nat) : Int) = ((p.getLastD 0 : Nat) : Int) := hh
    omega
  rw [e]
  rcases Nat.lt_or_ge i (p.length - 1) with h2 | h2
  · exact Nat.le_of_lt (List.pairwise_iff_getElem.1 h.rises i (p.length - 1) hil (by omega) h2)
  · have : i = p.length - 1 := by omega
    subst this
    exact Nat.le_refl _
theorem mem_parts {ps : List (List Nat)} {x : Nat} (h : x ∈ ps.flatten) : ∃ (i : Nat) (p : List Nat), ps[i]? = some p ∧ x ∈ p := by
  obtain ⟨p, hp, hx⟩ := List.mem_flatten.1 h
  obtain ⟨i, hi⟩ := List.mem_iff_getElem?.1 hp
  exact ⟨i, p, hi, hx⟩
theorem part_mem {ps : List (List Nat)} {x i : Nat} {p : List Nat} (h : ps[i]? = some p) (hx : x ∈ p) : x ∈ ps.flatten := List.mem_flatten.2 ⟨p, List.mem_of_getElem? h, hx⟩
/-- Where a number is asked, of a set's chunks. -/
theorem where_asked {ps : List (List Nat)} (hg : Good ps) (f : Int) : (which ((chk ps).map (·.1)) f = none ∧ ∀ y ∈ ps.flatten, ((y : Nat) : Int) < f) ∨
    ∃ (k : Nat) (u : Int) (p : List Nat), which ((chk ps).map (·.1)) f = some k ∧ ps[k]? = some p ∧ (chk ps)[k]? = some (u, dataOf p) ∧ (∀ y ∈ ps.flatten, f ≤ ((y : Nat) : Int) → y ∈ p ∨ ∃ (j : Nat) (q : List Nat), k < j ∧ ps[j]? = some q ∧ y ∈ q) ∧ (k + 1 < ps.length → p.getLastD 0 ∈ p ∧ f ≤ ((p.getLastD 0 : Nat) : Int)) := by
  have hup : ∀ j p, ps[j]? = some p → ((chk ps).map (·.1))[j]? = some (if j + 1 = ps.length then 2147483647 else ((p.getLastD 0 : Nat) : Int)) := fun j p hp => by
    rw [List.getElem?_map, chk_get ps j p hp]
    rfl
  have hbig : ∀ (j : Nat) (p : List Nat) (x : Nat), ps[j]? = some p → x ∈ p → (x : Int) ≤ (if j + 1 = ps.length then 2147483647 else ((p.getLastD 0 : Nat) : Int)) := fun j p x hp hx => by
    have hb := (hg.at hp).1.bound x hx
    have hm := last_maxH (hg.at hp).1 (hg.at hp).2.1 x hx
    split <;> omega
  rcases which_spec ((chk ps).map (·.1)) f 0 with ⟨h1, h2⟩ | ⟨k, u, h1, h2, h3, h4⟩
  · refine .inl ⟨h1, fun y hy => ?_⟩
    obtain ⟨i, p, hi, hx⟩ := mem_parts hy
    have := h2 _ (List.mem_of_getElem? (hup i p hi))
    have := hbig i p y hi hx
    omega
  · rw [Nat.zero_add] at h1
    have hk : k < ps.length := by
      have := (List.getElem?_eq_some_iff.1 h2).1
      rw [List.length_map, chk_len] at this
      exact this
    obtain ⟨p, hp⟩ : ∃ p, ps[k]? = some p := ⟨_, List.getElem?_eq_getElem hk⟩
    have hu := hup k p hp
    rw [h2] at hu
    have hu' := Option.some.inj hu
    refine .inr ⟨k, u, p, h1, hp, by rw [chk_get ps k p hp, hu'], fun y hy hfy => ?_, fun hkl => ?_⟩
    · obtain ⟨i, q, hi, hx⟩ := mem_parts hy
      rcases Nat.lt_trichotomy i k with h | h | h
      · have := h4 i _ h (hup i q hi)
        have := hbig i q y hi hx
        omega
      · subst h
        have := Option.some.inj (hp.symm.trans hi)
        subst this
        exact .inl hx
      · exact .inr ⟨i, q, h, hi, hx⟩
    · rw [if_neg (by omega)] at hu'
      exact ⟨last_mem (hg.at hp).2.1, by omega⟩
theorem find_good {ps : List (List Nat)} (hg : Good ps) {f : Int} {x : Nat} {b : Bool} (h : LeastL ps.flatten f x b) {K : List Ck} (hK : K.map (·.1) = (chk ps).map (·.1)) (hKk : ∀ k, which ((chk ps).map (·.1)) f = some k → K[k]? = (chk ps)[k]?) :
    FindIs K f (.tuple #[.int .i64 (x : Nat), .bool b, .int .i64 0]) := by
  have hKl : K.length = ps.length := by
    have := congrArg List.length hK
    rw [List.length_map, List.length_map, chk_len] at this
    exact this
  unfold FindIs
  rw [hK]
  rcases where_asked hg f with ⟨h1, h2⟩ | ⟨k, u, p, h1, h2, h3, h4, h5⟩
  · refine .inl ⟨h1, ?_⟩
    rcases h with ⟨rfl, a1, a2, _⟩ | ⟨rfl, rfl, _⟩
    · have := h2 x a1; omega
    · rfl
  · refine .inr ⟨k, u, p, h1, (hKk k h1).trans h3, (hg.at h2).1, ?_⟩
    rcases h with ⟨rfl, a1, a2, a3⟩ | ⟨rfl, rfl, a1⟩
    · refine .inl ⟨x, ?_, a2, fun y hy hfy => a3 y (part_mem h2 hy) hfy, rfl⟩
      rcases h4 x a1 a2 with h | ⟨j, q, hj, hq, hx⟩
      · exact h
      · have hl : k + 1 < ps.length := by have := (List.getElem?_eq_some_iff.1 hq).1; omega
        obtain ⟨b1, b2⟩ := h5 hl
        have c1 := a3 _ (part_mem h2 b1) b2
        have c2 := hg.rise hj h2 hq _ b1 _ hx
        omega
    · refine .inr ⟨fun y hy => a1 y (part_mem h2 hy), ?_, rfl⟩
      rcases Nat.lt_or_ge (k + 1) ps.length with hl | hl
      · obtain ⟨b1, b2⟩ := h5 hl
        have := a1 _ (part_mem h2 b1)
        omega
      · have := (List.getElem?_eq_some_iff.1 h2).1
        omega
theorem leastL_of {m : List Nat} {f : Int} {k x : Nat} {b : Bool} (hk : max f 0 = (k : Int)) (h : LeastOf (ofN m) k x b) : LeastL m f x b := by
  cases b with
  | true =>
    obtain ⟨h1, h2, h3⟩ := h
    exact .inl ⟨rfl, of_decide_eq_true h1, by omega, fun y hy hfy => h3 y (decide_eq_true hy) rfl (by omega)⟩
  | false =>
    obtain ⟨h1, h2⟩ := h
    refine .inr ⟨rfl, h1, fun y hy => ?_⟩
    have := h2 y (decide_eq_true hy) rfl
    omega
end Go.Proofs.Ytiokbhbggpibpaa
