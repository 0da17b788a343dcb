/-
  What Find does.
-/
import Derived.Test.YtdfpnpjdiebniaaHAppW
import Derived.OwnWalk
namespace Go.Proofs.Ytdfpnpjdiebniaa
open Go Go.RowKit

/-- What Find tells, where the chunk that is asked first tells enough. -/
def FindIs (L : List Ck) (f : Int) (A : Value) : Prop :=
  (which (L.map (·.1)) f = none ∧ A = .tuple #[.int .i64 0, .bool false, .int .i64 0]) ∨
  ∃ (k : Nat) (u : Int) (p : List Nat), which (L.map (·.1)) f = some k ∧ L[k]? = some (u, dataOf p) ∧ Nums p ∧
    ((∃ x : Nat, x ∈ p ∧ f ≤ (x : Int) ∧ (∀ y ∈ p, f ≤ ((y : Nat) : Int) → x ≤ y) ∧ A = .tuple #[.int .i64 (x : Nat), .bool true, .int .i64 0]) ∨
     ((∀ y ∈ p, ((y : Nat) : Int) < f) ∧ k + 1 = L.length ∧ A = .tuple #[.int .i64 0, .bool false, .int .i64 0]))
theorem least_one {p : List Nat} {f : Int} {x : Nat} (h1 : x ∈ p) (h2 : f ≤ (x : Int)) (h3 : ∀ y ∈ p, f ≤ ((y : Nat) : Int) → x ≤ y) {m : Nat} (hm : max f 0 = (m : Int)) {n : Nat} {b : Bool} (h : LeastOf (ofN p) m n b) : n = x ∧ b = true := by
  cases b with
  | false =>
    have := h.2 x (decide_eq_true h1) rfl
    omega
  | true =>
    obtain ⟨q1, q2, q3⟩ := h
    have hn : n ∈ p := of_decide_eq_true q1
    have a1 := h3 n hn (by omega)
    have a2 := q3 x (decide_eq_true h1) rfl (by omega)
    exact ⟨by omega, rfl⟩
theorem least_zero {p : List Nat} {f : Int} (h1 : ∀ y ∈ p, ((y : Nat) : Int) < f) {m : Nat} (hm : max f 0 = (m : Int)) {n : Nat} {b : Bool} (h : LeastOf (ofN p) m n b) : b = false := by
  cases b with
  | false => rfl
  | true =>
    obtain ⟨q1, q2, q3⟩ := h
    have := h1 n (of_decide_eq_true q1)
    omega
set_option maxRecDepth 8000 in
set_option maxHeartbeats 4000000 in
theorem hfind_ok {w : World} {v : Value} {L : List Ck} (hv : ChunksAt w v L) (hl : L.length ≤ 10000) (f : Int) (hf : f ≤ 9223372036854775807) {A : Value} (hA : FindIs L f A) :
    Calls Try.prog 22 #[v, .int .i64 f] w fun e w' => e = .returned A ∧ Below w.heap.size w w' := by
  have hnot := run_notH
  have hup := uppers_any hv (by omega)
  obtain ⟨p0, c0, rfl⟩ := hv.shape
  obtain ⟨n, hn⟩ : ∃ n, L.length = n := ⟨_, rfl⟩
  have HN : Hid (L.length = n) := hn
  have hul : (L.map (·.1)).length ≤ 1000000 := by rw [List.length_map]; omega
  rw [hn] at hv hup hl ⊢
  clear hn
  have hni : (n : Int) ≤ 10000 := by omega
  go_enter Try.func22, Try.ntmps22
  go_wp2_with fail
  refine hup.mono ?_
  rintro e w1 ⟨v1, rfl, hi1, hB1⟩
  clear hup
  have hwh := which_any hi1 hul f
  obtain ⟨p1, c1, rfl⟩ := hi1.lenH
  generalize (L.map (·.1)).length = ul at hwh ⊢
  rcases hA with ⟨hnone, rfl⟩ | ⟨k, u, p, hsome, hk, hpn, hcase⟩
  · rw [hnone] at hwh
    unfold whV at hwh
    dsimp only at hwh
    go_wp2_with fail
    refine hwh.mono ?_
    rintro e w2 ⟨rfl, hw2⟩
    have hw2' := hw2.symm
    clear hw2 hwh
    subst hw2'
    go_wp2_with fail
    go_ret3
    exact ⟨rfl, hB1⟩
  · rw [hsome] at hwh
    unfold whV at hwh
    dsimp only at hwh
    have hkl : k < n := by have := (List.getElem?_eq_some_iff.1 hk).1; rw [HN.out] at this; exact this
    have hki : (k : Int) < n := by omega
    obtain ⟨c2, hc2⟩ : ∃ c2 : Nat, min 2 (n - k) = c2 := ⟨_, rfl⟩
    have hmin : min (2 : Int) ((n : Int) - (k : Int)) = (c2 : Int) := by omega
    have hc2p : (0 : Int) < c2 := by omega
    have hc2n : 0 < c2 := by omega
    obtain ⟨m, hm⟩ : ∃ m : Nat, max f 0 = (m : Int) := ⟨(max f 0).toNat, by omega⟩
    go_wp2_with fail
    refine hwh.mono ?_
    rintro e w2 ⟨rfl, hw2⟩
    have hw2' := hw2.symm
    clear hw2 hwh
    subst hw2'
    obtain ⟨b, o, rfl, hnn, c0', c1'⟩ := (hv.below hB1).at hk
    clear hnn
    dsimp only at c0' c1'
    have hrd : ∀ W, Calls Try.prog 28 #[.string (dataOf p)] W fun e w' => ∃ b, e = .returned (.tuple #[.pointer (some ⟨b, 0, none⟩), .int .i64 0]) ∧ ∃ mo, SetAt w' b mo (ofN p) ∧ W.heap.size ≤ b ∧ (∀ m, mo = some m → W.heap.size ≤ m) ∧ Below W.heap.size W w' := fun W => read_back (ofN_bound hpn.bound) W
    generalize dataOf p = dt at c1' hrd
    have hc1 : Hid (c2 = min 2 (n - k)) := hc2.symm
    clear hc2
    go_wp2_with fail
    go_loopw [28] (fun y wr => ∃ i : Nat, y = .int .i64 (i : Nat) ∧ i ≤ 1 ∧ (i = 1 → Hid (c2 = 1 ∧ A = .tuple #[.int .i64 0, .bool false, .int .i64 0])) ∧ Below w.heap.size w wr ∧ (i = 0 → wr = w1)) (fun y _ => 1 - (intOf y).toNat)
    case atStart => exact ⟨0, rfl, by omega, fun h => by omega, hB1, fun _ => rfl⟩
    case round =>
      obtain ⟨i, rfl, hi1', hi2, hBr, hiw⟩ := hrel
      by_cases hiz : i = 0
      · subst hiz
        obtain rfl := hiw rfl
        clear hi2 hiw
        go_wp2_with fail
        refine (hrd _).mono ?_
        rintro e w3 ⟨b3, rfl, mo3, hs3, hb3, hm3, hB3⟩
        clear hrd
        have hlt := least_any hs3.view f m hm (by omega)
        go_wp2_with fail
        refine hlt.mono ?_
        rintro e w4 ⟨x4, b4, rfl, hle, hB4⟩
        clear hlt
        have hB5 := below_new (below_new hBr hB3) hB4
        rcases hcase with ⟨x, h1, h2, h3, rfl⟩ | ⟨h1, h2, rfl⟩
        · obtain ⟨rfl, rfl⟩ := least_one h1 h2 h3 hm hle
          clear hle h3
          go_wp2_with fail
          go_ret3
          exact ⟨rfl, hB5⟩
        · obtain rfl := least_zero h1 hm hle
          have hlast : Hid (c2 = 1) := by show c2 = 1; rw [hc1.out]; rw [HN.out] at h2; omega
          clear hle h1 h2
          go_wp2_with fail
          go_roundw
          case rel => exact ⟨1, by rfl, by omega, fun _ => ⟨hlast.out, trivial⟩, hB5, fun h => by omega⟩
          case measure => simp [intOf]
      · have hi11 : i = 1 := by omega
        obtain ⟨h1, h2⟩ := (hi2 hi11).out
        subst hi11
        subst h2
        have hnc : ¬ (1 : Int) < c2 := by omega
        have HC : Hid (c2 = 1) := h1
        have hbr := hBr
        clear h1 hi2 hiw hmin hc2p hc2n
        go_wp2_with fail
        go_ret3
        exact ⟨rfl, hbr⟩
end Go.Proofs.Ytdfpnpjdiebniaa
