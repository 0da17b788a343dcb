/-
  The program's half.
-/
import Derived.Test.YtdgfjaidnedaiaaEJoinW
namespace Go.Proofs.Ytdgfjaidnedaiaa
open Go Go.RowKit

/-- Does a first part of so many have half of it? -/
def enough (leaf : Bool) (L : List Cl) (k : Nat) : Bool := decide (sizeL leaf L ≤ 2 * sizeL leaf (L.take k))
/-- How many make the first half: from k on the first that is enough, all but one at most. -/
def halfFrom (leaf : Bool) (L : List Cl) : Nat → Nat → Nat
  | 0, k => k
  | f + 1, k => if k + 1 < L.length ∧ enough leaf L k = false then halfFrom leaf L f (k + 1) else k
def halfN (leaf : Bool) (L : List Cl) : Nat := halfFrom leaf L L.length 1
theorem halfFrom_stop {leaf : Bool} {L : List Cl} {f k : Nat} (h : ¬ (k + 1 < L.length ∧ enough leaf L k = false)) : halfFrom leaf L f k = k := by
  cases f with
  | zero => rfl
  | succ f => rw [halfFrom, if_neg h]
theorem halfFrom_go {leaf : Bool} {L : List Cl} {f k : Nat} (h : k + 1 < L.length ∧ enough leaf L k = false) : halfFrom leaf L (f + 1) k = halfFrom leaf L f (k + 1) := by rw [halfFrom, if_pos h]
theorem halfFrom_spec (leaf : Bool) (L : List Cl) : ∀ (f k : Nat), 1 ≤ k → k < L.length → L.length ≤ f + k → (1 ≤ halfFrom leaf L f k ∧ k ≤ halfFrom leaf L f k ∧ halfFrom leaf L f k < L.length) ∧ (∀ j, k ≤ j → j < halfFrom leaf L f k → enough leaf L j = false) ∧ (halfFrom leaf L f k + 1 = L.length ∨ enough leaf L (halfFrom leaf L f k) = true)
  | 0, k, h1, h2, h3 => by omega
  | f + 1, k, h1, h2, h3 => by
    by_cases h : k + 1 < L.length ∧ enough leaf L k = false
    · rw [halfFrom_go h]
      obtain ⟨⟨q1, q2, q3⟩, q4, q5⟩ := halfFrom_spec leaf L f (k + 1) (by omega) h.1 (by omega)
      refine ⟨⟨q1, by omega, q3⟩, fun j hj hj2 => ?_, q5⟩
      by_cases e : j = k
      · rw [e]; exact h.2
      · exact q4 j (by omega) hj2
    · rw [halfFrom_stop h]
      refine ⟨⟨h1, Nat.le_refl _, h2⟩, fun j hj hj2 => by omega, ?_⟩
      by_cases e : k + 1 = L.length
      · exact .inl e
      · right
        cases he : enough leaf L k with
        | true => rfl
        | false => exact absurd ⟨by omega, he⟩ h
theorem halfN_spec {leaf : Bool} {L : List Cl} (h : 2 ≤ L.length) : (1 ≤ halfN leaf L ∧ halfN leaf L < L.length) ∧ (∀ j, 1 ≤ j → j < halfN leaf L → enough leaf L j = false) ∧ (halfN leaf L + 1 = L.length ∨ enough leaf L (halfN leaf L) = true) := by
  obtain ⟨⟨q1, q2, q3⟩, q4, q5⟩ := halfFrom_spec leaf L L.length 1 (Nat.le_refl _) (by omega) (by omega)
  exact ⟨⟨q1, q3⟩, q4, q5⟩
theorem halfN_of {leaf : Bool} {L : List Cl} {k : Nat} (h : 2 ≤ L.length) (h1 : 1 ≤ k) (h2 : k < L.length) (h3 : ∀ j, 1 ≤ j → j < k → enough leaf L j = false) (h4 : k + 1 = L.length ∨ enough leaf L k = true) : halfN leaf L = k := by
  obtain ⟨⟨q1, q2⟩, q4, q5⟩ := halfN_spec (leaf := leaf) h
  rcases Nat.lt_trichotomy (halfN leaf L) k with e | e | e
  · rcases q5 with q5 | q5
    · omega
    · rw [h3 _ q1 e] at q5; cases q5
  · exact e
  · rcases h4 with h4 | h4
    · omega
    · rw [q4 _ h1 e] at h4; cases h4
set_option maxRecDepth 8000 in
set_option maxHeartbeats 1000000 in
theorem half_any {w : World} {leaf : Bool} {v : Value} {L : List Cl} (hv : CellsAt w v L) (hl : L.length ≤ 100000) (hs : Short 10000 L) (h2 : 2 ≤ L.length) : Calls Try.prog 47 #[nodeV leaf v] w fun e w' => e = .returned (.int .i64 (halfN leaf L : Nat)) ∧ Below w.heap.size w w' := by
  obtain ⟨p, c, rfl⟩ := hv.shape
  have hcap := hv.cap.2
  obtain ⟨W0, g, hW0, hg, hB0, hb0, c0, c1⟩ := box_node w leaf (.slice p L.length c)
  have hsz := size_any (leaf := leaf) (hv.below hB0) hl hs
  have hv0 := hv.below hB0
  obtain ⟨n, hn⟩ : ∃ n, L.length = n := ⟨_, rfl⟩
  have HN : Hid (L.length = n) := hn
  obtain ⟨m, hm⟩ : ∃ m, n = m + 1 := ⟨n - 1, by omega⟩
  have HM : Hid (n = m + 1) := hm
  obtain ⟨p', c', hsl, hcl⟩ := sl_to p (n := L.length) (c := c) m (by omega) hcap
  obtain ⟨S, hS⟩ : ∃ S : Nat → Nat, ∀ k, S k = sizeL leaf (L.take k) := ⟨_, fun _ => rfl⟩
  have hSk : ∀ k x, L[k]? = some x → S (k + 1) = S k + sizeC leaf x := fun k x h => by rw [hS, hS, sizeL_take h]
  obtain ⟨T, hT⟩ : ∃ T, sizeL leaf L = T := ⟨_, rfl⟩
  have hTl : T ≤ 2100000000 := by
    rw [← hT]
    have h2 := sizeL_short (leaf := leaf) hs
    have : L.length * 20010 ≤ 100000 * 20010 := Nat.mul_le_mul_right _ hl
    omega
  have hSl : ∀ k, S k ≤ 2100000000 := fun k => by rw [hS]; have := sizeL_le leaf L k; omega
  have hS0 : S 0 = 2 := by rw [hS]; rfl
  have HE : Hid (∀ k, enough leaf L k = decide (T ≤ 2 * S k)) := fun k => by show _ = _; unfold enough; rw [hT, hS]
  obtain ⟨H, hH⟩ : ∃ H, halfN leaf L = H := ⟨_, rfl⟩
  have HH : Hid (halfN leaf L = H) := hH
  have h2H : Hid (2 ≤ L.length) := h2
  rw [hH]
  rw [hT] at hsz
  rw [hn] at hv hv0 hl hsz hsl hcl c1 hb0 hW0 h2 ⊢
  have hmi : (n : Int) - 1 = (m : Int) := by omega
  have hni : (n : Int) ≤ 100000 := by omega
  have hm1 : (m : Int) ≤ 100000 := by omega
  have HB0 : Hid (Below w.heap.size w W0 ∧ w.heap.size = g) := ⟨hB0, hg⟩
  have hb0H : Hid (Holds W0 g 24 #[.bool leaf, .slice p n c]) := hb0
  clear hn hm hS hT hH hB0 hb0 h2 hcap
  unfold nodeV at hsz ⊢
  go_enter Try.func47, Try.ntmps47
  go_wp2_with (go_at_call 14; refine hsz.mono ?_; rintro e W1 ⟨rfl, hB1⟩; replace c1 := keep_cell hB1 c1)
  have HB1 : Hid (Below W0.heap.size W0 W1) := hB1
  clear hB1 hsz
  go_loopw [4, 17] (fun x y wr => ∃ k : Nat, y = .int .i64 (k : Nat) ∧ k ≤ m ∧ x = .int .i64 (S k : Nat) ∧ Hid (∀ j, 1 ≤ j → j ≤ k → enough leaf L j = false) ∧ Below W1.heap.size W1 wr) (fun _ y _ => m - (intOf y).toNat)
  case atStart => exact ⟨0, rfl, Nat.zero_le _, by rw [hS0]; rfl, fun j h1 h2 => by omega, Below.refl _ _⟩
  case round =>
    clear c0 c1
    obtain ⟨k, rfl, hk, rfl, HF, hB⟩ := hrel
    have hBw : Below W0.heap.size W0 wr := below_new HB1.out hB
    have hb := below_holds hBw hb0H.out
    have c0 := hb.cell 0
    have c1 := hb.cell 1
    simp at c0 c1
    clear hb
    by_cases hkn : k < m
    · have hki : (k : Int) < m := by omega
      obtain ⟨x, hx⟩ : ∃ x, L[k]? = some x := ⟨_, List.getElem?_eq_getElem (by have := HN.out; have := HM.out; omega)⟩
      have hxm : (L.take m)[k]? = some x := by rw [List.getElem?_take, if_pos hkn]; exact hx
      obtain ⟨b, o, rfl, hnn, d0, d1, d2, d3⟩ := (hcl wr L (hv0.below hBw)).at hxm
      clear hnn
      have hxs := hs x (List.mem_of_getElem? hx)
      have HT : Hid (S (k + 1) = S k + sizeC leaf x) := hSk k x hx
      have h1 : S k + sizeC leaf x ≤ 2100000000 := by rw [← hSk k x hx]; exact hSl _
      have hcs := fun w => csize_any leaf x (by omega) (by omega) w
      clear hSk hSl hS0 hv
      obtain ⟨xk, xv, xp, xs⟩ := x
      unfold cla at hcs
      obtain ⟨W2, z, hW2, hz, hB2, f0, f1, f2, f3⟩ := box_cell wr ⟨xk, xv, xp, xs⟩
      dsimp only at d0 d1 d2 d3 hcs hW2 f0 f1 f2 f3
      have e0 := keep_cell hB2 c0
      have HB2 : Hid (Below W1.heap.size W1 W2) := below_new hB hB2
      clear hB2
      generalize sizeC leaf ⟨xk, xv, xp, xs⟩ = y at HT h1 hcs
      have HE1 := HE.out (k + 1)
      rw [HT.out] at HE1
      generalize S k = s0 at HT h1 HE1 ⊢
      have hs0 : (s0 : Int) + y ≤ 2100000000 := by omega
      by_cases hen : T ≤ 2 * (s0 + y)
      · have heni : (T : Int) ≤ 2 * ((s0 : Int) + y) := by omega
        have HR : Hid (H = k + 1) := HH.out.symm.trans (halfN_of h2H.out (by omega) (by have := HN.out; have := HM.out; omega) (fun j h1 h2 => HF.out j h1 (by omega)) (.inr (by rw [HE1, decide_eq_true hen])))
        clear HE1
        go_wp2_with (go_at_call 37; refine (hcs _).mono ?_; rintro e w1 ⟨rfl, hB1⟩)
        go_ret
        rw [HR.out]
        exact ⟨by go_num, below_new HB0.out.1 (below_new HB1.out (below_new HB2.out hB1))⟩
      · have heni : ¬ (T : Int) ≤ 2 * ((s0 : Int) + y) := by omega
        have HF2 : Hid (∀ j, 1 ≤ j → j ≤ k + 1 → enough leaf L j = false) := fun j h1 h2 => by
          by_cases e : j = k + 1
          · rw [e, HE1, decide_eq_false hen]
          · exact HF.out j h1 (by omega)
        clear HE1
        go_wp2_with (go_at_call 37; refine (hcs _).mono ?_; rintro e w1 ⟨rfl, hB1⟩)
        have hB2 : Below W1.heap.size W1 w1 := below_new HB2.out hB1
        exact ⟨⟨k + 1, by go_num, by omega, by rw [HT.out]; go_num, HF2, hB2⟩, by simp [intOf]; omega⟩
    · have hki : ¬ (k : Int) < m := by omega
      have HR : Hid (H = m) := HH.out.symm.trans (halfN_of h2H.out (by have := HN.out; have := HM.out; have := h2H.out; omega) (by have := HN.out; have := HM.out; omega) (fun j h1 h2 => HF.out j h1 (by omega)) (.inl (by have := HN.out; have := HM.out; omega)))
      have HB3 : Hid (Below w.heap.size w wr) := below_new HB0.out.1 hBw
      go_wp2_with fail
      go_ret
      rw [HR.out]
      have := HB3.out
      exact ⟨rfl, by rw [← HB0.out.2]; exact this⟩
end Go.Proofs.Ytdgfjaidnedaiaa
