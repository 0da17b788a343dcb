/-
  The program's Size, Fits and the document's Size.
-/
import Derived.Test.YtdgfjaidnedaiaaEMayW
namespace Go.Proofs.Ytdgfjaidnedaiaa
open Go Go.RowKit

/-- A node's value. -/
def nodeV (leaf : Bool) (v : Value) : Value := .agg #[.bool leaf, v]
/-- Bounds on all texts of a row. -/
def Short (m : Nat) (L : List Cl) : Prop := ∀ c ∈ L, c.k.size ≤ m ∧ c.v.size ≤ m
theorem sizeC_le {leaf : Bool} {c : Cl} {m : Nat} (h : c.k.size ≤ m ∧ c.v.size ≤ m) : sizeC leaf c ≤ 2 * m + 10 := by
  unfold sizeC
  split
  · split <;> omega
  · omega
theorem sizeL_short {leaf : Bool} {m : Nat} : ∀ {L : List Cl}, Short m L → sizeL leaf L ≤ 2 + L.length * (2 * m + 10)
  | [], _ => by simp [sizeL]
  | c :: l, h => by
    have ih := sizeL_short (leaf := leaf) (L := l) (fun x hx => h x (List.mem_cons_of_mem _ hx))
    have h1 := sizeC_le (leaf := leaf) (h c (List.mem_cons_self ..))
    unfold sizeL at *
    rw [List.map_cons, List.sum_cons, List.length_cons, Nat.add_mul]
    omega
theorem box_node (w : World) (leaf : Bool) (v : Value) : ∃ W0 g, w.alloc (.cells #[.bool leaf, v] 24) = W0 ∧ w.heap.size = g ∧ Below w.heap.size w W0 ∧ Holds W0 g 24 #[.bool leaf, v] ∧ W0.cell? ⟨g, 0, none⟩ = some (.bool leaf) ∧ W0.cell? ⟨g, 1, none⟩ = some v := by
  have h := Holds.new w 24 #[.bool leaf, v]
  exact ⟨_, _, rfl, rfl, below_new1 _ _, h, h.cell 0, h.cell 1⟩
theorem box_cell (w : World) (x : Cl) : ∃ W0 g, w.alloc (.cells #[.string x.k, .string x.v, .int .i64 x.p, .int .i64 x.s] 27) = W0 ∧ w.heap.size = g ∧ Below w.heap.size w W0 ∧ CellAt W0 g 0 x := by
  have h := Holds.new w 27 #[.string x.k, .string x.v, .int .i64 x.p, .int .i64 x.s]
  exact ⟨_, _, rfl, rfl, below_new1 _ _, h.cell 0, h.cell 1, h.cell 2, h.cell 3⟩
theorem keep_cell {w w' : World} {a : Addr} {v : Value} (hB : Below w.heap.size w w') (h : w.cell? a = some v) : w'.cell? a = some v := (hB.cell (World.block_lt_of_cell? w _ h)).trans h
set_option maxRecDepth 8000 in
set_option maxHeartbeats 1000000 in
theorem size_any {w : World} {leaf : Bool} {v : Value} {L : List Cl} (hv : CellsAt w v L) (hl : L.length ≤ 100000) (hs : Short 10000 L) : Calls Try.prog 14 #[nodeV leaf v] w fun e w' => e = .returned (.int .i64 (sizeL leaf L : Nat)) ∧ Below w.heap.size w w' := by
  unfold nodeV
  obtain ⟨p, c, rfl⟩ := hv.shape
  obtain ⟨n, hn⟩ : ∃ n, L.length = n := ⟨_, rfl⟩
  have HN : Hid (L.length = n) := hn
  rw [hn] at hv hl ⊢
  clear hn
  have hni : (n : Int) ≤ 100000 := by omega
  obtain ⟨S, hS⟩ : ∃ S : Nat → Nat, ∀ k, S k = sizeL leaf (L.take k) := ⟨_, fun _ => rfl⟩
  have hSk : ∀ k x, L[k]? = some x → S (k + 1) = S k + sizeC leaf x := fun k x h => by rw [hS, hS, sizeL_take h]
  have hSl : ∀ k, S k ≤ 2100000000 := fun k => by
    rw [hS]
    have h1 := sizeL_le leaf L k
    have h2 := sizeL_short (leaf := leaf) hs
    rw [HN.out] at h2
    have : n * 20010 ≤ 100000 * 20010 := Nat.mul_le_mul_right _ hl
    omega
  have hS0 : S 0 = 2 := by rw [hS]; rfl
  have hSn : S n = sizeL leaf L := by rw [hS, ← HN.out, List.take_length]
  rw [← hSn]
  clear hSn hS
  obtain ⟨W0, g, hW0, hg, hB0, hb0, c0, c1⟩ := box_node w leaf (.slice p n c)
  have hgH : Hid (w.heap.size = g) := hg
  have hWH : Hid (Below w.heap.size w W0 ∧ Holds W0 g 24 #[.bool leaf, .slice p n c]) := ⟨hB0, hb0⟩
  clear hB0 hb0
  go_enter Try.func14, Try.ntmps14
  go_wp2_with fail
  go_loopw [3, 9] (fun x y wr => ∃ k : Nat, y = .int .i64 (k : Nat) ∧ k ≤ n ∧ x = .int .i64 (S k : Nat) ∧ Below W0.heap.size W0 wr) (fun _ y _ => n - (intOf y).toNat)
  case atStart => exact ⟨0, rfl, Nat.zero_le _, by rw [hS0]; rfl, Below.refl _ _⟩
  case round =>
    clear c0 c1
    obtain ⟨k, rfl, hk, rfl, hB⟩ := hrel
    have hBw := below_new hWH.out.1 hB
    have hb := below_holds hB hWH.out.2
    have c0 := hb.cell 0
    have c1 := hb.cell 1
    simp at c0 c1
    clear hb
    by_cases hkn : k < n
    · have hki : (k : Int) < n := by omega
      obtain ⟨x, hx⟩ : ∃ x, L[k]? = some x := ⟨_, List.getElem?_eq_getElem (by have := HN.out; omega)⟩
      obtain ⟨b, o, rfl, hnn, d0, d1, d2, d3⟩ := (hv.below hBw).at hx
      clear hnn
      have hxs := hs x (List.mem_of_getElem? hx)
      have HT : Hid (S (k + 1) = S k + sizeC leaf x) := hSk k x hx
      have h1 : S k + sizeC leaf x ≤ 2100000000 := by rw [← hSk k x hx]; exact hSl _
      have hcs := fun w => csize_any leaf x (by omega) (by omega) w
      clear hSk hSl hS0 hv
      obtain ⟨xk, xv, xp, xs⟩ := x
      unfold cla at hcs
      obtain ⟨W1, z, hW1, hz, hB1, f0, f1, f2, f3⟩ := box_cell wr ⟨xk, xv, xp, xs⟩
      dsimp only at d0 d1 d2 d3 hcs hW1 f0 f1 f2 f3
      have e0 := keep_cell hB1 c0
      have HB1 : Hid (Below W0.heap.size W0 W1) := below_new hB hB1
      clear hB1
      generalize sizeC leaf ⟨xk, xv, xp, xs⟩ = y at HT h1 hcs
      generalize S k = s0 at HT h1 ⊢
      have hs0 : (s0 : Int) + y ≤ 2100000000 := by omega
      go_wp2_with (go_at_call 37; refine (hcs _).mono ?_; rintro e w1 ⟨rfl, hB1⟩)
      have hB2 : Below W0.heap.size W0 w1 := below_new HB1.out hB1
      go_roundw
      case rel => exact ⟨k + 1, by go_num, by omega, by rw [HT.out]; go_num, hB2⟩
      case measure => simp [intOf]; omega
    · have hki : ¬ (k : Int) < n := by omega
      obtain rfl : k = n := by omega
      go_wp2_with fail
      go_ret
      rw [← hgH.out]
      exact ⟨rfl, hBw⟩
end Go.Proofs.Ytdgfjaidnedaiaa
