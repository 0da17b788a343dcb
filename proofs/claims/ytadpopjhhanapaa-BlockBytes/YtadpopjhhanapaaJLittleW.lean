/-
  little: is a block small enough to be played with?
-/
import Derived.Test.YtadpopjhhanapaaJAwake
namespace Go.Proofs.Ytadpopjhhanapaa
open Go Go.RowKit

structure LitW (x : Wr) : Prop where
  a : x.a.size ≤ 100
  b : x.b.size ≤ 100
  c : x.c.size ≤ 100
  l : x.L.length ≤ 2000
  s : ∀ y ∈ x.L, Small y
/-- A small block. -/
def Lit (L : List Wr) : Prop := L.length ≤ 80 ∧ ∀ x ∈ L, LitW x
/-- What little answers. -/
def LPost (L : List Wr) (e : Ending) : Prop := ∃ b, e = .returned (.bool b) ∧ (b = true → Lit L)
theorem mem_take_succ {α : Type} {L : List α} {k : Nat} {x : α} (hx : L[k]? = some x) {P : α → Prop} (h : ∀ y ∈ L.take k, P y) (h2 : P x) : ∀ y ∈ L.take (k + 1), P y := by
  intro y hy
  rw [List.take_add_one, hx] at hy
  simp only [Option.toList_some, List.mem_append, List.mem_singleton] at hy
  rcases hy with hy | rfl
  · exact h y hy
  · exact h2
set_option maxRecDepth 8000 in
set_option maxHeartbeats 8000000 in
theorem little_any {w : World} {n : Int} {v : Value} {L : List Wr} (hv : WritesAt w v L) (hl : L.length ≤ 9223372036854775807) (hls : ∀ x ∈ L, x.L.length ≤ 9223372036854775807) :
    Calls Try.prog 10 #[blkV n v] w fun e w' => LPost L e ∧ Below w.heap.size w w' := by
  obtain ⟨p, c, rfl⟩ := hv.shape
  obtain ⟨W0, g, hW0, hg, hB0, hb0, h0, h1⟩ := box_block w n (.slice p L.length c)
  have HB : Hid (Below w.heap.size w W0) := hB0
  have HG : Hid (w.heap.size = g) := hg
  obtain ⟨N, hN⟩ : ∃ N, L.length = N := ⟨_, rfl⟩
  have HN : Hid (L.length = N) := hN
  have hv0 := hv.below hB0
  rw [hN] at hv0 h1 hW0 hl ⊢
  unfold blkV
  clear hN hb0 hv hB0
  by_cases h80 : N ≤ 80
  · have h8i : ¬ (80 : Int) < N := by omega
    go_enter Try.func10, Try.ntmps10
    go_wp2_with fail
    go_loopw [3, 4] (fun x y wr => ∃ k m : Nat, y = .int .i64 (k : Nat) ∧ x = .int .i64 (m : Nat) ∧ k ≤ N ∧ m ≤ 2000 ∧ Hid (∀ z ∈ L.take k, LitW z) ∧ Below W0.heap.size W0 wr) (fun _ y _ => N - (intOf y).toNat)
    case atStart => exact ⟨0, N, rfl, rfl, Nat.zero_le _, by omega, (by intro z hz; simp at hz), Below.refl _ _⟩
    case round =>
      obtain ⟨k, m, rfl, rfl, hk, hm, HI, hB⟩ := hrel
      have q1 := keep_cell hB h1
      have hBw : Below w.heap.size w wr := below_new HB.out hB
      clear h1 h0
      by_cases hkn : k < N
      · have hki : (k : Int) < N := by omega
        obtain ⟨x, hx⟩ : ∃ x, L[k]? = some x := ⟨_, List.getElem?_eq_getElem (by have := HN.out; omega)⟩
        have hvr := hv0.below hB
        have hok := hvr.1 x (List.mem_of_getElem? hx)
        have hxl := hls x (List.mem_of_getElem? hx)
        obtain ⟨b, o, rfl, hnn, d0, d1, d2, d3, d4, d5, d6⟩ := hvr.at hx
        have HX : Hid (L[k]? = some x) := hx
        obtain ⟨xa, xg, xr, xn, xb, xc, xs, xL⟩ := x
        dsimp only at *
        have hsl := hok.1
        dsimp only at hsl
        obtain ⟨sp, sc, rfl⟩ := hsl.shape
        obtain ⟨M, hM⟩ : ∃ M, xL.length = M := ⟨_, rfl⟩
        have HM : Hid (xL.length = M) := hM
        rw [hM] at hxl d6 hsl
        clear hnn hx hvr hok
        by_cases hc1 : M ≤ 2000 - m
        · have hc1i : ¬ (2000 - (m : Int)) < (M : Int) := by omega
          by_cases hc2 : xa.size ≤ 100
          · have hc2i : ¬ (100 : Int) < xa.size := by omega
            by_cases hc3 : xb.size ≤ 100
            · have hc3i : ¬ (100 : Int) < xb.size := by omega
              by_cases hc4 : xc.size ≤ 100
              · have hc4i : ¬ (100 : Int) < xc.size := by omega
                go_wp2_with fail
                obtain ⟨W5, hW5⟩ : ∃ W5, wr.alloc (.cells #[.string xa, .bool xg, .bool xr, .int .u64 (xn : Nat), .string xb, .string xc, .slice sp M sc] 38) = W5 := ⟨_, rfl⟩
                obtain ⟨g5, hg5⟩ : ∃ g5, wr.heap.size = g5 := ⟨_, rfl⟩
                have hB5 : Below wr.heap.size wr W5 := by rw [← hW5]; exact below_new1 _ _
                have e6 : W5.cell? ⟨g5, 6, none⟩ = some (.slice sp M sc) := by rw [← hW5, ← hg5]; exact (Holds.new wr 38 #[.string xa, .bool xg, .bool xr, .int .u64 (xn : Nat), .string xb, .string xc, .slice sp M sc]).cell 6
                have hsl5 := hsl.below hB5
                rw [hW5, hg5]
                clear hsl d0 d1 d2 d3 d4 d5 d6 q1
                go_loopw [6] (fun y w2 => ∃ j : Nat, y = .int .i64 (j : Nat) ∧ j ≤ M ∧ Hid (∀ z ∈ xL.take j, Small z) ∧ w2 = W5) (fun y _ => M - (intOf y).toNat)
                case atStart => exact ⟨0, rfl, Nat.zero_le _, (by intro z hz; simp at hz), rfl⟩
                case round =>
                  obtain ⟨j, rfl, hj, HJ, hwr5⟩ := hrel
                  obtain rfl := hwr5.symm
                  have HB5 : Hid (Below w.heap.size w W5) := below_new hBw hB5
                  by_cases hjm : j < M
                  · have hji : (j : Int) < M := by omega
                    obtain ⟨y, hy⟩ : ∃ y, xL[j]? = some y := ⟨_, List.getElem?_eq_getElem (by have := HM.out; omega)⟩
                    obtain ⟨b2, o2, rfl, hnn, f0, f1⟩ := hsl5.at hy
                    clear hnn
                    by_cases hk1 : y.k.size ≤ 100
                    · have hk1i : ¬ (100 : Int) < y.k.size := by omega
                      by_cases hk2 : y.v.size ≤ 100
                      · have hk2i : ¬ (100 : Int) < y.v.size := by omega
                        have HJ2 : Hid (∀ z ∈ xL.take (j + 1), Small z) := mem_take_succ hy HJ.out ⟨hk1, hk2⟩
                        clear hsl5 hy
                        obtain ⟨yk, yv⟩ := y
                        dsimp only at *
                        go_wp2_with fail
                        exact ⟨⟨j + 1, by go_num, by omega, HJ2, by first | rfl | trivial⟩, by simp [intOf]; omega⟩
                      · have hk2i : (100 : Int) < y.v.size := by omega
                        clear hsl5 hy
                        obtain ⟨yk, yv⟩ := y
                        dsimp only at *
                        go_wp2_with fail
                        go_ret
                        exact ⟨⟨_, rfl, by intro h; cases h⟩, by first | exact HB5.out | (rw [← HG.out]; exact HB5.out)⟩
                    · have hk1i : (100 : Int) < y.k.size := by omega
                      clear hsl5 hy
                      obtain ⟨yk, yv⟩ := y
                      dsimp only at *
                      go_wp2_with fail
                      go_ret
                      exact ⟨⟨_, rfl, by intro h; cases h⟩, by first | exact HB5.out | (rw [← HG.out]; exact HB5.out)⟩
                  · have hji : ¬ (j : Int) < M := by omega
                    have HL : Hid (LitW ⟨xa, xg, xr, xn, xb, xc, .slice sp xL.length sc, xL⟩) := by
                      have h1 := HJ.out
                      rw [List.take_of_length_le (by have := HM.out; omega)] at h1
                      exact ⟨hc2, hc3, hc4, by have := HM.out; show xL.length ≤ 2000; omega, h1⟩
                    have HI2 : Hid (∀ z ∈ L.take (k + 1), LitW z) := mem_take_succ HX.out HI.out HL.out
                    go_wp2_with fail
                    exact ⟨⟨k + 1, m + M, by go_num, by go_num, by omega, by omega, HI2, below_new hB hB5⟩, by simp [intOf]; omega⟩
              · have hc4i : (100 : Int) < xc.size := by omega
                go_wp2_with fail
                go_ret
                exact ⟨⟨_, rfl, by intro h; cases h⟩, by first | exact below_new hBw (below_new1 _ _) | (rw [← HG.out]; exact below_new hBw (below_new1 _ _))⟩
            · have hc3i : (100 : Int) < xb.size := by omega
              go_wp2_with fail
              go_ret
              exact ⟨⟨_, rfl, by intro h; cases h⟩, by first | exact below_new hBw (below_new1 _ _) | (rw [← HG.out]; exact below_new hBw (below_new1 _ _))⟩
          · have hc2i : (100 : Int) < xa.size := by omega
            go_wp2_with fail
            go_ret
            exact ⟨⟨_, rfl, by intro h; cases h⟩, by first | exact below_new hBw (below_new1 _ _) | (rw [← HG.out]; exact below_new hBw (below_new1 _ _))⟩
        · have hc1i : (2000 - (m : Int)) < (M : Int) := by omega
          go_wp2_with fail
          go_ret
          exact ⟨⟨_, rfl, by intro h; cases h⟩, by first | exact below_new hBw (below_new1 _ _) | (rw [← HG.out]; exact below_new hBw (below_new1 _ _))⟩
      · have hki : ¬ (k : Int) < N := by omega
        obtain rfl : k = N := by omega
        have HE : Hid (L.take k = L) := List.take_of_length_le (by have := HN.out; omega)
        have HF : Hid (Lit L) := ⟨by rw [HN.out]; exact h80, by have := HI.out; rw [HE.out] at this; exact this⟩
        go_wp2_with fail
        go_ret
        exact ⟨⟨_, rfl, fun _ => HF.out⟩, by first | exact hBw | (rw [← HG.out]; exact hBw)⟩
  · have h8i : (80 : Int) < N := by omega
    go_enter Try.func10, Try.ntmps10
    go_wp2_with fail
    go_ret
    exact ⟨⟨_, rfl, by intro h; cases h⟩, by first | exact HB.out | (rw [← HG.out]; exact HB.out)⟩
end Go.Proofs.Ytadpopjhhanapaa
