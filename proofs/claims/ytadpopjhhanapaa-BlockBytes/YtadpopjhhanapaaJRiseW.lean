/-
  rise over writes.
-/
import Derived.Test.YtadpopjhhanapaaJMayW
namespace Go.Proofs.Ytadpopjhhanapaa
open Go Go.RowKit

set_option maxRecDepth 8000 in
set_option maxHeartbeats 1000000 in
theorem riseW_any {w : World} {v : Value} {L : List Wr} (hv : WritesAt w v L) (hl : L.length ≤ 4000000000000) : Calls Try.prog 32 #[v, .int .i64 20, .func (.func 33) #[] #[]] w fun e w' => e = .returned (.bool (riseL Wr.a okW 20 ⟨#[]⟩ L)) ∧ Below w.heap.size w w' := by
  obtain ⟨p, c, rfl⟩ := hv.shape
  obtain ⟨n, hn⟩ : ∃ n, L.length = n := ⟨_, rfl⟩
  have HN : Hid (L.length = n) := hn
  rw [hn] at hv hl ⊢
  clear hn
  have hni : (n : Int) ≤ 4000000000000 := by omega
  go_enter Try.func32, Try.ntmps32
  go_wp2_with fail
  go_loopw [7, 14] (fun x y wr => ∃ (k : Nat) (last : ByteArray), y = .int .i64 (k : Nat) ∧ x = .string last ∧ k ≤ n ∧ riseL Wr.a okW 20 ⟨#[]⟩ L = riseL Wr.a okW 20 last (L.drop k) ∧ Below w.heap.size w wr) (fun _ y _ => n - (intOf y).toNat)
  case atStart => exact ⟨0, _, rfl, rfl, Nat.zero_le _, rfl, Below.refl _ _⟩
  case round =>
    obtain ⟨k, last, rfl, rfl, hk, hr, hB⟩ := hrel
    have HR : Hid (riseL Wr.a okW 20 ⟨#[]⟩ L = riseL Wr.a okW 20 last (L.drop k)) := hr
    clear hr
    by_cases hkn : k < n
    · have hki : (k : Int) < n := by omega
      obtain ⟨x, hx⟩ : ∃ x, L[k]? = some x := ⟨_, List.getElem?_eq_getElem (by have := HN.out; omega)⟩
      have HX : Hid (L.drop k = x :: L.drop (k + 1)) := by
        have hlt : k < L.length := by have := HN.out; omega
        show L.drop k = _
        rw [List.drop_eq_getElem_cons hlt]
        rw [List.getElem?_eq_getElem hlt] at hx
        injection hx with hx
        rw [hx]
      obtain ⟨b, o, rfl, hnn, d0, d1, d2, d3, d4, d5, d6⟩ := (hv.below hB).at hx
      clear hnn
      have hok0 := hv.1 x (List.mem_of_getElem? hx)
      have hsh := hok0.shape
      have hm := fun W (hW : Below wr.heap.size wr W) => wmay_any ((hok0.below hB).below hW)
      clear hok0
      clear hv
      obtain ⟨q, hq⟩ : ∃ q, kl last (Wr.a x) = q := ⟨_, rfl⟩
      have hleq : (!kl last (Wr.a x)) = !q := by rw [hq]
      have HOUT : Hid (riseL Wr.a okW 20 ⟨#[]⟩ L = (okW x && (decide ((Wr.a x).size = 20) && kl last (Wr.a x)) && riseL Wr.a okW 20 (Wr.a x) (L.drop (k + 1)))) := by
        show _ = _
        rw [HR.out, HX.out]; rfl
      clear HR HX hx
      cases hok : okW x with
      | false =>
        rw [hok] at hm
        have HF : Hid (riseL Wr.a okW 20 ⟨#[]⟩ L = false) := by show _ = _; rw [HOUT.out, hok]; rfl
        clear hok HOUT
        obtain ⟨xa, xg, xr, xn, xb, xc, xs, xL⟩ := x; unfold wra wrC at hm; dsimp only at *; obtain ⟨sp, sc, rfl⟩ := hsh
        go_wp2_with (first | (go_at_call 33; refine (hm _ (below_new1 _ _)).mono ?_; rintro e w1 ⟨rfl, hB1⟩) | (refine wpList_leqJ rfl _ _ _ rfl rfl rfl hleq ?_) | fail)
        go_ret
        exact ⟨by rw [HF.out]; rfl, below_new hB (one_alloc hB1)⟩
      | true =>
        rw [hok] at hm
        rw [hok] at HOUT
        clear hok
        by_cases hsz : (Wr.a x).size = 20
        · have hszi : (((Wr.a x).size : Nat) : Int) = 20 := by omega
          cases hkl : kl last (Wr.a x) with
          | false =>
            rw [hkl] at hq; subst hq
            have HF : Hid (riseL Wr.a okW 20 ⟨#[]⟩ L = false) := by show _ = _; rw [HOUT.out, hkl]; simp
            clear hkl HOUT hsz
            obtain ⟨xa, xg, xr, xn, xb, xc, xs, xL⟩ := x; unfold wra wrC at hm; dsimp only at *; obtain ⟨sp, sc, rfl⟩ := hsh
            go_wp2_with (first | (go_at_call 33; refine (hm _ (below_new1 _ _)).mono ?_; rintro e w1 ⟨rfl, hB1⟩) | (refine wpList_leqJ rfl _ _ _ rfl rfl rfl hleq ?_) | fail)
            go_ret
            exact ⟨by rw [HF.out]; rfl, below_new hB (one_alloc hB1)⟩
          | true =>
            rw [hkl] at hq; subst hq
            have HF : Hid (riseL Wr.a okW 20 ⟨#[]⟩ L = riseL Wr.a okW 20 (Wr.a x) (L.drop (k + 1))) := by show _ = _; rw [HOUT.out, hkl, hsz]; simp
            clear hkl HOUT hsz
            obtain ⟨xa, xg, xr, xn, xb, xc, xs, xL⟩ := x; unfold wra wrC at hm; dsimp only at *; obtain ⟨sp, sc, rfl⟩ := hsh
            go_wp2_with (first | (go_at_call 33; refine (hm _ (below_new1 _ _)).mono ?_; rintro e w1 ⟨rfl, hB1⟩) | (refine wpList_leqJ rfl _ _ _ rfl rfl rfl hleq ?_) | fail)
            exact ⟨⟨k + 1, _, by go_num, rfl, by omega, HF.out, below_new hB (one_alloc hB1)⟩, by simp [intOf]; omega⟩
        · have hszi : ¬ (((Wr.a x).size : Nat) : Int) = 20 := by omega
          have HF : Hid (riseL Wr.a okW 20 ⟨#[]⟩ L = false) := by show _ = _; rw [HOUT.out, decide_eq_false hsz]; simp
          clear HOUT hsz
          obtain ⟨xa, xg, xr, xn, xb, xc, xs, xL⟩ := x; unfold wra wrC at hm; dsimp only at *; obtain ⟨sp, sc, rfl⟩ := hsh
          go_wp2_with (first | (go_at_call 33; refine (hm _ (below_new1 _ _)).mono ?_; rintro e w1 ⟨rfl, hB1⟩) | (refine wpList_leqJ rfl _ _ _ rfl rfl rfl hleq ?_) | fail)
          go_ret
          exact ⟨by rw [HF.out]; rfl, below_new hB (one_alloc hB1)⟩
    · have hki : ¬ (k : Int) < n := by omega
      obtain rfl : k = n := by omega
      have HF : Hid (riseL Wr.a okW 20 ⟨#[]⟩ L = true) := by
        show _ = _
        rw [HR.out, List.drop_of_length_le (by have := HN.out; omega)]; rfl
      clear HR
      go_wp2_with fail
      go_ret
      exact ⟨by rw [HF.out]; rfl, hB⟩
end Go.Proofs.Ytadpopjhhanapaa
