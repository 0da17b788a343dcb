/-
  What a slot's and a write's row may be: rise over slots.
-/
import Derived.Test.YtadpopjhhanapaaJPure
namespace Go.Proofs.Ytadpopjhhanapaa
open Go Go.RowKit

theorem smay_any (x : Sl) (w : World) : Calls Try.prog 54 #[sla x] w fun e w' => e = .returned (.tuple #[.string x.k, .bool (okS x)]) ∧ Below w.heap.size w w' := by
  obtain ⟨W0, g, hW0, hg, hB0, h0, h1⟩ := box_slot w x
  have HB : Hid (Below w.heap.size w W0) := hB0
  clear hB0
  have hr := sright_any x.v
  unfold okS
  obtain ⟨xk, xv⟩ := x
  unfold sla
  dsimp only at *
  go_enter Try.func54, Try.ntmps54
  go_wp2_with fail
  refine wp_region_class (fun W => Below W0.heap.size W0 W) mixedP (by kernel_rfl) (Below.refl _ _).drew ?_
  go_big_quiet_step (exact fun _ => rfl)
  refine wpQ_ld rfl _ _ rfl rfl (fun W hW => ldTxt (keep_cell hW h0)) ?_
  go_frame
  go_big_quiet_step (exact fun _ => rfl)
  refine wpQ_ld rfl _ _ rfl rfl (fun W hW => ldTxt (keep_cell hW h1)) ?_
  go_frame
  refine wpQ_call rfl 55 #[.string xv] (fun _ => by go_simp) (.bool (rightN xv.data.toList)) (fun W hW => (hr W).mono fun e w' h => ⟨h.1, by rw [h.2]; exact hW⟩) ?_
  go_frame
  go_big_quiet_step (exact fun _ => rfl)
  go_big_quiet_step (exact fun _ => rfl)
  refine wpQuiet_nil ?_
  intro W6 hB6
  refine then_normalJ ?_
  go_wp2_with fail
  go_ret2
  exact ⟨rfl, below_new HB.out hB6⟩

set_option maxRecDepth 8000 in
set_option maxHeartbeats 1000000 in
theorem riseS_any {w : World} {v : Value} {L : List Sl} (hv : SlotsAt w v L) (hl : L.length ≤ 4000000000000) : Calls Try.prog 53 #[v, .int .i64 32, .func (.func 54) #[] #[]] w fun e w' => e = .returned (.bool (riseL Sl.k okS 32 ⟨#[]⟩ L)) ∧ Below w.heap.size w w' := by
  obtain ⟨p, c, rfl⟩ := hv.shape
  obtain ⟨n, hn⟩ : ∃ n, L.length = n := ⟨_, rfl⟩
  have HN : Hid (L.length = n) := hn
  rw [hn] at hv hl ⊢
  clear hn
  have hni : (n : Int) ≤ 4000000000000 := by omega
  go_enter Try.func53, Try.ntmps53
  go_wp2_with fail
  go_loopw [7, 14] (fun x y wr => ∃ (k : Nat) (last : ByteArray), y = .int .i64 (k : Nat) ∧ x = .string last ∧ k ≤ n ∧ riseL Sl.k okS 32 ⟨#[]⟩ L = riseL Sl.k okS 32 last (L.drop k) ∧ Below w.heap.size w wr) (fun _ y _ => n - (intOf y).toNat)
  case atStart => exact ⟨0, _, rfl, rfl, Nat.zero_le _, rfl, Below.refl _ _⟩
  case round =>
    obtain ⟨k, last, rfl, rfl, hk, hr, hB⟩ := hrel
    have HR : Hid (riseL Sl.k okS 32 ⟨#[]⟩ L = riseL Sl.k okS 32 last (L.drop k)) := hr
    clear hr
    by_cases hkn : k < n
    · have hki : (k : Int) < n := by omega
      obtain ⟨x, hx⟩ : ∃ x, L[k]? = some x := ⟨_, List.getElem?_eq_getElem (by have := HN.out; omega)⟩
      have HX : Hid (L.drop k = x :: L.drop (k + 1)) := by
        have hlt : k < L.length := by have := HN.out; omega
        show L.drop k = _
        rw [List.drop_eq_getElem_cons hlt]
        rw [List.getElem?_eq_getElem hlt] at hx
        injection hx with hx
        rw [hx]
      obtain ⟨b, o, rfl, hnn, d0, d1⟩ := (hv.below hB).at hx
      clear hnn
      have hm := fun W => smay_any x W
      clear hv
      obtain ⟨q, hq⟩ : ∃ q, kl last (Sl.k x) = q := ⟨_, rfl⟩
      have hleq : (!kl last (Sl.k x)) = !q := by rw [hq]
      have HOUT : Hid (riseL Sl.k okS 32 ⟨#[]⟩ L = (okS x && (decide ((Sl.k x).size = 32) && kl last (Sl.k x)) && riseL Sl.k okS 32 (Sl.k x) (L.drop (k + 1)))) := by
        show _ = _
        rw [HR.out, HX.out]; rfl
      clear HR HX hx
      cases hok : okS x with
      | false =>
        rw [hok] at hm
        have HF : Hid (riseL Sl.k okS 32 ⟨#[]⟩ L = false) := by show _ = _; rw [HOUT.out, hok]; rfl
        clear hok HOUT
        obtain ⟨xk, xv⟩ := x; unfold sla at hm; dsimp only at *
        go_wp2_with (first | (go_at_call 54; refine (hm _).mono ?_; rintro e w1 ⟨rfl, hB1⟩) | (refine wpList_leqJ rfl _ _ _ rfl rfl rfl hleq ?_) | fail)
        go_ret
        exact ⟨by rw [HF.out]; rfl, below_new hB (one_alloc hB1)⟩
      | true =>
        rw [hok] at hm
        rw [hok] at HOUT
        clear hok
        by_cases hsz : (Sl.k x).size = 32
        · have hszi : (((Sl.k x).size : Nat) : Int) = 32 := by omega
          cases hkl : kl last (Sl.k x) with
          | false =>
            rw [hkl] at hq; subst hq
            have HF : Hid (riseL Sl.k okS 32 ⟨#[]⟩ L = false) := by show _ = _; rw [HOUT.out, hkl]; simp
            clear hkl HOUT hsz
            obtain ⟨xk, xv⟩ := x; unfold sla at hm; dsimp only at *
            go_wp2_with (first | (go_at_call 54; refine (hm _).mono ?_; rintro e w1 ⟨rfl, hB1⟩) | (refine wpList_leqJ rfl _ _ _ rfl rfl rfl hleq ?_) | fail)
            go_ret
            exact ⟨by rw [HF.out]; rfl, below_new hB (one_alloc hB1)⟩
          | true =>
            rw [hkl] at hq; subst hq
            have HF : Hid (riseL Sl.k okS 32 ⟨#[]⟩ L = riseL Sl.k okS 32 (Sl.k x) (L.drop (k + 1))) := by show _ = _; rw [HOUT.out, hkl, hsz]; simp
            clear hkl HOUT hsz
            obtain ⟨xk, xv⟩ := x; unfold sla at hm; dsimp only at *
            go_wp2_with (first | (go_at_call 54; refine (hm _).mono ?_; rintro e w1 ⟨rfl, hB1⟩) | (refine wpList_leqJ rfl _ _ _ rfl rfl rfl hleq ?_) | fail)
            exact ⟨⟨k + 1, _, by go_num, rfl, by omega, HF.out, below_new hB (one_alloc hB1)⟩, by simp [intOf]; omega⟩
        · have hszi : ¬ (((Sl.k x).size : Nat) : Int) = 32 := by omega
          have HF : Hid (riseL Sl.k okS 32 ⟨#[]⟩ L = false) := by show _ = _; rw [HOUT.out, decide_eq_false hsz]; simp
          clear HOUT hsz
          obtain ⟨xk, xv⟩ := x; unfold sla at hm; dsimp only at *
          go_wp2_with (first | (go_at_call 54; refine (hm _).mono ?_; rintro e w1 ⟨rfl, hB1⟩) | (refine wpList_leqJ rfl _ _ _ rfl rfl rfl hleq ?_) | fail)
          go_ret
          exact ⟨by rw [HF.out]; rfl, below_new hB (one_alloc hB1)⟩
    · have hki : ¬ (k : Int) < n := by omega
      obtain rfl : k = n := by omega
      have HF : Hid (riseL Sl.k okS 32 ⟨#[]⟩ L = true) := by
        show _ = _
        rw [HR.out, List.drop_of_length_le (by have := HN.out; omega)]; rfl
      clear HR
      go_wp2_with fail
      go_ret
      exact ⟨by rw [HF.out]; rfl, hB⟩
end Go.Proofs.Ytadpopjhhanapaa
