/-
  What a write may be: bare, writeMayBe and the closure of mayBe.
-/
import Derived.Test.YtadpopjhhanapaaJRiseS
namespace Go.Proofs.Ytadpopjhhanapaa
open Go Go.RowKit

theorem WrOk.shape {w : World} {x : Wr} (h : WrOk w x) : ∃ p c, x.s = .slice p x.L.length c := h.1.shape
theorem nilB (x : ByteArray) (h : ¬ x = ⟨#[]⟩) : ¬ x.size = 0 := fun e => h (ByteArray.ext (Array.eq_empty_of_size_eq_zero e))
set_option maxRecDepth 8000 in
theorem bare_any {w : World} {x : Wr} (hx : WrOk w x) : Calls Try.prog 51 #[wra x] w fun e w' => e = .returned (.bool (bareW x)) ∧ Below w.heap.size w w' := by
  obtain ⟨p, c, hs⟩ := hx.shape
  obtain ⟨W0, g, hW0, hg, hB0, h0, h1, h2, h3, h4, h5, h6⟩ := box_write w x
  have HB : Hid (Below w.heap.size w W0) := hB0
  clear hB0 hx
  obtain ⟨xa, xg, xr, xn, xb, xc, xs, xL⟩ := x
  unfold wra wrC bareW
  dsimp only at *
  subst hs
  obtain ⟨m, hm⟩ : ∃ m, xL.length = m := ⟨_, rfl⟩
  rw [hm] at *
  clear hm
  cases xr with
  | true =>
    go_enter Try.func51, Try.ntmps51
    go_wp2_with fail
    go_ret
    refine ⟨?_, below_new1 _ _⟩; first | rfl | (simp; done) | (simp; omega)
  | false =>
    by_cases hn : xn = 0
    · subst hn
      by_cases hb : xb = ⟨#[]⟩
      · subst hb
        by_cases hc : xc = ⟨#[]⟩
        · subst hc
          by_cases hl : m = 0
          · subst hl
            go_enter Try.func51, Try.ntmps51
            go_wp2_with fail
            go_ret
            refine ⟨?_, below_new1 _ _⟩; first | rfl | (simp; done) | (simp; omega)
          · have hli : ¬ (m : Int) = 0 := by omega
            rw [decide_eq_false hl]
            go_enter Try.func51, Try.ntmps51
            go_wp2_with fail
            go_ret
            refine ⟨?_, below_new1 _ _⟩; first | rfl | (simp; done) | (simp; omega)
        · rw [decide_eq_false hc]; have he := notEmpty xc (nilB xc hc)
          go_enter Try.func51, Try.ntmps51
          go_wp2_with fail
          go_ret
          refine ⟨?_, below_new1 _ _⟩; first | rfl | (simp; done) | (simp; omega)
      · rw [decide_eq_false hb]; have he := notEmpty xb (nilB xb hb)
        go_enter Try.func51, Try.ntmps51
        go_wp2_with fail
        go_ret
        refine ⟨?_, below_new1 _ _⟩; first | rfl | (simp; done) | (simp; omega)
    · have hni : ¬ (xn : Int) = 0 := by omega
      rw [decide_eq_false hn]
      go_enter Try.func51, Try.ntmps51
      go_wp2_with fail
      go_ret
      refine ⟨?_, below_new1 _ _⟩; first | rfl | (simp; done) | (simp; omega)
set_option maxRecDepth 8000 in
set_option maxHeartbeats 4000000 in
theorem wmaybe_any {w : World} {x : Wr} (hx : WrOk w x) : Calls Try.prog 34 #[wra x] w fun e w' => e = .returned (.bool (okW x)) ∧ Below w.heap.size w w' := by
  obtain ⟨p, c, hs⟩ := hx.shape
  obtain ⟨W0, g, hW0, hg, hB0, hh⟩ := box_write w x
  have hld := ldWrite hh
  obtain ⟨h0, h1, h2, h3, h4, h5, h6⟩ := hh
  have HB : Hid (Below w.heap.size w W0) := hB0
  have hbare := fun W (hW : Below w.heap.size w W) => bare_any (hx.below hW)
  have hrise := fun W (hW : Below w.heap.size w W) (hl : x.L.length ≤ 4000000000000) => riseS_any (hx.1.below hW) hl
  have hchk := fun W => check_any 0 x.b x.c 0 W
  unfold okW
  clear hB0 hx
  obtain ⟨xa, xg, xr, xn, xb, xc, xs, xL⟩ := x
  unfold acct at hchk
  unfold wra wrC at *
  dsimp only at *
  subst hs
  obtain ⟨q, hq⟩ : ∃ q, bareW ⟨xa, xg, xr, xn, xb, xc, .slice p xL.length c, xL⟩ = q := ⟨_, rfl⟩
  rw [hq] at hbare ⊢
  clear hq
  obtain ⟨r, hr⟩ : ∃ r, riseL Sl.k okS 32 ⟨#[]⟩ xL = r := ⟨_, rfl⟩
  rw [hr] at hrise ⊢
  clear hr
  unfold chkE at hchk
  obtain ⟨k, hk⟩ : ∃ k, okA xb.data.toList xc.data.toList 0 = k := ⟨_, rfl⟩
  rw [hk] at hchk ⊢
  clear hk
  obtain ⟨m, hm⟩ : ∃ m, xL.length = m := ⟨_, rfl⟩
  rw [hm] at h6 hld hbare hrise hW0 ⊢
  clear hm
  have HBARE : Hid (∀ W, Below w.heap.size w W → Calls Try.prog 51 #[.agg #[.string xa, .bool xg, .bool xr, .int .u64 (xn : Nat), .string xb, .string xc, .slice p m c]] W fun e w' => e = .returned (.bool q) ∧ Below W.heap.size W w') := hbare
  have HRISE : Hid (∀ W, Below w.heap.size w W → m ≤ 4000000000000 → Calls Try.prog 53 #[.slice p m c, .int .i64 32, .func (.func 54) #[] #[]] W fun e w' => e = .returned (.bool r) ∧ Below W.heap.size W w') := hrise
  have HCHK : Hid (∀ W, Calls Try.prog 52 #[.agg #[.int .u64 0, .string xb, .string xc, .int .i64 0]] W fun e w' => e = .returned (.int .i64 (if k = true then 0 else 1)) ∧ Below W.heap.size W w') := hchk
  have HLD : Hid ((loadVar 38 ⟨g, 0, none⟩).run Try.prog W0 = .ok (.agg #[.string xa, .bool xg, .bool xr, .int .u64 (xn : Nat), .string xb, .string xc, .slice p m c]) W0) := hld
  clear hbare hrise hchk hld
  have HBA : Hid (∀ o, Below w.heap.size w (w.alloc o)) := fun o => below_new1 _ _
  have HM : Hid (decide (m ≤ 64) = true ∨ decide (m ≤ 64) = false) := by show _ ∨ _; cases decide (m ≤ 64) <;> simp
  by_cases hgq : xg = true ∧ q = false
  · obtain ⟨rfl, rfl⟩ := hgq
    go_enter Try.func34, Try.ntmps34
    go_wp2_with (first
      | (go_at_call 51; refine (HBARE.out _ (by first | exact HB.out | exact HBA.out _)).mono ?_; rintro e w1 ⟨rfl, hB1⟩)
      | fail)
    go_ret
    exact ⟨rfl, below_new (by first | exact HB.out | exact HBA.out _) hB1⟩
  · have hgq' : (!(xg && !q)) = true := by cases xg <;> cases q <;> simp_all
    rw [hgq', Bool.true_and]
    by_cases hm64 : m ≤ 64
    · have hmi : ¬ (64 : Int) < m := by omega
      rw [decide_eq_true hm64]
      cases k with
      | false =>
        cases xg with
        | false =>
          clear hgq hgq'
          go_enter Try.func34, Try.ntmps34
          go_wp2_with (first
            | (go_at_call 52; refine (HCHK.out _).mono ?_; rintro e w2 ⟨rfl, hB2⟩)
            | fail)
          go_ret
          exact ⟨rfl, below_new (by first | exact HB.out | exact HBA.out _) hB2⟩
        | true =>
          obtain rfl : q = true := by cases q <;> simp_all
          clear hgq hgq'
          go_enter Try.func34, Try.ntmps34
          go_wp2_with (first
            | (go_at_call 51; refine (HBARE.out _ (by first | exact HB.out | exact HBA.out _)).mono ?_; rintro e w1 ⟨rfl, hB1⟩; have h4 := keep_cell hB1 h4; have h5 := keep_cell hB1 h5; have h6 := keep_cell hB1 h6)
            | (go_at_call 52; refine (HCHK.out _).mono ?_; rintro e w2 ⟨rfl, hB2⟩)
            | fail)
          go_ret
          exact ⟨rfl, below_new (below_new (by first | exact HB.out | exact HBA.out _) hB1) hB2⟩
      | true =>
        cases xg with
        | false =>
          clear hgq hgq'
          go_enter Try.func34, Try.ntmps34
          go_wp2_with (first
            | (go_at_call 52; refine (HCHK.out _).mono ?_; rintro e w2 ⟨rfl, hB2⟩; have h6 := keep_cell hB2 h6)
            | (go_at_call 53; refine (HRISE.out _ (below_new (by first | exact HB.out | exact HBA.out _) hB2) (by omega)).mono ?_; rintro e w3 ⟨rfl, hB3⟩)
            | fail)
          go_ret
          exact ⟨rfl, below_new (below_new (by first | exact HB.out | exact HBA.out _) hB2) hB3⟩
        | true =>
          obtain rfl : q = true := by cases q <;> simp_all
          clear hgq hgq'
          go_enter Try.func34, Try.ntmps34
          go_wp2_with (first
            | (go_at_call 51; refine (HBARE.out _ (by first | exact HB.out | exact HBA.out _)).mono ?_; rintro e w1 ⟨rfl, hB1⟩; have h4 := keep_cell hB1 h4; have h5 := keep_cell hB1 h5; have h6 := keep_cell hB1 h6)
            | (go_at_call 52; refine (HCHK.out _).mono ?_; rintro e w2 ⟨rfl, hB2⟩; have h6 := keep_cell hB2 h6)
            | (go_at_call 53; refine (HRISE.out _ (below_new (below_new (by first | exact HB.out | exact HBA.out _) hB1) hB2) (by omega)).mono ?_; rintro e w3 ⟨rfl, hB3⟩)
            | fail)
          go_ret
          exact ⟨rfl, below_new (below_new (below_new (by first | exact HB.out | exact HBA.out _) hB1) hB2) hB3⟩
    · have hmi : (64 : Int) < m := by omega
      rw [decide_eq_false hm64]
      cases xg with
      | false =>
        clear hgq hgq'
        go_enter Try.func34, Try.ntmps34
        go_wp2_with fail
        go_ret
        exact ⟨rfl, by first | exact HB.out | exact HBA.out _⟩
      | true =>
        obtain rfl : q = true := by cases q <;> simp_all
        clear hgq hgq'
        go_enter Try.func34, Try.ntmps34
        go_wp2_with (first
          | (go_at_call 51; refine (HBARE.out _ (by first | exact HB.out | exact HBA.out _)).mono ?_; rintro e w1 ⟨rfl, hB1⟩; have h6 := keep_cell hB1 h6)
          | fail)
        go_ret
        exact ⟨rfl, below_new (by first | exact HB.out | exact HBA.out _) hB1⟩
theorem wmay_any {w : World} {x : Wr} (hx : WrOk w x) : Calls Try.prog 33 #[wra x] w fun e w' => e = .returned (.tuple #[.string x.a, .bool (okW x)]) ∧ Below w.heap.size w w' := by
  obtain ⟨W0, g, hW0, hg, hB0, h0⟩ := box_write w x
  have HB : Hid (Below w.heap.size w W0) := hB0
  have hmay := fun W (hW : Below w.heap.size w W) => wmaybe_any (hx.below hW)
  have hld := fun W (hW : Below W0.heap.size W0 W) => ldWrite (h0.below hW)
  have h00 := h0.c0
  generalize okW x = q at hmay ⊢
  clear hB0 hx h0
  obtain ⟨xa, xg, xr, xn, xb, xc, xs, xL⟩ := x
  unfold wra wrC at *
  dsimp only at *
  go_enter Try.func33, Try.ntmps33
  go_wp2_with fail
  refine wp_region_class (fun W => Below W0.heap.size W0 W) mixedP (by kernel_rfl) (Below.refl _ _).drew ?_
  go_big_quiet_step (exact fun _ => rfl)
  refine wpQ_ld rfl _ _ rfl rfl (fun W hW => ldTxt (keep_cell hW h00)) ?_
  go_frame
  refine wpQ_ld rfl _ _ rfl rfl (fun W hW => hld W hW) ?_
  go_frame
  refine wpQ_call rfl 34 #[.agg #[.string xa, .bool xg, .bool xr, .int .u64 (xn : Nat), .string xb, .string xc, xs]] (fun _ => by go_simp) (.bool q) (fun W hW => (hmay W (below_new HB.out hW)).mono fun e w' h => ⟨h.1, below_new hW h.2⟩) ?_
  go_frame
  go_big_quiet_step (exact fun _ => rfl)
  go_big_quiet_step (exact fun _ => rfl)
  refine wpQuiet_nil ?_
  intro W6 hB6
  refine then_normalJ ?_
  go_wp2_with fail
  go_ret2
  exact ⟨rfl, below_new HB.out hB6⟩
end Go.Proofs.Ytadpopjhhanapaa
