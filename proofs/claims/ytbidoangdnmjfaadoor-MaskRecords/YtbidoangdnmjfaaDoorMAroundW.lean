/-
  Parts of rows of hashes; what stands around a nibble's hash.
-/
import Derived.Test.YtbidoangdnmjfaaDoorMHofW
namespace Go.Proofs.YtbidoangdnmjfaaDoor
open Go Go.RowKit

theorem elemHashes : Tryd.prog.elem 23 = 43 := by kernel_rfl
theorem htHashes : Tryd.prog.underlying 23 = some (.slice (Tryd.prog.elem 23)) := by rw [elemHashes]; exact underHashes
theorem sizeSumW (w : World) : (Go.sizeOf 43).run Tryd.prog w = .ok 32 w := by
  obtain ⟨i, h1, _, h3, _⟩ := infoSumM
  simp [Go.sizeOf, typeInfo, h1, h3]
theorem HashesAt.cap {w : World} {p : Option Addr} {n c : Nat} {L : List H32} (h : HashesAt w (.slice p n c) L) : n = L.length ∧ n ≤ c := by
  rcases h with ⟨rfl, q, c', e⟩ | ⟨b, o, c', e, h2, _⟩
  · injection e with _ e2 _
    subst e2
    exact ⟨rfl, Nat.zero_le _⟩
  · injection e with _ e2 e3
    subst e2 e3
    exact ⟨rfl, h2⟩
theorem cells_sliced {W : World} {p : Option Addr} {n c : Nat} {L : List H32} (h : HashesAt W (.slice p n c) L) {lo hi mx : Nat} (h1 : lo ≤ hi) (h2 : hi ≤ n) (h3 : hi ≤ mx) : HashesAt W (sliced p lo hi mx 32) ((L.drop lo).take (hi - lo)) := by
  obtain ⟨hn, _⟩ := h.cap
  unfold sliced
  have hl : ((L.drop lo).take (hi - lo)).length = hi - lo := by rw [List.length_take, List.length_drop]; omega
  by_cases he : lo = hi
  · refine .inl ⟨List.eq_nil_of_length_eq_zero (by omega), _, _, by rw [show hi - lo = 0 by omega]⟩
  · rcases h with ⟨rfl, q, c', e⟩ | ⟨b, o, c', e, _, h5⟩
    · simp at hn; omega
    · injection e with e1 e2 e3
      subst e1
      rw [if_neg (by omega)]
      refine .inr ⟨b, o + lo * 32, mx - lo, by rw [hl]; simp [Addr.add_mid], by omega, fun i x hx => ?_⟩
      have hil := (List.getElem?_eq_some_iff.1 hx).1
      rw [hl] at hil
      rw [List.getElem?_take, if_pos hil, List.getElem?_drop] at hx
      have := h5 (lo + i) x hx
      rw [show o + lo * 32 + i * 32 = o + (lo + i) * 32 by omega]
      exact this
theorem sl_part (p : Option Addr) {n c : Nat} (lo hi : Nat) (h1 : lo ≤ hi) (h2 : hi ≤ n) (hnc : n ≤ c) :
    ∃ p' c', (∀ w, (Instr.sliceAt 23 (.slice p n c) (some (.int .i64 (lo : Int))) (some (.int .i64 (hi : Int))) (some (.int .i64 (hi : Int)))).run Tryd.prog w = .ok (.slice p' (hi - lo) c') w) ∧ ∀ W L, HashesAt W (.slice p n c) L → HashesAt W (.slice p' (hi - lo) c') ((L.drop lo).take (hi - lo)) := by
  refine ⟨if hi = lo then p else p.map (·.add (lo * 32)), hi - lo, fun w => ?_, fun W L h => cells_sliced h h1 h2 (Nat.le_refl hi)⟩
  rw [run_sliceAt_slice w _ _ _ _ _ htHashes, run_slice_lhm w _ _ _ _ htHashes .i64 .i64 .i64 (lo : Int) (hi : Int) (hi : Int) (by omega) (by omega) (by omega) (by omega), elemHashes, sizeSumW]
  simp [sliced]
theorem sl_hm (p : Option Addr) {n c : Nat} (hi : Nat) (h2 : hi ≤ n) (hnc : n ≤ c) :
    ∃ p' c', (∀ w, (Instr.sliceAt 23 (.slice p n c) none (some (.int .i64 (hi : Int))) (some (.int .i64 (hi : Int)))).run Tryd.prog w = .ok (.slice p' hi c') w) ∧ ∀ W L, HashesAt W (.slice p n c) L → HashesAt W (.slice p' hi c') (L.take hi) := by
  refine ⟨if hi = 0 then p else p.map (·.add (0 * 32)), hi, fun w => ?_, fun W L h => ?_⟩
  · rw [run_sliceAt_slice w _ _ _ _ _ htHashes, run_slice_hm w _ _ _ _ htHashes .i64 .i64 (hi : Int) (hi : Int) (by omega) (by omega) (by omega), elemHashes, sizeSumW]
    simp [sliced]
  · have := cells_sliced h (lo := 0) (hi := hi) (mx := hi) (Nat.zero_le _) h2 (by omega)
    simpa [sliced] using this
/-- One, where the nibble has a hash. -/
def bit1 (h k : Nat) : Nat := if h.testBit k then 1 else 0
theorem bit1_le (h k : Nat) : bit1 h k ≤ 1 := by unfold bit1; split <;> omega
theorem bit1_end {h k : Nat} (hk : k < 16) : cntTo h k + bit1 h k ≤ cntM h := by
  have := cntTo_mono h (a := k + 1) (b := 16) (by omega)
  rw [cntTo_succ, cntTo_16] at this
  exact this
theorem cnt_pow : ∀ k, k < 16 → cntM (2 ^ k) = 1 := by decide +kernel
theorem bit1_cnt {h k : Nat} (hk : k < 16) : cntM (h &&& 2 ^ k) = bit1 h k := by
  unfold bit1
  cases hb : h.testBit k with
  | true =>
    have : h &&& 2 ^ k = 2 ^ k := by
      apply Nat.eq_of_testBit_eq
      intro i
      rw [Nat.testBit_and, Nat.testBit_two_pow]
      by_cases e : k = i
      · subst e; rw [hb]; rfl
      · simp [e]
    rw [this, cnt_pow k hk]; rfl
  | false =>
    have : h &&& 2 ^ k = 0 := by
      apply Nat.eq_of_testBit_eq
      intro i
      rw [Nat.testBit_and, Nat.testBit_two_pow, Nat.zero_testBit]
      by_cases e : k = i
      · subst e; rw [hb]; rfl
      · simp [e]
    rw [this]; rfl
set_option maxRecDepth 8000 in
set_option maxHeartbeats 1000000 in
theorem around_any {w : World} {s t h k : Nat} {v : Value} {L : List H32} (hh : h < 65536) (hk : k < 16) (hv : HashesAt w v L) (hL : L.length = cntM h) (hT : DbAt w) : Calls Tryd.prog 32 #[brV s t h v, .int .i64 (k : Nat)] w fun e w' => ∃ va vb, e = .returned (.tuple #[va, vb]) ∧ HashesAt w' va (L.take (cntTo h k)) ∧ HashesAt w' vb (L.drop (cntTo h k + bit1 h k)) ∧ Below w.heap.size w w' := by
  unfold brV
  obtain ⟨p, c, rfl⟩ := hv.shape
  obtain ⟨hnL, hnc⟩ := hv.cap
  obtain ⟨m, hm⟩ : ∃ m, L.length = m := ⟨_, rfl⟩
  have HM : Hid (L.length = m) := hm
  rw [hm] at hv hL hnL hnc ⊢
  clear hm hnL
  have hm16 : m ≤ 16 := by rw [hL]; exact cntM_le h
  have hmi : (m : Int) ≤ 16 := by omega
  have hki : (k : Int) < 16 := by omega
  obtain ⟨W0, g, hW0, hg, hB0, hb0, c0, c1, c2, c3⟩ := box_br w s t h (.slice p m c)
  have HW : Hid (Below w.heap.size w W0 ∧ DbAt W0 ∧ HashesAt W0 (.slice p m c) L ∧ Holds W0 g 25 (brC s t h (.slice p m c))) := ⟨hB0, hT.below hB0, hv.below hB0, hb0⟩
  have HO : Hid (ofM [(k : Int)] = 2 ^ k) := by
    show ofM _ = _
    rw [ofM_one (by omega) (by omega), Int.toNat_natCast]
  have hand : bits BinOp.and IntKind.u16 (h : Int) ((2 ^ k : Nat) : Int) = ((h &&& 2 ^ k : Nat) : Int) := and_u16 _ _ hh (pow_lt16 hk)
  have hct := fun W (hW : DbAt W) => count_any (m := h &&& 2 ^ k) (and_lt16 _ _ hh) hW
  rw [bit1_cnt hk] at hct
  have hpl := fun W (hW : DbAt W) => place_any (s := s) (t := t) (n := m) (c := c) (p := p) hh hk hW
  unfold brV at hpl
  have hend := bit1_end (h := h) hk
  rw [← hL] at hend
  have hb1 := bit1_le h k
  generalize h &&& 2 ^ k = x at hand hct
  generalize 2 ^ k = q at HO hand
  generalize bit1 h k = b at hend hb1 hct ⊢
  generalize cntTo h k = j at hend hpl ⊢
  have hji : (j : Int) ≤ m := by omega
  have hjb : (j : Int) + b ≤ m := by omega
  have hbi : (b : Int) ≤ 1 := by omega
  obtain ⟨pa, ca, ra, fa⟩ := sl_hm p j (by omega) hnc
  obtain ⟨pb, cb, rb, fb⟩ := sl_part p (j + b) m hend (Nat.le_refl _) hnc
  rw [show ((j + b : Nat) : Int) = (j : Int) + b by omega] at rb
  clear hv hT hB0 hL hb0
  go_enter Tryd.func32, Tryd.ntmps32
  go_wp2_with fail
  refine (hpl W0 HW.out.2.1).mono ?_
  rintro e w1 ⟨rfl, hB1⟩
  have HB1 : Hid (Below W0.heap.size W0 w1) := hB1
  have d2 := keep_cellM hB1 c2
  clear hB1
  go_wp2_with fail
  refine wp_region_u (fun W => Below w1.heap.size w1 W) (.take 0 (.take 1 (.take 2 (.take 3 (.take 9 (.one 4 (.one 5 (.take 6 (.one 7 (.take 8 (.take 10 (.take 11 .nil)))))))))))) mixedP (by kernel_rfl) rfl (by kernel_rfl) (fun _ _ _ d _ h => by cases d <;> exact h) (Below.refl _ _).drew ?_
  refine u_val (some 17) rfl rfl rfl (.int .i64 (j : Nat)) (fun _ => by go_simp) ?_
  go_frame
  refine u_val (some 18) rfl rfl rfl (.pointer (some ⟨g, 2, none⟩)) (fun _ => by go_simp) ?_
  go_frame
  refine u_ld (some 19) rfl rfl rfl _ _ rfl rfl (fun W hW => ldU16M (keep_cellM hW d2)) ?_
  go_frame
  refine u_val (some 20) rfl rfl rfl (.int .i64 (k : Nat)) (fun _ => by go_simp) ?_
  go_frame
  refine u_val (some 26) rfl rfl rfl (.int .i64 (m : Nat)) (fun _ => by go_simp) ?_
  go_frame
  refine op_val (some 21) rfl rfl rfl (v := .slice (some ⟨w1.drew.heap.size, 0, none⟩) 1 1) (w' := w1.drew.alloc (.cells #[.int .i64 (k : Int)] 3)) (by go_simp) ?_
  have hB2 : Below w1.heap.size w1 (w1.drew.alloc (.cells #[.int .i64 (k : Int)] 3)) := (Below.refl _ _).drew.alloc (Nat.le_refl _) _
  refine ⟨hB2, ?_⟩
  go_frame
  have ho := of_any (IntsM.one (Holds.new w1.drew 3 #[.int .i64 (k : Int)])) (by simp)
  rw [HO.out] at ho
  refine op_call (some 22) rfl rfl rfl (f := 18) (vs := #[.slice (some ⟨w1.drew.heap.size, 0, none⟩) 1 1]) (by go_simp) ?_
  refine ho.mono ?_
  rintro e w2 ⟨rfl, hw2⟩
  have hB3 : Below w1.heap.size w1 w2 := by rw [hw2]; exact hB2
  refine ⟨_, rfl, hB3, ?_⟩
  go_frame
  refine u_val (some 23) rfl rfl rfl (.int .u16 (x : Nat)) (fun _ => by go_simp) ?_
  go_frame
  refine op_call (some 24) rfl rfl rfl (f := 20) (vs := #[.int .u16 (x : Nat)]) (by go_simp) ?_
  refine (hct w2 ((HW.out.2.1.below HB1.out).below hB3)).mono ?_
  rintro e w3 ⟨rfl, hB4⟩
  have hB5 := below_new hB3 hB4
  refine ⟨_, rfl, hB5, ?_⟩
  go_frame
  refine u_val (some 25) rfl rfl rfl (.int .i64 ((j : Int) + b)) (fun _ => by go_simp; rw [IntKind.wrap_i64]; omega) ?_
  go_frame
  refine u_val (some 27) rfl rfl rfl (.int .i64 ((j : Int) + b)) (fun _ => by go_simp; omega) ?_
  go_frame
  refine u_val (some 8) rfl rfl rfl (.int .i64 ((j : Int) + b)) (fun _ => by go_simp) ?_
  go_frame
  have HB5 : Hid (Below W0.heap.size W0 w3) := below_new HB1.out hB5
  have e3 : w3.cell? ⟨g, 3, none⟩ = some (.slice p m c) := (below_holds HB5.out HW.out.2.2.2).cell 3
  clear hB2 hB3 hB4 hB5 hw2 ho hct hpl d2
  show Exit.then _ _ Exit.normal _ _
  simp only [Exit.then]
  go_at_K
  go_wp2_with fail
  refine wp_region_class (fun W => Below w3.heap.size w3 W) mixedP (by kernel_rfl) (Below.refl _ _).drew ?_
  go_big_quiet_step (exact fun _ => rfl)
  refine wpQ_ld rfl _ _ rfl rfl (fun W hW => ldRowM (keep_cellM hW e3)) ?_
  go_frame
  go_big_quiet_step (exact fun _ => rfl)
  go_big_quiet_step (exact fun _ => rfl)
  refine wpQ_val rfl (.slice pa j ca) (fun _ => by go_simp) ?_
  go_frame
  go_big_quiet_step (exact fun _ => rfl)
  refine wpQ_ld rfl _ _ rfl rfl (fun W hW => ldRowM (keep_cellM hW e3)) ?_
  go_frame
  go_big_quiet_step (exact fun _ => rfl)
  go_big_quiet_step (exact fun _ => rfl)
  go_big_quiet_step (exact fun _ => rfl)
  refine wpQ_val rfl (.slice pb (m - (j + b)) cb) (fun _ => by go_simp) ?_
  go_frame
  go_big_quiet_step (exact fun _ => rfl)
  go_big_quiet_step (exact fun _ => rfl)
  refine wpQuiet_nil ?_
  intro W6 hB6
  show Exit.then _ _ Exit.normal _ _
  simp only [Exit.then]
  go_at_K
  have HB6 : Hid (Below W0.heap.size W0 W6) := below_new HB5.out hB6
  clear hB6
  go_wp2_with fail
  go_ret2
  refine ⟨_, _, rfl, fa _ _ (HW.out.2.2.1.below HB6.out), ?_, below_new HW.out.1 HB6.out⟩
  have := fb _ _ (HW.out.2.2.1.below HB6.out)
  rwa [List.take_of_length_le (by rw [List.length_drop, HM.out]; omega)] at this
end Go.Proofs.YtbidoangdnmjfaaDoor
