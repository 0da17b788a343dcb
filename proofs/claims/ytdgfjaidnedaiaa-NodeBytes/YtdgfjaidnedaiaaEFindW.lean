/-
  The program's binary search, Find, Child, and the document's Find, Child.
-/
import Derived.Test.YtdgfjaidnedaiaaEChkW
namespace Go.Proofs.Ytdgfjaidnedaiaa
open Go Go.RowKit

theorem run_geqE (a b : ByteArray) (w : World) : (binOp .geq 9 (.string a) (.string b)).run Try.prog w = .ok (.bool (!kl a b)) w := by simp [binOp, Op.stringOp, kl]
theorem run_gtrE (a b : ByteArray) (w : World) : (binOp .gtr 9 (.string a) (.string b)).run Try.prog w = .ok (.bool (kl b a)) w := by
  have h : (!(Op.bytesLess a.toList b.toList || a.toList == b.toList)) = kl b a := by
    cases h1 : kl b a with
    | true => rw [le_no h1]; rfl
    | false => rw [le_yes h1]; rfl
  rw [← h]
  simp [binOp, Op.stringOp]
theorem run_leqE' (a b : ByteArray) (w : World) : (binOp .leq 9 (.string a) (.string b)).run Try.prog w = .ok (.bool (!kl b a)) w := by
  refine run_leqE ?_ w
  cases h1 : kl b a with
  | true => exact le_no h1
  | false => exact le_yes h1
theorem run_eqlE (a b : ByteArray) (w : World) : (binOp .eql 9 (.string a) (.string b)).run Try.prog w = .ok (.bool (decide (a = b))) w := by
  by_cases h : a = b
  · subst h; simp [go_sem]
  · have : ¬ a.toList = b.toList := fun e => h (ba_ext e)
    simp [go_sem, h, this]
theorem beqD (a b : ByteArray) : (a.toList == b.toList) = decide (a = b) := by
  by_cases h : a = b
  · subst h; simp
  · rw [decide_eq_false h]
    exact beq_eq_false_iff_ne.2 fun e => h (ba_ext e)
theorem so_find (x : Cl) (key : ByteArray) (kb : Nat) (w : World) (h : w.cell? ⟨kb, 0, none⟩ = some (.string key)) : Calls Try.prog 43 #[cla x, .pointer (some ⟨kb, 0, none⟩)] w fun e w' => e = .returned (.bool (!kl x.k key)) ∧ Below w.heap.size w w' := by
  have hr := run_geqE
  obtain ⟨W0, g, hW0, hg, hB0, h0, h1, h2, h3⟩ := box_cell w x
  have hc := keep_cell hB0 h
  have HB : Hid (Below w.heap.size w W0) := hB0
  clear hB0 h
  obtain ⟨xk, xv, xp, xs⟩ := x
  unfold cla
  dsimp only at *
  go_enter Try.func43, Try.ntmps43
  go_wp2_with fail
  go_ret
  exact ⟨rfl, HB.out⟩
theorem so_child (x : Cl) (key : ByteArray) (kb : Nat) (w : World) (h : w.cell? ⟨kb, 0, none⟩ = some (.string key)) : Calls Try.prog 46 #[cla x, .pointer (some ⟨kb, 0, none⟩)] w fun e w' => e = .returned (.bool (kl key x.k)) ∧ Below w.heap.size w w' := by
  have hr := run_gtrE
  obtain ⟨W0, g, hW0, hg, hB0, h0, h1, h2, h3⟩ := box_cell w x
  have hc := keep_cell hB0 h
  have HB : Hid (Below w.heap.size w W0) := hB0
  clear hB0 h
  obtain ⟨xk, xv, xp, xs⟩ := x
  unfold cla
  dsimp only at *
  go_enter Try.func46, Try.ntmps46
  go_wp2_with fail
  go_ret
  exact ⟨rfl, HB.out⟩
set_option maxRecDepth 8000 in
set_option maxHeartbeats 1000000 in
theorem first_find {w : World} {v : Value} {L : List Cl} (hv : CellsAt w v L) (hl : L.length ≤ 100000) {key : ByteArray} {kb : Nat} (hkb : w.cell? ⟨kb, 0, none⟩ = some (.string key)) {so : Cl → Bool} (hso : ∀ x : Cl, so x = (!kl x.k key)) (N : Nat) (hN : N ≤ L.length) (hlo : ∀ (i : Nat) x, i < N → L[i]? = some x → so x = false) (hhi : ∀ (i : Nat) x, N ≤ i → L[i]? = some x → so x = true) :
    Calls Try.prog 42 #[v, .func (.func 43) #[] #[.pointer (some ⟨kb, 0, none⟩)]] w fun e w' => e = .returned (.int .i64 (N : Nat)) ∧ Below w.heap.size w w' := by
  obtain ⟨p, c, rfl⟩ := hv.shape
  obtain ⟨n, hn⟩ : ∃ n, L.length = n := ⟨_, rfl⟩
  have HN : Hid (L.length = n) := hn
  rw [hn] at hv hl hN ⊢
  clear hn
  have hni : (n : Int) ≤ 100000 := by omega
  go_enter Try.func42, Try.ntmps42
  go_wp2_with fail
  go_loopw [5, 6] (fun x y wr => ∃ l h : Nat, x = .int .i64 (l : Nat) ∧ y = .int .i64 (h : Nat) ∧ l ≤ N ∧ N ≤ h ∧ h ≤ n ∧ Below w.heap.size w wr) (fun x y _ => (intOf y).toNat - (intOf x).toNat)
  case atStart => exact ⟨0, n, rfl, rfl, Nat.zero_le _, hN, Nat.le_refl _, Below.refl _ _⟩
  case round =>
    obtain ⟨l, h, rfl, rfl, hl1, hh1, hh2, hB⟩ := hrel
    by_cases hlh : l < h
    · have hli : (l : Int) < h := by omega
      obtain ⟨d, hd⟩ : ∃ d, (h - l) / 2 = d := ⟨_, rfl⟩
      obtain ⟨m, hm⟩ : ∃ m, l + d = m := ⟨_, rfl⟩
      have hq : Int.tdiv ((h : Int) - (l : Int)) 2 = (d : Int) := by
        rw [Int.tdiv_eq_ediv_of_nonneg (by omega)]; omega
      have hmi : (l : Int) + (d : Int) = (m : Int) := by omega
      have hmn : (m : Int) < n := by omega
      have hm1 : l ≤ m := by omega
      have hm2 : m < h := by omega
      have hm3 : (m : Int) ≤ 100000 := by omega
      clear hm hd
      obtain ⟨x, hx⟩ : ∃ x, L[m]? = some x := ⟨_, List.getElem?_eq_getElem (by have := HN.out; omega)⟩
      obtain ⟨b, o, rfl, hnn, d0, d1, d2, d3⟩ := (hv.below hB).at hx
      have hsx := so_find x key kb wr (keep_cell hB hkb)
      rw [← hso] at hsx
      cases hs : so x with
      | true =>
        rw [hs] at hsx
        have hNm : N ≤ m := by
          rcases Nat.lt_or_ge m N with q | q
          · have := hlo m x q hx; rw [hs] at this; cases this
          · exact q
        clear hs hnn hx hlo hhi hso
        obtain ⟨xk, xv, xp, xs⟩ := x
        unfold cla at hsx
        dsimp only at *
        go_wp2_with (go_at_call 43; refine hsx.mono ?_; rintro e w1 ⟨rfl, hB1⟩)
        exact ⟨⟨l, m, rfl, rfl, hl1, hNm, by omega, below_new hB hB1⟩, by simp [intOf]; omega⟩
      | false =>
        rw [hs] at hsx
        have hNm : m + 1 ≤ N := by
          rcases Nat.lt_or_ge m N with q | q
          · exact q
          · have := hhi m x q hx; rw [hs] at this; cases this
        clear hs hnn hx hlo hhi hso
        obtain ⟨xk, xv, xp, xs⟩ := x
        unfold cla at hsx
        dsimp only at *
        go_wp2_with (go_at_call 43; refine hsx.mono ?_; rintro e w1 ⟨rfl, hB1⟩)
        exact ⟨⟨m + 1, h, by go_num, rfl, hNm, hh1, hh2, below_new hB hB1⟩, by simp [intOf]; omega⟩
    · have hli : ¬ (l : Int) < h := by omega
      have HL : Hid (l = N) := by show _ = _; omega
      clear hh1 hl1
      go_wp2_with fail
      go_ret
      rw [HL.out]
      exact ⟨rfl, hB⟩
set_option maxRecDepth 8000 in
set_option maxHeartbeats 1000000 in
theorem first_child {w : World} {v : Value} {L : List Cl} (hv : CellsAt w v L) (hl : L.length ≤ 100000) {key : ByteArray} {kb : Nat} (hkb : w.cell? ⟨kb, 0, none⟩ = some (.string key)) {so : Cl → Bool} (hso : ∀ x : Cl, so x = (kl key x.k)) (N : Nat) (hN : N ≤ L.length) (hlo : ∀ (i : Nat) x, i < N → L[i]? = some x → so x = false) (hhi : ∀ (i : Nat) x, N ≤ i → L[i]? = some x → so x = true) :
    Calls Try.prog 42 #[v, .func (.func 46) #[] #[.pointer (some ⟨kb, 0, none⟩)]] w fun e w' => e = .returned (.int .i64 (N : Nat)) ∧ Below w.heap.size w w' := by
  obtain ⟨p, c, rfl⟩ := hv.shape
  obtain ⟨n, hn⟩ : ∃ n, L.length = n := ⟨_, rfl⟩
  have HN : Hid (L.length = n) := hn
  rw [hn] at hv hl hN ⊢
  clear hn
  have hni : (n : Int) ≤ 100000 := by omega
  go_enter Try.func42, Try.ntmps42
  go_wp2_with fail
  go_loopw [5, 6] (fun x y wr => ∃ l h : Nat, x = .int .i64 (l : Nat) ∧ y = .int .i64 (h : Nat) ∧ l ≤ N ∧ N ≤ h ∧ h ≤ n ∧ Below w.heap.size w wr) (fun x y _ => (intOf y).toNat - (intOf x).toNat)
  case atStart => exact ⟨0, n, rfl, rfl, Nat.zero_le _, hN, Nat.le_refl _, Below.refl _ _⟩
  case round =>
    obtain ⟨l, h, rfl, rfl, hl1, hh1, hh2, hB⟩ := hrel
    by_cases hlh : l < h
    · have hli : (l : Int) < h := by omega
      obtain ⟨d, hd⟩ : ∃ d, (h - l) / 2 = d := ⟨_, rfl⟩
      obtain ⟨m, hm⟩ : ∃ m, l + d = m := ⟨_, rfl⟩
      have hq : Int.tdiv ((h : Int) - (l : Int)) 2 = (d : Int) := by
        rw [Int.tdiv_eq_ediv_of_nonneg (by omega)]; omega
      have hmi : (l : Int) + (d : Int) = (m : Int) := by omega
      have hmn : (m : Int) < n := by omega
      have hm1 : l ≤ m := by omega
      have hm2 : m < h := by omega
      have hm3 : (m : Int) ≤ 100000 := by omega
      clear hm hd
      obtain ⟨x, hx⟩ : ∃ x, L[m]? = some x := ⟨_, List.getElem?_eq_getElem (by have := HN.out; omega)⟩
      obtain ⟨b, o, rfl, hnn, d0, d1, d2, d3⟩ := (hv.below hB).at hx
      have hsx := so_child x key kb wr (keep_cell hB hkb)
      rw [← hso] at hsx
      cases hs : so x with
      | true =>
        rw [hs] at hsx
        have hNm : N ≤ m := by
          rcases Nat.lt_or_ge m N with q | q
          · have := hlo m x q hx; rw [hs] at this; cases this
          · exact q
        clear hs hnn hx hlo hhi hso
        obtain ⟨xk, xv, xp, xs⟩ := x
        unfold cla at hsx
        dsimp only at *
        go_wp2_with (go_at_call 46; refine hsx.mono ?_; rintro e w1 ⟨rfl, hB1⟩)
        exact ⟨⟨l, m, rfl, rfl, hl1, hNm, by omega, below_new hB hB1⟩, by simp [intOf]; omega⟩
      | false =>
        rw [hs] at hsx
        have hNm : m + 1 ≤ N := by
          rcases Nat.lt_or_ge m N with q | q
          · exact q
          · have := hhi m x q hx; rw [hs] at this; cases this
        clear hs hnn hx hlo hhi hso
        obtain ⟨xk, xv, xp, xs⟩ := x
        unfold cla at hsx
        dsimp only at *
        go_wp2_with (go_at_call 46; refine hsx.mono ?_; rintro e w1 ⟨rfl, hB1⟩)
        exact ⟨⟨m + 1, h, by go_num, rfl, hNm, hh1, hh2, below_new hB hB1⟩, by simp [intOf]; omega⟩
    · have hli : ¬ (l : Int) < h := by omega
      have HL : Hid (l = N) := by show _ = _; omega
      clear hh1 hl1
      go_wp2_with fail
      go_ret
      rw [HL.out]
      exact ⟨rfl, hB⟩
theorem box_str (w : World) (s : ByteArray) : ∃ W0 g, w.alloc (.cells #[.string s] 9) = W0 ∧ w.heap.size = g ∧ Below w.heap.size w W0 ∧ W0.cell? ⟨g, 0, none⟩ = some (.string s) := by
  have h := Holds.new w 9 #[.string s]
  exact ⟨_, _, rfl, rfl, below_new1 _ _, h.cell 0⟩
set_option maxRecDepth 8000 in
set_option maxHeartbeats 1000000 in
theorem find_any {w : World} {leaf : Bool} {v : Value} {L : List Cl} (hv : CellsAt w v L) (hr : Rises L) (hl : L.length ≤ 100000) (key : ByteArray) : Calls Try.prog 21 #[nodeV leaf v, .string key] w fun e w' => e = .returned (.tuple #[.int .i64 (fndN L key : Nat), .bool (isAt L key)]) ∧ Below w.heap.size w w' := by
  unfold nodeV
  obtain ⟨W0, g0, hW0, hg0, hB0, hb0, c0, c1⟩ := box_node w leaf v
  obtain ⟨W1, g1, hW1, hg1, hB1, k1⟩ := box_str W0 key
  have c1' := keep_cell hB1 c1
  have hv1 := hv.below (below_new hB0 hB1)
  have hf := first_find hv1 hl k1 (so := fun x => !kl x.k key) (fun _ => rfl) (fndN L key) (fndN_le _ _) (fun i x hi hx => by rw [fndN_lt hi hx]; rfl) (fun i x hi hx => by rw [fndN_ge hr hi hx]; rfl)
  have HB : Hid (Below w.heap.size w W1) := below_new hB0 hB1
  have HG : Hid (w.heap.size = g0) := hg0
  obtain ⟨p, c, rfl⟩ := hv.shape
  obtain ⟨n, hn⟩ : ∃ n, L.length = n := ⟨_, rfl⟩
  have hfl := fndN_le L key
  obtain ⟨A, hA⟩ : ∃ A, isAt L key = A := ⟨_, rfl⟩
  have HA : Hid (isAt L key = A) := hA
  obtain ⟨N, hN⟩ : ∃ N, fndN L key = N := ⟨_, rfl⟩
  have HNN : Hid (fndN L key = N) := hN
  rw [hA, hN]
  rw [hN] at hf hfl
  rw [hn] at hv1 hl hf hfl c1' hW0 c1 ⊢
  clear hv hA hN hB0 hB1 hb0
  have hni : (n : Int) ≤ 100000 := by omega
  have HH : Hid (L.length = n) := hn
  clear hn
  by_cases hlt : N < n
  · have hli : (N : Int) < n := by omega
    obtain ⟨x, hx⟩ : ∃ x, L[N]? = some x := ⟨_, List.getElem?_eq_getElem (by rw [HH.out]; exact hlt)⟩
    obtain ⟨b, o, rfl, hnn, hd⟩ := hv1.at hx
    have HE : Hid (A = decide (x.k = key)) := HA.out.symm.trans (isAt_some (by rw [HNN.out]; exact hx))
    clear hnn hv1
    go_enter Try.func21, Try.ntmps21
    go_wp2_with (go_at_call 42; refine hf.mono ?_; rintro e w1 ⟨rfl, hB1⟩)
    have c1 := keep_cell hB1 c1'
    have k1 := keep_cell hB1 k1
    have dk := (hd.below hB1).1
    have HB2 : Hid (Below w.heap.size w w1) := below_new HB.out hB1
    clear hB1 hf
    refine wp_region_class (fun W => Below w1.heap.size w1 W) mixedP (by kernel_rfl) (Below.refl _ _).drew ?_
    go_big_quiet_step (exact fun _ => rfl)
    go_big_quiet_step (exact fun _ => rfl)
    go_big_quiet_step (exact fun _ => rfl)
    refine wpQ_ld rfl _ _ rfl rfl (fun W hW => ldRow (keep_cell hW c1)) ?_
    go_frame
    go_big_quiet_step (exact fun _ => rfl)
    refine wpQ_val rfl (.bool true) (fun _ => by go_simp) ?_
    go_frame
    go_big_quiet_step (exact fun _ => rfl)
    go_big_quiet_step (exact fun _ => rfl)
    refine wpQ_ld rfl _ _ rfl rfl (fun W hW => ldRow (keep_cell hW c1)) ?_
    go_frame
    go_big_quiet_step (exact fun _ => rfl)
    go_big_quiet_step (exact fun _ => rfl)
    go_big_quiet_step (exact fun _ => rfl)
    refine wpQ_ld rfl _ _ rfl rfl (fun W hW => ldStr (keep_cell hW dk)) ?_
    go_frame
    refine wpQ_ld rfl _ _ rfl rfl (fun W hW => ldStr (keep_cell hW k1)) ?_
    go_frame
    refine wpQ_val rfl (.bool (decide (x.k = key))) (fun _ => by go_simp; exact beqD _ _) ?_
    go_frame
    go_big_quiet_step (exact fun _ => rfl)
    go_big_quiet_step (exact fun _ => rfl)
    go_big_quiet_step (exact fun _ => rfl)
    refine wpQuiet_nil ?_
    intro W6 hB6
    show Exit.then _ _ Exit.normal _ _
    simp only [Exit.then]
    go_at_K
    have HB3 : Hid (Below w.heap.size w W6) := below_new HB2.out hB6
    clear hB6
    go_wp2_with fail
    go_ret2
    rw [HE.out]
    exact ⟨rfl, HB3.out⟩
  · have hli : ¬ (N : Int) < n := by omega
    have HE : Hid (A = false) := HA.out.symm.trans (isAt_none (by rw [HNN.out]; exact List.getElem?_eq_none (by rw [HH.out]; omega)))
    clear hv1
    go_enter Try.func21, Try.ntmps21
    go_wp2_with (go_at_call 42; refine hf.mono ?_; rintro e w1 ⟨rfl, hB1⟩)
    have c1 := keep_cell hB1 c1'
    have HB2 : Hid (Below w.heap.size w w1) := below_new HB.out hB1
    clear hB1 hf
    refine wp_region_class (fun W => Below w1.heap.size w1 W) mixedP (by kernel_rfl) (Below.refl _ _).drew ?_
    go_big_quiet_step (exact fun _ => rfl)
    go_big_quiet_step (exact fun _ => rfl)
    go_big_quiet_step (exact fun _ => rfl)
    refine wpQ_ld rfl _ _ rfl rfl (fun W hW => ldRow (keep_cell hW c1)) ?_
    go_frame
    go_big_quiet_step (exact fun _ => rfl)
    refine wpQ_val rfl (.bool false) (fun _ => by go_simp) ?_
    go_frame
    go_big_quiet_step (exact fun _ => rfl)
    go_big_quiet_step (fail)
    go_big_quiet_step (fail)
    go_big_quiet_step (fail)
    go_big_quiet_step (fail)
    go_big_quiet_step (fail)
    go_big_quiet_step (fail)
    go_big_quiet_step (fail)
    go_big_quiet_step (fail)
    go_big_quiet_step (exact fun _ => rfl)
    go_big_quiet_step (exact fun _ => rfl)
    go_big_quiet_step (exact fun _ => rfl)
    refine wpQuiet_nil ?_
    intro W6 hB6
    show Exit.then _ _ Exit.normal _ _
    simp only [Exit.then]
    go_at_K
    have HB3 : Hid (Below w.heap.size w W6) := below_new HB2.out hB6
    clear hB6
    go_wp2_with fail
    go_ret2
    rw [HE.out]
    exact ⟨rfl, HB3.out⟩
set_option maxRecDepth 8000 in
set_option maxHeartbeats 1000000 in
theorem child_any {w : World} {leaf : Bool} {v : Value} {L : List Cl} (hv : CellsAt w v L) (hr : Rises L) (hl : L.length ≤ 100000) (key : ByteArray) : Calls Try.prog 25 #[nodeV leaf v, .string key] w fun e w' => e = .returned (.int .i64 (upN L key - 1 : Nat)) ∧ Below w.heap.size w w' := by
  unfold nodeV
  obtain ⟨W0, g0, hW0, hg0, hB0, hb0, c0, c1⟩ := box_node w leaf v
  obtain ⟨W1, g1, hW1, hg1, hB1, k1⟩ := box_str W0 key
  have c1' := keep_cell hB1 c1
  have hv1 := hv.below (below_new hB0 hB1)
  have hf := first_child hv1 hl k1 (so := fun x => kl key x.k) (fun _ => rfl) (upN L key) (upN_le _ _) (fun i x hi hx => upN_lt hi hx) (fun i x hi hx => upN_ge hr hi hx)
  have HB : Hid (Below w.heap.size w W1) := below_new hB0 hB1
  have HG : Hid (w.heap.size = g0) := hg0
  obtain ⟨p, c, rfl⟩ := hv.shape
  have hfl := upN_le L key
  generalize upN L key = N at hf hfl ⊢
  clear hv hB0 hB1 hb0 hv1
  have hNi : (N : Int) ≤ 100000 := by omega
  go_enter Try.func25, Try.ntmps25
  go_wp2_with (go_at_call 42; refine hf.mono ?_; rintro e w1 ⟨rfl, hB1⟩)
  all_goals (go_ret; rw [← HG.out]; refine ⟨?_, below_new HB.out hB1⟩; simp; omega)
set_option maxRecDepth 8000 in
set_option maxHeartbeats 1000000 in
theorem qfind_any {w : World} {leaf : Bool} {v : Value} {L : List Cl} (hv : CellsAt w v L) (hl : L.length ≤ 100000) (key : ByteArray) : Calls Try.prog 22 #[nodeV leaf v, .string key] w fun e w' => e = .returned (.tuple #[.int .i64 (fndN L key : Nat), .bool (isAt L key)]) ∧ Below w.heap.size w w' := by
  unfold nodeV
  obtain ⟨p, c, rfl⟩ := hv.shape
  obtain ⟨n, hn⟩ : ∃ n, L.length = n := ⟨_, rfl⟩
  obtain ⟨A, hA⟩ : ∃ A, isAt L key = A := ⟨_, rfl⟩
  have HA : Hid (isAt L key = A) := hA
  obtain ⟨N, hN⟩ : ∃ N, fndN L key = N := ⟨_, rfl⟩
  have HNN : Hid (fndN L key = N) := hN
  rw [hA, hN]
  rw [hn] at hv hl ⊢
  have HH : Hid (L.length = n) := hn
  clear hn hA hN
  have hni : (n : Int) ≤ 100000 := by omega
  obtain ⟨W0, g, hW0, hg, hB0, hb0, c0, c1⟩ := box_node w leaf (.slice p n c)
  have hgH : Hid (w.heap.size = g) := hg
  have hWH : Hid (Below w.heap.size w W0 ∧ Holds W0 g 24 #[.bool leaf, .slice p n c]) := ⟨hB0, hb0⟩
  clear hB0 hb0
  go_enter Try.func22, Try.ntmps22
  go_wp2_with fail
  go_loopw [6] (fun y wr => ∃ k : Nat, y = .int .i64 (k : Nat) ∧ k ≤ n ∧ Hid (∀ (i : Nat) x, i < k → L[i]? = some x → kl x.k key = true) ∧ Below W0.heap.size W0 wr) (fun y _ => n - (intOf y).toNat)
  case atStart => exact ⟨0, rfl, Nat.zero_le _, fun i x h => absurd h (by omega), Below.refl _ _⟩
  case round =>
    clear c0 c1
    obtain ⟨k, rfl, hk, HO, hB⟩ := hrel
    have hBw := below_new hWH.out.1 hB
    have hb := below_holds hB hWH.out.2
    have c0 := hb.cell 0
    have c1 := hb.cell 1
    simp at c0 c1
    clear hb
    by_cases hkn : k < n
    · have hki : (k : Int) < n := by omega
      obtain ⟨x, hx⟩ : ∃ x, L[k]? = some x := ⟨_, List.getElem?_eq_getElem (by have := HH.out; omega)⟩
      obtain ⟨b, o, rfl, hnn, hd⟩ := (hv.below hBw).at hx
      clear hnn
      have dk := hd.1
      have hge := run_geqE x.k key
      cases hlt : kl x.k key with
      | true =>
        rw [hlt] at hge
        have HO2 : Hid (∀ (i : Nat) x, i < k + 1 → L[i]? = some x → kl x.k key = true) := fun i y hi hy => by
          by_cases e : i = k
          · subst e; rw [hx] at hy; injection hy with hy; rw [← hy]; exact hlt
          · exact HO.out i y (by omega) hy
        clear hv hlt
        go_wp2_with fail
        exact ⟨⟨k + 1, by go_num, by omega, HO2, hB⟩, by simp [intOf]; omega⟩
      | false =>
        rw [hlt] at hge
        have HK : Hid (N = k) := HNN.out.symm.trans (tw_of (by rw [HH.out]; omega) (fun i y hi hy => HO.out i y hi hy) (fun y hy => by rw [hx] at hy; injection hy with hy; rw [← hy]; exact hlt))
        have HE : Hid (A = decide (x.k = key)) := HA.out.symm.trans (isAt_some (by rw [HNN.out, HK.out]; exact hx))
        clear hv hlt
        go_wp2_with fail
        refine wp_region_class (fun W => Below wr.heap.size wr W) mixedP (by kernel_rfl) (Below.refl _ _).drew ?_
        go_big_quiet_step (exact fun _ => rfl)
        go_big_quiet_step (exact fun _ => rfl)
        refine wpQ_ld rfl _ _ rfl rfl (fun W hW => ldRow (keep_cell hW c1)) ?_
        go_frame
        go_big_quiet_step (exact fun _ => rfl)
        go_big_quiet_step (exact fun _ => rfl)
        go_big_quiet_step (exact fun _ => rfl)
        refine wpQ_ld rfl _ _ rfl rfl (fun W hW => ldStr (keep_cell hW dk)) ?_
        go_frame
        go_big_quiet_step (exact fun _ => rfl)
        refine wpQ_val rfl (.bool (decide (x.k = key))) (fun _ => by go_simp; exact beqD _ _) ?_
        go_frame
        go_big_quiet_step (exact fun _ => rfl)
        go_big_quiet_step (exact fun _ => rfl)
        refine wpQuiet_nil ?_
        intro W6 hB6
        show Exit.then _ _ Exit.normal _ _
        simp only [Exit.then]
        go_at_K
        have HB3 : Hid (Below w.heap.size w W6) := below_new hBw hB6
        clear hB6
        go_wp2_with fail
        go_ret2
        rw [HE.out, HK.out]
        exact ⟨rfl, HB3.out⟩
    · have hki : ¬ (k : Int) < n := by omega
      have HK : Hid (N = n) := HNN.out.symm.trans (tw_of (by rw [HH.out]; omega) (fun i y hi hy => HO.out i y (by omega) hy) (fun y hy => by rw [List.getElem?_eq_none (by rw [HH.out]; omega)] at hy; cases hy))
      have HE : Hid (A = false) := HA.out.symm.trans (isAt_none (by rw [HNN.out, HK.out]; exact List.getElem?_eq_none (by rw [HH.out]; omega)))
      go_wp2_with fail
      go_ret2
      rw [HE.out, HK.out, ← hgH.out]
      exact ⟨rfl, hBw⟩
theorem up_last {L : List Cl} (hr : Rises L) {key : ByteArray} {i : Nat} {x : Cl} (hx : L[i]? = some x) : kl key x.k = false ↔ i < upN L key := by
  constructor
  · intro h
    rcases Nat.lt_or_ge i (upN L key) with q | q
    · exact q
    · rw [upN_ge hr q hx] at h; cases h
  · exact fun h => upN_lt h hx
set_option maxRecDepth 8000 in
set_option maxHeartbeats 1000000 in
theorem qchild_any {w : World} {leaf : Bool} {v : Value} {L : List Cl} (hv : CellsAt w v L) (hr : Rises L) (hl : L.length ≤ 100000) (key : ByteArray) : Calls Try.prog 26 #[nodeV leaf v, .string key] w fun e w' => e = .returned (.int .i64 (upN L key - 1 : Nat)) ∧ Below w.heap.size w w' := by
  unfold nodeV
  obtain ⟨p, c, rfl⟩ := hv.shape
  obtain ⟨n, hn⟩ : ∃ n, L.length = n := ⟨_, rfl⟩
  obtain ⟨N, hN⟩ : ∃ N, upN L key = N := ⟨_, rfl⟩
  have hNn := upN_le L key
  have HU : Hid (∀ (i : Nat) x, L[i]? = some x → (kl key x.k = false ↔ i < N)) := fun i x hx => by rw [← hN]; exact up_last hr hx
  rw [hN]
  rw [hN, hn] at hNn
  rw [hn] at hv hl ⊢
  have HH : Hid (L.length = n) := hn
  clear hn hN
  have hni : (n : Int) ≤ 100000 := by omega
  obtain ⟨W0, g, hW0, hg, hB0, hb0, c0, c1⟩ := box_node w leaf (.slice p n c)
  have hgH : Hid (w.heap.size = g) := hg
  have hWH : Hid (Below w.heap.size w W0 ∧ Holds W0 g 24 #[.bool leaf, .slice p n c]) := ⟨hB0, hb0⟩
  clear hB0 hb0
  go_enter Try.func26, Try.ntmps26
  go_wp2_with fail
  go_loopw [5, 6] (fun x y wr => ∃ k q : Nat, y = .int .i64 (k : Nat) ∧ x = .int .i64 (q : Nat) ∧ k ≤ n ∧ Hid (q = min k N - 1) ∧ Below W0.heap.size W0 wr) (fun _ y _ => n - (intOf y).toNat)
  case atStart => exact ⟨0, 0, rfl, rfl, Nat.zero_le _, (by show _ = _; omega), Below.refl _ _⟩
  case round =>
    clear c0 c1
    obtain ⟨k, q, rfl, rfl, hk, HO, hB⟩ := hrel
    have hBw := below_new hWH.out.1 hB
    have hb := below_holds hB hWH.out.2
    have c0 := hb.cell 0
    have c1 := hb.cell 1
    simp at c0 c1
    clear hb
    by_cases hkn : k < n
    · have hki : (k : Int) < n := by omega
      obtain ⟨x, hx⟩ : ∃ x, L[k]? = some x := ⟨_, List.getElem?_eq_getElem (by have := HH.out; omega)⟩
      obtain ⟨b, o, rfl, hnn, hd⟩ := (hv.below hBw).at hx
      clear hnn
      have dk := hd.1
      have hge := run_leqE' x.k key
      have hu := HU.out k x hx
      cases hlt : kl key x.k with
      | true =>
        rw [hlt] at hge hu
        have HQ : Hid (q = min (k + 1) N - 1) := by have h1 := HO.out; have : ¬ k < N := (fun h => by simpa using hu.2 h); show _ = _; omega
        clear hv hlt hu
        go_wp2_with fail
        exact ⟨⟨k + 1, q, by go_num, rfl, by omega, HQ, hB⟩, by simp [intOf]; omega⟩
      | false =>
        rw [hlt] at hge hu
        have HQ : Hid (k = min (k + 1) N - 1) := by have : k < N := hu.1 rfl; show _ = _; omega
        clear hv hlt hu
        go_wp2_with fail
        exact ⟨⟨k + 1, k, by go_num, rfl, by omega, HQ, hB⟩, by simp [intOf]; omega⟩
    · have hki : ¬ (k : Int) < n := by omega
      have HK : Hid (q = N - 1) := by have := HO.out; show _ = _; omega
      go_wp2_with fail
      go_ret
      rw [← HK.out, ← hgH.out]
      exact ⟨rfl, hBw⟩
end Go.Proofs.Ytdgfjaidnedaiaa
