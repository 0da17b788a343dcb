/-
  NodeFinds' walk.
-/
import Derived.Test.YthcdifkjkjfnlaaEAwake
namespace Go.Proofs.Ythcdifkjkjfnlaa
open Go Go.RowKit Go.Lib

theorem up_fnd {L : List Cl} (hr : Rises L) (key : ByteArray) : upN L key = if isAt L key = true then fndN L key + 1 else fndN L key := by
  by_cases h : isAt L key = true
  · rw [if_pos h]
    have hlt := isAt_lt h
    obtain ⟨y, hy⟩ : ∃ y, L[fndN L key]? = some y := ⟨_, List.getElem?_eq_getElem hlt⟩
    have e : y.k = key := by rw [isAt_some hy] at h; exact of_decide_eq_true h
    have := upN_of hr hy
    rw [e] at this
    exact this
  · rw [if_neg h]
    refine tw_of (fndN_le _ _) (fun i x hi hx => by rw [kl_asymm (fndN_lt hi hx)]; rfl) (fun x hx => ?_)
    have h1 := fndN_ge hr (Nat.le_refl _) hx
    cases h2 : kl key x.k with
    | true => rfl
    | false => exact absurd (by rw [isAt_some hx]; exact decide_eq_true (kl_tri h1 h2)) h
theorem fnd_lt_iff {L : List Cl} (hr : Rises L) {key : ByteArray} {i : Nat} {x : Cl} (hx : L[i]? = some x) : kl x.k key = decide (i < fndN L key) := by
  by_cases h : i < fndN L key
  · rw [decide_eq_true h]; exact fndN_lt h hx
  · rw [decide_eq_false h]; exact fndN_ge hr (by omega) hx
set_option maxRecDepth 8000 in
set_option maxHeartbeats 4000000 in
theorem finds_walk {w : World} {leaf : Bool} {v : Value} {l : List Cl} (hv : CellsAt w v l) (key0 : ByteArray) : Calls Try.prog 7 #[.bool leaf, v, .string key0] w fun e w' => e = .returned (.bool true) ∧ Below w.heap.size w w' := by
  have hnot := run_notE
  have haw := awake_any w
  have hmd := fun W (hW : Below w.heap.size w W) => made9_any (leaf := leaf) (hv.below hW)
  obtain ⟨p0, c0, rfl⟩ := hv.shape
  generalize l.length = n0 at *
  obtain ⟨hok, hlen⟩ := madeL_ok leaf l
  obtain ⟨L, hL⟩ : ∃ L, madeL leaf l = L := ⟨_, rfl⟩
  rw [hL] at hmd hok hlen
  clear hL hv
  have hr := hok.2
  go_enter Try.func7, Try.ntmps7
  go_wp2_with fail
  refine haw.mono ?_
  rintro e W1 ⟨rfl, hB1⟩
  replace hmd := hmd W1 hB1
  clear haw
  go_wp2_with fail
  refine hmd.mono ?_
  rintro e W2 ⟨v2, rfl, hown2, hB2⟩
  obtain ⟨p, n, c, rfl, hn, hat2⟩ := shape2 hown2
  obtain ⟨W3, g, hW3, hg, hB3, hh3, a0, a1⟩ := box_node W2 leaf (.slice p n c)
  have hat3 := hat2.below hB3
  have HN : Hid (L.length = n) := hn.symm
  have HB3 : Hid (Below w.heap.size w W3) := below_new (below_new hB1 hB2) hB3
  have hn60 : n ≤ 60 := by omega
  have hni : (n : Int) ≤ 60 := by omega
  unfold nodeV
  clear hmd hown2 hB1 hB2 hB3 hh3 hat2 hn
  by_cases hks : 300 < key0.size
  · have hksi : (300 : Int) < (key0.size : Int) := by omega
    have hsl : ∀ W, (Instr.sliceAt 9 (.string key0) none (some (.int .i64 300)) none).run Try.prog W = .ok (.string (key0.extract 0 300)) W := fun W => by
      have h1 : (300 : Int) ≤ key0.size := by omega
      go_simp
    generalize key0.extract 0 300 = key at hsl
    clear hks
    go_wp2_with fail
    go_loopw [9] (fun y wr => ∃ k : Nat, y = .int .i64 (k : Nat) ∧ k ≤ n ∧ Below W3.heap.size W3 wr) (fun y _ => n - (intOf y).toNat)
    case atStart => exact ⟨0, rfl, Nat.zero_le _, Below.refl _ _⟩
    case round =>
      obtain ⟨k, rfl, hk, hB⟩ := hrel
      replace a0 := keep_cell hB a0
      replace a1 := keep_cell hB a1
      have hatr := hat3.below hB
      by_cases hkn : k < n
      · have hki : (k : Int) < n := by omega
        obtain ⟨x, hx⟩ : ∃ x, L[k]? = some x := ⟨_, List.getElem?_eq_getElem (by have := HN.out; omega)⟩
        obtain ⟨b, o, rfl, hnn, hd⟩ := hatr.at hx
        clear hnn
        have dk := hd.1
        obtain ⟨e1, e2⟩ := fndN_of hr hx
        have e3 := upN_of hr hx
        have hfd := fun W (hW : Below wr.heap.size wr W) => find_any (leaf := leaf) (hatr.below hW) hr (by have := HN.out; omega) x.k
        have hch := fun W (hW : Below wr.heap.size wr W) => child_any (leaf := leaf) (hatr.below hW) hr (by have := HN.out; omega) x.k
        rw [e1, e2] at hfd
        rw [e3, Nat.add_sub_cancel] at hch
        clear e1 e2 e3 hx
        go_wp2_with fail
        refine wp_region_class (fun W => Below wr.heap.size wr W) mixedP (by kernel_rfl) (Below.refl _ _).drew ?_
        refine wpQ_ld rfl _ _ rfl rfl (fun W hW => ldNode (keep_cell hW a0) (keep_cell hW a1)) ?_
        go_frame
        go_big_quiet_step (exact fun _ => rfl)
        refine wpQ_ld rfl _ _ rfl rfl (fun W hW => ldRow (keep_cell hW a1)) ?_
        go_frame
        go_big_quiet_step (exact fun _ => rfl)
        go_big_quiet_step (exact fun _ => rfl)
        go_big_quiet_step (exact fun _ => rfl)
        refine wpQ_ld rfl _ _ rfl rfl (fun W hW => ldStr (keep_cell hW dk)) ?_
        go_frame
        refine wpQ_call rfl 21 #[nodeV leaf (.slice (some ⟨b, o, none⟩) n c), .string x.k] (fun _ => by go_simp) (.tuple #[.int .i64 (k : Nat), .bool true]) (fun W hW => (hfd W hW).mono fun e w' h => ⟨h.1, below_new hW h.2⟩) ?_
        go_frame
        go_big_quiet_step (exact fun _ => rfl)
        go_big_quiet_step (exact fun _ => rfl)
        go_big_quiet_step (exact fun _ => rfl)
        go_big_quiet_step (exact fun _ => rfl)
        go_big_quiet_step (exact fun _ => rfl)
        refine wpQuiet_nil ?_
        intro W6 hB6
        show Exit.then _ _ Exit.normal _ _
        simp only [Exit.then]
        go_at_K
        have HB6 : Hid (Below wr.heap.size wr W6) := hB6
        replace a0 := keep_cell hB6 a0
        replace a1 := keep_cell hB6 a1
        replace dk := keep_cell hB6 dk
        clear hB6 hfd
        go_wp2_with fail
        refine wp_region_class (fun W => Below W6.heap.size W6 W) mixedP (by kernel_rfl) (Below.refl _ _).drew ?_
        go_big_quiet_step (exact fun _ => rfl)
        go_big_quiet_step (exact fun _ => rfl)
        refine wpQ_val rfl (.bool false) (fun _ => by go_simp) ?_
        go_frame
        go_big_quiet_step (exact fun _ => rfl)
        go_big_quiet_step (exact fun _ => rfl)
        refine wpQ_val rfl (.bool false) (fun _ => by go_simp) ?_
        go_frame
        go_big_quiet_step (exact fun _ => rfl)
        go_big_quiet_step (exact fun _ => rfl)
        refine wpQ_ld rfl _ _ rfl rfl (fun W hW => ldNode (keep_cell hW a0) (keep_cell hW a1)) ?_
        go_frame
        go_big_quiet_step (exact fun _ => rfl)
        refine wpQ_ld rfl _ _ rfl rfl (fun W hW => ldRow (keep_cell hW a1)) ?_
        go_frame
        go_big_quiet_step (exact fun _ => rfl)
        go_big_quiet_step (exact fun _ => rfl)
        go_big_quiet_step (exact fun _ => rfl)
        refine wpQ_ld rfl _ _ rfl rfl (fun W hW => ldStr (keep_cell hW dk)) ?_
        go_frame
        refine wpQ_call rfl 25 #[nodeV leaf (.slice (some ⟨b, o, none⟩) n c), .string x.k] (fun _ => by go_simp) (.int .i64 (k : Nat)) (fun W hW => (hch W (below_new HB6.out hW)).mono fun e w' h => ⟨h.1, below_new hW h.2⟩) ?_
        go_frame
        go_big_quiet_step (exact fun _ => rfl)
        refine wpQ_val rfl (.bool false) (fun _ => by go_simp) ?_
        go_frame
        go_big_quiet_step (exact fun _ => rfl)
        refine wpQuiet_nil ?_
        intro W7 hB7
        show Exit.then _ _ Exit.normal _ _
        simp only [Exit.then]
        go_at_K
        have HB7 : Hid (Below W3.heap.size W3 W7) := below_new hB (below_new HB6.out hB7)
        clear hB7 hB
        go_wp2_with fail
        exact ⟨⟨k + 1, by go_num, by omega, HB7.out⟩, by simp [intOf]; omega⟩
      · have hki : ¬ (k : Int) < n := by omega
        have HBr : Hid (Below w.heap.size w wr) := below_new HB3.out hB
        have hfd := find_any (leaf := leaf) hatr hr (by have := HN.out; omega) key
        have hch := fun W (hW : Below wr.heap.size wr W) => child_any (leaf := leaf) (hatr.below hW) hr (by have := HN.out; omega) key
        rw [up_fnd hr] at hch
        have hlt := fun (i : Nat) x (hx : L[i]? = some x) => fnd_lt_iff hr (key := key) hx
        have hend : isAt L key = match L[fndN L key]? with | some c => decide (c.k = key) | none => false := rfl
        have hle := fndN_le L key
        rw [HN.out] at hle
        obtain ⟨N, hN⟩ : ∃ N, fndN L key = N := ⟨_, rfl⟩
        obtain ⟨A, hA⟩ : ∃ A, isAt L key = A := ⟨_, rfl⟩
        rw [hN, hA] at hend
        rw [hN, hA] at hfd
        rw [hN, hA] at hch
        rw [hN] at hle hlt
        have HE : Hid (A = match L[N]? with | some c => decide (c.k = key) | none => false) := hend
        clear hN hA hend hat3 hB
        have hN60 : (N : Int) ≤ 60 := by omega
        go_wp2_with fail
        refine hfd.mono ?_
        rintro e V1 ⟨rfl, hV1⟩
        replace a0 := keep_cell hV1 a0
        replace a1 := keep_cell hV1 a1
        have hat1 := hatr.below hV1
        replace hch := hch V1 hV1
        have HBV1 : Hid (Below w.heap.size w V1) := below_new HBr.out hV1
        clear hfd hV1 hatr
        go_wp2_with fail
        refine hch.mono ?_
        rintro e V2 ⟨rfl, hV2⟩
        replace a0 := keep_cell hV2 a0
        replace a1 := keep_cell hV2 a1
        have hat2 := hat1.below hV2
        have HBV2 : Hid (Below w.heap.size w V2) := below_new HBV1.out hV2
        clear hch hV2 hat1
        obtain ⟨U, hU⟩ : ∃ U, (if A = true then N + 1 else N) - 1 = U := ⟨_, rfl⟩
        rw [hU]
        have HU : Hid ((if A = true then N + 1 else N) - 1 = U) := hU
        clear hU
        go_wp2_with fail
        go_loopw [15] (fun y wr => ∃ k : Nat, y = .int .i64 (k : Nat) ∧ k ≤ n ∧ wr = V2) (fun y _ => n - (intOf y).toNat)
        case atStart => exact ⟨0, rfl, Nat.zero_le _, rfl⟩
        case round =>
          obtain ⟨i, rfl, hi, hww⟩ := hrel
          have hww' := hww.symm
          clear hww
          subst hww'
          by_cases hin : i < n
          · have hii : (i : Int) < n := by omega
            obtain ⟨x, hx⟩ : ∃ x, L[i]? = some x := ⟨_, List.getElem?_eq_getElem (by have := HN.out; omega)⟩
            obtain ⟨b, o, rfl, hnn, hd⟩ := hat2.at hx
            clear hnn
            have dk := hd.1
            have hls : Op.bytesLess x.k.toList key.toList = decide (i < N) := hlt i x hx
            clear hlt hx
            by_cases hiN : i < N
            · have hiNi : (i : Int) < N := by omega
              rw [decide_eq_true hiN] at hls
              go_wp2_with fail
              exact ⟨⟨i + 1, by go_num, by omega, trivial⟩, by simp [intOf]; omega⟩
            · have hiNi : ¬ (i : Int) < N := by omega
              rw [decide_eq_false hiN] at hls
              go_wp2_with fail
              exact ⟨⟨i + 1, by go_num, by omega, trivial⟩, by simp [intOf]; omega⟩
          · have hii : ¬ (i : Int) < n := by omega
            clear hlt
            by_cases hNn : N < n
            · have hNi : (N : Int) < n := by omega
              obtain ⟨x, hx⟩ : ∃ x, L[N]? = some x := ⟨_, List.getElem?_eq_getElem (by have := HN.out; omega)⟩
              obtain ⟨b, o, rfl, hnn, hd⟩ := hat2.at hx
              clear hnn
              have dk := hd.1
              have hA2 := HE.out
              rw [hx] at hA2
              dsimp only at hA2
              have hbq := beqD x.k key
              rw [← hA2] at hbq
              clear hA2 hx
              cases A with
              | true =>
                have HU2 : Hid (U = N) := by have := HU.out; simp at this; show _ = _; omega
                have hUi : ((U : Int) == (N : Int)) = true := by rw [HU2.out]; simp
                have hN0 : ¬ (N : Int) < 0 := by omega
                go_wp2_with fail
                go_ret
                exact ⟨rfl, HBV2.out⟩
              | false =>
                by_cases hN1 : N = 0
                · have HU2 : Hid (U = 0) := by have := HU.out; simp at this; show _ = _; omega
                  have hUi : ((U : Int) == 0) = true := by rw [HU2.out]; rfl
                  have hN0 : (N : Int) - 1 < 0 := by omega
                  clear hN1
                  go_wp2_with fail
                  go_ret
                  exact ⟨rfl, HBV2.out⟩
                · have HU2 : Hid ((U : Int) = (N : Int) - 1) := by have := HU.out; simp at this; show _ = _; omega
                  have hUi : ((U : Int) == (N : Int) - 1) = true := by rw [HU2.out]; simp
                  have hN0 : ¬ (N : Int) - 1 < 0 := by omega
                  clear hN1
                  go_wp2_with fail
                  go_ret
                  exact ⟨rfl, HBV2.out⟩
            · have hNi : ¬ (N : Int) < n := by omega
              have hA2 := HE.out
              rw [List.getElem?_eq_none (by rw [HN.out]; omega)] at hA2
              dsimp only at hA2
              subst hA2
              by_cases hN1 : N = 0
              · have HU2 : Hid (U = 0) := by have := HU.out; simp at this; show _ = _; omega
                have hUi : ((U : Int) == 0) = true := by rw [HU2.out]; rfl
                have hN0 : (N : Int) - 1 < 0 := by omega
                clear hN1
                go_wp2_with fail
                go_ret
                exact ⟨rfl, HBV2.out⟩
              · have HU2 : Hid ((U : Int) = (N : Int) - 1) := by have := HU.out; simp at this; show _ = _; omega
                have hUi : ((U : Int) == (N : Int) - 1) = true := by rw [HU2.out]; simp
                have hN0 : ¬ (N : Int) - 1 < 0 := by omega
                clear hN1
                go_wp2_with fail
                go_ret
                exact ⟨rfl, HBV2.out⟩
  · have hksi : ¬ (300 : Int) < (key0.size : Int) := by omega
    clear hks
    go_wp2_with fail
    go_loopw [9] (fun y wr => ∃ k : Nat, y = .int .i64 (k : Nat) ∧ k ≤ n ∧ Below W3.heap.size W3 wr) (fun y _ => n - (intOf y).toNat)
    case atStart => exact ⟨0, rfl, Nat.zero_le _, Below.refl _ _⟩
    case round =>
      obtain ⟨k, rfl, hk, hB⟩ := hrel
      replace a0 := keep_cell hB a0
      replace a1 := keep_cell hB a1
      have hatr := hat3.below hB
      by_cases hkn : k < n
      · have hki : (k : Int) < n := by omega
        obtain ⟨x, hx⟩ : ∃ x, L[k]? = some x := ⟨_, List.getElem?_eq_getElem (by have := HN.out; omega)⟩
        obtain ⟨b, o, rfl, hnn, hd⟩ := hatr.at hx
        clear hnn
        have dk := hd.1
        obtain ⟨e1, e2⟩ := fndN_of hr hx
        have e3 := upN_of hr hx
        have hfd := fun W (hW : Below wr.heap.size wr W) => find_any (leaf := leaf) (hatr.below hW) hr (by have := HN.out; omega) x.k
        have hch := fun W (hW : Below wr.heap.size wr W) => child_any (leaf := leaf) (hatr.below hW) hr (by have := HN.out; omega) x.k
        rw [e1, e2] at hfd
        rw [e3, Nat.add_sub_cancel] at hch
        clear e1 e2 e3 hx
        go_wp2_with fail
        refine wp_region_class (fun W => Below wr.heap.size wr W) mixedP (by kernel_rfl) (Below.refl _ _).drew ?_
        refine wpQ_ld rfl _ _ rfl rfl (fun W hW => ldNode (keep_cell hW a0) (keep_cell hW a1)) ?_
        go_frame
        go_big_quiet_step (exact fun _ => rfl)
        refine wpQ_ld rfl _ _ rfl rfl (fun W hW => ldRow (keep_cell hW a1)) ?_
        go_frame
        go_big_quiet_step (exact fun _ => rfl)
        go_big_quiet_step (exact fun _ => rfl)
        go_big_quiet_step (exact fun _ => rfl)
        refine wpQ_ld rfl _ _ rfl rfl (fun W hW => ldStr (keep_cell hW dk)) ?_
        go_frame
        refine wpQ_call rfl 21 #[nodeV leaf (.slice (some ⟨b, o, none⟩) n c), .string x.k] (fun _ => by go_simp) (.tuple #[.int .i64 (k : Nat), .bool true]) (fun W hW => (hfd W hW).mono fun e w' h => ⟨h.1, below_new hW h.2⟩) ?_
        go_frame
        go_big_quiet_step (exact fun _ => rfl)
        go_big_quiet_step (exact fun _ => rfl)
        go_big_quiet_step (exact fun _ => rfl)
        go_big_quiet_step (exact fun _ => rfl)
        go_big_quiet_step (exact fun _ => rfl)
        refine wpQuiet_nil ?_
        intro W6 hB6
        show Exit.then _ _ Exit.normal _ _
        simp only [Exit.then]
        go_at_K
        have HB6 : Hid (Below wr.heap.size wr W6) := hB6
        replace a0 := keep_cell hB6 a0
        replace a1 := keep_cell hB6 a1
        replace dk := keep_cell hB6 dk
        clear hB6 hfd
        go_wp2_with fail
        refine wp_region_class (fun W => Below W6.heap.size W6 W) mixedP (by kernel_rfl) (Below.refl _ _).drew ?_
        go_big_quiet_step (exact fun _ => rfl)
        go_big_quiet_step (exact fun _ => rfl)
        refine wpQ_val rfl (.bool false) (fun _ => by go_simp) ?_
        go_frame
        go_big_quiet_step (exact fun _ => rfl)
        go_big_quiet_step (exact fun _ => rfl)
        refine wpQ_val rfl (.bool false) (fun _ => by go_simp) ?_
        go_frame
        go_big_quiet_step (exact fun _ => rfl)
        go_big_quiet_step (exact fun _ => rfl)
        refine wpQ_ld rfl _ _ rfl rfl (fun W hW => ldNode (keep_cell hW a0) (keep_cell hW a1)) ?_
        go_frame
        go_big_quiet_step (exact fun _ => rfl)
        refine wpQ_ld rfl _ _ rfl rfl (fun W hW => ldRow (keep_cell hW a1)) ?_
        go_frame
        go_big_quiet_step (exact fun _ => rfl)
        go_big_quiet_step (exact fun _ => rfl)
        go_big_quiet_step (exact fun _ => rfl)
        refine wpQ_ld rfl _ _ rfl rfl (fun W hW => ldStr (keep_cell hW dk)) ?_
        go_frame
        refine wpQ_call rfl 25 #[nodeV leaf (.slice (some ⟨b, o, none⟩) n c), .string x.k] (fun _ => by go_simp) (.int .i64 (k : Nat)) (fun W hW => (hch W (below_new HB6.out hW)).mono fun e w' h => ⟨h.1, below_new hW h.2⟩) ?_
        go_frame
        go_big_quiet_step (exact fun _ => rfl)
        refine wpQ_val rfl (.bool false) (fun _ => by go_simp) ?_
        go_frame
        go_big_quiet_step (exact fun _ => rfl)
        refine wpQuiet_nil ?_
        intro W7 hB7
        show Exit.then _ _ Exit.normal _ _
        simp only [Exit.then]
        go_at_K
        have HB7 : Hid (Below W3.heap.size W3 W7) := below_new hB (below_new HB6.out hB7)
        clear hB7 hB
        go_wp2_with fail
        exact ⟨⟨k + 1, by go_num, by omega, HB7.out⟩, by simp [intOf]; omega⟩
      · have hki : ¬ (k : Int) < n := by omega
        have HBr : Hid (Below w.heap.size w wr) := below_new HB3.out hB
        have hfd := find_any (leaf := leaf) hatr hr (by have := HN.out; omega) key0
        have hch := fun W (hW : Below wr.heap.size wr W) => child_any (leaf := leaf) (hatr.below hW) hr (by have := HN.out; omega) key0
        rw [up_fnd hr] at hch
        have hlt := fun (i : Nat) x (hx : L[i]? = some x) => fnd_lt_iff hr (key := key0) hx
        have hend : isAt L key0 = match L[fndN L key0]? with | some c => decide (c.k = key0) | none => false := rfl
        have hle := fndN_le L key0
        rw [HN.out] at hle
        obtain ⟨N, hN⟩ : ∃ N, fndN L key0 = N := ⟨_, rfl⟩
        obtain ⟨A, hA⟩ : ∃ A, isAt L key0 = A := ⟨_, rfl⟩
        rw [hN, hA] at hend
        rw [hN, hA] at hfd
        rw [hN, hA] at hch
        rw [hN] at hle hlt
        have HE : Hid (A = match L[N]? with | some c => decide (c.k = key0) | none => false) := hend
        clear hN hA hend hat3 hB
        have hN60 : (N : Int) ≤ 60 := by omega
        go_wp2_with fail
        refine hfd.mono ?_
        rintro e V1 ⟨rfl, hV1⟩
        replace a0 := keep_cell hV1 a0
        replace a1 := keep_cell hV1 a1
        have hat1 := hatr.below hV1
        replace hch := hch V1 hV1
        have HBV1 : Hid (Below w.heap.size w V1) := below_new HBr.out hV1
        clear hfd hV1 hatr
        go_wp2_with fail
        refine hch.mono ?_
        rintro e V2 ⟨rfl, hV2⟩
        replace a0 := keep_cell hV2 a0
        replace a1 := keep_cell hV2 a1
        have hat2 := hat1.below hV2
        have HBV2 : Hid (Below w.heap.size w V2) := below_new HBV1.out hV2
        clear hch hV2 hat1
        obtain ⟨U, hU⟩ : ∃ U, (if A = true then N + 1 else N) - 1 = U := ⟨_, rfl⟩
        rw [hU]
        have HU : Hid ((if A = true then N + 1 else N) - 1 = U) := hU
        clear hU
        go_wp2_with fail
        go_loopw [15] (fun y wr => ∃ k : Nat, y = .int .i64 (k : Nat) ∧ k ≤ n ∧ wr = V2) (fun y _ => n - (intOf y).toNat)
        case atStart => exact ⟨0, rfl, Nat.zero_le _, rfl⟩
        case round =>
          obtain ⟨i, rfl, hi, hww⟩ := hrel
          have hww' := hww.symm
          clear hww
          subst hww'
          by_cases hin : i < n
          · have hii : (i : Int) < n := by omega
            obtain ⟨x, hx⟩ : ∃ x, L[i]? = some x := ⟨_, List.getElem?_eq_getElem (by have := HN.out; omega)⟩
            obtain ⟨b, o, rfl, hnn, hd⟩ := hat2.at hx
            clear hnn
            have dk := hd.1
            have hls : Op.bytesLess x.k.toList key0.toList = decide (i < N) := hlt i x hx
            clear hlt hx
            by_cases hiN : i < N
            · have hiNi : (i : Int) < N := by omega
              rw [decide_eq_true hiN] at hls
              go_wp2_with fail
              exact ⟨⟨i + 1, by go_num, by omega, trivial⟩, by simp [intOf]; omega⟩
            · have hiNi : ¬ (i : Int) < N := by omega
              rw [decide_eq_false hiN] at hls
              go_wp2_with fail
              exact ⟨⟨i + 1, by go_num, by omega, trivial⟩, by simp [intOf]; omega⟩
          · have hii : ¬ (i : Int) < n := by omega
            clear hlt
            by_cases hNn : N < n
            · have hNi : (N : Int) < n := by omega
              obtain ⟨x, hx⟩ : ∃ x, L[N]? = some x := ⟨_, List.getElem?_eq_getElem (by have := HN.out; omega)⟩
              obtain ⟨b, o, rfl, hnn, hd⟩ := hat2.at hx
              clear hnn
              have dk := hd.1
              have hA2 := HE.out
              rw [hx] at hA2
              dsimp only at hA2
              have hbq := beqD x.k key0
              rw [← hA2] at hbq
              clear hA2 hx
              cases A with
              | true =>
                have HU2 : Hid (U = N) := by have := HU.out; simp at this; show _ = _; omega
                have hUi : ((U : Int) == (N : Int)) = true := by rw [HU2.out]; simp
                have hN0 : ¬ (N : Int) < 0 := by omega
                go_wp2_with fail
                go_ret
                exact ⟨rfl, HBV2.out⟩
              | false =>
                by_cases hN1 : N = 0
                · have HU2 : Hid (U = 0) := by have := HU.out; simp at this; show _ = _; omega
                  have hUi : ((U : Int) == 0) = true := by rw [HU2.out]; rfl
                  have hN0 : (N : Int) - 1 < 0 := by omega
                  clear hN1
                  go_wp2_with fail
                  go_ret
                  exact ⟨rfl, HBV2.out⟩
                · have HU2 : Hid ((U : Int) = (N : Int) - 1) := by have := HU.out; simp at this; show _ = _; omega
                  have hUi : ((U : Int) == (N : Int) - 1) = true := by rw [HU2.out]; simp
                  have hN0 : ¬ (N : Int) - 1 < 0 := by omega
                  clear hN1
                  go_wp2_with fail
                  go_ret
                  exact ⟨rfl, HBV2.out⟩
            · have hNi : ¬ (N : Int) < n := by omega
              have hA2 := HE.out
              rw [List.getElem?_eq_none (by rw [HN.out]; omega)] at hA2
              dsimp only at hA2
              subst hA2
              by_cases hN1 : N = 0
              · have HU2 : Hid (U = 0) := by have := HU.out; simp at this; show _ = _; omega
                have hUi : ((U : Int) == 0) = true := by rw [HU2.out]; rfl
                have hN0 : (N : Int) - 1 < 0 := by omega
                clear hN1
                go_wp2_with fail
                go_ret
                exact ⟨rfl, HBV2.out⟩
              · have HU2 : Hid ((U : Int) = (N : Int) - 1) := by have := HU.out; simp at this; show _ = _; omega
                have hUi : ((U : Int) == (N : Int) - 1) = true := by rw [HU2.out]; simp
                have hN0 : ¬ (N : Int) - 1 < 0 := by omega
                clear hN1
                go_wp2_with fail
                go_ret
                exact ⟨rfl, HBV2.out⟩
end Go.Proofs.Ythcdifkjkjfnlaa
