/-
  BitsetBack's walk.
-/
import Derived.Test.YtkbpoplodfihoaaBBackP
import Derived.Test.YtkbpoplodfihoaaBAwake
namespace Go.Proofs.Ytkbpoplodfihoaa
open Go Go.RowKit Go.Maps

set_option maxRecDepth 100000 in
set_option maxHeartbeats 8000000 in
theorem back_walk_cc {w : World} {p : Option Addr} {n c : Nat} {l : List Int} (hv : IntsAt w (.slice p n c) l) (hnc : n ≤ c) (hcm : c ≤ 9223372036854775807) (hr : ∀ x ∈ l, x ≤ 9223372036854775807)
    {p' : Option Addr} {n' c' : Nat} {l' : List Int} (hv' : IntsAt w (.slice p' n' c') l') (hnc' : n' ≤ c') (hcm' : c' ≤ 9223372036854775807) (hr' : ∀ x ∈ l', x ≤ 9223372036854775807) (h2 :  300 < n) (h2p :  300 < n') :
    Calls Try.prog 5 #[.slice p n c, .slice p' n' c'] w fun e w' => e = .returned (.bool true) ∧ Below w.heap.size w w' := by
  have haw := awake_any w
  have hlen := hv.len
  have hlen' := hv'.len
  have h2i : (300 : Int) < n := by omega
  have hci : (300 : Int) ≤ c := by omega
  have hcn : 300 ≤ c := by omega
  obtain ⟨b0, o0, rfl, _⟩ := hv.at (i := 0) (by omega)
  have hv2 := hv.cut 300 (by omega)
  have hr2 : ∀ x ∈ l.take 300, x ≤ 9223372036854775807 := fun x hx => hr x (List.mem_of_mem_take hx)
  have hl2 := hv2.len
  generalize l.take 300 = l2 at hv2 hr2 hl2
  have hn2 : l2.length ≤ 300 := by omega
  clear hv hr hlen
  have h2i' : (300 : Int) < n' := by omega
  have hci' : (300 : Int) ≤ c' := by omega
  have hcn' : 300 ≤ c' := by omega
  obtain ⟨b0', o0', rfl, _⟩ := hv'.at (i := 0) (by omega)
  have hv2' := hv'.cut 300 (by omega)
  have hr2' : ∀ x ∈ l'.take 300, x ≤ 9223372036854775807 := fun x hx => hr' x (List.mem_of_mem_take hx)
  have hl2' := hv2'.len
  generalize l'.take 300 = l2' at hv2' hr2' hl2'
  have hn2' : l2'.length ≤ 300 := by omega
  clear hv' hr' hlen'
  have hnw := fun W hB => new_any (hv2.below (w' := W) hB) hr2 (by omega)
  have hnw' := fun W hB => new_any (hv2'.below (w' := W) hB) hr2' (by omega)
  have HASS := fun x (h : x ∈ l2) => hasI_of h
  have HASB := fun x (h : x ∈ l2') => hasI_of h
  generalize ofInts l2 = A at hnw HASS
  generalize ofInts l2' = B at hnw' HASB
  go_enter Try.func5, Try.ntmps5
  go_wp2_with (first
    | (go_at_call 9; refine haw.mono ?_; rintro e w1 ⟨rfl, hB1⟩; have hnw1 := hnw w1 hB1; clear hnw)
    | (go_at_call 10; refine hnw1.mono ?_; rintro e w2 ⟨bs, rfl, mos, hs, hbs, hms, hB2⟩; clear hnw1; have hB12 := below_new hB1 hB2; have hnw2 := hnw' w2 hB12; clear hnw')
    | (go_at_call 10; refine hnw2.mono ?_; rintro e w3 ⟨bt, rfl, mot, ht, hbt, hmt, hB3⟩; clear hnw2; have hs3 := hs.below hB3; have hA := hs3.map.bound; have hB := ht.map.bound; have hy3 := bytes_any hs3.view; have hrb := read_back hA; generalize bytesM A = yA at hy3 hrb)
    | (go_at_call 20; refine hy3.mono ?_; rintro e w4 ⟨rfl, hB4⟩; clear hy3; have hs4 := hs3.below hB4; have ht4 := ht.below hB4)
    | (go_at_call 22; refine (hrb _).mono ?_; rintro e w5 ⟨br, rfl, mr, hr5, hbr, hmr, hB5⟩; clear hrb; have hs5 := hs4.below hB5; have ht5 := ht4.below hB5; have hm5 := members_any hs5.view)
    | (go_at_call 19; refine hm5.mono ?_; rintro e w6 ⟨v6, rfl, hrow6, hB6⟩; clear hm5; obtain ⟨p6, c6, rfl, hi6⟩ := hrow6.intsAt; have hs6 := hs5.below hB6; have ht6 := ht5.below hB6; have hr6 := hr5.below hB6; have hm6 := members_any ht6.view)
    | (go_at_call 19; refine hm6.mono ?_; rintro e w7 ⟨v7, rfl, hrow7, hB7⟩; clear hm6; obtain ⟨p7, c7, rfl, hi7⟩ := hrow7.intsAt; have hs7 := hs6.below hB7; have ht7 := ht6.below hB7; have hr7 := hr6.below hB7; have hsm7 := same_any (hi6.below hB7) hi7 (by have := memFrom_len hA 0; omega) (by have := memFrom_len hB 0; omega))
    | (go_at_call 18; refine hsm7.mono ?_; rintro e w8 ⟨rfl, hB8⟩; clear hsm7; have hs8 := hs7.below hB8; have ht8 := ht7.below hB8; have hr8 := hr7.below hB8; have hm8 := members_any hr8.view)
    | (go_at_call 19; refine hm8.mono ?_; rintro e wA ⟨vA, rfl, hrowA, hBA⟩; clear hm8; obtain ⟨pA, cA, rfl, hiA⟩ := hrowA.intsAt; have hsA := hs8.below hBA; have htA := ht8.below hBA; have hmA := members_any hsA.view)
    | (go_at_call 19; refine hmA.mono ?_; rintro e wB ⟨vB, rfl, hrowB, hBB⟩; clear hmA; obtain ⟨pB, cB, rfl, hiB⟩ := hrowB.intsAt; have hsB := hsA.below hBB; have htB := htA.below hBB; have hsmB := same_any (hiA.below hBB) hiB (by have := memFrom_len hA 0; omega) (by have := memFrom_len hA 0; omega); rw [decide_eq_true rfl] at hsmB)
    | (go_at_call 18; refine hsmB.mono ?_; rintro e wC ⟨rfl, hBC⟩; clear hsmB; have hsC := hsB.below hBC; have htC := htB.below hBC; have huC := union_any hsC.view htC.view)
    | (go_at_call 13; refine huC.mono ?_; rintro e w9 ⟨bu, rfl, mu, hu9, hbu, hmu, hB9⟩; clear huC; have hs9 := hsC.below hB9; have ht9 := htC.below hB9))
  have hB9w : Below w.heap.size w w9 := below_new (below_new (below_new (below_new (below_new (below_new (below_new (below_new (below_new (below_new hB12 hB3) hB4) hB5) hB6) hB7) hB8) hBA) hBB) hBC) hB9
  have hv9 := hv2.below hB9w
  have hv9' := hv2'.below hB9w
  have HASU : ∀ x ∈ l2, hasI (fun n => A n || B n) x = decide (0 ≤ x ∧ x ≤ 2147483647) := fun x hx => by
    rw [hasI_uni, HASS x hx]
    by_cases h : 0 ≤ x ∧ x ≤ 2147483647
    · rw [decide_eq_true h, Bool.true_or]
    · rw [decide_eq_false h, hasI_hi hB h]; rfl
  have HASV : ∀ x ∈ l2', hasI (fun n => A n || B n) x = decide (0 ≤ x ∧ x ≤ 2147483647) := fun x hx => by
    rw [hasI_uni, HASB x hx]
    by_cases h : 0 ≤ x ∧ x ≤ 2147483647
    · rw [decide_eq_true h, Bool.or_true]
    · rw [decide_eq_false h, hasI_hi hA h]; rfl
  have HAL0 : ∃ al, decide ((memFrom A 0).map (fun x : Nat => (x : Int)) = (memFrom B 0).map (fun x : Nat => (x : Int))) = al := ⟨_, rfl⟩
  obtain ⟨al, hal⟩ := HAL0
  rw [hal]
  have HAL : Hid (decide ((memFrom A 0).map (fun x : Nat => (x : Int)) = (memFrom B 0).map (fun x : Nat => (x : Int))) = al) := hal
  clear hal hi6 hrow6 hi7 hrow7 hiA hrowA hiB hrowB hs3 hs4 hs5 hs6 hs7 hs8 hsA hsB hsC ht4 ht5 ht6 ht7 ht8 htA htB htC hr5 hr6 hr7 hr8 hs ht hB1 hB2 hB12 hB3 hB4 hB5 hB6 hB7 hB8 hBA hBB hBC hB9 hv2 hv2' hbs hms hbt hmt hbr hmr hbu hmu HASB haw
  go_loopw [13] (fun y wr => ∃ i : Nat, y = .int .i64 (i : Nat) ∧ i ≤ l2'.length ∧ Below w9.heap.size w9 wr) (fun y _ => l2'.length - (intOf y).toNat)
  case atStart => exact ⟨0, rfl, Nat.zero_le _, Below.refl _ _⟩
  case round =>
    obtain ⟨i, rfl, hi, hBr⟩ := hrel
    by_cases hil : i < l2'.length
    · have hili : (i : Int) < 300 := by omega
      have hilc : (i : Int) < c' := by omega
      have hi0 : (0 : Int) ≤ i := by omega
      obtain ⟨x, hx⟩ : ∃ x, l2'[i]? = some x := ⟨_, List.getElem?_eq_getElem hil⟩
      have hxm := List.mem_of_getElem? hx
      have hxu := hr2' x hxm
      obtain ⟨gL, oL, hpL, hcl⟩ := hv9'.at hil
      have hcell : ∀ W, Below wr.heap.size wr W → W.cell? ⟨gL, oL + i, none⟩ = some (.int .i64 x) := fun W hB => (hB.cell (p := ⟨gL, oL + i, none⟩) (World.block_lt_of_cell? _ _ ((hBr.cell (p := ⟨gL, oL + i, none⟩) (World.block_lt_of_cell? _ _ (hcl i x hx))).trans (hcl i x hx)))).trans ((hBr.cell (p := ⟨gL, oL + i, none⟩) (World.block_lt_of_cell? _ _ (hcl i x hx))).trans (hcl i x hx))
      have hhu : ∀ W, Below wr.heap.size wr W → Calls Try.prog 24 #[.pointer (some ⟨bu, 0, none⟩), .int .i64 x] W fun e w' => e = .returned (.bool (decide (0 ≤ x ∧ x ≤ 2147483647))) ∧ Below wr.heap.size wr w' := fun W hB => by
        have := has5_any ((hu9.below hBr).below hB).view x hxu
        rw [HASV x hxm] at this
        exact this.mono fun e w' ⟨h1, h2⟩ => ⟨h1, hB.trans (h2.mono hB.size)⟩
      clear hcl
      cases hpL
      by_cases hx0 : 0 ≤ x
      · by_cases hx1 : x ≤ 2147483647
        · have hd : decide (0 ≤ x ∧ x ≤ 2147483647) = true := by simp [hx0, hx1]
          rw [hd] at hhu
          go_wp2_with fail
          have hx1f : decide (x ≤ 2147483647) = true := decide_eq_true (by omega)
          refine wp_region_class (fun w' => Below wr.heap.size wr w') mixedP (by kernel_rfl) (Below.refl _ _).drew ?_
          go_big_quiet_step (exact fun _ => rfl)
          go_big_quiet_step (exact fun _ => rfl)
          go_big_quiet_step (exact fun _ => rfl)
          go_big_quiet_step (exact fun _ => rfl)
          refine wpQ_ldIw (by go_simp) _ rfl rfl (fun w' hw' => hcell w' hw') ?_
          go_frame
          refine wpQ_call (by go_simp) 24 #[.pointer (some ⟨bu, 0, none⟩), .int .i64 x] (fun _ => by go_simp) (.bool true) (fun w5 h5 => hhu w5 h5) ?_
          go_frame
          go_big_quiet_step (exact fun _ => rfl)
          go_big_quiet_step (exact fun _ => rfl)
          go_big_quiet_step (exact fun _ => rfl)
          refine wpQ_ldIw (by go_simp) _ rfl rfl (fun w' hw' => hcell w' hw') ?_
          go_frame
          go_big_quiet_step (exact fun _ => rfl)
          go_big_quiet_step (exact fun _ => rfl)
          go_big_quiet_step (exact fun _ => rfl)
          go_big_quiet_step (exact fun _ => rfl)
          go_big_quiet_step (exact fun _ => rfl)
          refine wpQ_ldIw (by go_simp) _ rfl rfl (fun w' hw' => hcell w' hw') ?_
          go_frame
          go_big_quiet_step (exact fun _ => rfl)
          go_big_quiet_step (exact fun _ => rfl)
          go_big_quiet_step (exact fun _ => rfl)
          refine wpQuiet_nil ?_
          intro W6 hB6
          have HIN : Hid (i < l2'.length) := hil
          clear hhu hcell hd hx hxm hxu hx0 hx1 
          show Exit.then _ _ Exit.normal _ _
          simp only [Exit.then]
          go_at_K
          go_wp2_with fail
          exact ⟨⟨i + 1, by simp, by have := HIN.out; omega, hBr.trans (hB6.mono hBr.size)⟩, by have := HIN.out; simp [intOf]; omega⟩
        · have hd : decide (0 ≤ x ∧ x ≤ 2147483647) = false := by simp [hx1]
          rw [hd] at hhu
          go_wp2_with fail
          have hx1f : decide (x ≤ 2147483647) = false := decide_eq_false (by omega)
          refine wp_region_class (fun w' => Below wr.heap.size wr w') mixedP (by kernel_rfl) (Below.refl _ _).drew ?_
          go_big_quiet_step (exact fun _ => rfl)
          go_big_quiet_step (exact fun _ => rfl)
          go_big_quiet_step (exact fun _ => rfl)
          go_big_quiet_step (exact fun _ => rfl)
          refine wpQ_ldIw (by go_simp) _ rfl rfl (fun w' hw' => hcell w' hw') ?_
          go_frame
          refine wpQ_call (by go_simp) 24 #[.pointer (some ⟨bu, 0, none⟩), .int .i64 x] (fun _ => by go_simp) (.bool false) (fun w5 h5 => hhu w5 h5) ?_
          go_frame
          go_big_quiet_step (exact fun _ => rfl)
          go_big_quiet_step (exact fun _ => rfl)
          go_big_quiet_step (exact fun _ => rfl)
          refine wpQ_ldIw (by go_simp) _ rfl rfl (fun w' hw' => hcell w' hw') ?_
          go_frame
          go_big_quiet_step (exact fun _ => rfl)
          go_big_quiet_step (exact fun _ => rfl)
          go_big_quiet_step (exact fun _ => rfl)
          go_big_quiet_step (exact fun _ => rfl)
          go_big_quiet_step (exact fun _ => rfl)
          refine wpQ_ldIw (by go_simp) _ rfl rfl (fun w' hw' => hcell w' hw') ?_
          go_frame
          go_big_quiet_step (exact fun _ => rfl)
          go_big_quiet_step (exact fun _ => rfl)
          go_big_quiet_step (exact fun _ => rfl)
          refine wpQuiet_nil ?_
          intro W6 hB6
          have HIN : Hid (i < l2'.length) := hil
          clear hhu hcell hd hx hxm hxu hx0 hx1 
          show Exit.then _ _ Exit.normal _ _
          simp only [Exit.then]
          go_at_K
          go_wp2_with fail
          exact ⟨⟨i + 1, by simp, by have := HIN.out; omega, hBr.trans (hB6.mono hBr.size)⟩, by have := HIN.out; simp [intOf]; omega⟩
      · have hd : decide (0 ≤ x ∧ x ≤ 2147483647) = false := by simp [hx0]
        rw [hd] at hhu
        go_wp2_with fail
        have hx0f : decide (0 ≤ x) = false := decide_eq_false (by omega)
        refine wp_region_class (fun w' => Below wr.heap.size wr w') mixedP (by kernel_rfl) (Below.refl _ _).drew ?_
        go_big_quiet_step (exact fun _ => rfl)
        go_big_quiet_step (exact fun _ => rfl)
        go_big_quiet_step (exact fun _ => rfl)
        go_big_quiet_step (exact fun _ => rfl)
        refine wpQ_ldIw (by go_simp) _ rfl rfl (fun w' hw' => hcell w' hw') ?_
        go_frame
        refine wpQ_call (by go_simp) 24 #[.pointer (some ⟨bu, 0, none⟩), .int .i64 x] (fun _ => by go_simp) (.bool false) (fun w5 h5 => hhu w5 h5) ?_
        go_frame
        go_big_quiet_step (exact fun _ => rfl)
        go_big_quiet_step (exact fun _ => rfl)
        go_big_quiet_step (exact fun _ => rfl)
        refine wpQ_ldIw (by go_simp) _ rfl rfl (fun w' hw' => hcell w' hw') ?_
        go_frame
        go_big_quiet_step (exact fun _ => rfl)
        go_big_quiet_step (exact fun _ => rfl)
        go_big_quiet_step (exact fun _ => rfl)
        go_big_quiet_step (exact fun _ => rfl)
        go_big_quiet_step (exact fun _ => rfl)
        go_big_quiet_step (exact fun _ => rfl)
        go_big_quiet_step (exact fun _ => rfl)
        go_big_quiet_step (exact fun _ => rfl)
        go_big_quiet_step (exact fun _ => rfl)
        refine wpQuiet_nil ?_
        intro W6 hB6
        have HIN : Hid (i < l2'.length) := hil
        clear hhu hcell hd hx hxm hxu hx0 
        show Exit.then _ _ Exit.normal _ _
        simp only [Exit.then]
        go_at_K
        go_wp2_with fail
        exact ⟨⟨i + 1, by simp, by have := HIN.out; omega, hBr.trans (hB6.mono hBr.size)⟩, by have := HIN.out; simp [intOf]; omega⟩
    · have hili : ¬ (i : Int) < 300 := by omega
      obtain rfl : i = l2'.length := by omega
      replace hu9 := hu9.below hBr
      replace hs9 := hs9.below hBr
      replace ht9 := ht9.below hBr
      replace hv9 := hv9.below hBr
      replace hB9w := hB9w.trans (hBr.mono hB9w.size)
      clear hBr HASV hv9' hr2' hi hil
      generalize wr = wD at *
      go_wp2_with fail
      go_loopw [14] (fun y wr => ∃ i : Nat, y = .int .i64 (i : Nat) ∧ i ≤ l2.length ∧ Below wD.heap.size wD wr) (fun y _ => l2.length - (intOf y).toNat)
      case atStart => exact ⟨0, rfl, Nat.zero_le _, Below.refl _ _⟩
      case round =>
        obtain ⟨i, rfl, hi, hBr⟩ := hrel
        by_cases hil : i < l2.length
        · have hili : (i : Int) < 300 := by omega
          have hilc : (i : Int) < c := by omega
          have hi0 : (0 : Int) ≤ i := by omega
          obtain ⟨x, hx⟩ : ∃ x, l2[i]? = some x := ⟨_, List.getElem?_eq_getElem hil⟩
          have hxm := List.mem_of_getElem? hx
          have hxu := hr2 x hxm
          obtain ⟨gL, oL, hpL, hcl⟩ := hv9.at hil
          have hcell : ∀ W, Below wr.heap.size wr W → W.cell? ⟨gL, oL + i, none⟩ = some (.int .i64 x) := fun W hB => (hB.cell (p := ⟨gL, oL + i, none⟩) (World.block_lt_of_cell? _ _ ((hBr.cell (p := ⟨gL, oL + i, none⟩) (World.block_lt_of_cell? _ _ (hcl i x hx))).trans (hcl i x hx)))).trans ((hBr.cell (p := ⟨gL, oL + i, none⟩) (World.block_lt_of_cell? _ _ (hcl i x hx))).trans (hcl i x hx))
          have hhu : ∀ W, Below wr.heap.size wr W → Calls Try.prog 24 #[.pointer (some ⟨bu, 0, none⟩), .int .i64 x] W fun e w' => e = .returned (.bool (decide (0 ≤ x ∧ x ≤ 2147483647))) ∧ Below wr.heap.size wr w' := fun W hB => by
            have := has5_any ((hu9.below hBr).below hB).view x hxu
            rw [HASU x hxm] at this
            exact this.mono fun e w' ⟨h1, h2⟩ => ⟨h1, hB.trans (h2.mono hB.size)⟩
          have hhs : ∀ W, Below wr.heap.size wr W → Calls Try.prog 24 #[.pointer (some ⟨bs, 0, none⟩), .int .i64 x] W fun e w' => e = .returned (.bool (decide (0 ≤ x ∧ x ≤ 2147483647))) ∧ Below wr.heap.size wr w' := fun W hB => by
            have := has5_any ((hs9.below hBr).below hB).view x hxu
            rw [HASS x hxm] at this
            exact this.mono fun e w' ⟨h1, h2⟩ => ⟨h1, hB.trans (h2.mono hB.size)⟩
          clear hcl
          cases hpL
          by_cases hx0 : 0 ≤ x
          · by_cases hx1 : x ≤ 2147483647
            · have hd : decide (0 ≤ x ∧ x ≤ 2147483647) = true := by simp [hx0, hx1]
              rw [hd] at hhu hhs
              go_wp2_with fail
              have hx1f : decide (x ≤ 2147483647) = true := decide_eq_true (by omega)
              refine wp_region_class (fun w' => Below wr.heap.size wr w') mixedP (by kernel_rfl) (Below.refl _ _).drew ?_
              go_big_quiet_step (exact fun _ => rfl)
              go_big_quiet_step (exact fun _ => rfl)
              go_big_quiet_step (exact fun _ => rfl)
              go_big_quiet_step (exact fun _ => rfl)
              refine wpQ_ldIw (by go_simp) _ rfl rfl (fun w' hw' => hcell w' hw') ?_
              go_frame
              refine wpQ_call (by go_simp) 24 #[.pointer (some ⟨bu, 0, none⟩), .int .i64 x] (fun _ => by go_simp) (.bool true) (fun w5 h5 => hhu w5 h5) ?_
              go_frame
              go_big_quiet_step (exact fun _ => rfl)
              go_big_quiet_step (exact fun _ => rfl)
              go_big_quiet_step (exact fun _ => rfl)
              go_big_quiet_step (exact fun _ => rfl)
              refine wpQ_ldIw (by go_simp) _ rfl rfl (fun w' hw' => hcell w' hw') ?_
              go_frame
              refine wpQ_call (by go_simp) 24 #[.pointer (some ⟨bs, 0, none⟩), .int .i64 x] (fun _ => by go_simp) (.bool true) (fun w5 h5 => hhs w5 h5) ?_
              go_frame
              go_big_quiet_step (exact fun _ => rfl)
              go_big_quiet_step (exact fun _ => rfl)
              go_big_quiet_step (exact fun _ => rfl)
              go_big_quiet_step (exact fun _ => rfl)
              go_big_quiet_step (exact fun _ => rfl)
              go_big_quiet_step (exact fun _ => rfl)
              refine wpQ_ldIw (by go_simp) _ rfl rfl (fun w' hw' => hcell w' hw') ?_
              go_frame
              refine wpQ_call (by go_simp) 24 #[.pointer (some ⟨bs, 0, none⟩), .int .i64 x] (fun _ => by go_simp) (.bool true) (fun w5 h5 => hhs w5 h5) ?_
              go_frame
              go_big_quiet_step (exact fun _ => rfl)
              go_big_quiet_step (exact fun _ => rfl)
              go_big_quiet_step (exact fun _ => rfl)
              refine wpQ_ldIw (by go_simp) _ rfl rfl (fun w' hw' => hcell w' hw') ?_
              go_frame
              go_big_quiet_step (exact fun _ => rfl)
              go_big_quiet_step (exact fun _ => rfl)
              go_big_quiet_step (exact fun _ => rfl)
              go_big_quiet_step (exact fun _ => rfl)
              go_big_quiet_step (exact fun _ => rfl)
              refine wpQ_ldIw (by go_simp) _ rfl rfl (fun w' hw' => hcell w' hw') ?_
              go_frame
              go_big_quiet_step (exact fun _ => rfl)
              go_big_quiet_step (exact fun _ => rfl)
              go_big_quiet_step (exact fun _ => rfl)
              go_big_quiet_step (exact fun _ => rfl)
              refine wpQuiet_nil ?_
              intro W6 hB6
              have HIN : Hid (i < l2.length) := hil
              clear hhu hhs hcell hd hx hxm hxu hx0 hx1 
              show Exit.then _ _ Exit.normal _ _
              simp only [Exit.then]
              go_at_K
              go_wp2_with fail
              exact ⟨⟨i + 1, by simp, by have := HIN.out; omega, hBr.trans (hB6.mono hBr.size)⟩, by have := HIN.out; simp [intOf]; omega⟩
            · have hd : decide (0 ≤ x ∧ x ≤ 2147483647) = false := by simp [hx1]
              rw [hd] at hhu hhs
              go_wp2_with fail
              have hx1f : decide (x ≤ 2147483647) = false := decide_eq_false (by omega)
              refine wp_region_class (fun w' => Below wr.heap.size wr w') mixedP (by kernel_rfl) (Below.refl _ _).drew ?_
              go_big_quiet_step (exact fun _ => rfl)
              go_big_quiet_step (exact fun _ => rfl)
              go_big_quiet_step (exact fun _ => rfl)
              go_big_quiet_step (exact fun _ => rfl)
              refine wpQ_ldIw (by go_simp) _ rfl rfl (fun w' hw' => hcell w' hw') ?_
              go_frame
              refine wpQ_call (by go_simp) 24 #[.pointer (some ⟨bu, 0, none⟩), .int .i64 x] (fun _ => by go_simp) (.bool false) (fun w5 h5 => hhu w5 h5) ?_
              go_frame
              go_big_quiet_step (exact fun _ => rfl)
              go_big_quiet_step (exact fun _ => rfl)
              go_big_quiet_step (exact fun _ => rfl)
              go_big_quiet_step (exact fun _ => rfl)
              refine wpQ_ldIw (by go_simp) _ rfl rfl (fun w' hw' => hcell w' hw') ?_
              go_frame
              refine wpQ_call (by go_simp) 24 #[.pointer (some ⟨bs, 0, none⟩), .int .i64 x] (fun _ => by go_simp) (.bool false) (fun w5 h5 => hhs w5 h5) ?_
              go_frame
              go_big_quiet_step (exact fun _ => rfl)
              go_big_quiet_step (exact fun _ => rfl)
              go_big_quiet_step (exact fun _ => rfl)
              go_big_quiet_step (exact fun _ => rfl)
              go_big_quiet_step (exact fun _ => rfl)
              go_big_quiet_step (exact fun _ => rfl)
              refine wpQ_ldIw (by go_simp) _ rfl rfl (fun w' hw' => hcell w' hw') ?_
              go_frame
              refine wpQ_call (by go_simp) 24 #[.pointer (some ⟨bs, 0, none⟩), .int .i64 x] (fun _ => by go_simp) (.bool false) (fun w5 h5 => hhs w5 h5) ?_
              go_frame
              go_big_quiet_step (exact fun _ => rfl)
              go_big_quiet_step (exact fun _ => rfl)
              go_big_quiet_step (exact fun _ => rfl)
              refine wpQ_ldIw (by go_simp) _ rfl rfl (fun w' hw' => hcell w' hw') ?_
              go_frame
              go_big_quiet_step (exact fun _ => rfl)
              go_big_quiet_step (exact fun _ => rfl)
              go_big_quiet_step (exact fun _ => rfl)
              go_big_quiet_step (exact fun _ => rfl)
              go_big_quiet_step (exact fun _ => rfl)
              refine wpQ_ldIw (by go_simp) _ rfl rfl (fun w' hw' => hcell w' hw') ?_
              go_frame
              go_big_quiet_step (exact fun _ => rfl)
              go_big_quiet_step (exact fun _ => rfl)
              go_big_quiet_step (exact fun _ => rfl)
              go_big_quiet_step (exact fun _ => rfl)
              refine wpQuiet_nil ?_
              intro W6 hB6
              have HIN : Hid (i < l2.length) := hil
              clear hhu hhs hcell hd hx hxm hxu hx0 hx1 
              show Exit.then _ _ Exit.normal _ _
              simp only [Exit.then]
              go_at_K
              go_wp2_with fail
              exact ⟨⟨i + 1, by simp, by have := HIN.out; omega, hBr.trans (hB6.mono hBr.size)⟩, by have := HIN.out; simp [intOf]; omega⟩
          · have hd : decide (0 ≤ x ∧ x ≤ 2147483647) = false := by simp [hx0]
            rw [hd] at hhu hhs
            go_wp2_with fail
            have hx0f : decide (0 ≤ x) = false := decide_eq_false (by omega)
            refine wp_region_class (fun w' => Below wr.heap.size wr w') mixedP (by kernel_rfl) (Below.refl _ _).drew ?_
            go_big_quiet_step (exact fun _ => rfl)
            go_big_quiet_step (exact fun _ => rfl)
            go_big_quiet_step (exact fun _ => rfl)
            go_big_quiet_step (exact fun _ => rfl)
            refine wpQ_ldIw (by go_simp) _ rfl rfl (fun w' hw' => hcell w' hw') ?_
            go_frame
            refine wpQ_call (by go_simp) 24 #[.pointer (some ⟨bu, 0, none⟩), .int .i64 x] (fun _ => by go_simp) (.bool false) (fun w5 h5 => hhu w5 h5) ?_
            go_frame
            go_big_quiet_step (exact fun _ => rfl)
            go_big_quiet_step (exact fun _ => rfl)
            go_big_quiet_step (exact fun _ => rfl)
            go_big_quiet_step (exact fun _ => rfl)
            refine wpQ_ldIw (by go_simp) _ rfl rfl (fun w' hw' => hcell w' hw') ?_
            go_frame
            refine wpQ_call (by go_simp) 24 #[.pointer (some ⟨bs, 0, none⟩), .int .i64 x] (fun _ => by go_simp) (.bool false) (fun w5 h5 => hhs w5 h5) ?_
            go_frame
            go_big_quiet_step (exact fun _ => rfl)
            go_big_quiet_step (exact fun _ => rfl)
            go_big_quiet_step (exact fun _ => rfl)
            go_big_quiet_step (exact fun _ => rfl)
            go_big_quiet_step (exact fun _ => rfl)
            go_big_quiet_step (exact fun _ => rfl)
            refine wpQ_ldIw (by go_simp) _ rfl rfl (fun w' hw' => hcell w' hw') ?_
            go_frame
            refine wpQ_call (by go_simp) 24 #[.pointer (some ⟨bs, 0, none⟩), .int .i64 x] (fun _ => by go_simp) (.bool false) (fun w5 h5 => hhs w5 h5) ?_
            go_frame
            go_big_quiet_step (exact fun _ => rfl)
            go_big_quiet_step (exact fun _ => rfl)
            go_big_quiet_step (exact fun _ => rfl)
            refine wpQ_ldIw (by go_simp) _ rfl rfl (fun w' hw' => hcell w' hw') ?_
            go_frame
            go_big_quiet_step (exact fun _ => rfl)
            go_big_quiet_step (exact fun _ => rfl)
            go_big_quiet_step (exact fun _ => rfl)
            go_big_quiet_step (exact fun _ => rfl)
            go_big_quiet_step (exact fun _ => rfl)
            go_big_quiet_step (exact fun _ => rfl)
            go_big_quiet_step (exact fun _ => rfl)
            go_big_quiet_step (exact fun _ => rfl)
            go_big_quiet_step (exact fun _ => rfl)
            go_big_quiet_step (exact fun _ => rfl)
            refine wpQuiet_nil ?_
            intro W6 hB6
            have HIN : Hid (i < l2.length) := hil
            clear hhu hhs hcell hd hx hxm hxu hx0 
            show Exit.then _ _ Exit.normal _ _
            simp only [Exit.then]
            go_at_K
            go_wp2_with fail
            exact ⟨⟨i + 1, by simp, by have := HIN.out; omega, hBr.trans (hB6.mono hBr.size)⟩, by have := HIN.out; simp [intOf]; omega⟩
        · have hili : ¬ (i : Int) < 300 := by omega
          obtain rfl : i = l2.length := by omega
          replace hu9 := hu9.below hBr
          replace hs9 := hs9.below hBr
          replace ht9 := ht9.below hBr
          replace hB9w := hB9w.trans (hBr.mono hB9w.size)
          have hcu := card_uni hA hB
          have hcU := card_le (fun n => A n || B n)
          have hcA := card_le A
          have hcB := card_le B
          by_cases hAB : A = B
          · subst hAB
            obtain rfl : al = true := by rw [← HAL.out]; simp
            have hyE := bytes_any hs9.view
            have hyF0 := fun W hBF => bytes_any (ht9.below (w' := W) hBF).view
            generalize hyA : bytesM A = yA2 at hyE hyF0
            clear hBr HASU HASS hv9 hr2 hi hil hyA hA hB HAL
            generalize wr = wE at *
            go_wp2_with (first
              | (go_at_call 20; refine hyE.mono ?_; rintro e wF ⟨rfl, hBF⟩; clear hyE; have hyF := hyF0 _ hBF; clear hyF0)
              | (go_at_call 20; refine hyF.mono ?_; rintro e wG ⟨rfl, hBG⟩; clear hyF; have hBEG := below_new hBF hBG; have hlG := len_any (hu9.below hBEG).view)
              | (go_at_call 17; refine hlG.mono ?_; rintro e wH ⟨rfl, hBH⟩; clear hlG; have hBEH := below_new hBEG hBH; have hlH := len_any (hs9.below hBEH).view)
              | (go_at_call 17; refine hlH.mono ?_; rintro e wI ⟨rfl, hBI⟩; clear hlH; have hBEI := below_new hBEH hBI; have hlI := len_any (ht9.below hBEI).view)
              | (go_at_call 17; refine hlI.mono ?_; rintro e wJ ⟨rfl, hBJ⟩; clear hlI))
            go_ret
            exact ⟨congrArg (fun b => Ending.returned (Value.bool b)) (decide_eq_true (by have : card (fun n => A n) = card A := rfl; omega)), below_new (below_new hB9w hBEI) hBJ⟩
          · obtain rfl : al = false := by
              rw [← HAL.out]
              exact decide_eq_false fun e => hAB (memFrom_inj hA hB (map_inj e))
            have hbne : ¬ bytesM A = bytesM B := fun e => hAB (bytesM_inj hA hB e)
            have hyE := bytes_any hs9.view
            have hyF0 := fun W hBF => bytes_any (ht9.below (w' := W) hBF).view
            generalize bytesM A = yA2 at hyE hbne
            generalize bytesM B = yB2 at hyF0 hbne
            have hbq : (yA2 == yB2) = false := beq_eq_false_iff_ne.2 hbne
            clear hbne
            clear hBr HASU HASS hv9 hr2 hi hil hA hB HAL hAB
            generalize wr = wE at *
            go_wp2_with (first
              | (go_at_call 20; refine hyE.mono ?_; rintro e wF ⟨rfl, hBF⟩; clear hyE; have hyF := hyF0 _ hBF; clear hyF0)
              | (go_at_call 20; refine hyF.mono ?_; rintro e wG ⟨rfl, hBG⟩; clear hyF; have hBEG := below_new hBF hBG; have hlG := len_any (hu9.below hBEG).view)
              | (go_at_call 17; refine hlG.mono ?_; rintro e wH ⟨rfl, hBH⟩; clear hlG; have hBEH := below_new hBEG hBH; have hlH := len_any (hs9.below hBEH).view)
              | (go_at_call 17; refine hlH.mono ?_; rintro e wI ⟨rfl, hBI⟩; clear hlH; have hBEI := below_new hBEH hBI; have hlI := len_any (ht9.below hBEI).view)
              | (go_at_call 17; refine hlI.mono ?_; rintro e wJ ⟨rfl, hBJ⟩; clear hlI))
            go_ret
            exact ⟨congrArg (fun b => Ending.returned (Value.bool b)) (decide_eq_true (by omega)), below_new (below_new hB9w hBEI) hBJ⟩
set_option maxRecDepth 100000 in
set_option maxHeartbeats 8000000 in
theorem back_walk_cn {w : World} {p : Option Addr} {n c : Nat} {l : List Int} (hv : IntsAt w (.slice p n c) l) (hnc : n ≤ c) (hcm : c ≤ 9223372036854775807) (hr : ∀ x ∈ l, x ≤ 9223372036854775807)
    {p' : Option Addr} {n' c' : Nat} {l' : List Int} (hv' : IntsAt w (.slice p' n' c') l') (hnc' : n' ≤ c') (hcm' : c' ≤ 9223372036854775807) (hr' : ∀ x ∈ l', x ≤ 9223372036854775807) (h2 :  300 < n) (h2p : ¬ 300 < n') :
    Calls Try.prog 5 #[.slice p n c, .slice p' n' c'] w fun e w' => e = .returned (.bool true) ∧ Below w.heap.size w w' := by
  have haw := awake_any w
  have hlen := hv.len
  have hlen' := hv'.len
  have h2i : (300 : Int) < n := by omega
  have hci : (300 : Int) ≤ c := by omega
  have hcn : 300 ≤ c := by omega
  obtain ⟨b0, o0, rfl, _⟩ := hv.at (i := 0) (by omega)
  have hv2 := hv.cut 300 (by omega)
  have hr2 : ∀ x ∈ l.take 300, x ≤ 9223372036854775807 := fun x hx => hr x (List.mem_of_mem_take hx)
  have hl2 := hv2.len
  generalize l.take 300 = l2 at hv2 hr2 hl2
  have hn2 : l2.length ≤ 300 := by omega
  clear hv hr hlen
  have h2i' : ¬ (300 : Int) < n' := by omega
  have hv2' := hv'
  have hr2' := hr'
  have hl2' := hlen'
  generalize l' = l2' at hv2' hr2' hl2'
  have hn2' : l2'.length ≤ 300 := by omega
  clear hv' hr' hlen'
  have hnw := fun W hB => new_any (hv2.below (w' := W) hB) hr2 (by omega)
  have hnw' := fun W hB => new_any (hv2'.below (w' := W) hB) hr2' (by omega)
  have HASS := fun x (h : x ∈ l2) => hasI_of h
  have HASB := fun x (h : x ∈ l2') => hasI_of h
  generalize ofInts l2 = A at hnw HASS
  generalize ofInts l2' = B at hnw' HASB
  go_enter Try.func5, Try.ntmps5
  go_wp2_with (first
    | (go_at_call 9; refine haw.mono ?_; rintro e w1 ⟨rfl, hB1⟩; have hnw1 := hnw w1 hB1; clear hnw)
    | (go_at_call 10; refine hnw1.mono ?_; rintro e w2 ⟨bs, rfl, mos, hs, hbs, hms, hB2⟩; clear hnw1; have hB12 := below_new hB1 hB2; have hnw2 := hnw' w2 hB12; clear hnw')
    | (go_at_call 10; refine hnw2.mono ?_; rintro e w3 ⟨bt, rfl, mot, ht, hbt, hmt, hB3⟩; clear hnw2; have hs3 := hs.below hB3; have hA := hs3.map.bound; have hB := ht.map.bound; have hy3 := bytes_any hs3.view; have hrb := read_back hA; generalize bytesM A = yA at hy3 hrb)
    | (go_at_call 20; refine hy3.mono ?_; rintro e w4 ⟨rfl, hB4⟩; clear hy3; have hs4 := hs3.below hB4; have ht4 := ht.below hB4)
    | (go_at_call 22; refine (hrb _).mono ?_; rintro e w5 ⟨br, rfl, mr, hr5, hbr, hmr, hB5⟩; clear hrb; have hs5 := hs4.below hB5; have ht5 := ht4.below hB5; have hm5 := members_any hs5.view)
    | (go_at_call 19; refine hm5.mono ?_; rintro e w6 ⟨v6, rfl, hrow6, hB6⟩; clear hm5; obtain ⟨p6, c6, rfl, hi6⟩ := hrow6.intsAt; have hs6 := hs5.below hB6; have ht6 := ht5.below hB6; have hr6 := hr5.below hB6; have hm6 := members_any ht6.view)
    | (go_at_call 19; refine hm6.mono ?_; rintro e w7 ⟨v7, rfl, hrow7, hB7⟩; clear hm6; obtain ⟨p7, c7, rfl, hi7⟩ := hrow7.intsAt; have hs7 := hs6.below hB7; have ht7 := ht6.below hB7; have hr7 := hr6.below hB7; have hsm7 := same_any (hi6.below hB7) hi7 (by have := memFrom_len hA 0; omega) (by have := memFrom_len hB 0; omega))
    | (go_at_call 18; refine hsm7.mono ?_; rintro e w8 ⟨rfl, hB8⟩; clear hsm7; have hs8 := hs7.below hB8; have ht8 := ht7.below hB8; have hr8 := hr7.below hB8; have hm8 := members_any hr8.view)
    | (go_at_call 19; refine hm8.mono ?_; rintro e wA ⟨vA, rfl, hrowA, hBA⟩; clear hm8; obtain ⟨pA, cA, rfl, hiA⟩ := hrowA.intsAt; have hsA := hs8.below hBA; have htA := ht8.below hBA; have hmA := members_any hsA.view)
    | (go_at_call 19; refine hmA.mono ?_; rintro e wB ⟨vB, rfl, hrowB, hBB⟩; clear hmA; obtain ⟨pB, cB, rfl, hiB⟩ := hrowB.intsAt; have hsB := hsA.below hBB; have htB := htA.below hBB; have hsmB := same_any (hiA.below hBB) hiB (by have := memFrom_len hA 0; omega) (by have := memFrom_len hA 0; omega); rw [decide_eq_true rfl] at hsmB)
    | (go_at_call 18; refine hsmB.mono ?_; rintro e wC ⟨rfl, hBC⟩; clear hsmB; have hsC := hsB.below hBC; have htC := htB.below hBC; have huC := union_any hsC.view htC.view)
    | (go_at_call 13; refine huC.mono ?_; rintro e w9 ⟨bu, rfl, mu, hu9, hbu, hmu, hB9⟩; clear huC; have hs9 := hsC.below hB9; have ht9 := htC.below hB9))
  have hB9w : Below w.heap.size w w9 := below_new (below_new (below_new (below_new (below_new (below_new (below_new (below_new (below_new (below_new hB12 hB3) hB4) hB5) hB6) hB7) hB8) hBA) hBB) hBC) hB9
  have hv9 := hv2.below hB9w
  have hv9' := hv2'.below hB9w
  have HASU : ∀ x ∈ l2, hasI (fun n => A n || B n) x = decide (0 ≤ x ∧ x ≤ 2147483647) := fun x hx => by
    rw [hasI_uni, HASS x hx]
    by_cases h : 0 ≤ x ∧ x ≤ 2147483647
    · rw [decide_eq_true h, Bool.true_or]
    · rw [decide_eq_false h, hasI_hi hB h]; rfl
  have HASV : ∀ x ∈ l2', hasI (fun n => A n || B n) x = decide (0 ≤ x ∧ x ≤ 2147483647) := fun x hx => by
    rw [hasI_uni, HASB x hx]
    by_cases h : 0 ≤ x ∧ x ≤ 2147483647
    · rw [decide_eq_true h, Bool.or_true]
    · rw [decide_eq_false h, hasI_hi hA h]; rfl
  have HAL0 : ∃ al, decide ((memFrom A 0).map (fun x : Nat => (x : Int)) = (memFrom B 0).map (fun x : Nat => (x : Int))) = al := ⟨_, rfl⟩
  obtain ⟨al, hal⟩ := HAL0
  rw [hal]
  have HAL : Hid (decide ((memFrom A 0).map (fun x : Nat => (x : Int)) = (memFrom B 0).map (fun x : Nat => (x : Int))) = al) := hal
  clear hal hi6 hrow6 hi7 hrow7 hiA hrowA hiB hrowB hs3 hs4 hs5 hs6 hs7 hs8 hsA hsB hsC ht4 ht5 ht6 ht7 ht8 htA htB htC hr5 hr6 hr7 hr8 hs ht hB1 hB2 hB12 hB3 hB4 hB5 hB6 hB7 hB8 hBA hBB hBC hB9 hv2 hv2' hbs hms hbt hmt hbr hmr hbu hmu HASB haw
  go_loopw [13] (fun y wr => ∃ i : Nat, y = .int .i64 (i : Nat) ∧ i ≤ l2'.length ∧ Below w9.heap.size w9 wr) (fun y _ => l2'.length - (intOf y).toNat)
  case atStart => exact ⟨0, rfl, Nat.zero_le _, Below.refl _ _⟩
  case round =>
    obtain ⟨i, rfl, hi, hBr⟩ := hrel
    by_cases hil : i < l2'.length
    · have hili : (i : Int) < n' := by omega
      have hilc : (i : Int) < c' := by omega
      have hi0 : (0 : Int) ≤ i := by omega
      obtain ⟨x, hx⟩ : ∃ x, l2'[i]? = some x := ⟨_, List.getElem?_eq_getElem hil⟩
      have hxm := List.mem_of_getElem? hx
      have hxu := hr2' x hxm
      obtain ⟨gL, oL, hpL, hcl⟩ := hv9'.at hil
      have hcell : ∀ W, Below wr.heap.size wr W → W.cell? ⟨gL, oL + i, none⟩ = some (.int .i64 x) := fun W hB => (hB.cell (p := ⟨gL, oL + i, none⟩) (World.block_lt_of_cell? _ _ ((hBr.cell (p := ⟨gL, oL + i, none⟩) (World.block_lt_of_cell? _ _ (hcl i x hx))).trans (hcl i x hx)))).trans ((hBr.cell (p := ⟨gL, oL + i, none⟩) (World.block_lt_of_cell? _ _ (hcl i x hx))).trans (hcl i x hx))
      have hhu : ∀ W, Below wr.heap.size wr W → Calls Try.prog 24 #[.pointer (some ⟨bu, 0, none⟩), .int .i64 x] W fun e w' => e = .returned (.bool (decide (0 ≤ x ∧ x ≤ 2147483647))) ∧ Below wr.heap.size wr w' := fun W hB => by
        have := has5_any ((hu9.below hBr).below hB).view x hxu
        rw [HASV x hxm] at this
        exact this.mono fun e w' ⟨h1, h2⟩ => ⟨h1, hB.trans (h2.mono hB.size)⟩
      clear hcl
      cases hpL
      by_cases hx0 : 0 ≤ x
      · by_cases hx1 : x ≤ 2147483647
        · have hd : decide (0 ≤ x ∧ x ≤ 2147483647) = true := by simp [hx0, hx1]
          rw [hd] at hhu
          go_wp2_with fail
          have hx1f : decide (x ≤ 2147483647) = true := decide_eq_true (by omega)
          refine wp_region_class (fun w' => Below wr.heap.size wr w') mixedP (by kernel_rfl) (Below.refl _ _).drew ?_
          go_big_quiet_step (exact fun _ => rfl)
          go_big_quiet_step (exact fun _ => rfl)
          go_big_quiet_step (exact fun _ => rfl)
          go_big_quiet_step (exact fun _ => rfl)
          refine wpQ_ldIw (by go_simp) _ rfl rfl (fun w' hw' => hcell w' hw') ?_
          go_frame
          refine wpQ_call (by go_simp) 24 #[.pointer (some ⟨bu, 0, none⟩), .int .i64 x] (fun _ => by go_simp) (.bool true) (fun w5 h5 => hhu w5 h5) ?_
          go_frame
          go_big_quiet_step (exact fun _ => rfl)
          go_big_quiet_step (exact fun _ => rfl)
          go_big_quiet_step (exact fun _ => rfl)
          refine wpQ_ldIw (by go_simp) _ rfl rfl (fun w' hw' => hcell w' hw') ?_
          go_frame
          go_big_quiet_step (exact fun _ => rfl)
          go_big_quiet_step (exact fun _ => rfl)
          go_big_quiet_step (exact fun _ => rfl)
          go_big_quiet_step (exact fun _ => rfl)
          go_big_quiet_step (exact fun _ => rfl)
          refine wpQ_ldIw (by go_simp) _ rfl rfl (fun w' hw' => hcell w' hw') ?_
          go_frame
          go_big_quiet_step (exact fun _ => rfl)
          go_big_quiet_step (exact fun _ => rfl)
          go_big_quiet_step (exact fun _ => rfl)
          refine wpQuiet_nil ?_
          intro W6 hB6
          have HIN : Hid (i < l2'.length) := hil
          clear hhu hcell hd hx hxm hxu hx0 hx1 
          show Exit.then _ _ Exit.normal _ _
          simp only [Exit.then]
          go_at_K
          go_wp2_with fail
          exact ⟨⟨i + 1, by simp, by have := HIN.out; omega, hBr.trans (hB6.mono hBr.size)⟩, by have := HIN.out; simp [intOf]; omega⟩
        · have hd : decide (0 ≤ x ∧ x ≤ 2147483647) = false := by simp [hx1]
          rw [hd] at hhu
          go_wp2_with fail
          have hx1f : decide (x ≤ 2147483647) = false := decide_eq_false (by omega)
          refine wp_region_class (fun w' => Below wr.heap.size wr w') mixedP (by kernel_rfl) (Below.refl _ _).drew ?_
          go_big_quiet_step (exact fun _ => rfl)
          go_big_quiet_step (exact fun _ => rfl)
          go_big_quiet_step (exact fun _ => rfl)
          go_big_quiet_step (exact fun _ => rfl)
          refine wpQ_ldIw (by go_simp) _ rfl rfl (fun w' hw' => hcell w' hw') ?_
          go_frame
          refine wpQ_call (by go_simp) 24 #[.pointer (some ⟨bu, 0, none⟩), .int .i64 x] (fun _ => by go_simp) (.bool false) (fun w5 h5 => hhu w5 h5) ?_
          go_frame
          go_big_quiet_step (exact fun _ => rfl)
          go_big_quiet_step (exact fun _ => rfl)
          go_big_quiet_step (exact fun _ => rfl)
          refine wpQ_ldIw (by go_simp) _ rfl rfl (fun w' hw' => hcell w' hw') ?_
          go_frame
          go_big_quiet_step (exact fun _ => rfl)
          go_big_quiet_step (exact fun _ => rfl)
          go_big_quiet_step (exact fun _ => rfl)
          go_big_quiet_step (exact fun _ => rfl)
          go_big_quiet_step (exact fun _ => rfl)
          refine wpQ_ldIw (by go_simp) _ rfl rfl (fun w' hw' => hcell w' hw') ?_
          go_frame
          go_big_quiet_step (exact fun _ => rfl)
          go_big_quiet_step (exact fun _ => rfl)
          go_big_quiet_step (exact fun _ => rfl)
          refine wpQuiet_nil ?_
          intro W6 hB6
          have HIN : Hid (i < l2'.length) := hil
          clear hhu hcell hd hx hxm hxu hx0 hx1 
          show Exit.then _ _ Exit.normal _ _
          simp only [Exit.then]
          go_at_K
          go_wp2_with fail
          exact ⟨⟨i + 1, by simp, by have := HIN.out; omega, hBr.trans (hB6.mono hBr.size)⟩, by have := HIN.out; simp [intOf]; omega⟩
      · have hd : decide (0 ≤ x ∧ x ≤ 2147483647) = false := by simp [hx0]
        rw [hd] at hhu
        go_wp2_with fail
        have hx0f : decide (0 ≤ x) = false := decide_eq_false (by omega)
        refine wp_region_class (fun w' => Below wr.heap.size wr w') mixedP (by kernel_rfl) (Below.refl _ _).drew ?_
        go_big_quiet_step (exact fun _ => rfl)
        go_big_quiet_step (exact fun _ => rfl)
        go_big_quiet_step (exact fun _ => rfl)
        go_big_quiet_step (exact fun _ => rfl)
        refine wpQ_ldIw (by go_simp) _ rfl rfl (fun w' hw' => hcell w' hw') ?_
        go_frame
        refine wpQ_call (by go_simp) 24 #[.pointer (some ⟨bu, 0, none⟩), .int .i64 x] (fun _ => by go_simp) (.bool false) (fun w5 h5 => hhu w5 h5) ?_
        go_frame
        go_big_quiet_step (exact fun _ => rfl)
        go_big_quiet_step (exact fun _ => rfl)
        go_big_quiet_step (exact fun _ => rfl)
        refine wpQ_ldIw (by go_simp) _ rfl rfl (fun w' hw' => hcell w' hw') ?_
        go_frame
        go_big_quiet_step (exact fun _ => rfl)
        go_big_quiet_step (exact fun _ => rfl)
        go_big_quiet_step (exact fun _ => rfl)
        go_big_quiet_step (exact fun _ => rfl)
        go_big_quiet_step (exact fun _ => rfl)
        go_big_quiet_step (exact fun _ => rfl)
        go_big_quiet_step (exact fun _ => rfl)
        go_big_quiet_step (exact fun _ => rfl)
        go_big_quiet_step (exact fun _ => rfl)
        refine wpQuiet_nil ?_
        intro W6 hB6
        have HIN : Hid (i < l2'.length) := hil
        clear hhu hcell hd hx hxm hxu hx0 
        show Exit.then _ _ Exit.normal _ _
        simp only [Exit.then]
        go_at_K
        go_wp2_with fail
        exact ⟨⟨i + 1, by simp, by have := HIN.out; omega, hBr.trans (hB6.mono hBr.size)⟩, by have := HIN.out; simp [intOf]; omega⟩
    · have hili : ¬ (i : Int) < n' := by omega
      obtain rfl : i = l2'.length := by omega
      replace hu9 := hu9.below hBr
      replace hs9 := hs9.below hBr
      replace ht9 := ht9.below hBr
      replace hv9 := hv9.below hBr
      replace hB9w := hB9w.trans (hBr.mono hB9w.size)
      clear hBr HASV hv9' hr2' hi hil
      generalize wr = wD at *
      go_wp2_with fail
      go_loopw [14] (fun y wr => ∃ i : Nat, y = .int .i64 (i : Nat) ∧ i ≤ l2.length ∧ Below wD.heap.size wD wr) (fun y _ => l2.length - (intOf y).toNat)
      case atStart => exact ⟨0, rfl, Nat.zero_le _, Below.refl _ _⟩
      case round =>
        obtain ⟨i, rfl, hi, hBr⟩ := hrel
        by_cases hil : i < l2.length
        · have hili : (i : Int) < 300 := by omega
          have hilc : (i : Int) < c := by omega
          have hi0 : (0 : Int) ≤ i := by omega
          obtain ⟨x, hx⟩ : ∃ x, l2[i]? = some x := ⟨_, List.getElem?_eq_getElem hil⟩
          have hxm := List.mem_of_getElem? hx
          have hxu := hr2 x hxm
          obtain ⟨gL, oL, hpL, hcl⟩ := hv9.at hil
          have hcell : ∀ W, Below wr.heap.size wr W → W.cell? ⟨gL, oL + i, none⟩ = some (.int .i64 x) := fun W hB => (hB.cell (p := ⟨gL, oL + i, none⟩) (World.block_lt_of_cell? _ _ ((hBr.cell (p := ⟨gL, oL + i, none⟩) (World.block_lt_of_cell? _ _ (hcl i x hx))).trans (hcl i x hx)))).trans ((hBr.cell (p := ⟨gL, oL + i, none⟩) (World.block_lt_of_cell? _ _ (hcl i x hx))).trans (hcl i x hx))
          have hhu : ∀ W, Below wr.heap.size wr W → Calls Try.prog 24 #[.pointer (some ⟨bu, 0, none⟩), .int .i64 x] W fun e w' => e = .returned (.bool (decide (0 ≤ x ∧ x ≤ 2147483647))) ∧ Below wr.heap.size wr w' := fun W hB => by
            have := has5_any ((hu9.below hBr).below hB).view x hxu
            rw [HASU x hxm] at this
            exact this.mono fun e w' ⟨h1, h2⟩ => ⟨h1, hB.trans (h2.mono hB.size)⟩
          have hhs : ∀ W, Below wr.heap.size wr W → Calls Try.prog 24 #[.pointer (some ⟨bs, 0, none⟩), .int .i64 x] W fun e w' => e = .returned (.bool (decide (0 ≤ x ∧ x ≤ 2147483647))) ∧ Below wr.heap.size wr w' := fun W hB => by
            have := has5_any ((hs9.below hBr).below hB).view x hxu
            rw [HASS x hxm] at this
            exact this.mono fun e w' ⟨h1, h2⟩ => ⟨h1, hB.trans (h2.mono hB.size)⟩
          clear hcl
          cases hpL
          by_cases hx0 : 0 ≤ x
          · by_cases hx1 : x ≤ 2147483647
            · have hd : decide (0 ≤ x ∧ x ≤ 2147483647) = true := by simp [hx0, hx1]
              rw [hd] at hhu hhs
              go_wp2_with fail
              have hx1f : decide (x ≤ 2147483647) = true := decide_eq_true (by omega)
              refine wp_region_class (fun w' => Below wr.heap.size wr w') mixedP (by kernel_rfl) (Below.refl _ _).drew ?_
              go_big_quiet_step (exact fun _ => rfl)
              go_big_quiet_step (exact fun _ => rfl)
              go_big_quiet_step (exact fun _ => rfl)
              go_big_quiet_step (exact fun _ => rfl)
              refine wpQ_ldIw (by go_simp) _ rfl rfl (fun w' hw' => hcell w' hw') ?_
              go_frame
              refine wpQ_call (by go_simp) 24 #[.pointer (some ⟨bu, 0, none⟩), .int .i64 x] (fun _ => by go_simp) (.bool true) (fun w5 h5 => hhu w5 h5) ?_
              go_frame
              go_big_quiet_step (exact fun _ => rfl)
              go_big_quiet_step (exact fun _ => rfl)
              go_big_quiet_step (exact fun _ => rfl)
              go_big_quiet_step (exact fun _ => rfl)
              refine wpQ_ldIw (by go_simp) _ rfl rfl (fun w' hw' => hcell w' hw') ?_
              go_frame
              refine wpQ_call (by go_simp) 24 #[.pointer (some ⟨bs, 0, none⟩), .int .i64 x] (fun _ => by go_simp) (.bool true) (fun w5 h5 => hhs w5 h5) ?_
              go_frame
              go_big_quiet_step (exact fun _ => rfl)
              go_big_quiet_step (exact fun _ => rfl)
              go_big_quiet_step (exact fun _ => rfl)
              go_big_quiet_step (exact fun _ => rfl)
              go_big_quiet_step (exact fun _ => rfl)
              go_big_quiet_step (exact fun _ => rfl)
              refine wpQ_ldIw (by go_simp) _ rfl rfl (fun w' hw' => hcell w' hw') ?_
              go_frame
              refine wpQ_call (by go_simp) 24 #[.pointer (some ⟨bs, 0, none⟩), .int .i64 x] (fun _ => by go_simp) (.bool true) (fun w5 h5 => hhs w5 h5) ?_
              go_frame
              go_big_quiet_step (exact fun _ => rfl)
              go_big_quiet_step (exact fun _ => rfl)
              go_big_quiet_step (exact fun _ => rfl)
              refine wpQ_ldIw (by go_simp) _ rfl rfl (fun w' hw' => hcell w' hw') ?_
              go_frame
              go_big_quiet_step (exact fun _ => rfl)
              go_big_quiet_step (exact fun _ => rfl)
              go_big_quiet_step (exact fun _ => rfl)
              go_big_quiet_step (exact fun _ => rfl)
              go_big_quiet_step (exact fun _ => rfl)
              refine wpQ_ldIw (by go_simp) _ rfl rfl (fun w' hw' => hcell w' hw') ?_
              go_frame
              go_big_quiet_step (exact fun _ => rfl)
              go_big_quiet_step (exact fun _ => rfl)
              go_big_quiet_step (exact fun _ => rfl)
              go_big_quiet_step (exact fun _ => rfl)
              refine wpQuiet_nil ?_
              intro W6 hB6
              have HIN : Hid (i < l2.length) := hil
              clear hhu hhs hcell hd hx hxm hxu hx0 hx1 
              show Exit.then _ _ Exit.normal _ _
              simp only [Exit.then]
              go_at_K
              go_wp2_with fail
              exact ⟨⟨i + 1, by simp, by have := HIN.out; omega, hBr.trans (hB6.mono hBr.size)⟩, by have := HIN.out; simp [intOf]; omega⟩
            · have hd : decide (0 ≤ x ∧ x ≤ 2147483647) = false := by simp [hx1]
              rw [hd] at hhu hhs
              go_wp2_with fail
              have hx1f : decide (x ≤ 2147483647) = false := decide_eq_false (by omega)
              refine wp_region_class (fun w' => Below wr.heap.size wr w') mixedP (by kernel_rfl) (Below.refl _ _).drew ?_
              go_big_quiet_step (exact fun _ => rfl)
              go_big_quiet_step (exact fun _ => rfl)
              go_big_quiet_step (exact fun _ => rfl)
              go_big_quiet_step (exact fun _ => rfl)
              refine wpQ_ldIw (by go_simp) _ rfl rfl (fun w' hw' => hcell w' hw') ?_
              go_frame
              refine wpQ_call (by go_simp) 24 #[.pointer (some ⟨bu, 0, none⟩), .int .i64 x] (fun _ => by go_simp) (.bool false) (fun w5 h5 => hhu w5 h5) ?_
              go_frame
              go_big_quiet_step (exact fun _ => rfl)
              go_big_quiet_step (exact fun _ => rfl)
              go_big_quiet_step (exact fun _ => rfl)
              go_big_quiet_step (exact fun _ => rfl)
              refine wpQ_ldIw (by go_simp) _ rfl rfl (fun w' hw' => hcell w' hw') ?_
              go_frame
              refine wpQ_call (by go_simp) 24 #[.pointer (some ⟨bs, 0, none⟩), .int .i64 x] (fun _ => by go_simp) (.bool false) (fun w5 h5 => hhs w5 h5) ?_
              go_frame
              go_big_quiet_step (exact fun _ => rfl)
              go_big_quiet_step (exact fun _ => rfl)
              go_big_quiet_step (exact fun _ => rfl)
              go_big_quiet_step (exact fun _ => rfl)
              go_big_quiet_step (exact fun _ => rfl)
              go_big_quiet_step (exact fun _ => rfl)
              refine wpQ_ldIw (by go_simp) _ rfl rfl (fun w' hw' => hcell w' hw') ?_
              go_frame
              refine wpQ_call (by go_simp) 24 #[.pointer (some ⟨bs, 0, none⟩), .int .i64 x] (fun _ => by go_simp) (.bool false) (fun w5 h5 => hhs w5 h5) ?_
              go_frame
              go_big_quiet_step (exact fun _ => rfl)
              go_big_quiet_step (exact fun _ => rfl)
              go_big_quiet_step (exact fun _ => rfl)
              refine wpQ_ldIw (by go_simp) _ rfl rfl (fun w' hw' => hcell w' hw') ?_
              go_frame
              go_big_quiet_step (exact fun _ => rfl)
              go_big_quiet_step (exact fun _ => rfl)
              go_big_quiet_step (exact fun _ => rfl)
              go_big_quiet_step (exact fun _ => rfl)
              go_big_quiet_step (exact fun _ => rfl)
              refine wpQ_ldIw (by go_simp) _ rfl rfl (fun w' hw' => hcell w' hw') ?_
              go_frame
              go_big_quiet_step (exact fun _ => rfl)
              go_big_quiet_step (exact fun _ => rfl)
              go_big_quiet_step (exact fun _ => rfl)
              go_big_quiet_step (exact fun _ => rfl)
              refine wpQuiet_nil ?_
              intro W6 hB6
              have HIN : Hid (i < l2.length) := hil
              clear hhu hhs hcell hd hx hxm hxu hx0 hx1 
              show Exit.then _ _ Exit.normal _ _
              simp only [Exit.then]
              go_at_K
              go_wp2_with fail
              exact ⟨⟨i + 1, by simp, by have := HIN.out; omega, hBr.trans (hB6.mono hBr.size)⟩, by have := HIN.out; simp [intOf]; omega⟩
          · have hd : decide (0 ≤ x ∧ x ≤ 2147483647) = false := by simp [hx0]
            rw [hd] at hhu hhs
            go_wp2_with fail
            have hx0f : decide (0 ≤ x) = false := decide_eq_false (by omega)
            refine wp_region_class (fun w' => Below wr.heap.size wr w') mixedP (by kernel_rfl) (Below.refl _ _).drew ?_
            go_big_quiet_step (exact fun _ => rfl)
            go_big_quiet_step (exact fun _ => rfl)
            go_big_quiet_step (exact fun _ => rfl)
            go_big_quiet_step (exact fun _ => rfl)
            refine wpQ_ldIw (by go_simp) _ rfl rfl (fun w' hw' => hcell w' hw') ?_
            go_frame
            refine wpQ_call (by go_simp) 24 #[.pointer (some ⟨bu, 0, none⟩), .int .i64 x] (fun _ => by go_simp) (.bool false) (fun w5 h5 => hhu w5 h5) ?_
            go_frame
            go_big_quiet_step (exact fun _ => rfl)
            go_big_quiet_step (exact fun _ => rfl)
            go_big_quiet_step (exact fun _ => rfl)
            go_big_quiet_step (exact fun _ => rfl)
            refine wpQ_ldIw (by go_simp) _ rfl rfl (fun w' hw' => hcell w' hw') ?_
            go_frame
            refine wpQ_call (by go_simp) 24 #[.pointer (some ⟨bs, 0, none⟩), .int .i64 x] (fun _ => by go_simp) (.bool false) (fun w5 h5 => hhs w5 h5) ?_
            go_frame
            go_big_quiet_step (exact fun _ => rfl)
            go_big_quiet_step (exact fun _ => rfl)
            go_big_quiet_step (exact fun _ => rfl)
            go_big_quiet_step (exact fun _ => rfl)
            go_big_quiet_step (exact fun _ => rfl)
            go_big_quiet_step (exact fun _ => rfl)
            refine wpQ_ldIw (by go_simp) _ rfl rfl (fun w' hw' => hcell w' hw') ?_
            go_frame
            refine wpQ_call (by go_simp) 24 #[.pointer (some ⟨bs, 0, none⟩), .int .i64 x] (fun _ => by go_simp) (.bool false) (fun w5 h5 => hhs w5 h5) ?_
            go_frame
            go_big_quiet_step (exact fun _ => rfl)
            go_big_quiet_step (exact fun _ => rfl)
            go_big_quiet_step (exact fun _ => rfl)
            refine wpQ_ldIw (by go_simp) _ rfl rfl (fun w' hw' => hcell w' hw') ?_
            go_frame
            go_big_quiet_step (exact fun _ => rfl)
            go_big_quiet_step (exact fun _ => rfl)
            go_big_quiet_step (exact fun _ => rfl)
            go_big_quiet_step (exact fun _ => rfl)
            go_big_quiet_step (exact fun _ => rfl)
            go_big_quiet_step (exact fun _ => rfl)
            go_big_quiet_step (exact fun _ => rfl)
            go_big_quiet_step (exact fun _ => rfl)
            go_big_quiet_step (exact fun _ => rfl)
            go_big_quiet_step (exact fun _ => rfl)
            refine wpQuiet_nil ?_
            intro W6 hB6
            have HIN : Hid (i < l2.length) := hil
            clear hhu hhs hcell hd hx hxm hxu hx0 
            show Exit.then _ _ Exit.normal _ _
            simp only [Exit.then]
            go_at_K
            go_wp2_with fail
            exact ⟨⟨i + 1, by simp, by have := HIN.out; omega, hBr.trans (hB6.mono hBr.size)⟩, by have := HIN.out; simp [intOf]; omega⟩
        · have hili : ¬ (i : Int) < 300 := by omega
          obtain rfl : i = l2.length := by omega
          replace hu9 := hu9.below hBr
          replace hs9 := hs9.below hBr
          replace ht9 := ht9.below hBr
          replace hB9w := hB9w.trans (hBr.mono hB9w.size)
          have hcu := card_uni hA hB
          have hcU := card_le (fun n => A n || B n)
          have hcA := card_le A
          have hcB := card_le B
          by_cases hAB : A = B
          · subst hAB
            obtain rfl : al = true := by rw [← HAL.out]; simp
            have hyE := bytes_any hs9.view
            have hyF0 := fun W hBF => bytes_any (ht9.below (w' := W) hBF).view
            generalize hyA : bytesM A = yA2 at hyE hyF0
            clear hBr HASU HASS hv9 hr2 hi hil hyA hA hB HAL
            generalize wr = wE at *
            go_wp2_with (first
              | (go_at_call 20; refine hyE.mono ?_; rintro e wF ⟨rfl, hBF⟩; clear hyE; have hyF := hyF0 _ hBF; clear hyF0)
              | (go_at_call 20; refine hyF.mono ?_; rintro e wG ⟨rfl, hBG⟩; clear hyF; have hBEG := below_new hBF hBG; have hlG := len_any (hu9.below hBEG).view)
              | (go_at_call 17; refine hlG.mono ?_; rintro e wH ⟨rfl, hBH⟩; clear hlG; have hBEH := below_new hBEG hBH; have hlH := len_any (hs9.below hBEH).view)
              | (go_at_call 17; refine hlH.mono ?_; rintro e wI ⟨rfl, hBI⟩; clear hlH; have hBEI := below_new hBEH hBI; have hlI := len_any (ht9.below hBEI).view)
              | (go_at_call 17; refine hlI.mono ?_; rintro e wJ ⟨rfl, hBJ⟩; clear hlI))
            go_ret
            exact ⟨congrArg (fun b => Ending.returned (Value.bool b)) (decide_eq_true (by have : card (fun n => A n) = card A := rfl; omega)), below_new (below_new hB9w hBEI) hBJ⟩
          · obtain rfl : al = false := by
              rw [← HAL.out]
              exact decide_eq_false fun e => hAB (memFrom_inj hA hB (map_inj e))
            have hbne : ¬ bytesM A = bytesM B := fun e => hAB (bytesM_inj hA hB e)
            have hyE := bytes_any hs9.view
            have hyF0 := fun W hBF => bytes_any (ht9.below (w' := W) hBF).view
            generalize bytesM A = yA2 at hyE hbne
            generalize bytesM B = yB2 at hyF0 hbne
            have hbq : (yA2 == yB2) = false := beq_eq_false_iff_ne.2 hbne
            clear hbne
            clear hBr HASU HASS hv9 hr2 hi hil hA hB HAL hAB
            generalize wr = wE at *
            go_wp2_with (first
              | (go_at_call 20; refine hyE.mono ?_; rintro e wF ⟨rfl, hBF⟩; clear hyE; have hyF := hyF0 _ hBF; clear hyF0)
              | (go_at_call 20; refine hyF.mono ?_; rintro e wG ⟨rfl, hBG⟩; clear hyF; have hBEG := below_new hBF hBG; have hlG := len_any (hu9.below hBEG).view)
              | (go_at_call 17; refine hlG.mono ?_; rintro e wH ⟨rfl, hBH⟩; clear hlG; have hBEH := below_new hBEG hBH; have hlH := len_any (hs9.below hBEH).view)
              | (go_at_call 17; refine hlH.mono ?_; rintro e wI ⟨rfl, hBI⟩; clear hlH; have hBEI := below_new hBEH hBI; have hlI := len_any (ht9.below hBEI).view)
              | (go_at_call 17; refine hlI.mono ?_; rintro e wJ ⟨rfl, hBJ⟩; clear hlI))
            go_ret
            exact ⟨congrArg (fun b => Ending.returned (Value.bool b)) (decide_eq_true (by omega)), below_new (below_new hB9w hBEI) hBJ⟩
set_option maxRecDepth 100000 in
set_option maxHeartbeats 8000000 in
theorem back_walk_nc {w : World} {p : Option Addr} {n c : Nat} {l : List Int} (hv : IntsAt w (.slice p n c) l) (hnc : n ≤ c) (hcm : c ≤ 9223372036854775807) (hr : ∀ x ∈ l, x ≤ 9223372036854775807)
    {p' : Option Addr} {n' c' : Nat} {l' : List Int} (hv' : IntsAt w (.slice p' n' c') l') (hnc' : n' ≤ c') (hcm' : c' ≤ 9223372036854775807) (hr' : ∀ x ∈ l', x ≤ 9223372036854775807) (h2 : ¬ 300 < n) (h2p :  300 < n') :
    Calls Try.prog 5 #[.slice p n c, .slice p' n' c'] w fun e w' => e = .returned (.bool true) ∧ Below w.heap.size w w' := by
  have haw := awake_any w
  have hlen := hv.len
  have hlen' := hv'.len
  have h2i : ¬ (300 : Int) < n := by omega
  have hv2 := hv
  have hr2 := hr
  have hl2 := hlen
  generalize l = l2 at hv2 hr2 hl2
  have hn2 : l2.length ≤ 300 := by omega
  clear hv hr hlen
  have h2i' : (300 : Int) < n' := by omega
  have hci' : (300 : Int) ≤ c' := by omega
  have hcn' : 300 ≤ c' := by omega
  obtain ⟨b0', o0', rfl, _⟩ := hv'.at (i := 0) (by omega)
  have hv2' := hv'.cut 300 (by omega)
  have hr2' : ∀ x ∈ l'.take 300, x ≤ 9223372036854775807 := fun x hx => hr' x (List.mem_of_mem_take hx)
  have hl2' := hv2'.len
  generalize l'.take 300 = l2' at hv2' hr2' hl2'
  have hn2' : l2'.length ≤ 300 := by omega
  clear hv' hr' hlen'
  have hnw := fun W hB => new_any (hv2.below (w' := W) hB) hr2 (by omega)
  have hnw' := fun W hB => new_any (hv2'.below (w' := W) hB) hr2' (by omega)
  have HASS := fun x (h : x ∈ l2) => hasI_of h
  have HASB := fun x (h : x ∈ l2') => hasI_of h
  generalize ofInts l2 = A at hnw HASS
  generalize ofInts l2' = B at hnw' HASB
  go_enter Try.func5, Try.ntmps5
  go_wp2_with (first
    | (go_at_call 9; refine haw.mono ?_; rintro e w1 ⟨rfl, hB1⟩; have hnw1 := hnw w1 hB1; clear hnw)
    | (go_at_call 10; refine hnw1.mono ?_; rintro e w2 ⟨bs, rfl, mos, hs, hbs, hms, hB2⟩; clear hnw1; have hB12 := below_new hB1 hB2; have hnw2 := hnw' w2 hB12; clear hnw')
    | (go_at_call 10; refine hnw2.mono ?_; rintro e w3 ⟨bt, rfl, mot, ht, hbt, hmt, hB3⟩; clear hnw2; have hs3 := hs.below hB3; have hA := hs3.map.bound; have hB := ht.map.bound; have hy3 := bytes_any hs3.view; have hrb := read_back hA; generalize bytesM A = yA at hy3 hrb)
    | (go_at_call 20; refine hy3.mono ?_; rintro e w4 ⟨rfl, hB4⟩; clear hy3; have hs4 := hs3.below hB4; have ht4 := ht.below hB4)
    | (go_at_call 22; refine (hrb _).mono ?_; rintro e w5 ⟨br, rfl, mr, hr5, hbr, hmr, hB5⟩; clear hrb; have hs5 := hs4.below hB5; have ht5 := ht4.below hB5; have hm5 := members_any hs5.view)
    | (go_at_call 19; refine hm5.mono ?_; rintro e w6 ⟨v6, rfl, hrow6, hB6⟩; clear hm5; obtain ⟨p6, c6, rfl, hi6⟩ := hrow6.intsAt; have hs6 := hs5.below hB6; have ht6 := ht5.below hB6; have hr6 := hr5.below hB6; have hm6 := members_any ht6.view)
    | (go_at_call 19; refine hm6.mono ?_; rintro e w7 ⟨v7, rfl, hrow7, hB7⟩; clear hm6; obtain ⟨p7, c7, rfl, hi7⟩ := hrow7.intsAt; have hs7 := hs6.below hB7; have ht7 := ht6.below hB7; have hr7 := hr6.below hB7; have hsm7 := same_any (hi6.below hB7) hi7 (by have := memFrom_len hA 0; omega) (by have := memFrom_len hB 0; omega))
    | (go_at_call 18; refine hsm7.mono ?_; rintro e w8 ⟨rfl, hB8⟩; clear hsm7; have hs8 := hs7.below hB8; have ht8 := ht7.below hB8; have hr8 := hr7.below hB8; have hm8 := members_any hr8.view)
    | (go_at_call 19; refine hm8.mono ?_; rintro e wA ⟨vA, rfl, hrowA, hBA⟩; clear hm8; obtain ⟨pA, cA, rfl, hiA⟩ := hrowA.intsAt; have hsA := hs8.below hBA; have htA := ht8.below hBA; have hmA := members_any hsA.view)
    | (go_at_call 19; refine hmA.mono ?_; rintro e wB ⟨vB, rfl, hrowB, hBB⟩; clear hmA; obtain ⟨pB, cB, rfl, hiB⟩ := hrowB.intsAt; have hsB := hsA.below hBB; have htB := htA.below hBB; have hsmB := same_any (hiA.below hBB) hiB (by have := memFrom_len hA 0; omega) (by have := memFrom_len hA 0; omega); rw [decide_eq_true rfl] at hsmB)
    | (go_at_call 18; refine hsmB.mono ?_; rintro e wC ⟨rfl, hBC⟩; clear hsmB; have hsC := hsB.below hBC; have htC := htB.below hBC; have huC := union_any hsC.view htC.view)
    | (go_at_call 13; refine huC.mono ?_; rintro e w9 ⟨bu, rfl, mu, hu9, hbu, hmu, hB9⟩; clear huC; have hs9 := hsC.below hB9; have ht9 := htC.below hB9))
  have hB9w : Below w.heap.size w w9 := below_new (below_new (below_new (below_new (below_new (below_new (below_new (below_new (below_new (below_new hB12 hB3) hB4) hB5) hB6) hB7) hB8) hBA) hBB) hBC) hB9
  have hv9 := hv2.below hB9w
  have hv9' := hv2'.below hB9w
  have HASU : ∀ x ∈ l2, hasI (fun n => A n || B n) x = decide (0 ≤ x ∧ x ≤ 2147483647) := fun x hx => by
    rw [hasI_uni, HASS x hx]
    by_cases h : 0 ≤ x ∧ x ≤ 2147483647
    · rw [decide_eq_true h, Bool.true_or]
    · rw [decide_eq_false h, hasI_hi hB h]; rfl
  have HASV : ∀ x ∈ l2', hasI (fun n => A n || B n) x = decide (0 ≤ x ∧ x ≤ 2147483647) := fun x hx => by
    rw [hasI_uni, HASB x hx]
    by_cases h : 0 ≤ x ∧ x ≤ 2147483647
    · rw [decide_eq_true h, Bool.or_true]
    · rw [decide_eq_false h, hasI_hi hA h]; rfl
  have HAL0 : ∃ al, decide ((memFrom A 0).map (fun x : Nat => (x : Int)) = (memFrom B 0).map (fun x : Nat => (x : Int))) = al := ⟨_, rfl⟩
  obtain ⟨al, hal⟩ := HAL0
  rw [hal]
  have HAL : Hid (decide ((memFrom A 0).map (fun x : Nat => (x : Int)) = (memFrom B 0).map (fun x : Nat => (x : Int))) = al) := hal
  clear hal hi6 hrow6 hi7 hrow7 hiA hrowA hiB hrowB hs3 hs4 hs5 hs6 hs7 hs8 hsA hsB hsC ht4 ht5 ht6 ht7 ht8 htA htB htC hr5 hr6 hr7 hr8 hs ht hB1 hB2 hB12 hB3 hB4 hB5 hB6 hB7 hB8 hBA hBB hBC hB9 hv2 hv2' hbs hms hbt hmt hbr hmr hbu hmu HASB haw
  go_loopw [13] (fun y wr => ∃ i : Nat, y = .int .i64 (i : Nat) ∧ i ≤ l2'.length ∧ Below w9.heap.size w9 wr) (fun y _ => l2'.length - (intOf y).toNat)
  case atStart => exact ⟨0, rfl, Nat.zero_le _, Below.refl _ _⟩
  case round =>
    obtain ⟨i, rfl, hi, hBr⟩ := hrel
    by_cases hil : i < l2'.length
    · have hili : (i : Int) < 300 := by omega
      have hilc : (i : Int) < c' := by omega
      have hi0 : (0 : Int) ≤ i := by omega
      obtain ⟨x, hx⟩ : ∃ x, l2'[i]? = some x := ⟨_, List.getElem?_eq_getElem hil⟩
      have hxm := List.mem_of_getElem? hx
      have hxu := hr2' x hxm
      obtain ⟨gL, oL, hpL, hcl⟩ := hv9'.at hil
      have hcell : ∀ W, Below wr.heap.size wr W → W.cell? ⟨gL, oL + i, none⟩ = some (.int .i64 x) := fun W hB => (hB.cell (p := ⟨gL, oL + i, none⟩) (World.block_lt_of_cell? _ _ ((hBr.cell (p := ⟨gL, oL + i, none⟩) (World.block_lt_of_cell? _ _ (hcl i x hx))).trans (hcl i x hx)))).trans ((hBr.cell (p := ⟨gL, oL + i, none⟩) (World.block_lt_of_cell? _ _ (hcl i x hx))).trans (hcl i x hx))
      have hhu : ∀ W, Below wr.heap.size wr W → Calls Try.prog 24 #[.pointer (some ⟨bu, 0, none⟩), .int .i64 x] W fun e w' => e = .returned (.bool (decide (0 ≤ x ∧ x ≤ 2147483647))) ∧ Below wr.heap.size wr w' := fun W hB => by
        have := has5_any ((hu9.below hBr).below hB).view x hxu
        rw [HASV x hxm] at this
        exact this.mono fun e w' ⟨h1, h2⟩ => ⟨h1, hB.trans (h2.mono hB.size)⟩
      clear hcl
      cases hpL
      by_cases hx0 : 0 ≤ x
      · by_cases hx1 : x ≤ 2147483647
        · have hd : decide (0 ≤ x ∧ x ≤ 2147483647) = true := by simp [hx0, hx1]
          rw [hd] at hhu
          go_wp2_with fail
          have hx1f : decide (x ≤ 2147483647) = true := decide_eq_true (by omega)
          refine wp_region_class (fun w' => Below wr.heap.size wr w') mixedP (by kernel_rfl) (Below.refl _ _).drew ?_
          go_big_quiet_step (exact fun _ => rfl)
          go_big_quiet_step (exact fun _ => rfl)
          go_big_quiet_step (exact fun _ => rfl)
          go_big_quiet_step (exact fun _ => rfl)
          refine wpQ_ldIw (by go_simp) _ rfl rfl (fun w' hw' => hcell w' hw') ?_
          go_frame
          refine wpQ_call (by go_simp) 24 #[.pointer (some ⟨bu, 0, none⟩), .int .i64 x] (fun _ => by go_simp) (.bool true) (fun w5 h5 => hhu w5 h5) ?_
          go_frame
          go_big_quiet_step (exact fun _ => rfl)
          go_big_quiet_step (exact fun _ => rfl)
          go_big_quiet_step (exact fun _ => rfl)
          refine wpQ_ldIw (by go_simp) _ rfl rfl (fun w' hw' => hcell w' hw') ?_
          go_frame
          go_big_quiet_step (exact fun _ => rfl)
          go_big_quiet_step (exact fun _ => rfl)
          go_big_quiet_step (exact fun _ => rfl)
          go_big_quiet_step (exact fun _ => rfl)
          go_big_quiet_step (exact fun _ => rfl)
          refine wpQ_ldIw (by go_simp) _ rfl rfl (fun w' hw' => hcell w' hw') ?_
          go_frame
          go_big_quiet_step (exact fun _ => rfl)
          go_big_quiet_step (exact fun _ => rfl)
          go_big_quiet_step (exact fun _ => rfl)
          refine wpQuiet_nil ?_
          intro W6 hB6
          have HIN : Hid (i < l2'.length) := hil
          clear hhu hcell hd hx hxm hxu hx0 hx1 
          show Exit.then _ _ Exit.normal _ _
          simp only [Exit.then]
          go_at_K
          go_wp2_with fail
          exact ⟨⟨i + 1, by simp, by have := HIN.out; omega, hBr.trans (hB6.mono hBr.size)⟩, by have := HIN.out; simp [intOf]; omega⟩
        · have hd : decide (0 ≤ x ∧ x ≤ 2147483647) = false := by simp [hx1]
          rw [hd] at hhu
          go_wp2_with fail
          have hx1f : decide (x ≤ 2147483647) = false := decide_eq_false (by omega)
          refine wp_region_class (fun w' => Below wr.heap.size wr w') mixedP (by kernel_rfl) (Below.refl _ _).drew ?_
          go_big_quiet_step (exact fun _ => rfl)
          go_big_quiet_step (exact fun _ => rfl)
          go_big_quiet_step (exact fun _ => rfl)
          go_big_quiet_step (exact fun _ => rfl)
          refine wpQ_ldIw (by go_simp) _ rfl rfl (fun w' hw' => hcell w' hw') ?_
          go_frame
          refine wpQ_call (by go_simp) 24 #[.pointer (some ⟨bu, 0, none⟩), .int .i64 x] (fun _ => by go_simp) (.bool false) (fun w5 h5 => hhu w5 h5) ?_
          go_frame
          go_big_quiet_step (exact fun _ => rfl)
          go_big_quiet_step (exact fun _ => rfl)
          go_big_quiet_step (exact fun _ => rfl)
          refine wpQ_ldIw (by go_simp) _ rfl rfl (fun w' hw' => hcell w' hw') ?_
          go_frame
          go_big_quiet_step (exact fun _ => rfl)
          go_big_quiet_step (exact fun _ => rfl)
          go_big_quiet_step (exact fun _ => rfl)
          go_big_quiet_step (exact fun _ => rfl)
          go_big_quiet_step (exact fun _ => rfl)
          refine wpQ_ldIw (by go_simp) _ rfl rfl (fun w' hw' => hcell w' hw') ?_
          go_frame
          go_big_quiet_step (exact fun _ => rfl)
          go_big_quiet_step (exact fun _ => rfl)
          go_big_quiet_step (exact fun _ => rfl)
          refine wpQuiet_nil ?_
          intro W6 hB6
          have HIN : Hid (i < l2'.length) := hil
          clear hhu hcell hd hx hxm hxu hx0 hx1 
          show Exit.then _ _ Exit.normal _ _
          simp only [Exit.then]
          go_at_K
          go_wp2_with fail
          exact ⟨⟨i + 1, by simp, by have := HIN.out; omega, hBr.trans (hB6.mono hBr.size)⟩, by have := HIN.out; simp [intOf]; omega⟩
      · have hd : decide (0 ≤ x ∧ x ≤ 2147483647) = false := by simp [hx0]
        rw [hd] at hhu
        go_wp2_with fail
        have hx0f : decide (0 ≤ x) = false := decide_eq_false (by omega)
        refine wp_region_class (fun w' => Below wr.heap.size wr w') mixedP (by kernel_rfl) (Below.refl _ _).drew ?_
        go_big_quiet_step (exact fun _ => rfl)
        go_big_quiet_step (exact fun _ => rfl)
        go_big_quiet_step (exact fun _ => rfl)
        go_big_quiet_step (exact fun _ => rfl)
        refine wpQ_ldIw (by go_simp) _ rfl rfl (fun w' hw' => hcell w' hw') ?_
        go_frame
        refine wpQ_call (by go_simp) 24 #[.pointer (some ⟨bu, 0, none⟩), .int .i64 x] (fun _ => by go_simp) (.bool false) (fun w5 h5 => hhu w5 h5) ?_
        go_frame
        go_big_quiet_step (exact fun _ => rfl)
        go_big_quiet_step (exact fun _ => rfl)
        go_big_quiet_step (exact fun _ => rfl)
        refine wpQ_ldIw (by go_simp) _ rfl rfl (fun w' hw' => hcell w' hw') ?_
        go_frame
        go_big_quiet_step (exact fun _ => rfl)
        go_big_quiet_step (exact fun _ => rfl)
        go_big_quiet_step (exact fun _ => rfl)
        go_big_quiet_step (exact fun _ => rfl)
        go_big_quiet_step (exact fun _ => rfl)
        go_big_quiet_step (exact fun _ => rfl)
        go_big_quiet_step (exact fun _ => rfl)
        go_big_quiet_step (exact fun _ => rfl)
        go_big_quiet_step (exact fun _ => rfl)
        refine wpQuiet_nil ?_
        intro W6 hB6
        have HIN : Hid (i < l2'.length) := hil
        clear hhu hcell hd hx hxm hxu hx0 
        show Exit.then _ _ Exit.normal _ _
        simp only [Exit.then]
        go_at_K
        go_wp2_with fail
        exact ⟨⟨i + 1, by simp, by have := HIN.out; omega, hBr.trans (hB6.mono hBr.size)⟩, by have := HIN.out; simp [intOf]; omega⟩
    · have hili : ¬ (i : Int) < 300 := by omega
      obtain rfl : i = l2'.length := by omega
      replace hu9 := hu9.below hBr
      replace hs9 := hs9.below hBr
      replace ht9 := ht9.below hBr
      replace hv9 := hv9.below hBr
      replace hB9w := hB9w.trans (hBr.mono hB9w.size)
      clear hBr HASV hv9' hr2' hi hil
      generalize wr = wD at *
      go_wp2_with fail
      go_loopw [14] (fun y wr => ∃ i : Nat, y = .int .i64 (i : Nat) ∧ i ≤ l2.length ∧ Below wD.heap.size wD wr) (fun y _ => l2.length - (intOf y).toNat)
      case atStart => exact ⟨0, rfl, Nat.zero_le _, Below.refl _ _⟩
      case round =>
        obtain ⟨i, rfl, hi, hBr⟩ := hrel
        by_cases hil : i < l2.length
        · have hili : (i : Int) < n := by omega
          have hilc : (i : Int) < c := by omega
          have hi0 : (0 : Int) ≤ i := by omega
          obtain ⟨x, hx⟩ : ∃ x, l2[i]? = some x := ⟨_, List.getElem?_eq_getElem hil⟩
          have hxm := List.mem_of_getElem? hx
          have hxu := hr2 x hxm
          obtain ⟨gL, oL, hpL, hcl⟩ := hv9.at hil
          have hcell : ∀ W, Below wr.heap.size wr W → W.cell? ⟨gL, oL + i, none⟩ = some (.int .i64 x) := fun W hB => (hB.cell (p := ⟨gL, oL + i, none⟩) (World.block_lt_of_cell? _ _ ((hBr.cell (p := ⟨gL, oL + i, none⟩) (World.block_lt_of_cell? _ _ (hcl i x hx))).trans (hcl i x hx)))).trans ((hBr.cell (p := ⟨gL, oL + i, none⟩) (World.block_lt_of_cell? _ _ (hcl i x hx))).trans (hcl i x hx))
          have hhu : ∀ W, Below wr.heap.size wr W → Calls Try.prog 24 #[.pointer (some ⟨bu, 0, none⟩), .int .i64 x] W fun e w' => e = .returned (.bool (decide (0 ≤ x ∧ x ≤ 2147483647))) ∧ Below wr.heap.size wr w' := fun W hB => by
            have := has5_any ((hu9.below hBr).below hB).view x hxu
            rw [HASU x hxm] at this
            exact this.mono fun e w' ⟨h1, h2⟩ => ⟨h1, hB.trans (h2.mono hB.size)⟩
          have hhs : ∀ W, Below wr.heap.size wr W → Calls Try.prog 24 #[.pointer (some ⟨bs, 0, none⟩), .int .i64 x] W fun e w' => e = .returned (.bool (decide (0 ≤ x ∧ x ≤ 2147483647))) ∧ Below wr.heap.size wr w' := fun W hB => by
            have := has5_any ((hs9.below hBr).below hB).view x hxu
            rw [HASS x hxm] at this
            exact this.mono fun e w' ⟨h1, h2⟩ => ⟨h1, hB.trans (h2.mono hB.size)⟩
          clear hcl
          cases hpL
          by_cases hx0 : 0 ≤ x
          · by_cases hx1 : x ≤ 2147483647
            · have hd : decide (0 ≤ x ∧ x ≤ 2147483647) = true := by simp [hx0, hx1]
              rw [hd] at hhu hhs
              go_wp2_with fail
              have hx1f : decide (x ≤ 2147483647) = true := decide_eq_true (by omega)
              refine wp_region_class (fun w' => Below wr.heap.size wr w') mixedP (by kernel_rfl) (Below.refl _ _).drew ?_
              go_big_quiet_step (exact fun _ => rfl)
              go_big_quiet_step (exact fun _ => rfl)
              go_big_quiet_step (exact fun _ => rfl)
              go_big_quiet_step (exact fun _ => rfl)
              refine wpQ_ldIw (by go_simp) _ rfl rfl (fun w' hw' => hcell w' hw') ?_
              go_frame
              refine wpQ_call (by go_simp) 24 #[.pointer (some ⟨bu, 0, none⟩), .int .i64 x] (fun _ => by go_simp) (.bool true) (fun w5 h5 => hhu w5 h5) ?_
              go_frame
              go_big_quiet_step (exact fun _ => rfl)
              go_big_quiet_step (exact fun _ => rfl)
              go_big_quiet_step (exact fun _ => rfl)
              go_big_quiet_step (exact fun _ => rfl)
              refine wpQ_ldIw (by go_simp) _ rfl rfl (fun w' hw' => hcell w' hw') ?_
              go_frame
              refine wpQ_call (by go_simp) 24 #[.pointer (some ⟨bs, 0, none⟩), .int .i64 x] (fun _ => by go_simp) (.bool true) (fun w5 h5 => hhs w5 h5) ?_
              go_frame
              go_big_quiet_step (exact fun _ => rfl)
              go_big_quiet_step (exact fun _ => rfl)
              go_big_quiet_step (exact fun _ => rfl)
              go_big_quiet_step (exact fun _ => rfl)
              go_big_quiet_step (exact fun _ => rfl)
              go_big_quiet_step (exact fun _ => rfl)
              refine wpQ_ldIw (by go_simp) _ rfl rfl (fun w' hw' => hcell w' hw') ?_
              go_frame
              refine wpQ_call (by go_simp) 24 #[.pointer (some ⟨bs, 0, none⟩), .int .i64 x] (fun _ => by go_simp) (.bool true) (fun w5 h5 => hhs w5 h5) ?_
              go_frame
              go_big_quiet_step (exact fun _ => rfl)
              go_big_quiet_step (exact fun _ => rfl)
              go_big_quiet_step (exact fun _ => rfl)
              refine wpQ_ldIw (by go_simp) _ rfl rfl (fun w' hw' => hcell w' hw') ?_
              go_frame
              go_big_quiet_step (exact fun _ => rfl)
              go_big_quiet_step (exact fun _ => rfl)
              go_big_quiet_step (exact fun _ => rfl)
              go_big_quiet_step (exact fun _ => rfl)
              go_big_quiet_step (exact fun _ => rfl)
              refine wpQ_ldIw (by go_simp) _ rfl rfl (fun w' hw' => hcell w' hw') ?_
              go_frame
              go_big_quiet_step (exact fun _ => rfl)
              go_big_quiet_step (exact fun _ => rfl)
              go_big_quiet_step (exact fun _ => rfl)
              go_big_quiet_step (exact fun _ => rfl)
              refine wpQuiet_nil ?_
              intro W6 hB6
              have HIN : Hid (i < l2.length) := hil
              clear hhu hhs hcell hd hx hxm hxu hx0 hx1 
              show Exit.then _ _ Exit.normal _ _
              simp only [Exit.then]
              go_at_K
              go_wp2_with fail
              exact ⟨⟨i + 1, by simp, by have := HIN.out; omega, hBr.trans (hB6.mono hBr.size)⟩, by have := HIN.out; simp [intOf]; omega⟩
            · have hd : decide (0 ≤ x ∧ x ≤ 2147483647) = false := by simp [hx1]
              rw [hd] at hhu hhs
              go_wp2_with fail
              have hx1f : decide (x ≤ 2147483647) = false := decide_eq_false (by omega)
              refine wp_region_class (fun w' => Below wr.heap.size wr w') mixedP (by kernel_rfl) (Below.refl _ _).drew ?_
              go_big_quiet_step (exact fun _ => rfl)
              go_big_quiet_step (exact fun _ => rfl)
              go_big_quiet_step (exact fun _ => rfl)
              go_big_quiet_step (exact fun _ => rfl)
              refine wpQ_ldIw (by go_simp) _ rfl rfl (fun w' hw' => hcell w' hw') ?_
              go_frame
              refine wpQ_call (by go_simp) 24 #[.pointer (some ⟨bu, 0, none⟩), .int .i64 x] (fun _ => by go_simp) (.bool false) (fun w5 h5 => hhu w5 h5) ?_
              go_frame
              go_big_quiet_step (exact fun _ => rfl)
              go_big_quiet_step (exact fun _ => rfl)
              go_big_quiet_step (exact fun _ => rfl)
              go_big_quiet_step (exact fun _ => rfl)
              refine wpQ_ldIw (by go_simp) _ rfl rfl (fun w' hw' => hcell w' hw') ?_
              go_frame
              refine wpQ_call (by go_simp) 24 #[.pointer (some ⟨bs, 0, none⟩), .int .i64 x] (fun _ => by go_simp) (.bool false) (fun w5 h5 => hhs w5 h5) ?_
              go_frame
              go_big_quiet_step (exact fun _ => rfl)
              go_big_quiet_step (exact fun _ => rfl)
              go_big_quiet_step (exact fun _ => rfl)
              go_big_quiet_step (exact fun _ => rfl)
              go_big_quiet_step (exact fun _ => rfl)
              go_big_quiet_step (exact fun _ => rfl)
              refine wpQ_ldIw (by go_simp) _ rfl rfl (fun w' hw' => hcell w' hw') ?_
              go_frame
              refine wpQ_call (by go_simp) 24 #[.pointer (some ⟨bs, 0, none⟩), .int .i64 x] (fun _ => by go_simp) (.bool false) (fun w5 h5 => hhs w5 h5) ?_
              go_frame
              go_big_quiet_step (exact fun _ => rfl)
              go_big_quiet_step (exact fun _ => rfl)
              go_big_quiet_step (exact fun _ => rfl)
              refine wpQ_ldIw (by go_simp) _ rfl rfl (fun w' hw' => hcell w' hw') ?_
              go_frame
              go_big_quiet_step (exact fun _ => rfl)
              go_big_quiet_step (exact fun _ => rfl)
              go_big_quiet_step (exact fun _ => rfl)
              go_big_quiet_step (exact fun _ => rfl)
              go_big_quiet_step (exact fun _ => rfl)
              refine wpQ_ldIw (by go_simp) _ rfl rfl (fun w' hw' => hcell w' hw') ?_
              go_frame
              go_big_quiet_step (exact fun _ => rfl)
              go_big_quiet_step (exact fun _ => rfl)
              go_big_quiet_step (exact fun _ => rfl)
              go_big_quiet_step (exact fun _ => rfl)
              refine wpQuiet_nil ?_
              intro W6 hB6
              have HIN : Hid (i < l2.length) := hil
              clear hhu hhs hcell hd hx hxm hxu hx0 hx1 
              show Exit.then _ _ Exit.normal _ _
              simp only [Exit.then]
              go_at_K
              go_wp2_with fail
              exact ⟨⟨i + 1, by simp, by have := HIN.out; omega, hBr.trans (hB6.mono hBr.size)⟩, by have := HIN.out; simp [intOf]; omega⟩
          · have hd : decide (0 ≤ x ∧ x ≤ 2147483647) = false := by simp [hx0]
            rw [hd] at hhu hhs
            go_wp2_with fail
            have hx0f : decide (0 ≤ x) = false := decide_eq_false (by omega)
            refine wp_region_class (fun w' => Below wr.heap.size wr w') mixedP (by kernel_rfl) (Below.refl _ _).drew ?_
            go_big_quiet_step (exact fun _ => rfl)
            go_big_quiet_step (exact fun _ => rfl)
            go_big_quiet_step (exact fun _ => rfl)
            go_big_quiet_step (exact fun _ => rfl)
            refine wpQ_ldIw (by go_simp) _ rfl rfl (fun w' hw' => hcell w' hw') ?_
            go_frame
            refine wpQ_call (by go_simp) 24 #[.pointer (some ⟨bu, 0, none⟩), .int .i64 x] (fun _ => by go_simp) (.bool false) (fun w5 h5 => hhu w5 h5) ?_
            go_frame
            go_big_quiet_step (exact fun _ => rfl)
            go_big_quiet_step (exact fun _ => rfl)
            go_big_quiet_step (exact fun _ => rfl)
            go_big_quiet_step (exact fun _ => rfl)
            refine wpQ_ldIw (by go_simp) _ rfl rfl (fun w' hw' => hcell w' hw') ?_
            go_frame
            refine wpQ_call (by go_simp) 24 #[.pointer (some ⟨bs, 0, none⟩), .int .i64 x] (fun _ => by go_simp) (.bool false) (fun w5 h5 => hhs w5 h5) ?_
            go_frame
            go_big_quiet_step (exact fun _ => rfl)
            go_big_quiet_step (exact fun _ => rfl)
            go_big_quiet_step (exact fun _ => rfl)
            go_big_quiet_step (exact fun _ => rfl)
            go_big_quiet_step (exact fun _ => rfl)
            go_big_quiet_step (exact fun _ => rfl)
            refine wpQ_ldIw (by go_simp) _ rfl rfl (fun w' hw' => hcell w' hw') ?_
            go_frame
            refine wpQ_call (by go_simp) 24 #[.pointer (some ⟨bs, 0, none⟩), .int .i64 x] (fun _ => by go_simp) (.bool false) (fun w5 h5 => hhs w5 h5) ?_
            go_frame
            go_big_quiet_step (exact fun _ => rfl)
            go_big_quiet_step (exact fun _ => rfl)
            go_big_quiet_step (exact fun _ => rfl)
            refine wpQ_ldIw (by go_simp) _ rfl rfl (fun w' hw' => hcell w' hw') ?_
            go_frame
            go_big_quiet_step (exact fun _ => rfl)
            go_big_quiet_step (exact fun _ => rfl)
            go_big_quiet_step (exact fun _ => rfl)
            go_big_quiet_step (exact fun _ => rfl)
            go_big_quiet_step (exact fun _ => rfl)
            go_big_quiet_step (exact fun _ => rfl)
            go_big_quiet_step (exact fun _ => rfl)
            go_big_quiet_step (exact fun _ => rfl)
            go_big_quiet_step (exact fun _ => rfl)
            go_big_quiet_step (exact fun _ => rfl)
            refine wpQuiet_nil ?_
            intro W6 hB6
            have HIN : Hid (i < l2.length) := hil
            clear hhu hhs hcell hd hx hxm hxu hx0 
            show Exit.then _ _ Exit.normal _ _
            simp only [Exit.then]
            go_at_K
            go_wp2_with fail
            exact ⟨⟨i + 1, by simp, by have := HIN.out; omega, hBr.trans (hB6.mono hBr.size)⟩, by have := HIN.out; simp [intOf]; omega⟩
        · have hili : ¬ (i : Int) < n := by omega
          obtain rfl : i = l2.length := by omega
          replace hu9 := hu9.below hBr
          replace hs9 := hs9.below hBr
          replace ht9 := ht9.below hBr
          replace hB9w := hB9w.trans (hBr.mono hB9w.size)
          have hcu := card_uni hA hB
          have hcU := card_le (fun n => A n || B n)
          have hcA := card_le A
          have hcB := card_le B
          by_cases hAB : A = B
          · subst hAB
            obtain rfl : al = true := by rw [← HAL.out]; simp
            have hyE := bytes_any hs9.view
            have hyF0 := fun W hBF => bytes_any (ht9.below (w' := W) hBF).view
            generalize hyA : bytesM A = yA2 at hyE hyF0
            clear hBr HASU HASS hv9 hr2 hi hil hyA hA hB HAL
            generalize wr = wE at *
            go_wp2_with (first
              | (go_at_call 20; refine hyE.mono ?_; rintro e wF ⟨rfl, hBF⟩; clear hyE; have hyF := hyF0 _ hBF; clear hyF0)
              | (go_at_call 20; refine hyF.mono ?_; rintro e wG ⟨rfl, hBG⟩; clear hyF; have hBEG := below_new hBF hBG; have hlG := len_any (hu9.below hBEG).view)
              | (go_at_call 17; refine hlG.mono ?_; rintro e wH ⟨rfl, hBH⟩; clear hlG; have hBEH := below_new hBEG hBH; have hlH := len_any (hs9.below hBEH).view)
              | (go_at_call 17; refine hlH.mono ?_; rintro e wI ⟨rfl, hBI⟩; clear hlH; have hBEI := below_new hBEH hBI; have hlI := len_any (ht9.below hBEI).view)
              | (go_at_call 17; refine hlI.mono ?_; rintro e wJ ⟨rfl, hBJ⟩; clear hlI))
            go_ret
            exact ⟨congrArg (fun b => Ending.returned (Value.bool b)) (decide_eq_true (by have : card (fun n => A n) = card A := rfl; omega)), below_new (below_new hB9w hBEI) hBJ⟩
          · obtain rfl : al = false := by
              rw [← HAL.out]
              exact decide_eq_false fun e => hAB (memFrom_inj hA hB (map_inj e))
            have hbne : ¬ bytesM A = bytesM B := fun e => hAB (bytesM_inj hA hB e)
            have hyE := bytes_any hs9.view
            have hyF0 := fun W hBF => bytes_any (ht9.below (w' := W) hBF).view
            generalize bytesM A = yA2 at hyE hbne
            generalize bytesM B = yB2 at hyF0 hbne
            have hbq : (yA2 == yB2) = false := beq_eq_false_iff_ne.2 hbne
            clear hbne
            clear hBr HASU HASS hv9 hr2 hi hil hA hB HAL hAB
            generalize wr = wE at *
            go_wp2_with (first
              | (go_at_call 20; refine hyE.mono ?_; rintro e wF ⟨rfl, hBF⟩; clear hyE; have hyF := hyF0 _ hBF; clear hyF0)
              | (go_at_call 20; refine hyF.mono ?_; rintro e wG ⟨rfl, hBG⟩; clear hyF; have hBEG := below_new hBF hBG; have hlG := len_any (hu9.below hBEG).view)
              | (go_at_call 17; refine hlG.mono ?_; rintro e wH ⟨rfl, hBH⟩; clear hlG; have hBEH := below_new hBEG hBH; have hlH := len_any (hs9.below hBEH).view)
              | (go_at_call 17; refine hlH.mono ?_; rintro e wI ⟨rfl, hBI⟩; clear hlH; have hBEI := below_new hBEH hBI; have hlI := len_any (ht9.below hBEI).view)
              | (go_at_call 17; refine hlI.mono ?_; rintro e wJ ⟨rfl, hBJ⟩; clear hlI))
            go_ret
            exact ⟨congrArg (fun b => Ending.returned (Value.bool b)) (decide_eq_true (by omega)), below_new (below_new hB9w hBEI) hBJ⟩
set_option maxRecDepth 100000 in
set_option maxHeartbeats 8000000 in
theorem back_walk_nn {w : World} {p : Option Addr} {n c : Nat} {l : List Int} (hv : IntsAt w (.slice p n c) l) (hnc : n ≤ c) (hcm : c ≤ 9223372036854775807) (hr : ∀ x ∈ l, x ≤ 9223372036854775807)
    {p' : Option Addr} {n' c' : Nat} {l' : List Int} (hv' : IntsAt w (.slice p' n' c') l') (hnc' : n' ≤ c') (hcm' : c' ≤ 9223372036854775807) (hr' : ∀ x ∈ l', x ≤ 9223372036854775807) (h2 : ¬ 300 < n) (h2p : ¬ 300 < n') :
    Calls Try.prog 5 #[.slice p n c, .slice p' n' c'] w fun e w' => e = .returned (.bool true) ∧ Below w.heap.size w w' := by
  have haw := awake_any w
  have hlen := hv.len
  have hlen' := hv'.len
  have h2i : ¬ (300 : Int) < n := by omega
  have hv2 := hv
  have hr2 := hr
  have hl2 := hlen
  generalize l = l2 at hv2 hr2 hl2
  have hn2 : l2.length ≤ 300 := by omega
  clear hv hr hlen
  have h2i' : ¬ (300 : Int) < n' := by omega
  have hv2' := hv'
  have hr2' := hr'
  have hl2' := hlen'
  generalize l' = l2' at hv2' hr2' hl2'
  have hn2' : l2'.length ≤ 300 := by omega
  clear hv' hr' hlen'
  have hnw := fun W hB => new_any (hv2.below (w' := W) hB) hr2 (by omega)
  have hnw' := fun W hB => new_any (hv2'.below (w' := W) hB) hr2' (by omega)
  have HASS := fun x (h : x ∈ l2) => hasI_of h
  have HASB := fun x (h : x ∈ l2') => hasI_of h
  generalize ofInts l2 = A at hnw HASS
  generalize ofInts l2' = B at hnw' HASB
  go_enter Try.func5, Try.ntmps5
  go_wp2_with (first
    | (go_at_call 9; refine haw.mono ?_; rintro e w1 ⟨rfl, hB1⟩; have hnw1 := hnw w1 hB1; clear hnw)
    | (go_at_call 10; refine hnw1.mono ?_; rintro e w2 ⟨bs, rfl, mos, hs, hbs, hms, hB2⟩; clear hnw1; have hB12 := below_new hB1 hB2; have hnw2 := hnw' w2 hB12; clear hnw')
    | (go_at_call 10; refine hnw2.mono ?_; rintro e w3 ⟨bt, rfl, mot, ht, hbt, hmt, hB3⟩; clear hnw2; have hs3 := hs.below hB3; have hA := hs3.map.bound; have hB := ht.map.bound; have hy3 := bytes_any hs3.view; have hrb := read_back hA; generalize bytesM A = yA at hy3 hrb)
    | (go_at_call 20; refine hy3.mono ?_; rintro e w4 ⟨rfl, hB4⟩; clear hy3; have hs4 := hs3.below hB4; have ht4 := ht.below hB4)
    | (go_at_call 22; refine (hrb _).mono ?_; rintro e w5 ⟨br, rfl, mr, hr5, hbr, hmr, hB5⟩; clear hrb; have hs5 := hs4.below hB5; have ht5 := ht4.below hB5; have hm5 := members_any hs5.view)
    | (go_at_call 19; refine hm5.mono ?_; rintro e w6 ⟨v6, rfl, hrow6, hB6⟩; clear hm5; obtain ⟨p6, c6, rfl, hi6⟩ := hrow6.intsAt; have hs6 := hs5.below hB6; have ht6 := ht5.below hB6; have hr6 := hr5.below hB6; have hm6 := members_any ht6.view)
    | (go_at_call 19; refine hm6.mono ?_; rintro e w7 ⟨v7, rfl, hrow7, hB7⟩; clear hm6; obtain ⟨p7, c7, rfl, hi7⟩ := hrow7.intsAt; have hs7 := hs6.below hB7; have ht7 := ht6.below hB7; have hr7 := hr6.below hB7; have hsm7 := same_any (hi6.below hB7) hi7 (by have := memFrom_len hA 0; omega) (by have := memFrom_len hB 0; omega))
    | (go_at_call 18; refine hsm7.mono ?_; rintro e w8 ⟨rfl, hB8⟩; clear hsm7; have hs8 := hs7.below hB8; have ht8 := ht7.below hB8; have hr8 := hr7.below hB8; have hm8 := members_any hr8.view)
    | (go_at_call 19; refine hm8.mono ?_; rintro e wA ⟨vA, rfl, hrowA, hBA⟩; clear hm8; obtain ⟨pA, cA, rfl, hiA⟩ := hrowA.intsAt; have hsA := hs8.below hBA; have htA := ht8.below hBA; have hmA := members_any hsA.view)
    | (go_at_call 19; refine hmA.mono ?_; rintro e wB ⟨vB, rfl, hrowB, hBB⟩; clear hmA; obtain ⟨pB, cB, rfl, hiB⟩ := hrowB.intsAt; have hsB := hsA.below hBB; have htB := htA.below hBB; have hsmB := same_any (hiA.below hBB) hiB (by have := memFrom_len hA 0; omega) (by have := memFrom_len hA 0; omega); rw [decide_eq_true rfl] at hsmB)
    | (go_at_call 18; refine hsmB.mono ?_; rintro e wC ⟨rfl, hBC⟩; clear hsmB; have hsC := hsB.below hBC; have htC := htB.below hBC; have huC := union_any hsC.view htC.view)
    | (go_at_call 13; refine huC.mono ?_; rintro e w9 ⟨bu, rfl, mu, hu9, hbu, hmu, hB9⟩; clear huC; have hs9 := hsC.below hB9; have ht9 := htC.below hB9))
  have hB9w : Below w.heap.size w w9 := below_new (below_new (below_new (below_new (below_new (below_new (below_new (below_new (below_new (below_new hB12 hB3) hB4) hB5) hB6) hB7) hB8) hBA) hBB) hBC) hB9
  have hv9 := hv2.below hB9w
  have hv9' := hv2'.below hB9w
  have HASU : ∀ x ∈ l2, hasI (fun n => A n || B n) x = decide (0 ≤ x ∧ x ≤ 2147483647) := fun x hx => by
    rw [hasI_uni, HASS x hx]
    by_cases h : 0 ≤ x ∧ x ≤ 2147483647
    · rw [decide_eq_true h, Bool.true_or]
    · rw [decide_eq_false h, hasI_hi hB h]; rfl
  have HASV : ∀ x ∈ l2', hasI (fun n => A n || B n) x = decide (0 ≤ x ∧ x ≤ 2147483647) := fun x hx => by
    rw [hasI_uni, HASB x hx]
    by_cases h : 0 ≤ x ∧ x ≤ 2147483647
    · rw [decide_eq_true h, Bool.or_true]
    · rw [decide_eq_false h, hasI_hi hA h]; rfl
  have HAL0 : ∃ al, decide ((memFrom A 0).map (fun x : Nat => (x : Int)) = (memFrom B 0).map (fun x : Nat => (x : Int))) = al := ⟨_, rfl⟩
  obtain ⟨al, hal⟩ := HAL0
  rw [hal]
  have HAL : Hid (decide ((memFrom A 0).map (fun x : Nat => (x : Int)) = (memFrom B 0).map (fun x : Nat => (x : Int))) = al) := hal
  clear hal hi6 hrow6 hi7 hrow7 hiA hrowA hiB hrowB hs3 hs4 hs5 hs6 hs7 hs8 hsA hsB hsC ht4 ht5 ht6 ht7 ht8 htA htB htC hr5 hr6 hr7 hr8 hs ht hB1 hB2 hB12 hB3 hB4 hB5 hB6 hB7 hB8 hBA hBB hBC hB9 hv2 hv2' hbs hms hbt hmt hbr hmr hbu hmu HASB haw
  go_loopw [13] (fun y wr => ∃ i : Nat, y = .int .i64 (i : Nat) ∧ i ≤ l2'.length ∧ Below w9.heap.size w9 wr) (fun y _ => l2'.length - (intOf y).toNat)
  case atStart => exact ⟨0, rfl, Nat.zero_le _, Below.refl _ _⟩
  case round =>
    obtain ⟨i, rfl, hi, hBr⟩ := hrel
    by_cases hil : i < l2'.length
    · have hili : (i : Int) < n' := by omega
      have hilc : (i : Int) < c' := by omega
      have hi0 : (0 : Int) ≤ i := by omega
      obtain ⟨x, hx⟩ : ∃ x, l2'[i]? = some x := ⟨_, List.getElem?_eq_getElem hil⟩
      have hxm := List.mem_of_getElem? hx
      have hxu := hr2' x hxm
      obtain ⟨gL, oL, hpL, hcl⟩ := hv9'.at hil
      have hcell : ∀ W, Below wr.heap.size wr W → W.cell? ⟨gL, oL + i, none⟩ = some (.int .i64 x) := fun W hB => (hB.cell (p := ⟨gL, oL + i, none⟩) (World.block_lt_of_cell? _ _ ((hBr.cell (p := ⟨gL, oL + i, none⟩) (World.block_lt_of_cell? _ _ (hcl i x hx))).trans (hcl i x hx)))).trans ((hBr.cell (p := ⟨gL, oL + i, none⟩) (World.block_lt_of_cell? _ _ (hcl i x hx))).trans (hcl i x hx))
      have hhu : ∀ W, Below wr.heap.size wr W → Calls Try.prog 24 #[.pointer (some ⟨bu, 0, none⟩), .int .i64 x] W fun e w' => e = .returned (.bool (decide (0 ≤ x ∧ x ≤ 2147483647))) ∧ Below wr.heap.size wr w' := fun W hB => by
        have := has5_any ((hu9.below hBr).below hB).view x hxu
        rw [HASV x hxm] at this
        exact this.mono fun e w' ⟨h1, h2⟩ => ⟨h1, hB.trans (h2.mono hB.size)⟩
      clear hcl
      cases hpL
      by_cases hx0 : 0 ≤ x
      · by_cases hx1 : x ≤ 2147483647
        · have hd : decide (0 ≤ x ∧ x ≤ 2147483647) = true := by simp [hx0, hx1]
          rw [hd] at hhu
          go_wp2_with fail
          have hx1f : decide (x ≤ 2147483647) = true := decide_eq_true (by omega)
          refine wp_region_class (fun w' => Below wr.heap.size wr w') mixedP (by kernel_rfl) (Below.refl _ _).drew ?_
          go_big_quiet_step (exact fun _ => rfl)
          go_big_quiet_step (exact fun _ => rfl)
          go_big_quiet_step (exact fun _ => rfl)
          go_big_quiet_step (exact fun _ => rfl)
          refine wpQ_ldIw (by go_simp) _ rfl rfl (fun w' hw' => hcell w' hw') ?_
          go_frame
          refine wpQ_call (by go_simp) 24 #[.pointer (some ⟨bu, 0, none⟩), .int .i64 x] (fun _ => by go_simp) (.bool true) (fun w5 h5 => hhu w5 h5) ?_
          go_frame
          go_big_quiet_step (exact fun _ => rfl)
          go_big_quiet_step (exact fun _ => rfl)
          go_big_quiet_step (exact fun _ => rfl)
          refine wpQ_ldIw (by go_simp) _ rfl rfl (fun w' hw' => hcell w' hw') ?_
          go_frame
          go_big_quiet_step (exact fun _ => rfl)
          go_big_quiet_step (exact fun _ => rfl)
          go_big_quiet_step (exact fun _ => rfl)
          go_big_quiet_step (exact fun _ => rfl)
          go_big_quiet_step (exact fun _ => rfl)
          refine wpQ_ldIw (by go_simp) _ rfl rfl (fun w' hw' => hcell w' hw') ?_
          go_frame
          go_big_quiet_step (exact fun _ => rfl)
          go_big_quiet_step (exact fun _ => rfl)
          go_big_quiet_step (exact fun _ => rfl)
          refine wpQuiet_nil ?_
          intro W6 hB6
          have HIN : Hid (i < l2'.length) := hil
          clear hhu hcell hd hx hxm hxu hx0 hx1 
          show Exit.then _ _ Exit.normal _ _
          simp only [Exit.then]
          go_at_K
          go_wp2_with fail
          exact ⟨⟨i + 1, by simp, by have := HIN.out; omega, hBr.trans (hB6.mono hBr.size)⟩, by have := HIN.out; simp [intOf]; omega⟩
        · have hd : decide (0 ≤ x ∧ x ≤ 2147483647) = false := by simp [hx1]
          rw [hd] at hhu
          go_wp2_with fail
          have hx1f : decide (x ≤ 2147483647) = false := decide_eq_false (by omega)
          refine wp_region_class (fun w' => Below wr.heap.size wr w') mixedP (by kernel_rfl) (Below.refl _ _).drew ?_
          go_big_quiet_step (exact fun _ => rfl)
          go_big_quiet_step (exact fun _ => rfl)
          go_big_quiet_step (exact fun _ => rfl)
          go_big_quiet_step (exact fun _ => rfl)
          refine wpQ_ldIw (by go_simp) _ rfl rfl (fun w' hw' => hcell w' hw') ?_
          go_frame
          refine wpQ_call (by go_simp) 24 #[.pointer (some ⟨bu, 0, none⟩), .int .i64 x] (fun _ => by go_simp) (.bool false) (fun w5 h5 => hhu w5 h5) ?_
          go_frame
          go_big_quiet_step (exact fun _ => rfl)
          go_big_quiet_step (exact fun _ => rfl)
          go_big_quiet_step (exact fun _ => rfl)
          refine wpQ_ldIw (by go_simp) _ rfl rfl (fun w' hw' => hcell w' hw') ?_
          go_frame
          go_big_quiet_step (exact fun _ => rfl)
          go_big_quiet_step (exact fun _ => rfl)
          go_big_quiet_step (exact fun _ => rfl)
          go_big_quiet_step (exact fun _ => rfl)
          go_big_quiet_step (exact fun _ => rfl)
          refine wpQ_ldIw (by go_simp) _ rfl rfl (fun w' hw' => hcell w' hw') ?_
          go_frame
          go_big_quiet_step (exact fun _ => rfl)
          go_big_quiet_step (exact fun _ => rfl)
          go_big_quiet_step (exact fun _ => rfl)
          refine wpQuiet_nil ?_
          intro W6 hB6
          have HIN : Hid (i < l2'.length) := hil
          clear hhu hcell hd hx hxm hxu hx0 hx1 
          show Exit.then _ _ Exit.normal _ _
          simp only [Exit.then]
          go_at_K
          go_wp2_with fail
          exact ⟨⟨i + 1, by simp, by have := HIN.out; omega, hBr.trans (hB6.mono hBr.size)⟩, by have := HIN.out; simp [intOf]; omega⟩
      · have hd : decide (0 ≤ x ∧ x ≤ 2147483647) = false := by simp [hx0]
        rw [hd] at hhu
        go_wp2_with fail
        have hx0f : decide (0 ≤ x) = false := decide_eq_false (by omega)
        refine wp_region_class (fun w' => Below wr.heap.size wr w') mixedP (by kernel_rfl) (Below.refl _ _).drew ?_
        go_big_quiet_step (exact fun _ => rfl)
        go_big_quiet_step (exact fun _ => rfl)
        go_big_quiet_step (exact fun _ => rfl)
        go_big_quiet_step (exact fun _ => rfl)
        refine wpQ_ldIw (by go_simp) _ rfl rfl (fun w' hw' => hcell w' hw') ?_
        go_frame
        refine wpQ_call (by go_simp) 24 #[.pointer (some ⟨bu, 0, none⟩), .int .i64 x] (fun _ => by go_simp) (.bool false) (fun w5 h5 => hhu w5 h5) ?_
        go_frame
        go_big_quiet_step (exact fun _ => rfl)
        go_big_quiet_step (exact fun _ => rfl)
        go_big_quiet_step (exact fun _ => rfl)
        refine wpQ_ldIw (by go_simp) _ rfl rfl (fun w' hw' => hcell w' hw') ?_
        go_frame
        go_big_quiet_step (exact fun _ => rfl)
        go_big_quiet_step (exact fun _ => rfl)
        go_big_quiet_step (exact fun _ => rfl)
        go_big_quiet_step (exact fun _ => rfl)
        go_big_quiet_step (exact fun _ => rfl)
        go_big_quiet_step (exact fun _ => rfl)
        go_big_quiet_step (exact fun _ => rfl)
        go_big_quiet_step (exact fun _ => rfl)
        go_big_quiet_step (exact fun _ => rfl)
        refine wpQuiet_nil ?_
        intro W6 hB6
        have HIN : Hid (i < l2'.length) := hil
        clear hhu hcell hd hx hxm hxu hx0 
        show Exit.then _ _ Exit.normal _ _
        simp only [Exit.then]
        go_at_K
        go_wp2_with fail
        exact ⟨⟨i + 1, by simp, by have := HIN.out; omega, hBr.trans (hB6.mono hBr.size)⟩, by have := HIN.out; simp [intOf]; omega⟩
    · have hili : ¬ (i : Int) < n' := by omega
      obtain rfl : i = l2'.length := by omega
      replace hu9 := hu9.below hBr
      replace hs9 := hs9.below hBr
      replace ht9 := ht9.below hBr
      replace hv9 := hv9.below hBr
      replace hB9w := hB9w.trans (hBr.mono hB9w.size)
      clear hBr HASV hv9' hr2' hi hil
      generalize wr = wD at *
      go_wp2_with fail
      go_loopw [14] (fun y wr => ∃ i : Nat, y = .int .i64 (i : Nat) ∧ i ≤ l2.length ∧ Below wD.heap.size wD wr) (fun y _ => l2.length - (intOf y).toNat)
      case atStart => exact ⟨0, rfl, Nat.zero_le _, Below.refl _ _⟩
      case round =>
        obtain ⟨i, rfl, hi, hBr⟩ := hrel
        by_cases hil : i < l2.length
        · have hili : (i : Int) < n := by omega
          have hilc : (i : Int) < c := by omega
          have hi0 : (0 : Int) ≤ i := by omega
          obtain ⟨x, hx⟩ : ∃ x, l2[i]? = some x := ⟨_, List.getElem?_eq_getElem hil⟩
          have hxm := List.mem_of_getElem? hx
          have hxu := hr2 x hxm
          obtain ⟨gL, oL, hpL, hcl⟩ := hv9.at hil
          have hcell : ∀ W, Below wr.heap.size wr W → W.cell? ⟨gL, oL + i, none⟩ = some (.int .i64 x) := fun W hB => (hB.cell (p := ⟨gL, oL + i, none⟩) (World.block_lt_of_cell? _ _ ((hBr.cell (p := ⟨gL, oL + i, none⟩) (World.block_lt_of_cell? _ _ (hcl i x hx))).trans (hcl i x hx)))).trans ((hBr.cell (p := ⟨gL, oL + i, none⟩) (World.block_lt_of_cell? _ _ (hcl i x hx))).trans (hcl i x hx))
          have hhu : ∀ W, Below wr.heap.size wr W → Calls Try.prog 24 #[.pointer (some ⟨bu, 0, none⟩), .int .i64 x] W fun e w' => e = .returned (.bool (decide (0 ≤ x ∧ x ≤ 2147483647))) ∧ Below wr.heap.size wr w' := fun W hB => by
            have := has5_any ((hu9.below hBr).below hB).view x hxu
            rw [HASU x hxm] at this
            exact this.mono fun e w' ⟨h1, h2⟩ => ⟨h1, hB.trans (h2.mono hB.size)⟩
          have hhs : ∀ W, Below wr.heap.size wr W → Calls Try.prog 24 #[.pointer (some ⟨bs, 0, none⟩), .int .i64 x] W fun e w' => e = .returned (.bool (decide (0 ≤ x ∧ x ≤ 2147483647))) ∧ Below wr.heap.size wr w' := fun W hB => by
            have := has5_any ((hs9.below hBr).below hB).view x hxu
            rw [HASS x hxm] at this
            exact this.mono fun e w' ⟨h1, h2⟩ => ⟨h1, hB.trans (h2.mono hB.size)⟩
          clear hcl
          cases hpL
          by_cases hx0 : 0 ≤ x
          · by_cases hx1 : x ≤ 2147483647
            · have hd : decide (0 ≤ x ∧ x ≤ 2147483647) = true := by simp [hx0, hx1]
              rw [hd] at hhu hhs
              go_wp2_with fail
              have hx1f : decide (x ≤ 2147483647) = true := decide_eq_true (by omega)
              refine wp_region_class (fun w' => Below wr.heap.size wr w') mixedP (by kernel_rfl) (Below.refl _ _).drew ?_
              go_big_quiet_step (exact fun _ => rfl)
              go_big_quiet_step (exact fun _ => rfl)
              go_big_quiet_step (exact fun _ => rfl)
              go_big_quiet_step (exact fun _ => rfl)
              refine wpQ_ldIw (by go_simp) _ rfl rfl (fun w' hw' => hcell w' hw') ?_
              go_frame
              refine wpQ_call (by go_simp) 24 #[.pointer (some ⟨bu, 0, none⟩), .int .i64 x] (fun _ => by go_simp) (.bool true) (fun w5 h5 => hhu w5 h5) ?_
              go_frame
              go_big_quiet_step (exact fun _ => rfl)
              go_big_quiet_step (exact fun _ => rfl)
              go_big_quiet_step (exact fun _ => rfl)
              go_big_quiet_step (exact fun _ => rfl)
              refine wpQ_ldIw (by go_simp) _ rfl rfl (fun w' hw' => hcell w' hw') ?_
              go_frame
              refine wpQ_call (by go_simp) 24 #[.pointer (some ⟨bs, 0, none⟩), .int .i64 x] (fun _ => by go_simp) (.bool true) (fun w5 h5 => hhs w5 h5) ?_
              go_frame
              go_big_quiet_step (exact fun _ => rfl)
              go_big_quiet_step (exact fun _ => rfl)
              go_big_quiet_step (exact fun _ => rfl)
              go_big_quiet_step (exact fun _ => rfl)
              go_big_quiet_step (exact fun _ => rfl)
              go_big_quiet_step (exact fun _ => rfl)
              refine wpQ_ldIw (by go_simp) _ rfl rfl (fun w' hw' => hcell w' hw') ?_
              go_frame
              refine wpQ_call (by go_simp) 24 #[.pointer (some ⟨bs, 0, none⟩), .int .i64 x] (fun _ => by go_simp) (.bool true) (fun w5 h5 => hhs w5 h5) ?_
              go_frame
              go_big_quiet_step (exact fun _ => rfl)
              go_big_quiet_step (exact fun _ => rfl)
              go_big_quiet_step (exact fun _ => rfl)
              refine wpQ_ldIw (by go_simp) _ rfl rfl (fun w' hw' => hcell w' hw') ?_
              go_frame
              go_big_quiet_step (exact fun _ => rfl)
              go_big_quiet_step (exact fun _ => rfl)
              go_big_quiet_step (exact fun _ => rfl)
              go_big_quiet_step (exact fun _ => rfl)
              go_big_quiet_step (exact fun _ => rfl)
              refine wpQ_ldIw (by go_simp) _ rfl rfl (fun w' hw' => hcell w' hw') ?_
              go_frame
              go_big_quiet_step (exact fun _ => rfl)
              go_big_quiet_step (exact fun _ => rfl)
              go_big_quiet_step (exact fun _ => rfl)
              go_big_quiet_step (exact fun _ => rfl)
              refine wpQuiet_nil ?_
              intro W6 hB6
              have HIN : Hid (i < l2.length) := hil
              clear hhu hhs hcell hd hx hxm hxu hx0 hx1 
              show Exit.then _ _ Exit.normal _ _
              simp only [Exit.then]
              go_at_K
              go_wp2_with fail
              exact ⟨⟨i + 1, by simp, by have := HIN.out; omega, hBr.trans (hB6.mono hBr.size)⟩, by have := HIN.out; simp [intOf]; omega⟩
            · have hd : decide (0 ≤ x ∧ x ≤ 2147483647) = false := by simp [hx1]
              rw [hd] at hhu hhs
              go_wp2_with fail
              have hx1f : decide (x ≤ 2147483647) = false := decide_eq_false (by omega)
              refine wp_region_class (fun w' => Below wr.heap.size wr w') mixedP (by kernel_rfl) (Below.refl _ _).drew ?_
              go_big_quiet_step (exact fun _ => rfl)
              go_big_quiet_step (exact fun _ => rfl)
              go_big_quiet_step (exact fun _ => rfl)
              go_big_quiet_step (exact fun _ => rfl)
              refine wpQ_ldIw (by go_simp) _ rfl rfl (fun w' hw' => hcell w' hw') ?_
              go_frame
              refine wpQ_call (by go_simp) 24 #[.pointer (some ⟨bu, 0, none⟩), .int .i64 x] (fun _ => by go_simp) (.bool false) (fun w5 h5 => hhu w5 h5) ?_
              go_frame
              go_big_quiet_step (exact fun _ => rfl)
              go_big_quiet_step (exact fun _ => rfl)
              go_big_quiet_step (exact fun _ => rfl)
              go_big_quiet_step (exact fun _ => rfl)
              refine wpQ_ldIw (by go_simp) _ rfl rfl (fun w' hw' => hcell w' hw') ?_
              go_frame
              refine wpQ_call (by go_simp) 24 #[.pointer (some ⟨bs, 0, none⟩), .int .i64 x] (fun _ => by go_simp) (.bool false) (fun w5 h5 => hhs w5 h5) ?_
              go_frame
              go_big_quiet_step (exact fun _ => rfl)
              go_big_quiet_step (exact fun _ => rfl)
              go_big_quiet_step (exact fun _ => rfl)
              go_big_quiet_step (exact fun _ => rfl)
              go_big_quiet_step (exact fun _ => rfl)
              go_big_quiet_step (exact fun _ => rfl)
              refine wpQ_ldIw (by go_simp) _ rfl rfl (fun w' hw' => hcell w' hw') ?_
              go_frame
              refine wpQ_call (by go_simp) 24 #[.pointer (some ⟨bs, 0, none⟩), .int .i64 x] (fun _ => by go_simp) (.bool false) (fun w5 h5 => hhs w5 h5) ?_
              go_frame
              go_big_quiet_step (exact fun _ => rfl)
              go_big_quiet_step (exact fun _ => rfl)
              go_big_quiet_step (exact fun _ => rfl)
              refine wpQ_ldIw (by go_simp) _ rfl rfl (fun w' hw' => hcell w' hw') ?_
              go_frame
              go_big_quiet_step (exact fun _ => rfl)
              go_big_quiet_step (exact fun _ => rfl)
              go_big_quiet_step (exact fun _ => rfl)
              go_big_quiet_step (exact fun _ => rfl)
              go_big_quiet_step (exact fun _ => rfl)
              refine wpQ_ldIw (by go_simp) _ rfl rfl (fun w' hw' => hcell w' hw') ?_
              go_frame
              go_big_quiet_step (exact fun _ => rfl)
              go_big_quiet_step (exact fun _ => rfl)
              go_big_quiet_step (exact fun _ => rfl)
              go_big_quiet_step (exact fun _ => rfl)
              refine wpQuiet_nil ?_
              intro W6 hB6
              have HIN : Hid (i < l2.length) := hil
              clear hhu hhs hcell hd hx hxm hxu hx0 hx1 
              show Exit.then _ _ Exit.normal _ _
              simp only [Exit.then]
              go_at_K
              go_wp2_with fail
              exact ⟨⟨i + 1, by simp, by have := HIN.out; omega, hBr.trans (hB6.mono hBr.size)⟩, by have := HIN.out; simp [intOf]; omega⟩
          · have hd : decide (0 ≤ x ∧ x ≤ 2147483647) = false := by simp [hx0]
            rw [hd] at hhu hhs
            go_wp2_with fail
            have hx0f : decide (0 ≤ x) = false := decide_eq_false (by omega)
            refine wp_region_class (fun w' => Below wr.heap.size wr w') mixedP (by kernel_rfl) (Below.refl _ _).drew ?_
            go_big_quiet_step (exact fun _ => rfl)
            go_big_quiet_step (exact fun _ => rfl)
            go_big_quiet_step (exact fun _ => rfl)
            go_big_quiet_step (exact fun _ => rfl)
            refine wpQ_ldIw (by go_simp) _ rfl rfl (fun w' hw' => hcell w' hw') ?_
            go_frame
            refine wpQ_call (by go_simp) 24 #[.pointer (some ⟨bu, 0, none⟩), .int .i64 x] (fun _ => by go_simp) (.bool false) (fun w5 h5 => hhu w5 h5) ?_
            go_frame
            go_big_quiet_step (exact fun _ => rfl)
            go_big_quiet_step (exact fun _ => rfl)
            go_big_quiet_step (exact fun _ => rfl)
            go_big_quiet_step (exact fun _ => rfl)
            refine wpQ_ldIw (by go_simp) _ rfl rfl (fun w' hw' => hcell w' hw') ?_
            go_frame
            refine wpQ_call (by go_simp) 24 #[.pointer (some ⟨bs, 0, none⟩), .int .i64 x] (fun _ => by go_simp) (.bool false) (fun w5 h5 => hhs w5 h5) ?_
            go_frame
            go_big_quiet_step (exact fun _ => rfl)
            go_big_quiet_step (exact fun _ => rfl)
            go_big_quiet_step (exact fun _ => rfl)
            go_big_quiet_step (exact fun _ => rfl)
            go_big_quiet_step (exact fun _ => rfl)
            go_big_quiet_step (exact fun _ => rfl)
            refine wpQ_ldIw (by go_simp) _ rfl rfl (fun w' hw' => hcell w' hw') ?_
            go_frame
            refine wpQ_call (by go_simp) 24 #[.pointer (some ⟨bs, 0, none⟩), .int .i64 x] (fun _ => by go_simp) (.bool false) (fun w5 h5 => hhs w5 h5) ?_
            go_frame
            go_big_quiet_step (exact fun _ => rfl)
            go_big_quiet_step (exact fun _ => rfl)
            go_big_quiet_step (exact fun _ => rfl)
            refine wpQ_ldIw (by go_simp) _ rfl rfl (fun w' hw' => hcell w' hw') ?_
            go_frame
            go_big_quiet_step (exact fun _ => rfl)
            go_big_quiet_step (exact fun _ => rfl)
            go_big_quiet_step (exact fun _ => rfl)
            go_big_quiet_step (exact fun _ => rfl)
            go_big_quiet_step (exact fun _ => rfl)
            go_big_quiet_step (exact fun _ => rfl)
            go_big_quiet_step (exact fun _ => rfl)
            go_big_quiet_step (exact fun _ => rfl)
            go_big_quiet_step (exact fun _ => rfl)
            go_big_quiet_step (exact fun _ => rfl)
            refine wpQuiet_nil ?_
            intro W6 hB6
            have HIN : Hid (i < l2.length) := hil
            clear hhu hhs hcell hd hx hxm hxu hx0 
            show Exit.then _ _ Exit.normal _ _
            simp only [Exit.then]
            go_at_K
            go_wp2_with fail
            exact ⟨⟨i + 1, by simp, by have := HIN.out; omega, hBr.trans (hB6.mono hBr.size)⟩, by have := HIN.out; simp [intOf]; omega⟩
        · have hili : ¬ (i : Int) < n := by omega
          obtain rfl : i = l2.length := by omega
          replace hu9 := hu9.below hBr
          replace hs9 := hs9.below hBr
          replace ht9 := ht9.below hBr
          replace hB9w := hB9w.trans (hBr.mono hB9w.size)
          have hcu := card_uni hA hB
          have hcU := card_le (fun n => A n || B n)
          have hcA := card_le A
          have hcB := card_le B
          by_cases hAB : A = B
          · subst hAB
            obtain rfl : al = true := by rw [← HAL.out]; simp
            have hyE := bytes_any hs9.view
            have hyF0 := fun W hBF => bytes_any (ht9.below (w' := W) hBF).view
            generalize hyA : bytesM A = yA2 at hyE hyF0
            clear hBr HASU HASS hv9 hr2 hi hil hyA hA hB HAL
            generalize wr = wE at *
            go_wp2_with (first
              | (go_at_call 20; refine hyE.mono ?_; rintro e wF ⟨rfl, hBF⟩; clear hyE; have hyF := hyF0 _ hBF; clear hyF0)
              | (go_at_call 20; refine hyF.mono ?_; rintro e wG ⟨rfl, hBG⟩; clear hyF; have hBEG := below_new hBF hBG; have hlG := len_any (hu9.below hBEG).view)
              | (go_at_call 17; refine hlG.mono ?_; rintro e wH ⟨rfl, hBH⟩; clear hlG; have hBEH := below_new hBEG hBH; have hlH := len_any (hs9.below hBEH).view)
              | (go_at_call 17; refine hlH.mono ?_; rintro e wI ⟨rfl, hBI⟩; clear hlH; have hBEI := below_new hBEH hBI; have hlI := len_any (ht9.below hBEI).view)
              | (go_at_call 17; refine hlI.mono ?_; rintro e wJ ⟨rfl, hBJ⟩; clear hlI))
            go_ret
            exact ⟨congrArg (fun b => Ending.returned (Value.bool b)) (decide_eq_true (by have : card (fun n => A n) = card A := rfl; omega)), below_new (below_new hB9w hBEI) hBJ⟩
          · obtain rfl : al = false := by
              rw [← HAL.out]
              exact decide_eq_false fun e => hAB (memFrom_inj hA hB (map_inj e))
            have hbne : ¬ bytesM A = bytesM B := fun e => hAB (bytesM_inj hA hB e)
            have hyE := bytes_any hs9.view
            have hyF0 := fun W hBF => bytes_any (ht9.below (w' := W) hBF).view
            generalize bytesM A = yA2 at hyE hbne
            generalize bytesM B = yB2 at hyF0 hbne
            have hbq : (yA2 == yB2) = false := beq_eq_false_iff_ne.2 hbne
            clear hbne
            clear hBr HASU HASS hv9 hr2 hi hil hA hB HAL hAB
            generalize wr = wE at *
            go_wp2_with (first
              | (go_at_call 20; refine hyE.mono ?_; rintro e wF ⟨rfl, hBF⟩; clear hyE; have hyF := hyF0 _ hBF; clear hyF0)
              | (go_at_call 20; refine hyF.mono ?_; rintro e wG ⟨rfl, hBG⟩; clear hyF; have hBEG := below_new hBF hBG; have hlG := len_any (hu9.below hBEG).view)
              | (go_at_call 17; refine hlG.mono ?_; rintro e wH ⟨rfl, hBH⟩; clear hlG; have hBEH := below_new hBEG hBH; have hlH := len_any (hs9.below hBEH).view)
              | (go_at_call 17; refine hlH.mono ?_; rintro e wI ⟨rfl, hBI⟩; clear hlH; have hBEI := below_new hBEH hBI; have hlI := len_any (ht9.below hBEI).view)
              | (go_at_call 17; refine hlI.mono ?_; rintro e wJ ⟨rfl, hBJ⟩; clear hlI))
            go_ret
            exact ⟨congrArg (fun b => Ending.returned (Value.bool b)) (decide_eq_true (by omega)), below_new (below_new hB9w hBEI) hBJ⟩
theorem back_walk {w : World} {p : Option Addr} {n c : Nat} {l : List Int} (hv : IntsAt w (.slice p n c) l) (hnc : n ≤ c) (hcm : c ≤ 9223372036854775807) (hr : ∀ x ∈ l, x ≤ 9223372036854775807)
    {p' : Option Addr} {n' c' : Nat} {l' : List Int} (hv' : IntsAt w (.slice p' n' c') l') (hnc' : n' ≤ c') (hcm' : c' ≤ 9223372036854775807) (hr' : ∀ x ∈ l', x ≤ 9223372036854775807) :
    Calls Try.prog 5 #[.slice p n c, .slice p' n' c'] w fun e w' => e = .returned (.bool true) ∧ Below w.heap.size w w' := by
  by_cases h2 : 300 < n
  · by_cases h3 : 300 < n'
    · exact back_walk_cc hv hnc hcm hr hv' hnc' hcm' hr' h2 h3
    · exact back_walk_cn hv hnc hcm hr hv' hnc' hcm' hr' h2 h3
  · by_cases h3 : 300 < n'
    · exact back_walk_nc hv hnc hcm hr hv' hnc' hcm' hr' h2 h3
    · exact back_walk_nn hv hnc hcm hr hv' hnc' hcm' hr' h2 h3
end Go.Proofs.Ytkbpoplodfihoaa
