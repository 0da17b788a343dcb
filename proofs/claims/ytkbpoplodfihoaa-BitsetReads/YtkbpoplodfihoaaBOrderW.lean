/-
  BitsetOrder's walk.
-/
import Derived.Test.YtkbpoplodfihoaaBAwake
namespace Go.Proofs.Ytkbpoplodfihoaa
open Go Go.RowKit Go.Maps

theorem ofInts_congr {l m : List Int} (h : ∀ x, x ∈ l ↔ x ∈ m) : ofInts l = ofInts m := by
  funext n
  unfold ofInts
  rw [Bool.eq_iff_iff]
  simp [h]
theorem addB_mem {l : List Int} {x : Int} (h : x ∈ l) : addB (ofInts l) x = false := by
  unfold addB ofInts
  by_cases hx : 0 ≤ x ∧ x ≤ 2147483647
  · have : ((x.toNat : Nat) : Int) = x := by omega
    rw [this]
    simp [h]
    omega
  · rw [decide_eq_false hx]; rfl
theorem addM_drop {l : List Int} {k : Nat} {x : Int} (h : l[k]? = some x) : addM (ofInts (l.drop (k + 1))) x = ofInts (l.drop k) := by
  rw [addM_ofInts]
  refine ofInts_congr fun y => ?_
  have hk := (List.getElem?_eq_some_iff.1 h).1
  rw [List.drop_eq_getElem_cons hk]
  rw [List.getElem?_eq_getElem hk] at h
  injection h with h
  rw [h]
  simp [or_comm]
theorem addM_mem {l : List Int} {x : Int} (h : x ∈ l) : addM (ofInts l) x = ofInts l := by
  rw [addM_ofInts]
  refine ofInts_congr fun y => ?_
  simp
  rintro rfl
  exact h

set_option maxRecDepth 8000 in
/-- Add of what is a member, or may be none. -/
theorem add_no {w : World} {b : Nat} {mo : Option Nat} {M : Nat → Bool} (h : SetAt w b mo M) (n : Int) (hn : n ≤ 9223372036854775807) (hno : addB M n = false) :
    Calls Try.prog 16 #[.pointer (some ⟨b, 0, none⟩), .int .i64 n] w fun e w' => e = .returned (.bool false) ∧ Below w.heap.size w w' := by
  by_cases h0 : 0 ≤ n
  · by_cases h1 : n ≤ 2147483647
    · obtain ⟨k, rfl⟩ := Int.eq_ofNat_of_zero_le h0
      have hm : M k = true := by
        unfold addB at hno
        rw [decide_eq_true ⟨h0, h1⟩, Int.toNat_natCast] at hno
        simpa using hno
      have hh := has5_any h.view (k : Int) (by omega)
      rw [hasI_pos, hm] at hh
      have hni : ¬ (k : Int) < 0 := by omega
      have hni2 : ¬ (2147483647 : Int) < k := by omega
      clear hno
      go_enter Try.func16, Try.ntmps16
      go_wp2_with (first
        | (go_at_call 24; refine hh.mono ?_; rintro e w1 ⟨rfl, hB1⟩))
      go_ret
      exact ⟨rfl, hB1⟩
    · have hni : ¬ n < 0 := by omega
      have hni2 : (2147483647 : Int) < n := by omega
      clear hno
      go_enter Try.func16, Try.ntmps16
      go_wp2_with fail
      go_ret
      exact ⟨rfl, Below.refl _ _⟩
  · have hni : n < 0 := by omega
    clear hno
    go_enter Try.func16, Try.ntmps16
    go_wp2_with fail
    go_ret
    exact ⟨rfl, Below.refl _ _⟩

/-- A slice of integers' number. -/
theorem IntsAt.at {w : World} {p : Option Addr} {n c : Nat} {l : List Int} (h : IntsAt w (.slice p n c) l) {i : Nat} (hi : i < l.length) : ∃ b o, p = some ⟨b, o, none⟩ ∧ ∀ j x, l[j]? = some x → w.cell? ⟨b, o + j, none⟩ = some (.int .i64 x) := by
  rcases h with ⟨h, _⟩ | ⟨b, o, c', h1, h2⟩
  · rw [h] at hi; simp at hi
  · injection h1 with e1 e2 e3
    refine ⟨b, o, e1, fun j x hj => ?_⟩
    have hl := (List.getElem?_eq_some_iff.1 hj).1
    rw [h2 j hl, List.getD_eq_getElem?_getD, hj]
    rfl
theorem IntsAt.cut {w : World} {b o n c : Nat} {l : List Int} (h : IntsAt w (.slice (some ⟨b, o, none⟩) n c) l) (k : Nat) (hk : k ≤ l.length) : IntsAt w (.slice (some ⟨b, o, none⟩) k c) (l.take k) := by
  have hlen : (l.take k).length = k := by rw [List.length_take]; omega
  rcases h with ⟨h, _⟩ | ⟨b', o', c', h1, h2⟩
  · subst h
    simp at hk
    subst hk
    exact .inl ⟨by simp, _, _, rfl⟩
  · injection h1 with e1 e2 e3
    injection e1 with e1
    injection e1 with e4 e5
    subst e3 e4 e5
    refine .inr ⟨b, o, c, by rw [hlen], fun i hi => ?_⟩
    rw [hlen] at hi
    rw [h2 i (by omega)]
    simp [List.getD_eq_getElem?_getD, hi]
theorem IntsAt.len {w : World} {p : Option Addr} {n c : Nat} {l : List Int} (h : IntsAt w (.slice p n c) l) : l.length = n := by
  rcases h with ⟨h, p', c', h2⟩ | ⟨b', o', c', h1, h2⟩
  · injection h2 with _ e _; rw [h, e]; rfl
  · injection h1 with _ e _; exact e.symm

set_option maxRecDepth 100000 in
set_option maxHeartbeats 4000000 in
theorem order_walk {w : World} {p : Option Addr} {n c : Nat} {l : List Int} (hv : IntsAt w (.slice p n c) l) (hnc : n ≤ c) (hcm : c ≤ 9223372036854775807) (hr : ∀ x ∈ l, x ≤ 9223372036854775807) (q : Int) (hq : q ≤ 9223372036854775807) :
    Calls Try.prog 7 #[.slice p n c, .int .i64 q] w fun e w' => e = .returned (.bool true) ∧ Below w.heap.size w w' := by
  have haw := awake_any w
  have hlen := hv.len
  by_cases h2 : 200 < n
  · have h2i : (200 : Int) < n := by omega
    have hci : (200 : Int) ≤ c := by omega
    have hcn : 200 ≤ c := by omega
    obtain ⟨b0, o0, rfl, _⟩ := hv.at (i := 0) (by omega)
    have hv2 := hv.cut 200 (by omega)
    have hr2 : ∀ x ∈ l.take 200, x ≤ 9223372036854775807 := fun x hx => hr x (List.mem_of_mem_take hx)
    have hl2 := hv2.len
    generalize l.take 200 = l2 at hv2 hr2 hl2
    clear hv hr hlen
    have hnw := fun W hB => new_any (hv2.below (w' := W) hB) hr2 (by omega)
    have hn0 := fun W => new_any (w := W) (v := .slice none 0 0) (l := []) (.inl ⟨rfl, _, _, rfl⟩) (by simp) (by simp)
    go_enter Try.func7, Try.ntmps7
    go_wp2_with (first
      | (go_at_call 9; refine haw.mono ?_; rintro e w1 ⟨rfl, hB1⟩; have hnw1 := hnw w1 hB1; clear hnw)
      | (go_at_call 10; refine hnw1.mono ?_; rintro e w2 ⟨bs, rfl, mos, hs, hbs, hms, hB2⟩; clear hnw1)
      | (go_at_call 10; refine (hn0 _).mono ?_; rintro e w3 ⟨bt, rfl, mot, ht, hbt, hmt, hB3⟩))
    have hB12 := below_new hB1 hB2
    have hB03 := below_new hB12 hB3
    have hv3 := hv2.below hB03
    go_loopw [8] (fun y wr => ∃ (k : Nat) (mo : Option Nat), y = .int .i64 ((k : Int) - 1) ∧ k ≤ 200 ∧ SetAt wr bt mo (ofInts (l2.drop k)) ∧ (∀ m, mo = some m → w2.heap.size ≤ m) ∧ Below w2.heap.size w2 wr) (fun y _ => (intOf y + 1).toNat)
    case atStart => exact ⟨200, mot, by simp, Nat.le_refl _, by rw [List.drop_of_length_le (by omega)]; exact ht, hmt, hB3⟩
    case round =>
      obtain ⟨k, mo, rfl, hk, htr, hmr, hBr⟩ := hrel
      have hBw := hB12.trans (hBr.mono hB12.size)
      have hvr := hv2.below hBw
      by_cases hk0 : k = 0
      · subst hk0
        have hsr := hs.below hBr
        have hln := len_any hsr.view
        have hcc := card_le (ofInts l2)
        rw [List.drop_zero] at htr
        clear hBr hv3 hnc hcm
        go_wp2_with (first
          | (go_at_call 17; refine hln.mono ?_; rintro e w4 ⟨rfl, hB4⟩))
        have hBw4 := hBw.trans (hB4.mono hBw.size)
        have hs4 := hsr.below hB4
        have ht4 := htr.below hB4
        go_loopw [10] (fun y wq => ∃ i : Nat, y = .int .i64 (i : Nat) ∧ i ≤ 200 ∧ Below w4.heap.size w4 wq) (fun y _ => 200 - (intOf y).toNat)
        case atStart => exact ⟨0, rfl, Nat.zero_le _, Below.refl _ _⟩
        case round =>
          obtain ⟨i, rfl, hi, hBq⟩ := hrel
          have hvq := (hv2.below hBw4).below hBq
          have hsq := hs4.below hBq
          have htq := ht4.below hBq
          by_cases hin : i < 200
          · have hinI : (i : Int) < 200 := by omega
            have hi0 : (0 : Int) ≤ i := by omega
            obtain ⟨b, o, hp, hcell⟩ := hvq.at (i := i) (by omega)
            injection hp with hp; injection hp with hp1 hp2; subst hp1 hp2
            obtain ⟨x, hx⟩ : ∃ x, l2[i]? = some x := ⟨_, List.getElem?_eq_getElem (by omega)⟩
            have hcx := hcell i x hx
            have hxm := List.mem_of_getElem? hx
            have hno := add_no hsq x (hr2 x hxm) (addB_mem hxm)
            clear hcell hx hvq
            go_wp2_with (first
              | (go_at_call 16; refine hno.mono ?_; rintro e w5 ⟨rfl, hB5⟩))
            have hBq5 := hBq.trans (hB5.mono hBq.size)
            go_roundw
            case rel => exact ⟨i + 1, by simp, by omega, hBq5⟩
            case measure => simp [intOf]; omega
          · have hinI : ¬ (i : Int) < 200 := by omega
            have hby := bytes_any hsq.view
            clear hvq
            go_wp2_with (first
              | (go_at_call 20; refine hby.mono ?_; rintro e w6 ⟨rfl, hB6⟩; clear hby; have hby2 := bytes_any (htq.below hB6).view; have hs6 := hsq.below hB6)
              | (go_at_call 20; refine hby2.mono ?_; rintro e w7 ⟨rfl, hB7⟩; have hs7 := hs6.below hB7; have ht7 := (htq.below hB6).below hB7; have hl7 := len_any hs7.view)
              | (go_at_call 17; refine hl7.mono ?_; rintro e w8 ⟨rfl, hB8⟩; have hs8 := hs7.below hB8; have ht8 := ht7.below hB8; have hh8 := has5_any hs8.view q hq)
              | (go_at_call 24; refine hh8.mono ?_; rintro e w9 ⟨rfl, hB9⟩; clear hh8; have hh9 := has5_any (ht8.below hB9).view q hq)
              | (go_at_call 24; refine hh9.mono ?_; rintro e wA ⟨rfl, hBA⟩))
            go_ret
            refine ⟨by simp, ?_⟩
            have e1 := hBw4.trans (hBq.mono hBw4.size)
            exact below_new (below_new (below_new (below_new (below_new e1 hB6) hB7) hB8) hB9) hBA
      · obtain ⟨j, rfl⟩ : ∃ j, k = j + 1 := ⟨k - 1, by omega⟩
        have hjl : j < l2.length := by omega
        have hji : (j : Int) < 200 := by omega
        have hj0 : (0 : Int) ≤ j := by omega
        rw [show (((j + 1 : Nat) : Int) - 1) = j by omega]
        obtain ⟨b, o, hp, hcell⟩ := hvr.at (i := j) hjl
        injection hp with hp; injection hp with hp1 hp2; subst hp1 hp2
        obtain ⟨x, hx⟩ : ∃ x, l2[j]? = some x := ⟨_, List.getElem?_eq_getElem hjl⟩
        have hcx := hcell j x hx
        have hadd := add_any htr x (hr2 x (List.mem_of_getElem? hx))
        rw [addM_drop hx] at hadd
        have HX : Hid (l2[j]? = some x) := hx
        clear hcell hx
        go_wp2_with (first
          | (go_at_call 16; refine hadd.mono ?_; rintro e w5 ⟨rfl, mo5, ht5, hN5, hO5⟩))
        have hB5 : Below w2.heap.size w2 w5 := OnlyS.fresh hBr hO5 hbt hmr
        go_roundw
        case rel => exact ⟨j, mo5, by simp, by omega, ht5, fun m hm => by
          rcases hN5 with e | ⟨m', e, hm'⟩
          · exact hmr m (e ▸ hm)
          · rw [e] at hm; injection hm with hm; have := hBr.size; omega, hB5⟩
        case measure => simp [intOf]
  · have h2i : ¬ (200 : Int) < n := by omega
    have hv2 := hv
    have hr2 := hr
    have hl2 := hlen
    generalize l = l2 at hv2 hr2 hl2
    clear hv hr hlen
    have hnw := fun W hB => new_any (hv2.below (w' := W) hB) hr2 (by omega)
    have hn0 := fun W => new_any (w := W) (v := .slice none 0 0) (l := []) (.inl ⟨rfl, _, _, rfl⟩) (by simp) (by simp)
    go_enter Try.func7, Try.ntmps7
    go_wp2_with (first
      | (go_at_call 9; refine haw.mono ?_; rintro e w1 ⟨rfl, hB1⟩; have hnw1 := hnw w1 hB1; clear hnw)
      | (go_at_call 10; refine hnw1.mono ?_; rintro e w2 ⟨bs, rfl, mos, hs, hbs, hms, hB2⟩; clear hnw1)
      | (go_at_call 10; refine (hn0 _).mono ?_; rintro e w3 ⟨bt, rfl, mot, ht, hbt, hmt, hB3⟩))
    have hB12 := below_new hB1 hB2
    have hB03 := below_new hB12 hB3
    have hv3 := hv2.below hB03
    go_loopw [8] (fun y wr => ∃ (k : Nat) (mo : Option Nat), y = .int .i64 ((k : Int) - 1) ∧ k ≤ n ∧ SetAt wr bt mo (ofInts (l2.drop k)) ∧ (∀ m, mo = some m → w2.heap.size ≤ m) ∧ Below w2.heap.size w2 wr) (fun y _ => (intOf y + 1).toNat)
    case atStart => exact ⟨n, mot, by simp, Nat.le_refl _, by rw [List.drop_of_length_le (by omega)]; exact ht, hmt, hB3⟩
    case round =>
      obtain ⟨k, mo, rfl, hk, htr, hmr, hBr⟩ := hrel
      have hBw := hB12.trans (hBr.mono hB12.size)
      have hvr := hv2.below hBw
      by_cases hk0 : k = 0
      · subst hk0
        have hsr := hs.below hBr
        have hln := len_any hsr.view
        have hcc := card_le (ofInts l2)
        rw [List.drop_zero] at htr
        clear hBr hv3 hnc hcm
        go_wp2_with (first
          | (go_at_call 17; refine hln.mono ?_; rintro e w4 ⟨rfl, hB4⟩))
        have hBw4 := hBw.trans (hB4.mono hBw.size)
        have hs4 := hsr.below hB4
        have ht4 := htr.below hB4
        go_loopw [10] (fun y wq => ∃ i : Nat, y = .int .i64 (i : Nat) ∧ i ≤ n ∧ Below w4.heap.size w4 wq) (fun y _ => n - (intOf y).toNat)
        case atStart => exact ⟨0, rfl, Nat.zero_le _, Below.refl _ _⟩
        case round =>
          obtain ⟨i, rfl, hi, hBq⟩ := hrel
          have hvq := (hv2.below hBw4).below hBq
          have hsq := hs4.below hBq
          have htq := ht4.below hBq
          by_cases hin : i < n
          · have hinI : (i : Int) < n := by omega
            have hi0 : (0 : Int) ≤ i := by omega
            obtain ⟨b, o, hp, hcell⟩ := hvq.at (i := i) (by omega)
            subst hp
            obtain ⟨x, hx⟩ : ∃ x, l2[i]? = some x := ⟨_, List.getElem?_eq_getElem (by omega)⟩
            have hcx := hcell i x hx
            have hxm := List.mem_of_getElem? hx
            have hno := add_no hsq x (hr2 x hxm) (addB_mem hxm)
            clear hcell hx hvq
            go_wp2_with (first
              | (go_at_call 16; refine hno.mono ?_; rintro e w5 ⟨rfl, hB5⟩))
            have hBq5 := hBq.trans (hB5.mono hBq.size)
            go_roundw
            case rel => exact ⟨i + 1, by simp, by omega, hBq5⟩
            case measure => simp [intOf]; omega
          · have hinI : ¬ (i : Int) < n := by omega
            have hby := bytes_any hsq.view
            clear hvq
            go_wp2_with (first
              | (go_at_call 20; refine hby.mono ?_; rintro e w6 ⟨rfl, hB6⟩; clear hby; have hby2 := bytes_any (htq.below hB6).view; have hs6 := hsq.below hB6)
              | (go_at_call 20; refine hby2.mono ?_; rintro e w7 ⟨rfl, hB7⟩; have hs7 := hs6.below hB7; have ht7 := (htq.below hB6).below hB7; have hl7 := len_any hs7.view)
              | (go_at_call 17; refine hl7.mono ?_; rintro e w8 ⟨rfl, hB8⟩; have hs8 := hs7.below hB8; have ht8 := ht7.below hB8; have hh8 := has5_any hs8.view q hq)
              | (go_at_call 24; refine hh8.mono ?_; rintro e w9 ⟨rfl, hB9⟩; clear hh8; have hh9 := has5_any (ht8.below hB9).view q hq)
              | (go_at_call 24; refine hh9.mono ?_; rintro e wA ⟨rfl, hBA⟩))
            go_ret
            refine ⟨by simp, ?_⟩
            have e1 := hBw4.trans (hBq.mono hBw4.size)
            exact below_new (below_new (below_new (below_new (below_new e1 hB6) hB7) hB8) hB9) hBA
      · obtain ⟨j, rfl⟩ : ∃ j, k = j + 1 := ⟨k - 1, by omega⟩
        have hjl : j < l2.length := by omega
        have hji : (j : Int) < n := by omega
        have hj0 : (0 : Int) ≤ j := by omega
        rw [show (((j + 1 : Nat) : Int) - 1) = j by omega]
        obtain ⟨b, o, hp, hcell⟩ := hvr.at (i := j) hjl
        subst hp
        obtain ⟨x, hx⟩ : ∃ x, l2[j]? = some x := ⟨_, List.getElem?_eq_getElem hjl⟩
        have hcx := hcell j x hx
        have hadd := add_any htr x (hr2 x (List.mem_of_getElem? hx))
        rw [addM_drop hx] at hadd
        have HX : Hid (l2[j]? = some x) := hx
        clear hcell hx
        go_wp2_with (first
          | (go_at_call 16; refine hadd.mono ?_; rintro e w5 ⟨rfl, mo5, ht5, hN5, hO5⟩))
        have hB5 : Below w2.heap.size w2 w5 := OnlyS.fresh hBr hO5 hbt hmr
        go_roundw
        case rel => exact ⟨j, mo5, by simp, by omega, ht5, fun m hm => by
          rcases hN5 with e | ⟨m', e, hm'⟩
          · exact hmr m (e ▸ hm)
          · rw [e] at hm; injection hm with hm; have := hBr.size; omega, hB5⟩
        case measure => simp [intOf]
end Go.Proofs.Ytkbpoplodfihoaa
