/-
  BitsetUnions' walk.
-/
import Derived.Test.YtlegabefpgbbiabBInts
import Derived.Test.YtlegabefpgbbiabBUnionW
namespace Go.Proofs.Ytlegabefpgbbiab
open Go Go.RowKit Go.Maps

theorem View.empty {w : World} {s : Value} {M : Nat → Bool} (h : View w s none M) : M = fun _ => false := funext h.map
/-- A set that is none of those that a call has changed. -/
theorem setAt_keep {w w' : World} {b b' : Nat} {mo mo' : Option Nat} {M : Nat → Bool} (h : SetAt w b mo M) (k : OnlyS b' mo' w w') (h1 : b ≠ b') (h2 : mo' ≠ some b) (h3 : ∀ m, mo = some m → m ≠ b' ∧ mo' ≠ some m) : SetAt w' b mo M := by
  refine ⟨?_, MapV.block h.map fun m hm => k.block m (h.map.lt m hm) (h3 m hm).1 (fun e => (h3 m hm).2 e.symm)⟩
  have h4 := h.ptr
  have h5 := h4.lt
  unfold Holds at *
  rw [k.block b h5 h1 (fun e => h2 e.symm)]; exact h4
theorem uni_comm (A B : Nat → Bool) : (fun n => B n || A n) = fun n => A n || B n := by funext n; exact Bool.or_comm _ _
theorem uni_self (A : Nat → Bool) : (fun n => A n || A n) = A := by funext n; exact Bool.or_self _
theorem uni_none (A : Nat → Bool) : (fun n => A n || false) = A := by funext n; exact Bool.or_false _

set_option maxRecDepth 100000 in
set_option maxHeartbeats 4000000 in
theorem unions_walk {w : World} {p : Option Addr} {n c : Nat} {l : List Int} (hv : IntsAt w (.slice p n c) l) (hnc : n ≤ c) (hcm : c ≤ 9223372036854775807) (hr : ∀ x ∈ l, x ≤ 9223372036854775807)
    {p' : Option Addr} {n' c' : Nat} {l' : List Int} (hv' : IntsAt w (.slice p' n' c') l') (hnc' : n' ≤ c') (hcm' : c' ≤ 9223372036854775807) (hr' : ∀ x ∈ l', x ≤ 9223372036854775807) :
    Calls Try.prog 3 #[.slice p n c, .slice p' n' c'] w fun e w' => e = .returned (.bool true) ∧ Below w.heap.size w w' := by
  have haw := awake_any w
  have hlen := hv.len
  have hlen' := hv'.len
  by_cases h2 : 150 < n
  · have h2i : (150 : Int) < n := by omega
    have hci : (150 : Int) ≤ c := by omega
    have hcn : 150 ≤ c := by omega
    obtain ⟨b0, o0, rfl, _⟩ := hv.at (i := 0) (by omega)
    have hv2 := hv.cut 150 (by omega)
    have hr2 : ∀ x ∈ l.take 150, x ≤ 9223372036854775807 := fun x hx => hr x (List.mem_of_mem_take hx)
    have hl2 := hv2.len
    generalize l.take 150 = l2 at hv2 hr2 hl2
    clear hv hr hlen
    by_cases h2' : 150 < n'
    · have h2i' : (150 : Int) < n' := by omega
      have hci' : (150 : Int) ≤ c' := by omega
      have hcn' : 150 ≤ c' := by omega
      obtain ⟨b0', o0', rfl, _⟩ := hv'.at (i := 0) (by omega)
      have hv2' := hv'.cut 150 (by omega)
      have hr2' : ∀ x ∈ l'.take 150, x ≤ 9223372036854775807 := fun x hx => hr' x (List.mem_of_mem_take hx)
      have hl2' := hv2'.len
      generalize l'.take 150 = l2' at hv2' hr2' hl2'
      clear hv' hr' hlen'
      have hnw := fun W hB => new_any (hv2.below (w' := W) hB) hr2 (by omega)
      have hnw' := fun W hB => new_any (hv2'.below (w' := W) hB) hr2' (by omega)
      generalize ofInts l2 = A at hnw
      generalize ofInts l2' = B at hnw'
      go_enter Try.func3, Try.ntmps3
      go_wp2_with (first
        | (go_at_call 4; refine haw.mono ?_; rintro e w1 ⟨rfl, hB1⟩; have hnw1 := hnw w1 hB1; clear hnw)
        | (go_at_call 5; refine hnw1.mono ?_; rintro e w2 ⟨bs, rfl, mos, hs, hbs, hms, hB2⟩; clear hnw1; have hB12 := below_new hB1 hB2; have hnw2 := hnw' w2 hB12; clear hnw')
        | (go_at_call 5; refine hnw2.mono ?_; rintro e w3 ⟨bt, rfl, mot, ht, hbt, hmt, hB3⟩; clear hnw2; have hs3 := hs.below hB3; have hy3 := bytes_any hs3.view)
        | (go_at_call 6; refine hy3.mono ?_; rintro e w4 ⟨rfl, hB4⟩; clear hy3; have hs4 := hs3.below hB4; have ht4 := ht.below hB4; have hy4 := bytes_any ht4.view)
        | (go_at_call 6; refine hy4.mono ?_; rintro e w5 ⟨rfl, hB5⟩; clear hy4; have hs5 := hs4.below hB5; have ht5 := ht4.below hB5; have hu5 := union_any hs5.view ht5.view)
        | (go_at_call 7; refine hu5.mono ?_; rintro e w6 ⟨bu, rfl, mu, hu6, hbu, hmu, hB6⟩; clear hu5; have hs6 := hs5.below hB6; have ht6 := ht5.below hB6; have huv6 := union_any ht6.view hs6.view; rw [uni_comm A B] at huv6)
        | (go_at_call 7; refine huv6.mono ?_; rintro e w7 ⟨bv, rfl, mv, hv7, hbv, hmv, hB7⟩; clear huv6; have hs7 := hs6.below hB7; have ht7 := ht6.below hB7; have hu7 := hu6.below hB7; have huw7 := union_any hs7.view hs7.view; rw [uni_self A] at huw7)
        | (go_at_call 7; refine huw7.mono ?_; rintro e w8 ⟨bw, rfl, mw, hw8, hbw, hmw, hB8⟩; clear huw7; have hs8 := hs7.below hB8; have ht8 := ht7.below hB8; have hu8 := hu7.below hB8; have hv8 := hv7.below hB8; have hux8 := union_any hs8.view (View.nil w8); rw [uni_none A] at hux8)
        | (go_at_call 7; refine hux8.mono ?_; rintro e w9 ⟨bx, rfl, mx, hx9, hbx, hmx, hB9⟩; clear hux8; have hs9 := hs8.below hB9; have ht9 := ht8.below hB9; have hu9 := hu8.below hB9; have hv9 := hv8.below hB9; have hw9 := hw8.below hB9; have hadd := add_any hu9 7 (by decide)))
      have z5 : bs < w5.heap.size := hs5.ptr.lt
      have z5t : bt < w5.heap.size := ht5.ptr.lt
      have zs5 := hs5.map.lt
      have zt5 := ht5.map.lt
      have zu : bu < w6.heap.size := hu6.ptr.lt
      have zm : mu < w6.heap.size := hu6.map.lt mu rfl
      have s67 := hB7.size
      have s78 := hB8.size
      have s89 := hB9.size
      have s56 := hB6.size
      have zv : bv < w7.heap.size := hv7.ptr.lt
      have zmv : mv < w7.heap.size := hv7.map.lt mv rfl
      have zw : bw < w8.heap.size := hw8.ptr.lt
      have zmw : mw < w8.heap.size := hw8.map.lt mw rfl
      have zx : bx < w9.heap.size := hx9.ptr.lt
      have zmx : mx < w9.heap.size := hx9.map.lt mx rfl
      refine hadd.mono ?_
      rintro e wA ⟨rfl, moA, huA, hNA, hOA⟩
      have hsA := setAt_keep hs9 hOA (by omega) (by simp; omega) (fun m hm => ⟨by have := zs5 m hm; omega, by have := zs5 m hm; simp; omega⟩)
      have htA := setAt_keep ht9 hOA (by omega) (by simp; omega) (fun m hm => ⟨by have := zt5 m hm; omega, by have := zt5 m hm; simp; omega⟩)
      have hvA := setAt_keep hv9 hOA (by omega) (by simp; omega) (fun m hm => by injection hm with hm; subst hm; exact ⟨by omega, by simp; omega⟩)
      have hwA := setAt_keep hw9 hOA (by omega) (by simp; omega) (fun m hm => by injection hm with hm; subst hm; exact ⟨by omega, by simp; omega⟩)
      have hxA := setAt_keep hx9 hOA (by omega) (by simp; omega) (fun m hm => by injection hm with hm; subst hm; exact ⟨by omega, by simp; omega⟩)
      obtain ⟨m', rfl, hm'⟩ : ∃ m', moA = some m' ∧ (m' = mu ∨ w9.heap.size ≤ m') := by
        rcases hNA with e | ⟨m, e, hm⟩
        · exact ⟨mu, e, .inl rfl⟩
        · exact ⟨m, e, .inr hm⟩
      have hcu := cut_some huA.view 0 (by decide)
      have hne : ∀ k : Nat, k < w9.heap.size → k ≠ mu → k ≠ m' := fun k h1 h2 => by rcases hm' with h | h <;> omega
      have HNE : Hid (∀ k : Nat, k < w9.heap.size → k ≠ mu → k ≠ m') := hne
      have hB59 : Below w5.heap.size w5 wA := OnlyS.fresh (below_new (below_new (below_new hB6 hB7) hB8) hB9) hOA hbu (fun m hm => by injection hm with hm; omega)
      have hB35 := below_new hB4 hB5
      have hBw5 : Below w.heap.size w w5 := below_new (below_new hB12 hB3) hB35
      have hBwA : Below w.heap.size w wA := below_new hBw5 hB59
      have hzA := hOA.size
      clear hne
      go_wp2_with (first
        | (go_at_call 9; refine hcu.mono ?_; rintro e wB ⟨rfl, hvB, hOB⟩; have hOS := OnlyM.toS m' hOB; have hsB := setAt_keep hsA hOS (HNE.out _ (by omega) (by omega)) (fun e => by injection e with e; exact HNE.out bs (by omega) (by omega) e.symm) (fun m hm => ⟨by have := zs5 m hm; exact HNE.out _ (by omega) (by omega), fun e => by injection e with e; have := zs5 m hm; exact HNE.out m (by omega) (by omega) e.symm⟩); have htB := setAt_keep htA hOS (HNE.out _ (by omega) (by omega)) (fun e => by injection e with e; exact HNE.out bt (by omega) (by omega) e.symm) (fun m hm => ⟨by have := zt5 m hm; exact HNE.out _ (by omega) (by omega), fun e => by injection e with e; have := zt5 m hm; exact HNE.out m (by omega) (by omega) e.symm⟩); have hvB' := setAt_keep hvA hOS (HNE.out _ (by omega) (by omega)) (fun e => by injection e with e; exact HNE.out bv (by omega) (by omega) e.symm) (fun m hm => (by injection hm with hm; subst hm; exact ⟨HNE.out _ (by omega) (by omega), fun e => by injection e with e; exact HNE.out mv (by omega) (by omega) e.symm⟩)); have hwB := setAt_keep hwA hOS (HNE.out _ (by omega) (by omega)) (fun e => by injection e with e; exact HNE.out bw (by omega) (by omega) e.symm) (fun m hm => (by injection hm with hm; subst hm; exact ⟨HNE.out _ (by omega) (by omega), fun e => by injection e with e; exact HNE.out mw (by omega) (by omega) e.symm⟩)); have hxB := setAt_keep hxA hOS (HNE.out _ (by omega) (by omega)) (fun e => by injection e with e; exact HNE.out bx (by omega) (by omega) e.symm) (fun m hm => (by injection hm with hm; subst hm; exact ⟨HNE.out _ (by omega) (by omega), fun e => by injection e with e; exact HNE.out mx (by omega) (by omega) e.symm⟩)); have hyB := bytes_any hsB.view)
        | (go_at_call 6; refine hyB.mono ?_; rintro e wC ⟨rfl, hBC⟩; clear hyB; have hyC := bytes_any (htB.below hBC).view)
        | (go_at_call 6; refine hyC.mono ?_; rintro e wD ⟨rfl, hBD⟩; clear hyC; have hBCD := below_new hBC hBD; have hyD := bytes_any (hvB'.below hBCD).view)
        | (go_at_call 6; refine hyD.mono ?_; rintro e wE ⟨rfl, hBE⟩; clear hyD; have hBCE := below_new hBCD hBE; have huE := union_any (hsB.below hBCE).view (htB.below hBCE).view)
        | (go_at_call 7; refine huE.mono ?_; rintro e wF ⟨bF, rfl, mF, hF, hbF, hmF, hBF⟩; clear huE; have hyF := bytes_any hF.view)
        | (go_at_call 6; refine hyF.mono ?_; rintro e wG ⟨rfl, hBG⟩; clear hyF; have hBCG := below_new (below_new hBCE hBF) hBG; have hyG := bytes_any (hwB.below hBCG).view)
        | (go_at_call 6; refine hyG.mono ?_; rintro e wH ⟨rfl, hBH⟩; clear hyG; have hBCH := below_new hBCG hBH; have hyH := bytes_any (hxB.below hBCH).view)
        | (go_at_call 6; refine hyH.mono ?_; rintro e wI ⟨rfl, hBI⟩))
      go_ret
      refine ⟨by simp, ?_⟩
      have hBB : Below w.heap.size w wB := hBwA.trans ⟨hOB.os, hOB.tape, hOB.output, hOB.size, fun k hk => hOB.block k (by have := hBwA.size; omega) (fun e => by injection e with e; have := hBw5.size; rcases hm' with h | h <;> omega)⟩
      exact below_new (below_new hBB hBCH) hBI
    · have h2i' : ¬ (150 : Int) < n' := by omega
      have hv2' := hv'
      have hr2' := hr'
      have hl2' := hlen'
      generalize l' = l2' at hv2' hr2' hl2'
      clear hv' hr' hlen'
      have hnw := fun W hB => new_any (hv2.below (w' := W) hB) hr2 (by omega)
      have hnw' := fun W hB => new_any (hv2'.below (w' := W) hB) hr2' (by omega)
      generalize ofInts l2 = A at hnw
      generalize ofInts l2' = B at hnw'
      go_enter Try.func3, Try.ntmps3
      go_wp2_with (first
        | (go_at_call 4; refine haw.mono ?_; rintro e w1 ⟨rfl, hB1⟩; have hnw1 := hnw w1 hB1; clear hnw)
        | (go_at_call 5; refine hnw1.mono ?_; rintro e w2 ⟨bs, rfl, mos, hs, hbs, hms, hB2⟩; clear hnw1; have hB12 := below_new hB1 hB2; have hnw2 := hnw' w2 hB12; clear hnw')
        | (go_at_call 5; refine hnw2.mono ?_; rintro e w3 ⟨bt, rfl, mot, ht, hbt, hmt, hB3⟩; clear hnw2; have hs3 := hs.below hB3; have hy3 := bytes_any hs3.view)
        | (go_at_call 6; refine hy3.mono ?_; rintro e w4 ⟨rfl, hB4⟩; clear hy3; have hs4 := hs3.below hB4; have ht4 := ht.below hB4; have hy4 := bytes_any ht4.view)
        | (go_at_call 6; refine hy4.mono ?_; rintro e w5 ⟨rfl, hB5⟩; clear hy4; have hs5 := hs4.below hB5; have ht5 := ht4.below hB5; have hu5 := union_any hs5.view ht5.view)
        | (go_at_call 7; refine hu5.mono ?_; rintro e w6 ⟨bu, rfl, mu, hu6, hbu, hmu, hB6⟩; clear hu5; have hs6 := hs5.below hB6; have ht6 := ht5.below hB6; have huv6 := union_any ht6.view hs6.view; rw [uni_comm A B] at huv6)
        | (go_at_call 7; refine huv6.mono ?_; rintro e w7 ⟨bv, rfl, mv, hv7, hbv, hmv, hB7⟩; clear huv6; have hs7 := hs6.below hB7; have ht7 := ht6.below hB7; have hu7 := hu6.below hB7; have huw7 := union_any hs7.view hs7.view; rw [uni_self A] at huw7)
        | (go_at_call 7; refine huw7.mono ?_; rintro e w8 ⟨bw, rfl, mw, hw8, hbw, hmw, hB8⟩; clear huw7; have hs8 := hs7.below hB8; have ht8 := ht7.below hB8; have hu8 := hu7.below hB8; have hv8 := hv7.below hB8; have hux8 := union_any hs8.view (View.nil w8); rw [uni_none A] at hux8)
        | (go_at_call 7; refine hux8.mono ?_; rintro e w9 ⟨bx, rfl, mx, hx9, hbx, hmx, hB9⟩; clear hux8; have hs9 := hs8.below hB9; have ht9 := ht8.below hB9; have hu9 := hu8.below hB9; have hv9 := hv8.below hB9; have hw9 := hw8.below hB9; have hadd := add_any hu9 7 (by decide)))
      have z5 : bs < w5.heap.size := hs5.ptr.lt
      have z5t : bt < w5.heap.size := ht5.ptr.lt
      have zs5 := hs5.map.lt
      have zt5 := ht5.map.lt
      have zu : bu < w6.heap.size := hu6.ptr.lt
      have zm : mu < w6.heap.size := hu6.map.lt mu rfl
      have s67 := hB7.size
      have s78 := hB8.size
      have s89 := hB9.size
      have s56 := hB6.size
      have zv : bv < w7.heap.size := hv7.ptr.lt
      have zmv : mv < w7.heap.size := hv7.map.lt mv rfl
      have zw : bw < w8.heap.size := hw8.ptr.lt
      have zmw : mw < w8.heap.size := hw8.map.lt mw rfl
      have zx : bx < w9.heap.size := hx9.ptr.lt
      have zmx : mx < w9.heap.size := hx9.map.lt mx rfl
      refine hadd.mono ?_
      rintro e wA ⟨rfl, moA, huA, hNA, hOA⟩
      have hsA := setAt_keep hs9 hOA (by omega) (by simp; omega) (fun m hm => ⟨by have := zs5 m hm; omega, by have := zs5 m hm; simp; omega⟩)
      have htA := setAt_keep ht9 hOA (by omega) (by simp; omega) (fun m hm => ⟨by have := zt5 m hm; omega, by have := zt5 m hm; simp; omega⟩)
      have hvA := setAt_keep hv9 hOA (by omega) (by simp; omega) (fun m hm => by injection hm with hm; subst hm; exact ⟨by omega, by simp; omega⟩)
      have hwA := setAt_keep hw9 hOA (by omega) (by simp; omega) (fun m hm => by injection hm with hm; subst hm; exact ⟨by omega, by simp; omega⟩)
      have hxA := setAt_keep hx9 hOA (by omega) (by simp; omega) (fun m hm => by injection hm with hm; subst hm; exact ⟨by omega, by simp; omega⟩)
      obtain ⟨m', rfl, hm'⟩ : ∃ m', moA = some m' ∧ (m' = mu ∨ w9.heap.size ≤ m') := by
        rcases hNA with e | ⟨m, e, hm⟩
        · exact ⟨mu, e, .inl rfl⟩
        · exact ⟨m, e, .inr hm⟩
      have hcu := cut_some huA.view 0 (by decide)
      have hne : ∀ k : Nat, k < w9.heap.size → k ≠ mu → k ≠ m' := fun k h1 h2 => by rcases hm' with h | h <;> omega
      have HNE : Hid (∀ k : Nat, k < w9.heap.size → k ≠ mu → k ≠ m') := hne
      have hB59 : Below w5.heap.size w5 wA := OnlyS.fresh (below_new (below_new (below_new hB6 hB7) hB8) hB9) hOA hbu (fun m hm => by injection hm with hm; omega)
      have hB35 := below_new hB4 hB5
      have hBw5 : Below w.heap.size w w5 := below_new (below_new hB12 hB3) hB35
      have hBwA : Below w.heap.size w wA := below_new hBw5 hB59
      have hzA := hOA.size
      clear hne
      go_wp2_with (first
        | (go_at_call 9; refine hcu.mono ?_; rintro e wB ⟨rfl, hvB, hOB⟩; have hOS := OnlyM.toS m' hOB; have hsB := setAt_keep hsA hOS (HNE.out _ (by omega) (by omega)) (fun e => by injection e with e; exact HNE.out bs (by omega) (by omega) e.symm) (fun m hm => ⟨by have := zs5 m hm; exact HNE.out _ (by omega) (by omega), fun e => by injection e with e; have := zs5 m hm; exact HNE.out m (by omega) (by omega) e.symm⟩); have htB := setAt_keep htA hOS (HNE.out _ (by omega) (by omega)) (fun e => by injection e with e; exact HNE.out bt (by omega) (by omega) e.symm) (fun m hm => ⟨by have := zt5 m hm; exact HNE.out _ (by omega) (by omega), fun e => by injection e with e; have := zt5 m hm; exact HNE.out m (by omega) (by omega) e.symm⟩); have hvB' := setAt_keep hvA hOS (HNE.out _ (by omega) (by omega)) (fun e => by injection e with e; exact HNE.out bv (by omega) (by omega) e.symm) (fun m hm => (by injection hm with hm; subst hm; exact ⟨HNE.out _ (by omega) (by omega), fun e => by injection e with e; exact HNE.out mv (by omega) (by omega) e.symm⟩)); have hwB := setAt_keep hwA hOS (HNE.out _ (by omega) (by omega)) (fun e => by injection e with e; exact HNE.out bw (by omega) (by omega) e.symm) (fun m hm => (by injection hm with hm; subst hm; exact ⟨HNE.out _ (by omega) (by omega), fun e => by injection e with e; exact HNE.out mw (by omega) (by omega) e.symm⟩)); have hxB := setAt_keep hxA hOS (HNE.out _ (by omega) (by omega)) (fun e => by injection e with e; exact HNE.out bx (by omega) (by omega) e.symm) (fun m hm => (by injection hm with hm; subst hm; exact ⟨HNE.out _ (by omega) (by omega), fun e => by injection e with e; exact HNE.out mx (by omega) (by omega) e.symm⟩)); have hyB := bytes_any hsB.view)
        | (go_at_call 6; refine hyB.mono ?_; rintro e wC ⟨rfl, hBC⟩; clear hyB; have hyC := bytes_any (htB.below hBC).view)
        | (go_at_call 6; refine hyC.mono ?_; rintro e wD ⟨rfl, hBD⟩; clear hyC; have hBCD := below_new hBC hBD; have hyD := bytes_any (hvB'.below hBCD).view)
        | (go_at_call 6; refine hyD.mono ?_; rintro e wE ⟨rfl, hBE⟩; clear hyD; have hBCE := below_new hBCD hBE; have huE := union_any (hsB.below hBCE).view (htB.below hBCE).view)
        | (go_at_call 7; refine huE.mono ?_; rintro e wF ⟨bF, rfl, mF, hF, hbF, hmF, hBF⟩; clear huE; have hyF := bytes_any hF.view)
        | (go_at_call 6; refine hyF.mono ?_; rintro e wG ⟨rfl, hBG⟩; clear hyF; have hBCG := below_new (below_new hBCE hBF) hBG; have hyG := bytes_any (hwB.below hBCG).view)
        | (go_at_call 6; refine hyG.mono ?_; rintro e wH ⟨rfl, hBH⟩; clear hyG; have hBCH := below_new hBCG hBH; have hyH := bytes_any (hxB.below hBCH).view)
        | (go_at_call 6; refine hyH.mono ?_; rintro e wI ⟨rfl, hBI⟩))
      go_ret
      refine ⟨by simp, ?_⟩
      have hBB : Below w.heap.size w wB := hBwA.trans ⟨hOB.os, hOB.tape, hOB.output, hOB.size, fun k hk => hOB.block k (by have := hBwA.size; omega) (fun e => by injection e with e; have := hBw5.size; rcases hm' with h | h <;> omega)⟩
      exact below_new (below_new hBB hBCH) hBI
  · have h2i : ¬ (150 : Int) < n := by omega
    have hv2 := hv
    have hr2 := hr
    have hl2 := hlen
    generalize l = l2 at hv2 hr2 hl2
    clear hv hr hlen
    by_cases h2' : 150 < n'
    · have h2i' : (150 : Int) < n' := by omega
      have hci' : (150 : Int) ≤ c' := by omega
      have hcn' : 150 ≤ c' := by omega
      obtain ⟨b0', o0', rfl, _⟩ := hv'.at (i := 0) (by omega)
      have hv2' := hv'.cut 150 (by omega)
      have hr2' : ∀ x ∈ l'.take 150, x ≤ 9223372036854775807 := fun x hx => hr' x (List.mem_of_mem_take hx)
      have hl2' := hv2'.len
      generalize l'.take 150 = l2' at hv2' hr2' hl2'
      clear hv' hr' hlen'
      have hnw := fun W hB => new_any (hv2.below (w' := W) hB) hr2 (by omega)
      have hnw' := fun W hB => new_any (hv2'.below (w' := W) hB) hr2' (by omega)
      generalize ofInts l2 = A at hnw
      generalize ofInts l2' = B at hnw'
      go_enter Try.func3, Try.ntmps3
      go_wp2_with (first
        | (go_at_call 4; refine haw.mono ?_; rintro e w1 ⟨rfl, hB1⟩; have hnw1 := hnw w1 hB1; clear hnw)
        | (go_at_call 5; refine hnw1.mono ?_; rintro e w2 ⟨bs, rfl, mos, hs, hbs, hms, hB2⟩; clear hnw1; have hB12 := below_new hB1 hB2; have hnw2 := hnw' w2 hB12; clear hnw')
        | (go_at_call 5; refine hnw2.mono ?_; rintro e w3 ⟨bt, rfl, mot, ht, hbt, hmt, hB3⟩; clear hnw2; have hs3 := hs.below hB3; have hy3 := bytes_any hs3.view)
        | (go_at_call 6; refine hy3.mono ?_; rintro e w4 ⟨rfl, hB4⟩; clear hy3; have hs4 := hs3.below hB4; have ht4 := ht.below hB4; have hy4 := bytes_any ht4.view)
        | (go_at_call 6; refine hy4.mono ?_; rintro e w5 ⟨rfl, hB5⟩; clear hy4; have hs5 := hs4.below hB5; have ht5 := ht4.below hB5; have hu5 := union_any hs5.view ht5.view)
        | (go_at_call 7; refine hu5.mono ?_; rintro e w6 ⟨bu, rfl, mu, hu6, hbu, hmu, hB6⟩; clear hu5; have hs6 := hs5.below hB6; have ht6 := ht5.below hB6; have huv6 := union_any ht6.view hs6.view; rw [uni_comm A B] at huv6)
        | (go_at_call 7; refine huv6.mono ?_; rintro e w7 ⟨bv, rfl, mv, hv7, hbv, hmv, hB7⟩; clear huv6; have hs7 := hs6.below hB7; have ht7 := ht6.below hB7; have hu7 := hu6.below hB7; have huw7 := union_any hs7.view hs7.view; rw [uni_self A] at huw7)
        | (go_at_call 7; refine huw7.mono ?_; rintro e w8 ⟨bw, rfl, mw, hw8, hbw, hmw, hB8⟩; clear huw7; have hs8 := hs7.below hB8; have ht8 := ht7.below hB8; have hu8 := hu7.below hB8; have hv8 := hv7.below hB8; have hux8 := union_any hs8.view (View.nil w8); rw [uni_none A] at hux8)
        | (go_at_call 7; refine hux8.mono ?_; rintro e w9 ⟨bx, rfl, mx, hx9, hbx, hmx, hB9⟩; clear hux8; have hs9 := hs8.below hB9; have ht9 := ht8.below hB9; have hu9 := hu8.below hB9; have hv9 := hv8.below hB9; have hw9 := hw8.below hB9; have hadd := add_any hu9 7 (by decide)))
      have z5 : bs < w5.heap.size := hs5.ptr.lt
      have z5t : bt < w5.heap.size := ht5.ptr.lt
      have zs5 := hs5.map.lt
      have zt5 := ht5.map.lt
      have zu : bu < w6.heap.size := hu6.ptr.lt
      have zm : mu < w6.heap.size := hu6.map.lt mu rfl
      have s67 := hB7.size
      have s78 := hB8.size
      have s89 := hB9.size
      have s56 := hB6.size
      have zv : bv < w7.heap.size := hv7.ptr.lt
      have zmv : mv < w7.heap.size := hv7.map.lt mv rfl
      have zw : bw < w8.heap.size := hw8.ptr.lt
      have zmw : mw < w8.heap.size := hw8.map.lt mw rfl
      have zx : bx < w9.heap.size := hx9.ptr.lt
      have zmx : mx < w9.heap.size := hx9.map.lt mx rfl
      refine hadd.mono ?_
      rintro e wA ⟨rfl, moA, huA, hNA, hOA⟩
      have hsA := setAt_keep hs9 hOA (by omega) (by simp; omega) (fun m hm => ⟨by have := zs5 m hm; omega, by have := zs5 m hm; simp; omega⟩)
      have htA := setAt_keep ht9 hOA (by omega) (by simp; omega) (fun m hm => ⟨by have := zt5 m hm; omega, by have := zt5 m hm; simp; omega⟩)
      have hvA := setAt_keep hv9 hOA (by omega) (by simp; omega) (fun m hm => by injection hm with hm; subst hm; exact ⟨by omega, by simp; omega⟩)
      have hwA := setAt_keep hw9 hOA (by omega) (by simp; omega) (fun m hm => by injection hm with hm; subst hm; exact ⟨by omega, by simp; omega⟩)
      have hxA := setAt_keep hx9 hOA (by omega) (by simp; omega) (fun m hm => by injection hm with hm; subst hm; exact ⟨by omega, by simp; omega⟩)
      obtain ⟨m', rfl, hm'⟩ : ∃ m', moA = some m' ∧ (m' = mu ∨ w9.heap.size ≤ m') := by
        rcases hNA with e | ⟨m, e, hm⟩
        · exact ⟨mu, e, .inl rfl⟩
        · exact ⟨m, e, .inr hm⟩
      have hcu := cut_some huA.view 0 (by decide)
      have hne : ∀ k : Nat, k < w9.heap.size → k ≠ mu → k ≠ m' := fun k h1 h2 => by rcases hm' with h | h <;> omega
      have HNE : Hid (∀ k : Nat, k < w9.heap.size → k ≠ mu → k ≠ m') := hne
      have hB59 : Below w5.heap.size w5 wA := OnlyS.fresh (below_new (below_new (below_new hB6 hB7) hB8) hB9) hOA hbu (fun m hm => by injection hm with hm; omega)
      have hB35 := below_new hB4 hB5
      have hBw5 : Below w.heap.size w w5 := below_new (below_new hB12 hB3) hB35
      have hBwA : Below w.heap.size w wA := below_new hBw5 hB59
      have hzA := hOA.size
      clear hne
      go_wp2_with (first
        | (go_at_call 9; refine hcu.mono ?_; rintro e wB ⟨rfl, hvB, hOB⟩; have hOS := OnlyM.toS m' hOB; have hsB := setAt_keep hsA hOS (HNE.out _ (by omega) (by omega)) (fun e => by injection e with e; exact HNE.out bs (by omega) (by omega) e.symm) (fun m hm => ⟨by have := zs5 m hm; exact HNE.out _ (by omega) (by omega), fun e => by injection e with e; have := zs5 m hm; exact HNE.out m (by omega) (by omega) e.symm⟩); have htB := setAt_keep htA hOS (HNE.out _ (by omega) (by omega)) (fun e => by injection e with e; exact HNE.out bt (by omega) (by omega) e.symm) (fun m hm => ⟨by have := zt5 m hm; exact HNE.out _ (by omega) (by omega), fun e => by injection e with e; have := zt5 m hm; exact HNE.out m (by omega) (by omega) e.symm⟩); have hvB' := setAt_keep hvA hOS (HNE.out _ (by omega) (by omega)) (fun e => by injection e with e; exact HNE.out bv (by omega) (by omega) e.symm) (fun m hm => (by injection hm with hm; subst hm; exact ⟨HNE.out _ (by omega) (by omega), fun e => by injection e with e; exact HNE.out mv (by omega) (by omega) e.symm⟩)); have hwB := setAt_keep hwA hOS (HNE.out _ (by omega) (by omega)) (fun e => by injection e with e; exact HNE.out bw (by omega) (by omega) e.symm) (fun m hm => (by injection hm with hm; subst hm; exact ⟨HNE.out _ (by omega) (by omega), fun e => by injection e with e; exact HNE.out mw (by omega) (by omega) e.symm⟩)); have hxB := setAt_keep hxA hOS (HNE.out _ (by omega) (by omega)) (fun e => by injection e with e; exact HNE.out bx (by omega) (by omega) e.symm) (fun m hm => (by injection hm with hm; subst hm; exact ⟨HNE.out _ (by omega) (by omega), fun e => by injection e with e; exact HNE.out mx (by omega) (by omega) e.symm⟩)); have hyB := bytes_any hsB.view)
        | (go_at_call 6; refine hyB.mono ?_; rintro e wC ⟨rfl, hBC⟩; clear hyB; have hyC := bytes_any (htB.below hBC).view)
        | (go_at_call 6; refine hyC.mono ?_; rintro e wD ⟨rfl, hBD⟩; clear hyC; have hBCD := below_new hBC hBD; have hyD := bytes_any (hvB'.below hBCD).view)
        | (go_at_call 6; refine hyD.mono ?_; rintro e wE ⟨rfl, hBE⟩; clear hyD; have hBCE := below_new hBCD hBE; have huE := union_any (hsB.below hBCE).view (htB.below hBCE).view)
        | (go_at_call 7; refine huE.mono ?_; rintro e wF ⟨bF, rfl, mF, hF, hbF, hmF, hBF⟩; clear huE; have hyF := bytes_any hF.view)
        | (go_at_call 6; refine hyF.mono ?_; rintro e wG ⟨rfl, hBG⟩; clear hyF; have hBCG := below_new (below_new hBCE hBF) hBG; have hyG := bytes_any (hwB.below hBCG).view)
        | (go_at_call 6; refine hyG.mono ?_; rintro e wH ⟨rfl, hBH⟩; clear hyG; have hBCH := below_new hBCG hBH; have hyH := bytes_any (hxB.below hBCH).view)
        | (go_at_call 6; refine hyH.mono ?_; rintro e wI ⟨rfl, hBI⟩))
      go_ret
      refine ⟨by simp, ?_⟩
      have hBB : Below w.heap.size w wB := hBwA.trans ⟨hOB.os, hOB.tape, hOB.output, hOB.size, fun k hk => hOB.block k (by have := hBwA.size; omega) (fun e => by injection e with e; have := hBw5.size; rcases hm' with h | h <;> omega)⟩
      exact below_new (below_new hBB hBCH) hBI
    · have h2i' : ¬ (150 : Int) < n' := by omega
      have hv2' := hv'
      have hr2' := hr'
      have hl2' := hlen'
      generalize l' = l2' at hv2' hr2' hl2'
      clear hv' hr' hlen'
      have hnw := fun W hB => new_any (hv2.below (w' := W) hB) hr2 (by omega)
      have hnw' := fun W hB => new_any (hv2'.below (w' := W) hB) hr2' (by omega)
      generalize ofInts l2 = A at hnw
      generalize ofInts l2' = B at hnw'
      go_enter Try.func3, Try.ntmps3
      go_wp2_with (first
        | (go_at_call 4; refine haw.mono ?_; rintro e w1 ⟨rfl, hB1⟩; have hnw1 := hnw w1 hB1; clear hnw)
        | (go_at_call 5; refine hnw1.mono ?_; rintro e w2 ⟨bs, rfl, mos, hs, hbs, hms, hB2⟩; clear hnw1; have hB12 := below_new hB1 hB2; have hnw2 := hnw' w2 hB12; clear hnw')
        | (go_at_call 5; refine hnw2.mono ?_; rintro e w3 ⟨bt, rfl, mot, ht, hbt, hmt, hB3⟩; clear hnw2; have hs3 := hs.below hB3; have hy3 := bytes_any hs3.view)
        | (go_at_call 6; refine hy3.mono ?_; rintro e w4 ⟨rfl, hB4⟩; clear hy3; have hs4 := hs3.below hB4; have ht4 := ht.below hB4; have hy4 := bytes_any ht4.view)
        | (go_at_call 6; refine hy4.mono ?_; rintro e w5 ⟨rfl, hB5⟩; clear hy4; have hs5 := hs4.below hB5; have ht5 := ht4.below hB5; have hu5 := union_any hs5.view ht5.view)
        | (go_at_call 7; refine hu5.mono ?_; rintro e w6 ⟨bu, rfl, mu, hu6, hbu, hmu, hB6⟩; clear hu5; have hs6 := hs5.below hB6; have ht6 := ht5.below hB6; have huv6 := union_any ht6.view hs6.view; rw [uni_comm A B] at huv6)
        | (go_at_call 7; refine huv6.mono ?_; rintro e w7 ⟨bv, rfl, mv, hv7, hbv, hmv, hB7⟩; clear huv6; have hs7 := hs6.below hB7; have ht7 := ht6.below hB7; have hu7 := hu6.below hB7; have huw7 := union_any hs7.view hs7.view; rw [uni_self A] at huw7)
        | (go_at_call 7; refine huw7.mono ?_; rintro e w8 ⟨bw, rfl, mw, hw8, hbw, hmw, hB8⟩; clear huw7; have hs8 := hs7.below hB8; have ht8 := ht7.below hB8; have hu8 := hu7.below hB8; have hv8 := hv7.below hB8; have hux8 := union_any hs8.view (View.nil w8); rw [uni_none A] at hux8)
        | (go_at_call 7; refine hux8.mono ?_; rintro e w9 ⟨bx, rfl, mx, hx9, hbx, hmx, hB9⟩; clear hux8; have hs9 := hs8.below hB9; have ht9 := ht8.below hB9; have hu9 := hu8.below hB9; have hv9 := hv8.below hB9; have hw9 := hw8.below hB9; have hadd := add_any hu9 7 (by decide)))
      have z5 : bs < w5.heap.size := hs5.ptr.lt
      have z5t : bt < w5.heap.size := ht5.ptr.lt
      have zs5 := hs5.map.lt
      have zt5 := ht5.map.lt
      have zu : bu < w6.heap.size := hu6.ptr.lt
      have zm : mu < w6.heap.size := hu6.map.lt mu rfl
      have s67 := hB7.size
      have s78 := hB8.size
      have s89 := hB9.size
      have s56 := hB6.size
      have zv : bv < w7.heap.size := hv7.ptr.lt
      have zmv : mv < w7.heap.size := hv7.map.lt mv rfl
      have zw : bw < w8.heap.size := hw8.ptr.lt
      have zmw : mw < w8.heap.size := hw8.map.lt mw rfl
      have zx : bx < w9.heap.size := hx9.ptr.lt
      have zmx : mx < w9.heap.size := hx9.map.lt mx rfl
      refine hadd.mono ?_
      rintro e wA ⟨rfl, moA, huA, hNA, hOA⟩
      have hsA := setAt_keep hs9 hOA (by omega) (by simp; omega) (fun m hm => ⟨by have := zs5 m hm; omega, by have := zs5 m hm; simp; omega⟩)
      have htA := setAt_keep ht9 hOA (by omega) (by simp; omega) (fun m hm => ⟨by have := zt5 m hm; omega, by have := zt5 m hm; simp; omega⟩)
      have hvA := setAt_keep hv9 hOA (by omega) (by simp; omega) (fun m hm => by injection hm with hm; subst hm; exact ⟨by omega, by simp; omega⟩)
      have hwA := setAt_keep hw9 hOA (by omega) (by simp; omega) (fun m hm => by injection hm with hm; subst hm; exact ⟨by omega, by simp; omega⟩)
      have hxA := setAt_keep hx9 hOA (by omega) (by simp; omega) (fun m hm => by injection hm with hm; subst hm; exact ⟨by omega, by simp; omega⟩)
      obtain ⟨m', rfl, hm'⟩ : ∃ m', moA = some m' ∧ (m' = mu ∨ w9.heap.size ≤ m') := by
        rcases hNA with e | ⟨m, e, hm⟩
        · exact ⟨mu, e, .inl rfl⟩
        · exact ⟨m, e, .inr hm⟩
      have hcu := cut_some huA.view 0 (by decide)
      have hne : ∀ k : Nat, k < w9.heap.size → k ≠ mu → k ≠ m' := fun k h1 h2 => by rcases hm' with h | h <;> omega
      have HNE : Hid (∀ k : Nat, k < w9.heap.size → k ≠ mu → k ≠ m') := hne
      have hB59 : Below w5.heap.size w5 wA := OnlyS.fresh (below_new (below_new (below_new hB6 hB7) hB8) hB9) hOA hbu (fun m hm => by injection hm with hm; omega)
      have hB35 := below_new hB4 hB5
      have hBw5 : Below w.heap.size w w5 := below_new (below_new hB12 hB3) hB35
      have hBwA : Below w.heap.size w wA := below_new hBw5 hB59
      have hzA := hOA.size
      clear hne
      go_wp2_with (first
        | (go_at_call 9; refine hcu.mono ?_; rintro e wB ⟨rfl, hvB, hOB⟩; have hOS := OnlyM.toS m' hOB; have hsB := setAt_keep hsA hOS (HNE.out _ (by omega) (by omega)) (fun e => by injection e with e; exact HNE.out bs (by omega) (by omega) e.symm) (fun m hm => ⟨by have := zs5 m hm; exact HNE.out _ (by omega) (by omega), fun e => by injection e with e; have := zs5 m hm; exact HNE.out m (by omega) (by omega) e.symm⟩); have htB := setAt_keep htA hOS (HNE.out _ (by omega) (by omega)) (fun e => by injection e with e; exact HNE.out bt (by omega) (by omega) e.symm) (fun m hm => ⟨by have := zt5 m hm; exact HNE.out _ (by omega) (by omega), fun e => by injection e with e; have := zt5 m hm; exact HNE.out m (by omega) (by omega) e.symm⟩); have hvB' := setAt_keep hvA hOS (HNE.out _ (by omega) (by omega)) (fun e => by injection e with e; exact HNE.out bv (by omega) (by omega) e.symm) (fun m hm => (by injection hm with hm; subst hm; exact ⟨HNE.out _ (by omega) (by omega), fun e => by injection e with e; exact HNE.out mv (by omega) (by omega) e.symm⟩)); have hwB := setAt_keep hwA hOS (HNE.out _ (by omega) (by omega)) (fun e => by injection e with e; exact HNE.out bw (by omega) (by omega) e.symm) (fun m hm => (by injection hm with hm; subst hm; exact ⟨HNE.out _ (by omega) (by omega), fun e => by injection e with e; exact HNE.out mw (by omega) (by omega) e.symm⟩)); have hxB := setAt_keep hxA hOS (HNE.out _ (by omega) (by omega)) (fun e => by injection e with e; exact HNE.out bx (by omega) (by omega) e.symm) (fun m hm => (by injection hm with hm; subst hm; exact ⟨HNE.out _ (by omega) (by omega), fun e => by injection e with e; exact HNE.out mx (by omega) (by omega) e.symm⟩)); have hyB := bytes_any hsB.view)
        | (go_at_call 6; refine hyB.mono ?_; rintro e wC ⟨rfl, hBC⟩; clear hyB; have hyC := bytes_any (htB.below hBC).view)
        | (go_at_call 6; refine hyC.mono ?_; rintro e wD ⟨rfl, hBD⟩; clear hyC; have hBCD := below_new hBC hBD; have hyD := bytes_any (hvB'.below hBCD).view)
        | (go_at_call 6; refine hyD.mono ?_; rintro e wE ⟨rfl, hBE⟩; clear hyD; have hBCE := below_new hBCD hBE; have huE := union_any (hsB.below hBCE).view (htB.below hBCE).view)
        | (go_at_call 7; refine huE.mono ?_; rintro e wF ⟨bF, rfl, mF, hF, hbF, hmF, hBF⟩; clear huE; have hyF := bytes_any hF.view)
        | (go_at_call 6; refine hyF.mono ?_; rintro e wG ⟨rfl, hBG⟩; clear hyF; have hBCG := below_new (below_new hBCE hBF) hBG; have hyG := bytes_any (hwB.below hBCG).view)
        | (go_at_call 6; refine hyG.mono ?_; rintro e wH ⟨rfl, hBH⟩; clear hyG; have hBCH := below_new hBCG hBH; have hyH := bytes_any (hxB.below hBCH).view)
        | (go_at_call 6; refine hyH.mono ?_; rintro e wI ⟨rfl, hBI⟩))
      go_ret
      refine ⟨by simp, ?_⟩
      have hBB : Below w.heap.size w wB := hBwA.trans ⟨hOB.os, hOB.tape, hOB.output, hOB.size, fun k hk => hOB.block k (by have := hBwA.size; omega) (fun e => by injection e with e; have := hBw5.size; rcases hm' with h | h <;> omega)⟩
      exact below_new (below_new hBB hBCH) hBI
end Go.Proofs.Ytlegabefpgbbiab
