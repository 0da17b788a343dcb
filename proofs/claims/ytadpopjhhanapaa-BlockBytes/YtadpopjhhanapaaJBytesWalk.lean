/-
  BlockBytes: the law's walk.
-/
import Derived.Test.YtadpopjhhanapaaJQRdW
import Derived.Test.YtadpopjhhanapaaJLittleW
namespace Go.Proofs.Ytadpopjhhanapaa
open Go Go.RowKit

def nOf : Option (Int × List Wr) → Int
  | some p => p.1
  | none => 0
def lOf : Option (Int × List Wr) → List Wr
  | some p => p.2
  | none => []
def hOf : Option (Int × List Wr) → Int
  | some _ => 0
  | none => 10
theorem RPost.all {w' : World} {R : Option (Int × List Wr)} {e : Ending} (h : RPost w' R e) : ∃ v' K, e = .returned (.tuple #[.agg #[.int .i64 (nOf R), v'], .int .i64 (hOf R)]) ∧ WritesAt w' v' K ∧ K.map Wr.bare = lOf R := by
  cases R with
  | none => exact ⟨.slice none 0 0, [], h, WritesAt.nil _ _ _, rfl⟩
  | some p => exact h
theorem lOf_small {s : List UInt8} {K : List Wr} (h : K.map Wr.bare = lOf (readOf s)) : K.length ≤ 4000000000000 ∧ ∀ x ∈ K, x.L.length ≤ 4000000000000 := by
  cases hr : readOf s with
  | none =>
    rw [hr] at h
    have : K = [] := List.map_eq_nil_iff.1 h
    subst this
    exact ⟨by decide, fun x hx => by cases hx⟩
  | some p =>
    rw [hr] at h
    obtain ⟨n, L⟩ := p
    obtain ⟨h1, _, _⟩ := bytesOf_some.1 (read_is hr)
    have q := okB_all h1
    have hL : K.map Wr.bare = L := h
    refine ⟨?_, fun x hx => ?_⟩
    · have := congrArg List.length hL
      rw [List.length_map] at this
      omega
    · have hm : x.bare ∈ L := by rw [← hL]; exact List.mem_map_of_mem hx
      have := (q.2.2.2 _ hm).l
      have e : x.bare.L = x.L := rfl
      rw [e] at this
      omega
set_option maxRecDepth 8000 in
set_option maxHeartbeats 16000000 in
theorem bytes_walk {w : World} {n : Int} {v : Value} {L : List Wr} (hv : WritesAt w v L) (hl : L.length ≤ 9223372036854775807) (hls : ∀ x ∈ L, x.L.length ≤ 9223372036854775807) (s : ByteArray) (hs : s.size ≤ 9223372036854775807) :
    Calls Try.prog 3 #[.agg #[.int .i64 n, v], .string s] w fun e w' => e = .returned (.bool true) ∧ Below w.heap.size w w' := by
  obtain ⟨p, c, rfl⟩ := hv.shape
  obtain ⟨W0, g, hW0, hg, hB0, hb0, _, _⟩ := box_block w n (.slice p L.length c)
  have HB : Hid (Below w.heap.size w W0) := hB0
  have HG : Hid (w.heap.size = g) := hg
  have hv0 := hv.below hB0
  have HLI : Hid (∀ W, Below W0.heap.size W0 W → Calls Try.prog 10 #[.agg #[.int .i64 n, .slice p L.length c]] W fun e w' => LPost L e ∧ Below W.heap.size W w') := fun W hW => little_any (hv0.below hW) hl hls
  have HBY : Hid (L.length ≤ 80 → ∀ W, Below W0.heap.size W0 W → Calls Try.prog 11 #[.agg #[.int .i64 n, .slice p L.length c]] W fun e w' => e = .returned (.tuple #[.string (strV (bytesOf n L)), .int .i64 (errV (bytesOf n L))]) ∧ Below W.heap.size W w') := fun h80 W hW => by
    have := kbytes_any (n := n) (hv0.below hW) (by omega)
    rw [bytV_eq] at this
    exact this
  have HQY : Hid (L.length ≤ 80 → ∀ W, Below W0.heap.size W0 W → Calls Try.prog 12 #[.agg #[.int .i64 n, .slice p L.length c]] W fun e w' => e = .returned (.tuple #[.string (strV (bytesOf n L)), .int .i64 (errV (bytesOf n L))]) ∧ Below W.heap.size W w') := fun h80 W hW => by
    have := qbytes_any (n := n) (hv0.below hW) (by omega)
    rw [bytV_eq] at this
    exact this
  have HCK : Hid (L.length ≤ 80 → ∀ W, Below W0.heap.size W0 W → Calls Try.prog 16 #[.agg #[.int .i64 n, .slice p L.length c]] W fun e w' => e = .returned (.int .i64 (errV (bytesOf n L))) ∧ Below W.heap.size W w') := fun h80 W hW => kcheck_any (hv0.below hW) (by omega)
  have HQK : Hid (L.length ≤ 80 → ∀ W, Below W0.heap.size W0 W → Calls Try.prog 17 #[.agg #[.int .i64 n, .slice p L.length c]] W fun e w' => e = .returned (.int .i64 (errV (bytesOf n L))) ∧ Below W.heap.size W w') := fun h80 W hW => qcheck_any (hv0.below hW) (by omega)
  have HAW := awake_any W0
  generalize hN : L.length = N at *
  generalize strV (bytesOf n L) = S at *
  generalize errV (bytesOf n L) = E at *
  clear hB0 hv hv0 hl hls
  have HH : Hid (Holds W0 g 24 #[.int .i64 n, .slice p N c]) := hb0
  clear hb0
  go_enter Try.func3, Try.ntmps3
  go_wp2_with (first
    | (refine wpList_loadK _ rfl _ rfl a1 rfl ?_)
    | (go_at_call 9; refine HAW.mono ?_; rintro e w1 ⟨rfl, hB1⟩; have a1 := below_holds hB1 HH.out)
    | fail)
  refine (HLI.out w1 hB1).mono ?_
  rintro e w2 ⟨⟨b1, rfl, hlit⟩, hB2⟩
  have H2 : Hid (Below W0.heap.size W0 w2) := below_new hB1 hB2
  have HF2 : Hid (Below w.heap.size w w2) := below_new HB.out H2.out
  cases b1 with
  | false =>
    clear hlit
    go_wp2_with fail
    go_ret
    exact ⟨rfl, by first | exact HF2.out | (rw [← HG.out]; exact HF2.out)⟩
  | true =>
    have h80 : N ≤ 80 := by have := (hlit rfl).1; omega
    replace HBY := HBY.out h80
    replace HQY := HQY.out h80
    replace HCK := HCK.out h80
    replace HQK := HQK.out h80
    have HBY : Hid (∀ W, Below W0.heap.size W0 W → Calls Try.prog 11 #[.agg #[.int .i64 n, .slice p N c]] W fun e w' => e = .returned (.tuple #[.string S, .int .i64 E]) ∧ Below W.heap.size W w') := HBY
    have HQY : Hid (∀ W, Below W0.heap.size W0 W → Calls Try.prog 12 #[.agg #[.int .i64 n, .slice p N c]] W fun e w' => e = .returned (.tuple #[.string S, .int .i64 E]) ∧ Below W.heap.size W w') := HQY
    have HCK : Hid (∀ W, Below W0.heap.size W0 W → Calls Try.prog 16 #[.agg #[.int .i64 n, .slice p N c]] W fun e w' => e = .returned (.int .i64 E) ∧ Below W.heap.size W w') := HCK
    have HQK : Hid (∀ W, Below W0.heap.size W0 W → Calls Try.prog 17 #[.agg #[.int .i64 n, .slice p N c]] W fun e w' => e = .returned (.int .i64 E) ∧ Below W.heap.size W w') := HQK
    have a2 := below_holds H2.out HH.out
    clear hlit HLI hB1 hB2 a1 hN h80
    obtain ⟨T, hT⟩ : ∃ T, (if 3000 < s.size then s.extract 0 3000 else s) = T := ⟨_, rfl⟩
    have hTs : T.size ≤ 60000 := by
      rw [← hT]
      split
      · rw [ByteArray.size_extract]; omega
      · omega
    have HRD : Hid (∀ W, Calls Try.prog 13 #[.string T] W fun e w' => (∃ v' K, e = .returned (.tuple #[.agg #[.int .i64 (nOf (readOf T.data.toList)), v'], .int .i64 (hOf (readOf T.data.toList))]) ∧ WritesAt w' v' K ∧ K.map Wr.bare = lOf (readOf T.data.toList)) ∧ Below W.heap.size W w') := fun W => (kread_any T W).mono fun e w' h => ⟨h.1.all, h.2⟩
    have HQD : Hid (∀ W, Calls Try.prog 14 #[.string T] W fun e w' => (∃ v' K, e = .returned (.tuple #[.agg #[.int .i64 (nOf (readOf T.data.toList)), v'], .int .i64 (hOf (readOf T.data.toList))]) ∧ WritesAt w' v' K ∧ K.map Wr.bare = lOf (readOf T.data.toList)) ∧ Below W.heap.size W w') := fun W => (qread_any T W hTs).mono fun e w' h => ⟨h.1.all, h.2⟩
    have HSA : Hid (∀ W v1 K1 v2 K2, WritesAt W v1 K1 → K1.map Wr.bare = lOf (readOf T.data.toList) → WritesAt W v2 K2 → K2.map Wr.bare = lOf (readOf T.data.toList) → Calls Try.prog 15 #[.agg #[.int .i64 (nOf (readOf T.data.toList)), v1], .agg #[.int .i64 (nOf (readOf T.data.toList)), v2]] W fun e w' => e = .returned (.bool true) ∧ Below W.heap.size W w') := fun W v1 K1 v2 K2 h1 e1 h2 e2 => by
      have z1 := lOf_small e1
      have z2 := lOf_small e2
      refine (qsame_any (n := nOf (readOf T.data.toList)) (m := nOf (readOf T.data.toList)) h1 h2 z1.1 z2.1 z1.2).mono ?_
      rintro e w' ⟨⟨q, rfl, hq⟩, hB⟩
      rw [hq.2 ⟨rfl, e1.trans e2.symm⟩]
      exact ⟨rfl, hB⟩
    generalize nOf (readOf T.data.toList) = n0 at *
    generalize lOf (readOf T.data.toList) = L0 at *
    generalize hOf (readOf T.data.toList) = h0 at *
    clear hTs
    by_cases h3 : 3000 < s.size
    · have h3i : (3000 : Int) < s.size := by omega
      rw [if_pos h3] at hT
      go_wp2_with (first
        | (refine wpList_loadK _ rfl _ rfl a3 rfl ?_)
        | (refine wpList_loadK _ rfl _ rfl a2 rfl ?_)
        | (refine wpList_loadK _ rfl _ rfl hb5 rfl ?_)
        | (go_at_call 11; refine (HBY.out w2 H2.out).mono ?_; rintro e w3 ⟨rfl, hB3⟩; have H3 := below_new H2.out hB3; have a3 := below_holds H3 HH.out; clear a2)
        | (go_at_call 12; refine (HQY.out w3 H3).mono ?_; rintro e w4 ⟨rfl, hB4⟩; have H4 := below_new H3 hB4; clear a3)
        | (go_at_call 13; refine (HRD.out w4).mono ?_; rintro e w5 ⟨⟨v5, K5, rfl, hat5, hK5⟩, hB5⟩
           obtain ⟨p5, c5, rfl⟩ := hat5.shape
           obtain ⟨V5, g5, hV5, hg5, hBV5, hz5, -, -⟩ := box_block w5 n0 (.slice p5 K5.length c5)
           have H5 := below_new H4 (below_new hB5 hBV5))
        | (go_at_call 14; refine (HQD.out V5).mono ?_; rintro e w6 ⟨⟨v6, K6, rfl, hat6, hK6⟩, hB6⟩
           obtain ⟨p6, c6, rfl⟩ := hat6.shape
           obtain ⟨V6, g6, hV6, hg6, hBV6, hz6, -, -⟩ := box_block w6 n0 (.slice p6 K6.length c6)
           have H6 := below_new H5 (below_new hB6 hBV6)
           have hb5 := below_holds (below_new hB6 hBV6) hz5
           have hat5' := hat5.below (below_new hBV5 (below_new hB6 hBV6))
           have hat6' := hat6.below hBV6)
        | (refine wpList_loadK _ rfl _ rfl hz6 rfl ?_)
        | (go_at_call 15; refine (HSA.out V6 _ K5 _ K6 hat5' hK5 hat6' hK6).mono ?_; rintro e w7 ⟨rfl, hB7⟩; have H7 := below_new H6 hB7)
        | fail)
      refine wp_region_class (fun W => Below w7.heap.size w7 W) mixedP (by kernel_rfl) (Below.refl _ _).drew ?_
      go_big_quiet_step (exact fun _ => rfl)
      go_big_quiet_step (exact fun _ => rfl)
      refine wpQ_ld (v := .agg #[.int .i64 n, .slice p N c]) rfl _ _ rfl rfl (fun W hW => ldBlk (below_holds (below_new H7 hW) HH.out)) ?_
      go_frame
      refine wpQ_call rfl 16 #[.agg #[.int .i64 n, .slice p N c]] (fun _ => by go_simp) (.int .i64 E) (fun W hW => (HCK.out W (below_new H7 hW)).mono fun e w' h => ⟨h.1, below_new hW h.2⟩) ?_
      go_frame
      refine wpQ_ld (v := .agg #[.int .i64 n, .slice p N c]) rfl _ _ rfl rfl (fun W hW => ldBlk (below_holds (below_new H7 hW) HH.out)) ?_
      go_frame
      refine wpQ_call rfl 17 #[.agg #[.int .i64 n, .slice p N c]] (fun _ => by go_simp) (.int .i64 E) (fun W hW => (HQK.out W (below_new H7 hW)).mono fun e w' h => ⟨h.1, below_new hW h.2⟩) ?_
      go_frame
      refine wpQ_val rfl (.bool true) (fun _ => by go_simp) ?_
      go_frame
      go_big_quiet_step (exact fun _ => rfl)
      go_big_quiet_step (exact fun _ => rfl)
      go_big_quiet_step (exact fun _ => rfl)
      go_big_quiet_step (exact fun _ => rfl)
      refine wpQ_val rfl (.bool true) (fun _ => by go_simp) ?_
      go_frame
      go_big_quiet_step (exact fun _ => rfl)
      go_big_quiet_step (exact fun _ => rfl)
      go_big_quiet_step (exact fun _ => rfl)
      go_big_quiet_step (exact fun _ => rfl)
      refine wpQ_val rfl (.bool true) (fun _ => by go_simp) ?_
      go_frame
      go_big_quiet_step (exact fun _ => rfl)
      go_big_quiet_step (exact fun _ => rfl)
      go_big_quiet_step (exact fun _ => rfl)
      go_big_quiet_step (exact fun _ => rfl)
      go_big_quiet_step (exact fun _ => rfl)
      go_big_quiet_step (exact fun _ => rfl)
      go_big_quiet_step (exact fun _ => rfl)
      refine wpQ_val rfl (.bool true) (fun _ => by go_simp) ?_
      go_frame
      go_big_quiet_step (exact fun _ => rfl)
      go_big_quiet_step (exact fun _ => rfl)
      refine wpQuiet_nil ?_
      intro w8 hB8
      refine then_normalJ ?_
      go_wp2_with fail
      go_ret
      have HF := below_new HB.out (below_new H7 hB8)
      exact ⟨rfl, by first | exact HF | (rw [← HG.out]; exact HF)⟩
    · have h3i : ¬ (3000 : Int) < s.size := by omega
      rw [if_neg h3] at hT
      subst hT
      go_wp2_with (first
        | (refine wpList_loadK _ rfl _ rfl a3 rfl ?_)
        | (refine wpList_loadK _ rfl _ rfl a2 rfl ?_)
        | (refine wpList_loadK _ rfl _ rfl hb5 rfl ?_)
        | (go_at_call 11; refine (HBY.out w2 H2.out).mono ?_; rintro e w3 ⟨rfl, hB3⟩; have H3 := below_new H2.out hB3; have a3 := below_holds H3 HH.out; clear a2)
        | (go_at_call 12; refine (HQY.out w3 H3).mono ?_; rintro e w4 ⟨rfl, hB4⟩; have H4 := below_new H3 hB4; clear a3)
        | (go_at_call 13; refine (HRD.out w4).mono ?_; rintro e w5 ⟨⟨v5, K5, rfl, hat5, hK5⟩, hB5⟩
           obtain ⟨p5, c5, rfl⟩ := hat5.shape
           obtain ⟨V5, g5, hV5, hg5, hBV5, hz5, -, -⟩ := box_block w5 n0 (.slice p5 K5.length c5)
           have H5 := below_new H4 (below_new hB5 hBV5))
        | (go_at_call 14; refine (HQD.out V5).mono ?_; rintro e w6 ⟨⟨v6, K6, rfl, hat6, hK6⟩, hB6⟩
           obtain ⟨p6, c6, rfl⟩ := hat6.shape
           obtain ⟨V6, g6, hV6, hg6, hBV6, hz6, -, -⟩ := box_block w6 n0 (.slice p6 K6.length c6)
           have H6 := below_new H5 (below_new hB6 hBV6)
           have hb5 := below_holds (below_new hB6 hBV6) hz5
           have hat5' := hat5.below (below_new hBV5 (below_new hB6 hBV6))
           have hat6' := hat6.below hBV6)
        | (refine wpList_loadK _ rfl _ rfl hz6 rfl ?_)
        | (go_at_call 15; refine (HSA.out V6 _ K5 _ K6 hat5' hK5 hat6' hK6).mono ?_; rintro e w7 ⟨rfl, hB7⟩; have H7 := below_new H6 hB7)
        | fail)
      refine wp_region_class (fun W => Below w7.heap.size w7 W) mixedP (by kernel_rfl) (Below.refl _ _).drew ?_
      go_big_quiet_step (exact fun _ => rfl)
      go_big_quiet_step (exact fun _ => rfl)
      refine wpQ_ld (v := .agg #[.int .i64 n, .slice p N c]) rfl _ _ rfl rfl (fun W hW => ldBlk (below_holds (below_new H7 hW) HH.out)) ?_
      go_frame
      refine wpQ_call rfl 16 #[.agg #[.int .i64 n, .slice p N c]] (fun _ => by go_simp) (.int .i64 E) (fun W hW => (HCK.out W (below_new H7 hW)).mono fun e w' h => ⟨h.1, below_new hW h.2⟩) ?_
      go_frame
      refine wpQ_ld (v := .agg #[.int .i64 n, .slice p N c]) rfl _ _ rfl rfl (fun W hW => ldBlk (below_holds (below_new H7 hW) HH.out)) ?_
      go_frame
      refine wpQ_call rfl 17 #[.agg #[.int .i64 n, .slice p N c]] (fun _ => by go_simp) (.int .i64 E) (fun W hW => (HQK.out W (below_new H7 hW)).mono fun e w' h => ⟨h.1, below_new hW h.2⟩) ?_
      go_frame
      refine wpQ_val rfl (.bool true) (fun _ => by go_simp) ?_
      go_frame
      go_big_quiet_step (exact fun _ => rfl)
      go_big_quiet_step (exact fun _ => rfl)
      go_big_quiet_step (exact fun _ => rfl)
      go_big_quiet_step (exact fun _ => rfl)
      refine wpQ_val rfl (.bool true) (fun _ => by go_simp) ?_
      go_frame
      go_big_quiet_step (exact fun _ => rfl)
      go_big_quiet_step (exact fun _ => rfl)
      go_big_quiet_step (exact fun _ => rfl)
      go_big_quiet_step (exact fun _ => rfl)
      refine wpQ_val rfl (.bool true) (fun _ => by go_simp) ?_
      go_frame
      go_big_quiet_step (exact fun _ => rfl)
      go_big_quiet_step (exact fun _ => rfl)
      go_big_quiet_step (exact fun _ => rfl)
      go_big_quiet_step (exact fun _ => rfl)
      go_big_quiet_step (exact fun _ => rfl)
      go_big_quiet_step (exact fun _ => rfl)
      go_big_quiet_step (exact fun _ => rfl)
      refine wpQ_val rfl (.bool true) (fun _ => by go_simp) ?_
      go_frame
      go_big_quiet_step (exact fun _ => rfl)
      go_big_quiet_step (exact fun _ => rfl)
      refine wpQuiet_nil ?_
      intro w8 hB8
      refine then_normalJ ?_
      go_wp2_with fail
      go_ret
      have HF := below_new HB.out (below_new H7 hB8)
      exact ⟨rfl, by first | exact HF | (rw [← HG.out]; exact HF)⟩
end Go.Proofs.Ytadpopjhhanapaa
