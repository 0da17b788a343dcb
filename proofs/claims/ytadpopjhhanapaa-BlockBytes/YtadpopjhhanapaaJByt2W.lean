/-
  Bytes and Check of a block.
-/
import Derived.Test.YtadpopjhhanapaaJBytesW
namespace Go.Proofs.Ytadpopjhhanapaa
open Go Go.RowKit

theorem ldBlk {w : World} {g : Nat} {n : Int} {v : Value} (h : Holds w g 24 #[.int .i64 n, v]) : (loadVar 24 ⟨g, 0, none⟩).run Try.prog w = .ok (blkV n v) w :=
  run_loadVar_mid w g 0 24 [.int .i64 n, v] _ (fun j u hu => by
    rw [h.cell, Nat.zero_add]
    simpa using hu) Try.underlying24 rfl infoBlk2
set_option maxRecDepth 8000 in
set_option maxHeartbeats 2000000 in
theorem kbytes_any {w : World} {n : Int} {v : Value} {L : List Wr} (hv : WritesAt w v L) (hl : L.length ≤ 4000000000000) : Calls Try.prog 11 #[blkV n v] w fun e w' => e = .returned (bytV (bytesOf n L)) ∧ Below w.heap.size w w' := by
  obtain ⟨p, c, rfl⟩ := hv.shape
  obtain ⟨W0, g, hW0, hg, hB0, hb0, h0, h1⟩ := box_block w n (.slice p L.length c)
  have HB : Hid (Below w.heap.size w W0) := hB0
  have HLD : Hid (∀ W, Below W0.heap.size W0 W → (loadVar 24 ⟨g, 0, none⟩).run Try.prog W = .ok (.agg #[.int .i64 n, .slice p L.length c]) W) := fun W hW => ldBlk (below_holds hW hb0)
  have HMAY : Hid (∀ W, Below w.heap.size w W → Calls Try.prog 21 #[.agg #[.int .i64 n, .slice p L.length c]] W fun e w' => e = .returned (.bool (okB n L)) ∧ Below W.heap.size W w') := fun W hW => maybe_any (hv.below hW) hl
  cases hok : okB n L with
  | false =>
    have hb : bytesOf n L = none := by unfold bytesOf; rw [hok]; rfl
    rw [hb]
    unfold bytV blkV
    dsimp only
    rw [hok] at HMAY
    generalize L.length = m at *
    clear hok hb hB0 hb0 hv
    go_enter Try.func11, Try.ntmps11
    go_wp2_with (first
      | (refine wpList_ldJ rfl 24 _ rfl rfl (HLD.out _ (Below.refl _ _)) ?_)
      | (go_at_call 21; refine (HMAY.out _ HB.out).mono ?_; rintro e w1 ⟨rfl, hB1⟩)
      | fail)
    go_ret2
    exact ⟨rfl, below_new HB.out hB1⟩
  | true =>
    obtain ⟨q1, q2, q3, q4⟩ := okB_all hok
    obtain ⟨k, rfl⟩ : ∃ k : Nat, n = k := ⟨n.toNat, by omega⟩
    have HENC : Hid (∀ W, Below w.heap.size w W → Calls Try.prog 22 #[.agg #[.int .i64 (k : Nat), .slice p L.length c]] W fun e w' => e = .returned (.string ⟨(encBk k L).toArray⟩) ∧ Below W.heap.size W w') := fun W hW => benc_any (hv.below hW) (by omega) q3 q4
    have hb : bytesOf (k : Nat) L = if (encBk k L).length ≤ 60000 then some (encBk k L) else none := by unfold bytesOf; rw [hok, if_pos rfl]; rfl
    rw [hb]
    rw [hok] at HMAY
    clear hb hok hB0 hb0 hv q1 q2 q3 q4
    generalize encBk k L = s at *
    generalize L.length = m at *
    unfold blkV
    have hsz : (⟨s.toArray⟩ : ByteArray).size = s.length := rfl
    by_cases h6 : s.length ≤ 60000
    · have h6i : ¬ (60000 : Int) < (⟨s.toArray⟩ : ByteArray).size := by rw [hsz]; omega
      rw [if_pos h6]
      unfold bytV
      dsimp only
      clear hsz h6
      generalize (⟨s.toArray⟩ : ByteArray) = S at *
      go_enter Try.func11, Try.ntmps11
      go_wp2_with (first
        | (refine wpList_ldJ rfl 24 _ rfl rfl (HLD.out _ (Below.refl _ _)) ?_)
        | (go_at_call 21; refine (HMAY.out _ HB.out).mono ?_; rintro e w1 ⟨rfl, hB1⟩)
        | (refine wpList_ldJ rfl 24 _ rfl rfl (HLD.out _ hB1) ?_)
        | (go_at_call 22; refine (HENC.out _ (below_new HB.out hB1)).mono ?_; rintro e w2 ⟨rfl, hB2⟩)
        | fail)
      go_ret2
      exact ⟨rfl, below_new HB.out (below_new hB1 hB2)⟩
    · have h6i : (60000 : Int) < (⟨s.toArray⟩ : ByteArray).size := by rw [hsz]; omega
      rw [if_neg h6]
      unfold bytV
      dsimp only
      clear hsz h6
      generalize (⟨s.toArray⟩ : ByteArray) = S at *
      go_enter Try.func11, Try.ntmps11
      go_wp2_with (first
        | (refine wpList_ldJ rfl 24 _ rfl rfl (HLD.out _ (Below.refl _ _)) ?_)
        | (go_at_call 21; refine (HMAY.out _ HB.out).mono ?_; rintro e w1 ⟨rfl, hB1⟩)
        | (refine wpList_ldJ rfl 24 _ rfl rfl (HLD.out _ hB1) ?_)
        | (go_at_call 22; refine (HENC.out _ (below_new HB.out hB1)).mono ?_; rintro e w2 ⟨rfl, hB2⟩)
        | fail)
      go_ret2
      exact ⟨rfl, below_new HB.out (below_new hB1 hB2)⟩
set_option maxRecDepth 8000 in
theorem kcheck_any {w : World} {n : Int} {v : Value} {L : List Wr} (hv : WritesAt w v L) (hl : L.length ≤ 4000000000000) : Calls Try.prog 16 #[blkV n v] w fun e w' => e = .returned (.int .i64 (errV (bytesOf n L))) ∧ Below w.heap.size w w' := by
  obtain ⟨p, c, rfl⟩ := hv.shape
  obtain ⟨W0, g, hW0, hg, hB0, hb0, h0, h1⟩ := box_block w n (.slice p L.length c)
  have HB : Hid (Below w.heap.size w W0) := hB0
  have HLD : Hid ((loadVar 24 ⟨g, 0, none⟩).run Try.prog W0 = .ok (.agg #[.int .i64 n, .slice p L.length c]) W0) := ldBlk hb0
  have HBY : Hid (Calls Try.prog 11 #[.agg #[.int .i64 n, .slice p L.length c]] W0 fun e w' => e = .returned (bytV (bytesOf n L)) ∧ Below W0.heap.size W0 w') := kbytes_any (hv.below hB0) hl
  generalize bytesOf n L = o at *
  generalize L.length = m at *
  clear hB0 hb0 hv
  unfold blkV
  cases o with
  | none =>
    unfold errV
    unfold bytV at HBY
    dsimp only at *
    go_enter Try.func16, Try.ntmps16
    go_wp2_with (first
      | (refine wpList_ldJ rfl 24 _ rfl rfl HLD.out ?_)
      | (go_at_call 11; refine HBY.out.mono ?_; rintro e w1 ⟨rfl, hB1⟩)
      | fail)
    go_ret
    exact ⟨rfl, below_new HB.out hB1⟩
  | some s =>
    unfold errV
    unfold bytV at HBY
    dsimp only at *
    go_enter Try.func16, Try.ntmps16
    go_wp2_with (first
      | (refine wpList_ldJ rfl 24 _ rfl rfl HLD.out ?_)
      | (go_at_call 11; refine HBY.out.mono ?_; rintro e w1 ⟨rfl, hB1⟩)
      | fail)
    go_ret
    exact ⟨rfl, below_new HB.out hB1⟩
end Go.Proofs.Ytadpopjhhanapaa
