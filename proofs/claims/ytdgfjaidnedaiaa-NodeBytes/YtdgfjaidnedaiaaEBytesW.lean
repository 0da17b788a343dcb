/-
  The program's Bytes.
-/
import Derived.Test.YtdgfjaidnedaiaaECellBW
namespace Go.Proofs.Ytdgfjaidnedaiaa
open Go Go.RowKit Go.Lib

/-- A node's bytes. -/
def bytesL (leaf : Bool) (L : List Cl) : List UInt8 := beB 2 L.length ++ L.flatMap (bytesC leaf)
def bytesT (leaf : Bool) (L : List Cl) : ByteArray := ⟨(bytesL leaf L).toArray⟩
theorem flat_len (leaf : Bool) : ∀ L : List Cl, (L.flatMap (bytesC leaf)).length = (L.map (sizeC leaf)).sum
  | [] => rfl
  | c :: l => by rw [List.flatMap_cons, List.length_append, bytesC_len, flat_len leaf l, List.map_cons, List.sum_cons]
theorem bytesL_len (leaf : Bool) (L : List Cl) : (bytesL leaf L).length = sizeL leaf L := by
  unfold bytesL sizeL
  rw [List.length_append, beB_len, flat_len]
theorem flat_take {leaf : Bool} {L : List Cl} {k : Nat} {x : Cl} (h : L[k]? = some x) : (L.take (k + 1)).flatMap (bytesC leaf) = (L.take k).flatMap (bytesC leaf) ++ bytesC leaf x := by
  rw [List.take_add_one, h, List.flatMap_append]
  simp
open Classical in
/-- What Bytes tells. -/
noncomputable def bytV (leaf : Bool) (L : List Cl) : Value := if OkL leaf L then (if sizeL leaf L ≤ 1013 then .tuple #[.string (bytesT leaf L), .int .i64 0] else .tuple #[.string ⟨#[]⟩, .int .i64 11]) else .tuple #[.string ⟨#[]⟩, .int .i64 1]
set_option maxRecDepth 8000 in
set_option maxHeartbeats 4000000 in
theorem bytes_any {w : World} {leaf : Bool} {v : Value} {L : List Cl} (hv : CellsAt w v L) (hl : L.length ≤ 10000) (hs : Short 10000 L) : Calls Try.prog 10 #[nodeV leaf v] w fun e w' => e = .returned (bytV leaf L) ∧ Below w.heap.size w w' := by
  have hnot := run_notE
  obtain ⟨p, c, rfl⟩ := hv.shape
  obtain ⟨W0, g, hW0, hg, hB0, hb0, c0, c1⟩ := box_node w leaf (.slice p L.length c)
  have hck := check_any (leaf := leaf) (hv.below hB0) (by omega)
  have hft := fun W1 (hB1 : Below W0.heap.size W0 W1) => fits_any (leaf := leaf) (hv.below (below_new hB0 hB1)) (by omega) hs
  have HK : Hid (Below w.heap.size w W0 ∧ w.heap.size = g ∧ Holds W0 g 24 #[.bool leaf, .slice p L.length c] ∧ CellsAt w (.slice p L.length c) L) := ⟨hB0, hg, hb0, hv⟩
  obtain ⟨n, hn⟩ : ∃ n, L.length = n := ⟨_, rfl⟩
  have HN : Hid (L.length = n) := hn
  rw [hn] at hck hft c1 hW0 hl HK ⊢
  clear hn hB0 hb0 hv
  have hni : (n : Int) ≤ 10000 := by omega
  unfold nodeV at hck hft ⊢
  obtain ⟨R, hR⟩ : ∃ R, bytV leaf L = R := ⟨_, rfl⟩
  rw [hR]
  unfold bytV at hR
  by_cases hok : OkL leaf L
  · rw [if_pos hok] at hR
    rw [chkE_ok hok] at hck
    by_cases hsz : sizeL leaf L ≤ 1013
    · rw [if_pos hsz] at hR
      rw [decide_eq_true hsz] at hft
      have HR : Hid (R = .tuple #[.string (bytesT leaf L), .int .i64 0]) := hR.symm
      have HOK : Hid (OkL leaf L ∧ sizeL leaf L ≤ 1013) := ⟨hok, hsz⟩
      clear hR hok hsz hs
      go_enter Try.func10, Try.ntmps10
      go_wp2_with (first
        | (go_at_call 12; refine hck.mono ?_; rintro e W1 ⟨rfl, hB1⟩; replace c0 := keep_cell hB1 c0; replace c1 := keep_cell hB1 c1; replace hft := hft W1 hB1; have HB1 : Hid (Below W0.heap.size W0 W1) := hB1; clear hB1)
        | (go_at_call 16; refine hft.mono ?_; rintro e W2 ⟨rfl, hB2⟩; replace c0 := keep_cell hB2 c0; replace c1 := keep_cell hB2 c1; have HB2 : Hid (Below W0.heap.size W0 W2) := below_new HB1.out hB2; clear hB2; obtain ⟨W3, g3, hW3, hg3, hB3, hh3⟩ := box_ints W2 [n]; unfold intCells at hW3; simp only [List.map_cons, List.map_nil] at hW3; have hnb := numbers_any (OwnB.nil W3 W2.heap.size) hB3.size (by simp) (z := 2) (by omega) hh3 (fun x hx => by rw [List.mem_singleton.1 hx]; omega) (by simp); rw [numsB_one, List.nil_append] at hnb; simp only [List.length_cons, List.length_nil] at hnb; have HB3 : Hid (Below W2.heap.size W2 W3) := hB3; clear hB3 hh3)
        | (go_at_call 32; refine hnb.mono ?_; rintro e W4 ⟨v4, rfl, hown4, hC4, hD4⟩; have HB4 : Hid (Below W2.heap.size W2 W4) := (HB3.out.trans hD4); replace c0 := keep_cell HB4.out c0; replace c1 := keep_cell HB4.out c1))
      have HO4 : Hid (OwnB W4 W2.heap.size v4 (beB 2 n) ∧ W2.heap.size ≤ W4.heap.size) := ⟨hown4, HB4.out.size⟩
      clear hown4 hC4 hD4 hnb hft hck HB1
      go_loopw [5, 24] (fun b y wr => ∃ k : Nat, y = .int .i64 (k : Nat) ∧ k ≤ n ∧ OwnB wr W2.heap.size b (beB 2 n ++ (L.take k).flatMap (bytesC leaf)) ∧ Below W2.heap.size W2 wr) (fun _ y _ => n - (intOf y).toNat)
      case atStart => exact ⟨0, rfl, Nat.zero_le _, by simpa using HO4.out.1, HB4.out⟩
      case round =>
        clear c0 c1
        obtain ⟨k, rfl, hk, hob, hB⟩ := hrel
        have hBw : Below w.heap.size w wr := below_new (below_new HK.out.1 HB2.out) hB
        have hb := below_holds hB (below_holds HB2.out HK.out.2.2.1)
        have c0 := hb.cell 0
        have c1 := hb.cell 1
        simp at c0 c1
        clear hb
        by_cases hkn : k < n
        · have hki : (k : Int) < n := by omega
          obtain ⟨x, hx⟩ : ∃ x, L[k]? = some x := ⟨_, List.getElem?_eq_getElem (by have := HN.out; omega)⟩
          obtain ⟨b, o, rfl, hnn, d0, d1, d2, d3⟩ := (HK.out.2.2.2.below hBw).at hx
          clear hnn
          have HT : Hid ((L.take (k + 1)).flatMap (bytesC leaf) = (L.take k).flatMap (bytesC leaf) ++ bytesC leaf x) := flat_take hx
          have hmx := HOK.out.1.1 x (List.mem_of_getElem? hx)
          have hlen : (beB 2 n ++ (L.take k).flatMap (bytesC leaf)).length ≤ 10000000 := by
            rw [List.length_append, beB_len, flat_len]
            have h1 := sizeL_le leaf L k
            have h2 := HOK.out.2
            unfold sizeL at h1 h2
            omega
          obtain ⟨W6, z, hW6, hz, hB6, hf6⟩ := box_cell wr x
          have e0 := keep_cell hB6 c0
          have hob6 := hob.below0 hB6
          have hcb := cellBytes_any hob6 (Nat.le_trans hB.size hB6.size) hlen leaf x hmx
          have HB6 : Hid (Below W2.heap.size W2 W6) := hB.trans (hB6.mono hB.size)
          obtain ⟨xk, xv, xp, xs⟩ := x
          unfold cla at hcb
          obtain ⟨f0, f1, f2, f3⟩ := hf6
          dsimp only at d0 d1 d2 d3 f0 f1 f2 f3 hW6 hcb
          clear hob hob6 hB6 hlen hmx
          go_wp2_with (go_at_call 33; refine hcb.mono ?_; rintro e W7 ⟨v7, rfl, hown7, hD7⟩)
          have HF : Hid (OwnB W7 W2.heap.size v7 (beB 2 n ++ (L.take (k + 1)).flatMap (bytesC leaf)) ∧ Below W2.heap.size W2 W7) := ⟨by rw [HT.out, ← List.append_assoc]; exact hown7, HB6.out.trans hD7⟩
          exact ⟨⟨k + 1, by go_num, by omega, HF.out⟩, by simp [intOf]; omega⟩
        · have hki : ¬ (k : Int) < n := by omega
          have hcv := convertB hob (by rw [List.length_append, beB_len]; omega)
          have HE : Hid (bytesT leaf L = ⟨(beB 2 n ++ (L.take k).flatMap (bytesC leaf)).toArray⟩) := by
            show _ = _
            unfold bytesT bytesL
            rw [List.take_of_length_le (by have := HN.out; omega), HN.out]
          rw [← HE.out] at hcv
          generalize bytesT leaf L = T at hcv HR
          clear hob
          go_wp2_with fail
          go_ret2
          rw [HR.out]
          exact ⟨rfl, by first | exact hBw | (rw [← HK.out.2.1]; exact hBw)⟩
    · rw [if_neg hsz] at hR
      rw [decide_eq_false hsz] at hft
      have HR : Hid (R = .tuple #[.string ⟨#[]⟩, .int .i64 11]) := hR.symm
      clear hR hok hsz hs
      go_enter Try.func10, Try.ntmps10
      go_wp2_with (first
        | (go_at_call 12; refine hck.mono ?_; rintro e W1 ⟨rfl, hB1⟩; replace c0 := keep_cell hB1 c0; replace c1 := keep_cell hB1 c1; replace hft := hft W1 hB1; have HB1 : Hid (Below W0.heap.size W0 W1) := hB1; clear hB1)
        | (go_at_call 16; refine hft.mono ?_; rintro e W2 ⟨rfl, hB2⟩))
      go_ret2
      rw [HR.out, ← HK.out.2.1]
      exact ⟨rfl, below_new HK.out.1 (below_new HB1.out hB2)⟩
  · rw [if_neg hok] at hR
    rw [chkE_no hok] at hck
    have HR : Hid (R = .tuple #[.string ⟨#[]⟩, .int .i64 1]) := hR.symm
    clear hR hok hs hft
    go_enter Try.func10, Try.ntmps10
    go_wp2_with (go_at_call 12; refine hck.mono ?_; rintro e W1 ⟨rfl, hB1⟩; replace c0 := keep_cell hB1 c0; replace c1 := keep_cell hB1 c1)
    go_ret2
    rw [HR.out, ← HK.out.2.1]
    exact ⟨rfl, below_new HK.out.1 hB1⟩
end Go.Proofs.Ytdgfjaidnedaiaa
