/-
  The document's Bytes.
-/
import Derived.Test.YtdgfjaidnedaiaaEQTakeW
namespace Go.Proofs.Ytdgfjaidnedaiaa
open Go Go.RowKit Go.Lib

theorem txt_app (a b : List UInt8) : txt a ++ txt b = txt (a ++ b) := by
  apply ByteArray.ext
  simp [txt]
theorem txt_appb (a : List UInt8) (k : ByteArray) : txt a ++ k = txt (a ++ k.data.toList) := by
  apply ByteArray.ext
  simp [txt]
theorem byteL (x : Nat) (h : x < 256) : (x : Int) = ((UInt8.ofNat (x / 256 ^ 0)).toNat : Nat) := by
  have := byte_at x 0
  simp at this
  simp
  omega
theorem bytesC_branch {c : Cl} : bytesC false c = beB 1 c.k.size ++ c.k.data.toList ++ beB 4 c.p.toNat := rfl
theorem bytesC_in {c : Cl} (h : c.p = 0) : bytesC true c = beB 1 c.k.size ++ c.k.data.toList ++ (beB 1 0 ++ beB 1 c.v.size ++ c.v.data.toList) := by
  unfold bytesC
  rw [if_pos rfl, if_pos h]
theorem bytesC_out {c : Cl} (h : ¬ c.p = 0) : bytesC true c = beB 1 c.k.size ++ c.k.data.toList ++ (beB 1 1 ++ (beB 4 c.p.toNat ++ beB 4 c.s.toNat)) := by
  unfold bytesC
  rw [if_pos rfl, if_neg h]
theorem beB_one (x : Nat) : beB 1 x = [UInt8.ofNat (x / 256 ^ 0)] := rfl
theorem beB_two (x : Nat) : beB 2 x = [UInt8.ofNat (x / 256 ^ 1), UInt8.ofNat (x / 256 ^ 0)] := rfl
theorem may_branch {c : Cl} (h : mayB false c = true) : 1 ≤ c.p ∧ c.p ≤ 2147483647 := by
  unfold mayB at h
  simp only [Bool.false_eq_true, false_and, if_false, Bool.and_eq_true] at h
  have := of_decide_eq_true h.2.1
  exact ⟨this.1, this.2.1⟩
theorem may_out {c : Cl} (h : mayB true c = true) (hp : ¬ c.p = 0) : (1 ≤ c.p ∧ c.p ≤ 2147483647) ∧ 0 ≤ c.s ∧ c.s ≤ 60000 := by
  unfold mayB at h
  simp only [true_and, if_neg hp, if_true, Bool.and_eq_true] at h
  have h1 := of_decide_eq_true h.2.1
  have h2 := of_decide_eq_true h.2.2
  exact ⟨⟨h1.1, h1.2.1⟩, h2⟩
set_option maxRecDepth 8000 in
set_option maxHeartbeats 4000000 in
theorem qbytes9_any {w : World} {leaf : Bool} {v : Value} {L : List Cl} (hv : CellsAt w v L) (hl : L.length ≤ 10000) (hs : Short 10000 L) : Calls Try.prog 11 #[nodeV leaf v] w fun e w' => e = .returned (bytV leaf L) ∧ Below w.heap.size w w' := by
  have hnot := run_notE
  obtain ⟨p, c, rfl⟩ := hv.shape
  obtain ⟨W0, g, hW0, hg, hB0, hb0, c0, c1⟩ := box_node w leaf (.slice p L.length c)
  have hck := qcheck_any (leaf := leaf) (hv.below hB0) (by omega)
  have hft := fun W1 (hB1 : Below W0.heap.size W0 W1) => qsize_any (leaf := leaf) (hv.below (below_new hB0 hB1)) (by omega) hs
  have HK : Hid (Below w.heap.size w W0 ∧ w.heap.size = g ∧ Holds W0 g 24 #[.bool leaf, .slice p L.length c] ∧ CellsAt w (.slice p L.length c) L) := ⟨hB0, hg, hb0, hv⟩
  obtain ⟨n, hn⟩ : ∃ n, L.length = n := ⟨_, rfl⟩
  have HN : Hid (L.length = n) := hn
  rw [hn] at hck hft c1 hW0 hl HK ⊢
  clear hn hB0 hb0 hv
  have hni : (n : Int) ≤ 10000 := by omega
  unfold nodeV at hck hft ⊢
  obtain ⟨R, hR⟩ : ∃ R, bytV leaf L = R := ⟨_, rfl⟩
  rw [hR]
  unfold bytV at hR
  obtain ⟨T, hT⟩ : ∃ T, sizeL leaf L = T := ⟨_, rfl⟩
  by_cases hok : OkL leaf L
  · rw [if_pos hok] at hR
    rw [chkE_ok hok] at hck
    by_cases hsz : sizeL leaf L ≤ 1013
    · rw [if_pos hsz] at hR
      have HR : Hid (R = .tuple #[.string (bytesT leaf L), .int .i64 0]) := hR.symm
      have HOK : Hid (OkL leaf L ∧ sizeL leaf L ≤ 1013) := ⟨hok, hsz⟩
      have hn13 : n ≤ 1013 := by have := ok_small hsz; rw [HN.out] at this; exact this
      have hn13i : (n : Int) ≤ 1013 := by omega
      rw [hT] at hft hsz
      have hTi : ¬ (1013 : Int) < (T : Int) := by omega
      have hq1 : (n : Int) / 256 = ((UInt8.ofNat (n / 256 ^ 1)).toNat : Nat) := by
        have := byte_at n 1
        simp at this
        simp
        omega
      have hq0 : (n : Int) % 256 = ((UInt8.ofNat (n / 256 ^ 0)).toNat : Nat) := by
        have := byte_at n 0
        simp at this
        simp
      have hbx := fun W => box_bytes W [UInt8.ofNat (n / 256 ^ 1), UInt8.ofNat (n / 256 ^ 0)]
      have HB2 : Hid (beB 2 n = [UInt8.ofNat (n / 256 ^ 1), UInt8.ofNat (n / 256 ^ 0)]) := beB_two n
      generalize UInt8.ofNat (n / 256 ^ 1) = b1 at hq1 hbx HB2
      generalize UInt8.ofNat (n / 256 ^ 0) = b0 at hq0 hbx HB2
      clear hR hok hsz hs hn13
      go_enter Try.func11, Try.ntmps11
      go_wp2_with fail
      refine hck.mono ?_
      rintro e W1 ⟨rfl, hB1⟩
      replace c0 := keep_cell hB1 c0
      replace c1 := keep_cell hB1 c1
      replace hft := hft W1 hB1
      have HB1 : Hid (Below W0.heap.size W0 W1) := hB1
      clear hB1 hck
      go_wp2_with fail
      refine hft.mono ?_
      rintro e W2 ⟨rfl, hB2⟩
      obtain ⟨W3, g3, hW3, hg3, hB3, hcv⟩ := hbx W2
      replace hW3 : W2.alloc (.cells #[.int .u8 (b1.toNat : Nat), .int .u8 (b0.toNat : Nat)] 5) = W3 := hW3
      simp only [List.length_cons, List.length_nil, Nat.zero_add, Nat.reduceAdd] at hcv
      rw [← HB2.out] at hcv
      replace c0 := keep_cell hB2 c0
      replace c1 := keep_cell hB2 c1
      have HB3 : Hid (Below W0.heap.size W0 W3) := below_new HB1.out (below_new hB2 hB3)
      have HC : Hid (W3.cell? ⟨g, 0, none⟩ = some (.bool leaf) ∧ W3.cell? ⟨g, 1, none⟩ = some (.slice p n c)) := ⟨keep_cell hB3 c0, keep_cell hB3 c1⟩
      clear hB2 hB3 hft hbx HB1
      go_wp2_with fail
      clear hcv hW3 hq1 hq0 c0 c1
      go_loopw [5, 6] (fun sv y wr => ∃ k : Nat, y = .int .i64 (k : Nat) ∧ k ≤ n ∧ sv = .string (txt (beB 2 n ++ (L.take k).flatMap (bytesC leaf))) ∧ Below W3.heap.size W3 wr) (fun _ y _ => n - (intOf y).toNat)
      case atStart => exact ⟨0, rfl, Nat.zero_le _, by simp, Below.refl _ _⟩
      case round =>
        obtain ⟨k, rfl, hk, rfl, hB⟩ := hrel
        have c0 := keep_cell hB HC.out.1
        have c1 := keep_cell hB HC.out.2
        have HBw : Hid (Below w.heap.size w wr) := below_new (below_new HK.out.1 HB3.out) hB
        have HB : Hid (Below W3.heap.size W3 wr) := hB
        clear hB
        by_cases hkn : k < n
        · have hki : (k : Int) < n := by omega
          obtain ⟨x, hx⟩ : ∃ x, L[k]? = some x := ⟨_, List.getElem?_eq_getElem (by have := HN.out; omega)⟩
          obtain ⟨b, o, rfl, hnn, d0, d1, d2, d3⟩ := (HK.out.2.2.2.below HBw.out).at hx
          clear hnn
          have hmx := HOK.out.1.1 x (List.mem_of_getElem? hx)
          have hlen : (beB 2 n ++ (L.take k).flatMap (bytesC leaf)).length ≤ 1013 := by
            rw [List.length_append, beB_len, flat_len]
            have h1 := sizeL_le leaf L k
            have h2 := HOK.out.2
            unfold sizeL at h1 h2
            omega
          obtain ⟨S, hS⟩ : ∃ S, txt (beB 2 n ++ (L.take k).flatMap (bytesC leaf)) = S := ⟨_, rfl⟩
          have HT : Hid (txt (beB 2 n ++ (L.take (k + 1)).flatMap (bytesC leaf)) = S ++ txt (bytesC leaf x)) := by
            show _ = _
            rw [flat_take hx, ← List.append_assoc, ← txt_app, hS]
          have hSs : (S.size : Int) ≤ 1013 := by rw [← hS, txt_size]; omega
          rw [hS]
          obtain ⟨hks, hvs⟩ := mayB_short hmx
          obtain ⟨W6, z, hW6, hz, hB6, hf6⟩ := box_cell wr x
          have e0 := keep_cell hB6 c0
          have e1 := keep_cell hB6 c1
          have hkb := byteL x.k.size (by omega)
          have HKb : Hid (beB 1 x.k.size = [UInt8.ofNat (x.k.size / 256 ^ 0)]) := rfl
          have hvb := byteL x.v.size (by omega)
          have HVb : Hid (beB 1 0 ++ beB 1 x.v.size = [UInt8.ofNat 0, UInt8.ofNat (x.v.size / 256 ^ 0)]) := rfl
          obtain ⟨W7, g7, hW7, hg7, hB7, hcv7⟩ := box_bytes W6 [UInt8.ofNat (x.k.size / 256 ^ 0)]
          rw [← HKb.out] at hcv7
          generalize UInt8.ofNat (x.k.size / 256 ^ 0) = kb at hkb HKb hW7 hcv7
          generalize UInt8.ofNat (x.v.size / 256 ^ 0) = vb at hvb HVb
          replace hW7 : W6.alloc (.cells #[.int .u8 (kb.toNat : Nat)] 5) = W7 := hW7
          simp only [HKb.out, List.length_cons, List.length_nil, Nat.zero_add] at hcv7
          obtain ⟨T1, hT1⟩ : ∃ T1, txt [kb] = T1 := ⟨_, rfl⟩
          have hT1s : (T1.size : Int) ≤ 1 := by rw [← hT1, txt_size]; simp
          rw [hT1] at hcv7
          have HT1 : Hid (txt (beB 1 x.k.size) = T1) := by show _ = _; rw [HKb.out, hT1]
          have HB7 : Hid (Below W3.heap.size W3 W7) := below_new HB.out (below_new hB6 hB7)
          have hf7 := hf6.below hB7
          have m0 := keep_cell hB7 e0
          have hksi : (x.k.size : Int) ≤ 128 := by omega
          have hvsi : (x.v.size : Int) ≤ 200 := by omega
          clear hS hlen hx hB6 hT1 HKb
          obtain ⟨xk, xv, xp, xs⟩ := x
          obtain ⟨f0, f1, f2, f3⟩ := hf6
          obtain ⟨j0, j1, j2, j3⟩ := hf7
          dsimp only at d0 d1 d2 d3 f0 f1 f2 f3 j0 j1 j2 j3 hW6 hks hvs hkb hvb HVb HT1 hksi hvsi
          cases leaf with
          | false =>
            have hmb := may_branch hmx
            dsimp only at hmb
            obtain ⟨pn, rfl⟩ : ∃ pn : Nat, xp = (pn : Int) := ⟨xp.toNat, by omega⟩
            have h4 := fun W => four_any pn (by omega) W
            obtain ⟨F, hF⟩ : ∃ F, txt (beB 4 pn) = F := ⟨_, rfl⟩
            have hFs : (F.size : Int) ≤ 4 := by rw [← hF, txt_size, beB_len]; simp
            rw [hF] at h4
            have HE : Hid (S ++ txt (bytesC false ⟨xk, xv, (pn : Int), xs⟩) = S ++ T1 ++ xk ++ F) := by
              show _ = _
              rw [bytesC_branch, ← txt_app, ← txt_appb]
              dsimp only
              rw [HT1.out, Int.toNat_natCast, hF, ByteArray.append_assoc, ByteArray.append_assoc, ByteArray.append_assoc]
            clear hF hmx hmb
            go_wp2_with fail
            refine (h4 _).mono ?_
            rintro e W8 ⟨rfl, hB8⟩
            have HB8 : Hid (Below W3.heap.size W3 W8) := below_new HB7.out hB8
            clear hB8 h4
            go_wp2_with fail
            exact ⟨⟨k + 1, by go_num, by omega, by rw [HT.out, HE.out], HB8.out⟩, by simp [intOf]; omega⟩
          | true =>
            by_cases hxp : xp = 0
            · subst hxp
              obtain ⟨W8, g8, hW8, hg8, hB8, hcv8⟩ := box_bytes W7 [UInt8.ofNat 0, vb]
              replace hW8 : W7.alloc (.cells #[.int .u8 0, .int .u8 (vb.toNat : Nat)] 5) = W8 := hW8
              simp only [List.length_cons, List.length_nil, Nat.zero_add, Nat.reduceAdd] at hcv8
              obtain ⟨T2, hT2⟩ : ∃ T2, txt [UInt8.ofNat 0, vb] = T2 := ⟨_, rfl⟩
              have hT2s : (T2.size : Int) ≤ 2 := by rw [← hT2, txt_size]; simp
              rw [hT2] at hcv8
              have i1 := keep_cell hB8 j1
              have HE : Hid (S ++ txt (bytesC true ⟨xk, xv, 0, xs⟩) = S ++ T1 ++ xk ++ T2 ++ xv) := by
                show _ = _
                rw [bytesC_in rfl]
                dsimp only
                rw [← txt_app, ← txt_appb, HT1.out, HVb.out, ← txt_appb, hT2]
                simp only [ByteArray.append_assoc]
              have HB8 : Hid (Below W3.heap.size W3 W8) := below_new HB7.out hB8
              clear hT2 hmx hB8
              go_wp2_with fail
              exact ⟨⟨k + 1, by go_num, by omega, by rw [HT.out, HE.out], HB8.out⟩, by simp [intOf]; omega⟩
            · have hmb := may_out hmx hxp
              dsimp only at hmb
              obtain ⟨pn, rfl⟩ : ∃ pn : Nat, xp = (pn : Int) := ⟨xp.toNat, by omega⟩
              obtain ⟨sn, rfl⟩ : ∃ sn : Nat, xs = (sn : Int) := ⟨xs.toNat, by omega⟩
              have hxpi : ((pn : Int) != 0) = true := by simpa using hxp
              have h4 := fun W => four_any pn (by omega) W
              have h5 := fun W => four_any sn (by omega) W
              obtain ⟨F, hF⟩ : ∃ F, txt (beB 4 pn) = F := ⟨_, rfl⟩
              obtain ⟨G, hG⟩ : ∃ G, txt (beB 4 sn) = G := ⟨_, rfl⟩
              have hFs : (F.size : Int) ≤ 4 := by rw [← hF, txt_size, beB_len]; simp
              have hGs : (G.size : Int) ≤ 4 := by rw [← hG, txt_size, beB_len]; simp
              rw [hF] at h4
              rw [hG] at h5
              obtain ⟨I, hI⟩ : ∃ I : ByteArray, ⟨#[1]⟩ = I := ⟨_, rfl⟩
              have hIs : (I.size : Int) ≤ 1 := by rw [← hI]; decide
              have HE : Hid (S ++ txt (bytesC true ⟨xk, xv, (pn : Int), (sn : Int)⟩) = S ++ T1 ++ xk ++ I ++ F ++ G) := by
                show _ = _
                rw [bytesC_out hxp]
                dsimp only
                rw [← txt_app, ← txt_appb, HT1.out, ← txt_app, ← txt_app, Int.toNat_natCast, Int.toNat_natCast, hF, hG, show txt (beB 1 1) = I from by rw [← hI]; rfl]
                simp only [ByteArray.append_assoc]
              have HB7' : Hid (Below W7.heap.size W7 W7) := Below.refl _ _
              clear hF hG hmx hmb hxp
              go_wp2_with fail
              obtain ⟨S2, hS2⟩ : ∃ S2, S ++ T1 ++ xk = S2 := ⟨_, rfl⟩
              have hS2s : (S2.size : Int) ≤ 1142 := by rw [← hS2]; simp only [ByteArray.size_append]; omega
              rw [hS2] at HE ⊢
              rw [hI]
              refine wp_region_class (fun W => Below W7.heap.size W7 W) mixedP (by kernel_rfl) (Below.refl _ _).drew ?_
              go_big_quiet_step (exact fun _ => rfl)
              refine wpQ_val rfl (.string (S2 ++ I)) (fun _ => by go_simp <;> omega) ?_
              go_frame
              go_big_quiet_step (exact fun _ => rfl)
              refine wpQ_ld rfl _ _ rfl rfl (fun W hW => ldInt (keep_cell hW j2)) ?_
              go_frame
              refine wpQ_call rfl 34 #[.int .i64 (pn : Nat)] (fun _ => by go_simp) (.string F) (fun W hW => (h4 W).mono fun e w' h => ⟨h.1, below_new hW h.2⟩) ?_
              go_frame
              refine wpQ_val rfl (.string (S2 ++ I ++ F)) (fun _ => by go_simp <;> omega) ?_
              go_frame
              go_big_quiet_step (exact fun _ => rfl)
              refine wpQ_ld rfl _ _ rfl rfl (fun W hW => ldInt (keep_cell hW j3)) ?_
              go_frame
              refine wpQ_call rfl 34 #[.int .i64 (sn : Nat)] (fun _ => by go_simp) (.string G) (fun W hW => (h5 W).mono fun e w' h => ⟨h.1, below_new hW h.2⟩) ?_
              go_frame
              refine wpQ_val rfl (.string (S2 ++ I ++ F ++ G)) (fun _ => by go_simp <;> omega) ?_
              go_frame
              go_big_quiet_step (exact fun _ => rfl)
              refine wpQuiet_nil ?_
              intro W6 hB6
              simp only [Exit.inBlock, Exit.then]
              go_at_K
              have HB8 : Hid (Below W3.heap.size W3 W6) := below_new HB7.out hB6
              clear hB6 h4 h5
              go_wp2_with fail
              exact ⟨⟨k + 1, by go_num, by omega, by rw [HT.out, HE.out], HB8.out⟩, by simp [intOf]; omega⟩
        · have hki : ¬ (k : Int) < n := by omega
          have HE : Hid (bytesT leaf L = txt (beB 2 n ++ (L.take k).flatMap (bytesC leaf))) := by
            show _ = _
            unfold bytesT bytesL
            rw [List.take_of_length_le (by have := HN.out; omega), HN.out]
            rfl
          rw [← HE.out]
          generalize bytesT leaf L = T at HR ⊢
          go_wp2_with fail
          go_ret2
          rw [HR.out]
          exact ⟨rfl, by first | exact HBw.out | (rw [← HK.out.2.1]; exact HBw.out)⟩
    · rw [if_neg hsz] at hR
      have HR : Hid (R = .tuple #[.string ⟨#[]⟩, .int .i64 11]) := hR.symm
      have hTb := sizeL_short (leaf := leaf) hs
      rw [HN.out, hT] at hTb
      have hTb2 : T ≤ 2100000000 := by
        have : n * 20010 ≤ 10000 * 20010 := Nat.mul_le_mul_right _ hl
        omega
      rw [hT] at hft hsz
      have hTi : (1013 : Int) < (T : Int) := by omega
      clear hR hok hsz hs hTb
      go_enter Try.func11, Try.ntmps11
      go_wp2_with fail
      refine hck.mono ?_
      rintro e W1 ⟨rfl, hB1⟩
      replace c0 := keep_cell hB1 c0
      replace c1 := keep_cell hB1 c1
      replace hft := hft W1 hB1
      have HB1 : Hid (Below W0.heap.size W0 W1) := hB1
      clear hB1 hck
      go_wp2_with fail
      refine hft.mono ?_
      rintro e W2 ⟨rfl, hB2⟩
      have HB2 : Hid (Below W0.heap.size W0 W2) := below_new HB1.out hB2
      clear hB2 hft
      go_wp2_with fail
      go_ret2
      rw [HR.out]
      exact ⟨rfl, by first | exact below_new HK.out.1 HB2.out | (rw [← HK.out.2.1]; exact below_new HK.out.1 HB2.out)⟩
  · rw [if_neg hok] at hR
    rw [chkE_no hok] at hck
    have HR : Hid (R = .tuple #[.string ⟨#[]⟩, .int .i64 1]) := hR.symm
    clear hR hok hs hft
    go_enter Try.func11, Try.ntmps11
    go_wp2_with fail
    refine hck.mono ?_
    rintro e W1 ⟨rfl, hB1⟩
    have HB1 : Hid (Below W0.heap.size W0 W1) := hB1
    clear hB1 hck
    go_wp2_with fail
    go_ret2
    rw [HR.out]
    exact ⟨rfl, by first | exact below_new HK.out.1 HB1.out | (rw [← HK.out.2.1]; exact below_new HK.out.1 HB1.out)⟩
end Go.Proofs.Ytdgfjaidnedaiaa
