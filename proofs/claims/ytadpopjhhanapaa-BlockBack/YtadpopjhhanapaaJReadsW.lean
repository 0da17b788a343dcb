/-
  BlockReads: the law's walk.
-/
import Derived.Test.YtadpopjhhanapaaKC
import Derived.Test.YtadpopjhhanapaaRBack
namespace Go.Proofs.Ytadpopjhhanapaa
open Go Go.RowKit

theorem enc_split {n : Nat} {L : List Wr} (h : (encBk n L).length ≤ 60000) (r : List UInt8) : ∃ p, split (encBk n L ++ r) = some (p, true, r) := by
  unfold encBk at h ⊢
  have h1 := listL_ge (txtL [numB n] ++ listL (cat (L.map encWB)))
  exact ⟨_, split_list _ r (by omega)⟩
theorem read_more {n : Int} {L : List Wr} {t m : List UInt8} (h : bytesOf n L = some t) (hm : m ≠ []) : readOf (t ++ m) = none := by
  obtain ⟨_, h2, rfl⟩ := bytesOf_some.1 h
  obtain ⟨p, hp⟩ := enc_split h2 m
  have hd : decode (encBk n.toNat L ++ m) = none := by
    unfold decode
    rw [hp]
    cases m with
    | nil => exact absurd rfl hm
    | cons a l => rfl
  unfold readOf
  rw [hd]
  split <;> rfl
theorem read_cut {n : Int} {L : List Wr} {t : List UInt8} (h : bytesOf n L = some t) : 0 < t.length ∧ readOf (t.take (t.length - 1)) = none := by
  obtain ⟨_, h2, rfl⟩ := bytesOf_some.1 h
  obtain ⟨p, hp⟩ := enc_split h2 []
  rw [List.append_nil] at hp
  have h0 : 0 < (encBk n.toNat L).length := by
    cases he : encBk n.toNat L with
    | nil => rw [he] at hp; cases hp
    | cons a l => simp
  have hc := split_cut hp (by omega) ((encBk n.toNat L).length - 1) (by omega)
  refine ⟨h0, ?_⟩
  unfold readOf decode
  rw [hc]
  split <;> rfl
theorem read_is {s : List UInt8} {n : Int} {L : List Wr} (h : readOf s = some (n, L)) : bytesOf n L = some s := by
  unfold readOf at h
  split at h
  · cases h
  · split at h
    · split at h
      · next i _ h1 =>
        injection h with h
        rw [h] at h1
        exact h1
      · cases h
    · cases h
theorem read_none (x : ByteArray) (h : readOf x.data.toList = none) (W : World) : Calls Try.prog 13 #[.string x] W fun e w' => e = .returned (.tuple #[.agg #[.int .i64 0, .slice none 0 0], .int .i64 10]) ∧ Below W.heap.size W w' := by
  have := kread_any x W
  rw [h] at this
  exact this
theorem read_some (x : ByteArray) {n : Int} {L : List Wr} (h : readOf x.data.toList = some (n, L)) (W : World) : Calls Try.prog 13 #[.string x] W fun e w' => (∃ v' K, e = .returned (.tuple #[.agg #[.int .i64 n, v'], .int .i64 0]) ∧ WritesAt w' v' K ∧ K.map Wr.bare = L) ∧ Below W.heap.size W w' := by
  have := kread_any x W
  rw [h] at this
  exact this
set_option maxRecDepth 8000 in
set_option maxHeartbeats 16000000 in
theorem reads_walk {w : World} {n : Int} {v : Value} {L : List Wr} (hv : WritesAt w v L) (hl : L.length ≤ 9223372036854775807) (hls : ∀ x ∈ L, x.L.length ≤ 9223372036854775807) (mo s : ByteArray) (hmo : mo.size ≤ 9223372036854775807) (hs : s.size ≤ 9223372036854775807) :
    Calls Try.prog 8 #[.agg #[.int .i64 n, v], .string mo, .string s] w fun e w' => e = .returned (.bool true) ∧ Below w.heap.size w w' := by
  obtain ⟨p, c, rfl⟩ := hv.shape
  obtain ⟨W0, g, hW0, hg, hB0, hb0, _, _⟩ := box_block w n (.slice p L.length c)
  have HB : Hid (Below w.heap.size w W0) := hB0
  have HG : Hid (w.heap.size = g) := hg
  have hv0 := hv.below hB0
  have HV : Hid (WritesAt W0 (.slice p L.length c) L) := hv0
  have HLI : Hid (∀ W, Below W0.heap.size W0 W → Calls Try.prog 10 #[.agg #[.int .i64 n, .slice p L.length c]] W fun e w' => LPost L e ∧ Below W.heap.size W w') := fun W hW => little_any (hv0.below hW) hl hls
  have HBY : Hid (L.length ≤ 80 → ∀ W, Below W0.heap.size W0 W → Calls Try.prog 11 #[.agg #[.int .i64 n, .slice p L.length c]] W fun e w' => e = .returned (bytV (bytesOf n L)) ∧ Below W.heap.size W w') := fun h80 W hW => kbytes_any (hv0.below hW) (by omega)
  have HAW := awake_any W0
  generalize hN : L.length = N at *
  clear hB0 hv hv0 hl hls
  have HH : Hid (Holds W0 g 24 #[.int .i64 n, .slice p N c]) := hb0
  clear hb0
  go_enter Try.func8, Try.ntmps8
  go_wp2_with (first
    | (refine wpList_loadK _ rfl _ rfl a1 rfl ?_)
    | (go_at_call 9; refine HAW.mono ?_; rintro e w1 ⟨rfl, hB1⟩; have a1 := below_holds hB1 HH.out)
    | fail)
  refine (HLI.out w1 hB1).mono ?_
  rintro e w2 ⟨⟨b1, rfl, hlit⟩, hB2⟩
  have H2 : Hid (Below W0.heap.size W0 w2) := below_new hB1 hB2
  have HF2 : Hid (Below w.heap.size w w2) := below_new HB.out H2.out
  cases b1 with
  | false =>
    clear hlit
    go_wp2_with fail
    go_ret
    exact ⟨rfl, by first | exact HF2.out | (rw [← HG.out]; exact HF2.out)⟩
  | true =>
    have HBY2 : Hid (∀ W, Below W0.heap.size W0 W → Calls Try.prog 11 #[.agg #[.int .i64 n, .slice p N c]] W fun e w' => e = .returned (bytV (bytesOf n L)) ∧ Below W.heap.size W w') := HBY.out (by have := (hlit rfl).1; omega)
    clear hlit HBY HLI hB1 hB2 a1 HV
    by_cases h3 : mo.size ≤ 300
    · have h3i : ¬ (300 : Int) < mo.size := by omega
      by_cases h4 : s.size ≤ 3000
      · have h4i : ¬ (3000 : Int) < s.size := by omega
        clear h3 h4 hmo hs
        cases hr : readOf s.data.toList with
        | none =>
          have HR : Hid (∀ W, Calls Try.prog 13 #[.string s] W fun e w' => e = .returned (.tuple #[.agg #[.int .i64 0, .slice none 0 0], .int .i64 10]) ∧ Below W.heap.size W w') := fun W => read_none s hr W
          clear hr
          go_wp2_with (first
            | (refine wpList_loadK _ rfl _ rfl a4 rfl ?_)
            | (go_at_call 13; refine (HR.out _).mono ?_; rintro e w4 ⟨rfl, hB4⟩
               have HCUR : Hid (Below W0.heap.size W0 (w4.alloc (.cells #[.int .i64 0, .slice none 0 0] 24))) := below_new (below_new H2.out hB4) (below_new1 _ _)
               have a4 := below_holds HCUR.out HH.out)
            | fail)
          clear a4 hB4
          refine (HBY2.out _ HCUR.out).mono ?_
          rintro e w6 ⟨rfl, hB6⟩
          have HC6 : Hid (Below W0.heap.size W0 w6) := below_new HCUR.out hB6
          cases ho : bytesOf n L with
          | none =>
            simp only [bytV]
            go_wp2_with fail
            go_ret
            exact ⟨rfl, by first | exact below_new HB.out HC6.out | (rw [← HG.out]; exact below_new HB.out HC6.out)⟩
          | some t =>
            simp only [bytV]
            by_cases hm0 : mo = ⟨#[]⟩
            · subst hm0
              go_wp2_with fail
              go_ret
              exact ⟨rfl, by first | exact below_new HB.out HC6.out | (rw [← HG.out]; exact below_new HB.out HC6.out)⟩
            · have hne := notEmpty mo (nilB mo hm0)
              have hmn : mo.data.toList ≠ [] := fun e => hm0 (ByteArray.ext (Array.toList_inj.1 (by rw [e])))
              have hR2 := read_more ho hmn
              obtain ⟨ht0, hR3⟩ := read_cut ho
              have htl := (bytesOf_some.1 ho).2.1
              have hte := (bytesOf_some.1 ho).2.2
              rw [← hte] at htl
              have HR2 : Hid (∀ W, Calls Try.prog 13 #[.string ((⟨t.toArray⟩ : ByteArray) ++ mo)] W fun e w' => e = .returned (.tuple #[.agg #[.int .i64 0, .slice none 0 0], .int .i64 10]) ∧ Below W.heap.size W w') := fun W => by rw [strApp]; exact read_none _ hR2 W
              have HR3 : Hid (∀ W, Calls Try.prog 13 #[.string ((⟨t.toArray⟩ : ByteArray).extract 0 (t.length - 1))] W fun e w' => e = .returned (.tuple #[.agg #[.int .i64 0, .slice none 0 0], .int .i64 10]) ∧ Below W.heap.size W w') := fun W => by
                have e1 : ((⟨t.toArray⟩ : ByteArray).extract 0 (t.length - 1)).data.toList = t.take (t.length - 1) := by simp; exact List.dropLast_eq_take
                exact read_none _ (by rw [e1]; exact hR3) W
              obtain ⟨T, hT⟩ : ∃ T : ByteArray, (⟨t.toArray⟩ : ByteArray) = T := ⟨_, rfl⟩
              obtain ⟨k, hk⟩ : ∃ k, t.length = k + 1 := ⟨t.length - 1, by omega⟩
              have hTs : T.size = k + 1 := by rw [← hT]; exact hk
              have hk6 : k ≤ 60000 := by omega
              rw [hT] at HR2 HR3 ⊢
              rw [hk, Nat.add_sub_cancel] at HR3
              clear hR2 hR3 ht0 htl hte ho hm0 hmn hT hk
              go_wp2_with (first
                | (go_at_call 13; refine (HR2.out _).mono ?_; rintro e w7 ⟨rfl, hB7⟩; have H7 := below_new HC6.out hB7; clear HR2)
                | (go_at_call 13; refine (HR3.out _).mono ?_; rintro e w8 ⟨rfl, hB8⟩; have H8 := below_new H7 (below_new (below_new1 _ (.cells #[.int .i64 0, .slice none 0 0] 24)) hB8); clear HR3)
                | fail)
              go_ret
              have H9 := below_new HB.out (below_new H8 (below_new1 _ (.cells #[.int .i64 0, .slice none 0 0] 24)))
              exact ⟨rfl, by first | exact H9 | (rw [← HG.out]; exact H9)⟩
        | some B =>
          obtain ⟨n0, L0⟩ := B
          have hb := read_is hr
          have HR : Hid (∀ W, Calls Try.prog 13 #[.string s] W fun e w' => (∃ v' K, e = .returned (.tuple #[.agg #[.int .i64 n0, v'], .int .i64 0]) ∧ WritesAt w' v' K ∧ K.map Wr.bare = L0) ∧ Below W.heap.size W w') := fun W => read_some s hr W
          have hse : (⟨s.data.toList.toArray⟩ : ByteArray) = s := ByteArray.ext (by simp)
          have hkl : ∀ K : List Wr, K.map Wr.bare = L0 → K.length ≤ 4000000000000 := fun K hK => by
            have h1 := (okB_all (bytesOf_some.1 hb).1).2.2.1
            rw [← hK, List.length_map] at h1
            omega
          have HKB : Hid (∀ W v K, WritesAt W v K → K.map Wr.bare = L0 → Calls Try.prog 11 #[.agg #[.int .i64 n0, v]] W fun e w' => e = .returned (.tuple #[.string s, .int .i64 0]) ∧ Below W.heap.size W w') := fun W v K h1 h2 => by
            have := kbytes_any (n := n0) h1 (hkl K h2)
            rw [← bytesOf_bare, h2, hb] at this
            unfold bytV at this
            dsimp only at this
            rw [hse] at this
            exact this
          have HKC : Hid (∀ W v K, WritesAt W v K → K.map Wr.bare = L0 → Calls Try.prog 16 #[.agg #[.int .i64 n0, v]] W fun e w' => e = .returned (.int .i64 0) ∧ Below W.heap.size W w') := fun W v K h1 h2 => by
            have := kcheck_any (n := n0) h1 (hkl K h2)
            rw [← bytesOf_bare, h2, hb] at this
            exact this
          clear hr hb hse hkl
          go_wp2_with (first
            | (refine wpList_loadK _ rfl _ rfl a6 rfl ?_)
            | (refine wpList_loadK _ rfl _ rfl a9 rfl ?_)
            | (go_at_call 13; refine (HR.out _).mono ?_; rintro e w4 ⟨⟨v4, K4, rfl, hat, hK⟩, hB4⟩
               obtain ⟨p4, c4, rfl⟩ := hat.shape)
            | (go_at_call 11; refine (HKB.out _ _ K4 (hat.below (below_new1 _ _)) hK).mono ?_; rintro e w5 ⟨rfl, hB5⟩
               have a9 := below_holds hB5 (Holds.new w4 24 #[.int .i64 n0, .slice p4 K4.length c4])
               have hat5 := (hat.below (below_new1 _ (.cells #[.int .i64 n0, .slice p4 K4.length c4] 24))).below hB5
               have H5 := below_new (below_new H2.out hB4) (below_new (below_new1 _ (.cells #[.int .i64 n0, .slice p4 K4.length c4] 24)) hB5)
               clear HKB)
            | (go_at_call 16; refine (HKC.out _ _ K4 hat5 hK).mono ?_; rintro e w5b ⟨rfl, hB5b⟩
               have HCUR : Hid (Below W0.heap.size W0 w5b) := below_new H5 hB5b
               have a6 := below_holds HCUR.out HH.out
               clear HKC)
            | fail)
          clear a9 a6 hB4 hat hat5 H5 hB5 hB5b
          refine (HBY2.out _ HCUR.out).mono ?_
          rintro e w6 ⟨rfl, hB6⟩
          have HC6 : Hid (Below W0.heap.size W0 w6) := below_new HCUR.out hB6
          cases ho : bytesOf n L with
          | none =>
            simp only [bytV]
            go_wp2_with fail
            go_ret
            exact ⟨rfl, by first | exact below_new HB.out HC6.out | (rw [← HG.out]; exact below_new HB.out HC6.out)⟩
          | some t =>
            simp only [bytV]
            by_cases hm0 : mo = ⟨#[]⟩
            · subst hm0
              go_wp2_with fail
              go_ret
              exact ⟨rfl, by first | exact below_new HB.out HC6.out | (rw [← HG.out]; exact below_new HB.out HC6.out)⟩
            · have hne := notEmpty mo (nilB mo hm0)
              have hmn : mo.data.toList ≠ [] := fun e => hm0 (ByteArray.ext (Array.toList_inj.1 (by rw [e])))
              have hR2 := read_more ho hmn
              obtain ⟨ht0, hR3⟩ := read_cut ho
              have htl := (bytesOf_some.1 ho).2.1
              have hte := (bytesOf_some.1 ho).2.2
              rw [← hte] at htl
              have HR2 : Hid (∀ W, Calls Try.prog 13 #[.string ((⟨t.toArray⟩ : ByteArray) ++ mo)] W fun e w' => e = .returned (.tuple #[.agg #[.int .i64 0, .slice none 0 0], .int .i64 10]) ∧ Below W.heap.size W w') := fun W => by rw [strApp]; exact read_none _ hR2 W
              have HR3 : Hid (∀ W, Calls Try.prog 13 #[.string ((⟨t.toArray⟩ : ByteArray).extract 0 (t.length - 1))] W fun e w' => e = .returned (.tuple #[.agg #[.int .i64 0, .slice none 0 0], .int .i64 10]) ∧ Below W.heap.size W w') := fun W => by
                have e1 : ((⟨t.toArray⟩ : ByteArray).extract 0 (t.length - 1)).data.toList = t.take (t.length - 1) := by simp; exact List.dropLast_eq_take
                exact read_none _ (by rw [e1]; exact hR3) W
              obtain ⟨T, hT⟩ : ∃ T : ByteArray, (⟨t.toArray⟩ : ByteArray) = T := ⟨_, rfl⟩
              obtain ⟨k, hk⟩ : ∃ k, t.length = k + 1 := ⟨t.length - 1, by omega⟩
              have hTs : T.size = k + 1 := by rw [← hT]; exact hk
              have hk6 : k ≤ 60000 := by omega
              rw [hT] at HR2 HR3 ⊢
              rw [hk, Nat.add_sub_cancel] at HR3
              clear hR2 hR3 ht0 htl hte ho hm0 hmn hT hk
              go_wp2_with (first
                | (go_at_call 13; refine (HR2.out _).mono ?_; rintro e w7 ⟨rfl, hB7⟩; have H7 := below_new HC6.out hB7; clear HR2)
                | (go_at_call 13; refine (HR3.out _).mono ?_; rintro e w8 ⟨rfl, hB8⟩; have H8 := below_new H7 (below_new (below_new1 _ (.cells #[.int .i64 0, .slice none 0 0] 24)) hB8); clear HR3)
                | fail)
              go_ret
              have H9 := below_new HB.out (below_new H8 (below_new1 _ (.cells #[.int .i64 0, .slice none 0 0] 24)))
              exact ⟨rfl, by first | exact H9 | (rw [← HG.out]; exact H9)⟩
      · have h4i : (3000 : Int) < s.size := by omega
        clear h3 h4 hmo hs
        go_wp2_with fail
        go_ret
        exact ⟨rfl, by first | exact HF2.out | (rw [← HG.out]; exact HF2.out)⟩
    · have h3i : (300 : Int) < mo.size := by omega
      clear h3 hmo hs
      go_wp2_with fail
      go_ret
      exact ⟨rfl, by first | exact HF2.out | (rw [← HG.out]; exact HF2.out)⟩
end Go.Proofs.Ytadpopjhhanapaa
