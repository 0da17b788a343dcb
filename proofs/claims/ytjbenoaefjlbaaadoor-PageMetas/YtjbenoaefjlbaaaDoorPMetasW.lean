/-
  PageMetas' walk.
-/
import Derived.Test.YtjbenoaefjlbaaaDoorPTornW
import Derived.Test.YtjbenoaefjlbaaaDoorPQMetaW
import Derived.Test.YtjbenoaefjlbaaaDoorPQReadW
namespace Go.Proofs.YtjbenoaefjlbaaaDoor
open Go Go.RowKit

theorem meta_both {t r e q : Int} (h : (t < 0 ∨ r < 0 ∨ e < 0 ∨ q < 0) ∨ ∃ m : M4, m.small ∧ t = (m.tx : Nat) ∧ r = (m.root : Nat) ∧ e = (m.ents : Nat) ∧ q = (m.pgs : Nat)) :
    ∃ (A : ByteArray) (E : Int), A.size ≤ 1024 ∧ (∀ w, Tabs w → Calls Tryd.prog 13 #[.agg #[.int .i64 t, .int .i64 r, .int .i64 e, .int .i64 q]] w fun e w' => e = .returned (.tuple #[.string A, .int .i64 E]) ∧ Below w.heap.size w w') ∧
      (∀ w, Calls Tryd.prog 14 #[.agg #[.int .i64 t, .int .i64 r, .int .i64 e, .int .i64 q]] w fun e w' => e = .returned (.tuple #[.string A, .int .i64 E]) ∧ Below w.heap.size w w') := by
  rcases h with h | ⟨m, hm, rfl, rfl, rfl, rfl⟩
  · exact ⟨⟨#[]⟩, 1, by decide, fun w _ => meta_no t r e q w h, fun w => qmeta_no t r e q w h⟩
  · exact ⟨metaS m, 0, by rw [metaS_size]; omega, fun w hT => meta_any m hm w hT, fun w => qmeta_any m hm w⟩
theorem read_both (p : ByteArray) : ∃ (M : M4) (E : Int), readM p = .agg #[.int .i64 M.tx, .int .i64 M.root, .int .i64 M.ents, .int .i64 M.pgs] ∧ readE p = .int .i64 E := ⟨(readS p).getD zeroM, _, rfl, rfl⟩
theorem new_both (p q : ByteArray) : ∃ (M : M4) (K : Nat) (E : Int), m4A (newM (newS p q)) = #[.int .i64 M.tx, .int .i64 M.root, .int .i64 M.ents, .int .i64 M.pgs] ∧ newA (newS p q) = K ∧ newE (newS p q) = E := ⟨newM (newS p q), _, _, rfl, rfl, rfl⟩
set_option maxRecDepth 8000 in
set_option maxHeartbeats 16000000 in
theorem metas_walk (t r e q t' r' e' q' : Int) (x : ByteArray) (w : World) (hT : Tabs w) (ht : -9223372036854775808 ≤ t ∧ t ≤ 9223372036854775807)
    (hm : (t < 0 ∨ r < 0 ∨ e < 0 ∨ q < 0) ∨ ∃ m : M4, m.small ∧ t = (m.tx : Nat) ∧ r = (m.root : Nat) ∧ e = (m.ents : Nat) ∧ q = (m.pgs : Nat))
    (hn : (t' < 0 ∨ r' < 0 ∨ e' < 0 ∨ q' < 0) ∨ ∃ m : M4, m.small ∧ t' = (m.tx : Nat) ∧ r' = (m.root : Nat) ∧ e' = (m.ents : Nat) ∧ q' = (m.pgs : Nat)) (hx : x.size ≤ 9223372036854775807) :
    Calls Tryd.prog 4 #[.agg #[.int .i64 t, .int .i64 r, .int .i64 e, .int .i64 q], .agg #[.int .i64 t', .int .i64 r', .int .i64 e', .int .i64 q'], .string x] w fun e w' => e = .returned (.bool true) ∧ Below w.heap.size w w' := by
  have hz := zeroMeta
  have hsl := fun w => slot_any t w ht
  obtain ⟨A, E, hAs, mA, qA⟩ := meta_both hm
  obtain ⟨C, G, hCs, mC, -⟩ := meta_both hn
  clear hm hn
  obtain ⟨g, hg⟩ : ∃ g, g = w.heap.size := ⟨_, rfl⟩
  obtain ⟨b1, b2, hB0⟩ := boxes_two w #[.int .i64 t, .int .i64 r, .int .i64 e, .int .i64 q] #[.int .i64 t', .int .i64 r', .int .i64 e', .int .i64 q'] g hg
  have HG : Hid (g = w.heap.size) := hg
  clear hg
  go_enter Tryd.func4, Tryd.ntmps4
  go_wp2_with fail
  rw [← HG.out]
  generalize (w.alloc (.cells #[.int .i64 t, .int .i64 r, .int .i64 e, .int .i64 q] 30)).alloc (.cells #[.int .i64 t', .int .i64 r', .int .i64 e', .int .i64 q'] 30) = W0 at b1 b2 hB0 ⊢
  refine (awake_any _ (hT.below hB0)).mono ?_
  rintro e1 w1 ⟨rfl, hB1'⟩
  have hB1 := hB0.trans (hB1'.mono hB0.size)
  have a1 := Below.holds hB1' b1
  have a2 := Below.holds hB1' b2
  clear hB1' hB0 b1 b2
  have isz : (Tryd.prog.info? 30).map (·.size) = some (#[.int .i64 t, .int .i64 r, .int .i64 e, .int .i64 q] : Array Value).size := infoMeta
  have isz' : (Tryd.prog.info? 30).map (·.size) = some (#[.int .i64 t', .int .i64 r', .int .i64 e', .int .i64 q'] : Array Value).size := infoMeta
  by_cases hxl : 1030 < x.size
  · have hxi : (1030 : Int) < x.size := by omega
    obtain ⟨v, hv⟩ : ∃ v, v = x.extract 0 1030 := ⟨_, rfl⟩
    have hvs : v.size ≤ 1030 := by rw [hv, ByteArray.size_extract]; omega
    have hve := hv.symm
    clear hv
    go_wp2_with (first
      | (refine wpList_loadG rfl 30 (.tmp 3) rfl g rfl 30 _ _ a1 Tryd.underlying30 rfl isz ?_)
      | fail)
    refine (mA _ (hT.below hB1)).mono ?_
    rintro e1 w2 ⟨rfl, hB2'⟩
    have hB2 := hB1.trans (hB2'.mono hB1.size)
    have b1 := Below.holds hB2' a1
    have b2 := Below.holds hB2' a2
    clear hB2' hB1 a1 a2
    go_wp2_with (first
      | (refine wpList_loadG rfl 30 (.tmp 3) rfl g rfl 30 _ _ b1 Tryd.underlying30 rfl isz ?_)
      | fail)
    refine (qA _).mono ?_
    rintro e1 w3 ⟨rfl, hB3'⟩
    have hB3 := hB2.trans (hB3'.mono hB2.size)
    have c1 := Below.holds hB3' b1
    have c2 := Below.holds hB3' b2
    clear hB3' hB2 b1 b2
    go_wp2_with (first
      | (refine wpList_loadG rfl 30 (.tmp 4) rfl (g + 1) rfl 30 _ _ c2 Tryd.underlying30 rfl isz' ?_)
      | fail)
    refine (mC _ (hT.below hB3)).mono ?_
    rintro e1 w4 ⟨rfl, hB4'⟩
    have hB4 := hB3.trans (hB4'.mono hB3.size)
    have d1 := Below.holds hB4' c1
    clear hB4' hB3 c1 c2
    go_wp2_with fail
    obtain ⟨M, F, hM1, hM2⟩ := read_both v
    refine (read_any v _ (hT.below hB4) (by omega)).mono ?_
    rintro e1 w5 ⟨rfl, hB5'⟩
    rw [hM1, hM2]
    have hB5 := (hB4.trans (hB5'.mono hB4.size)).alloc (hB4.trans (hB5'.mono hB4.size)).size (.cells #[.int .i64 M.tx, .int .i64 M.root, .int .i64 M.ents, .int .i64 M.pgs] 30)
    have f1 := (Below.holds hB5' d1).alloc (.cells #[.int .i64 M.tx, .int .i64 M.root, .int .i64 M.ents, .int .i64 M.pgs] 30)
    have f2 := Holds.new w5 30 #[.int .i64 M.tx, .int .i64 M.root, .int .i64 M.ents, .int .i64 M.pgs]
    clear hB5' hB4 d1
    go_wp2_with fail
    obtain ⟨a, ha⟩ : ∃ a, a = w5.heap.size := ⟨_, rfl⟩
    rw [← ha] at f2 ⊢
    generalize w5.alloc (.cells #[.int .i64 M.tx, .int .i64 M.root, .int .i64 M.ents, .int .i64 M.pgs] 30) = w6 at f1 f2 hB5 ⊢
    clear ha
    refine (qread_any v _ (by omega)).mono ?_
    rintro e1 w7 ⟨rfl, hB7'⟩
    rw [hM1, hM2]
    have hB7 := (hB5.trans (hB7'.mono hB5.size)).alloc (hB5.trans (hB7'.mono hB5.size)).size (.cells #[.int .i64 M.tx, .int .i64 M.root, .int .i64 M.ents, .int .i64 M.pgs] 30)
    have g1 := (Below.holds hB7' f1).alloc (.cells #[.int .i64 M.tx, .int .i64 M.root, .int .i64 M.ents, .int .i64 M.pgs] 30)
    have g2 := (Below.holds hB7' f2).alloc (.cells #[.int .i64 M.tx, .int .i64 M.root, .int .i64 M.ents, .int .i64 M.pgs] 30)
    have g3 := Holds.new w7 30 #[.int .i64 M.tx, .int .i64 M.root, .int .i64 M.ents, .int .i64 M.pgs]
    clear hB7' hB5 f1 f2 hM1 hM2
    go_wp2_with fail
    obtain ⟨b, hb⟩ : ∃ b, b = w7.heap.size := ⟨_, rfl⟩
    rw [← hb] at g3 ⊢
    generalize w7.alloc (.cells #[.int .i64 M.tx, .int .i64 M.root, .int .i64 M.ents, .int .i64 M.pgs] 30) = w8 at g1 g2 g3 hB7 ⊢
    clear hb
    obtain ⟨N, K, J, hN1, hN2, hN3⟩ := new_both A C
    refine (newest_any A C _ (hT.below hB7) (by omega) (by omega)).mono ?_
    rintro e1 w9 ⟨rfl, hB9'⟩
    rw [hN1, hN2, hN3]
    have hB9 := (hB7.trans (hB9'.mono hB7.size)).alloc (hB7.trans (hB9'.mono hB7.size)).size (.cells #[.int .i64 N.tx, .int .i64 N.root, .int .i64 N.ents, .int .i64 N.pgs] 30)
    have h1 := (Below.holds hB9' g1).alloc (.cells #[.int .i64 N.tx, .int .i64 N.root, .int .i64 N.ents, .int .i64 N.pgs] 30)
    have h2 := (Below.holds hB9' g2).alloc (.cells #[.int .i64 N.tx, .int .i64 N.root, .int .i64 N.ents, .int .i64 N.pgs] 30)
    have h3 := (Below.holds hB9' g3).alloc (.cells #[.int .i64 N.tx, .int .i64 N.root, .int .i64 N.ents, .int .i64 N.pgs] 30)
    have h4 := Holds.new w9 30 #[.int .i64 N.tx, .int .i64 N.root, .int .i64 N.ents, .int .i64 N.pgs]
    clear hB9' hB7 g1 g2 g3
    go_wp2_with fail
    obtain ⟨c, hc⟩ : ∃ c, c = w9.heap.size := ⟨_, rfl⟩
    rw [← hc] at h4 ⊢
    generalize w9.alloc (.cells #[.int .i64 N.tx, .int .i64 N.root, .int .i64 N.ents, .int .i64 N.pgs] 30) = w10 at h1 h2 h3 h4 hB9 ⊢
    clear hc
    refine (qnewest_any A C _ (by omega) (by omega)).mono ?_
    rintro e1 w11 ⟨rfl, hB11'⟩
    rw [hN1, hN2, hN3]
    have hB11 := (hB9.trans (hB11'.mono hB9.size)).alloc (hB9.trans (hB11'.mono hB9.size)).size (.cells #[.int .i64 N.tx, .int .i64 N.root, .int .i64 N.ents, .int .i64 N.pgs] 30)
    have i1 := (Below.holds hB11' h1).alloc (.cells #[.int .i64 N.tx, .int .i64 N.root, .int .i64 N.ents, .int .i64 N.pgs] 30)
    have i2 := (Below.holds hB11' h2).alloc (.cells #[.int .i64 N.tx, .int .i64 N.root, .int .i64 N.ents, .int .i64 N.pgs] 30)
    have i3 := (Below.holds hB11' h3).alloc (.cells #[.int .i64 N.tx, .int .i64 N.root, .int .i64 N.ents, .int .i64 N.pgs] 30)
    have i4 := (Below.holds hB11' h4).alloc (.cells #[.int .i64 N.tx, .int .i64 N.root, .int .i64 N.ents, .int .i64 N.pgs] 30)
    have i5 := Holds.new w11 30 #[.int .i64 N.tx, .int .i64 N.root, .int .i64 N.ents, .int .i64 N.pgs]
    clear hB11' hB9 h1 h2 h3 h4 hN1 hN2 hN3
    go_wp2_with fail
    obtain ⟨d, hd⟩ : ∃ d, d = w11.heap.size := ⟨_, rfl⟩
    rw [← hd] at i5 ⊢
    generalize w11.alloc (.cells #[.int .i64 N.tx, .int .i64 N.root, .int .i64 N.ents, .int .i64 N.pgs] 30) = w12 at i1 i2 i3 i4 i5 hB11 ⊢
    clear hd
    obtain ⟨P, K2, J2, hP1, hP2, hP3⟩ := new_both v A
    refine (newest_any v A _ (hT.below hB11) (by omega) (by omega)).mono ?_
    rintro e1 w13 ⟨rfl, hB13'⟩
    rw [hP1, hP2, hP3]
    have hB13 := (hB11.trans (hB13'.mono hB11.size)).alloc (hB11.trans (hB13'.mono hB11.size)).size (.cells #[.int .i64 P.tx, .int .i64 P.root, .int .i64 P.ents, .int .i64 P.pgs] 30)
    have j1 := (Below.holds hB13' i1).alloc (.cells #[.int .i64 P.tx, .int .i64 P.root, .int .i64 P.ents, .int .i64 P.pgs] 30)
    have j2 := (Below.holds hB13' i2).alloc (.cells #[.int .i64 P.tx, .int .i64 P.root, .int .i64 P.ents, .int .i64 P.pgs] 30)
    have j3 := (Below.holds hB13' i3).alloc (.cells #[.int .i64 P.tx, .int .i64 P.root, .int .i64 P.ents, .int .i64 P.pgs] 30)
    have j4 := (Below.holds hB13' i4).alloc (.cells #[.int .i64 P.tx, .int .i64 P.root, .int .i64 P.ents, .int .i64 P.pgs] 30)
    have j5 := (Below.holds hB13' i5).alloc (.cells #[.int .i64 P.tx, .int .i64 P.root, .int .i64 P.ents, .int .i64 P.pgs] 30)
    have j6 := Holds.new w13 30 #[.int .i64 P.tx, .int .i64 P.root, .int .i64 P.ents, .int .i64 P.pgs]
    clear hB13' hB11 i1 i2 i3 i4 i5
    go_wp2_with fail
    obtain ⟨f, hf⟩ : ∃ f, f = w13.heap.size := ⟨_, rfl⟩
    rw [← hf] at j6 ⊢
    generalize w13.alloc (.cells #[.int .i64 P.tx, .int .i64 P.root, .int .i64 P.ents, .int .i64 P.pgs] 30) = w14 at j1 j2 j3 j4 j5 j6 hB13 ⊢
    clear hf
    refine (qnewest_any v A _ (by omega) (by omega)).mono ?_
    rintro e1 w15 ⟨rfl, hB15'⟩
    rw [hP1, hP2, hP3]
    have hB15 := (hB13.trans (hB15'.mono hB13.size)).alloc (hB13.trans (hB15'.mono hB13.size)).size (.cells #[.int .i64 P.tx, .int .i64 P.root, .int .i64 P.ents, .int .i64 P.pgs] 30)
    have k1 := (Below.holds hB15' j1).alloc (.cells #[.int .i64 P.tx, .int .i64 P.root, .int .i64 P.ents, .int .i64 P.pgs] 30)
    have k2 := (Below.holds hB15' j2).alloc (.cells #[.int .i64 P.tx, .int .i64 P.root, .int .i64 P.ents, .int .i64 P.pgs] 30)
    have k3 := (Below.holds hB15' j3).alloc (.cells #[.int .i64 P.tx, .int .i64 P.root, .int .i64 P.ents, .int .i64 P.pgs] 30)
    have k4 := (Below.holds hB15' j4).alloc (.cells #[.int .i64 P.tx, .int .i64 P.root, .int .i64 P.ents, .int .i64 P.pgs] 30)
    have k5 := (Below.holds hB15' j5).alloc (.cells #[.int .i64 P.tx, .int .i64 P.root, .int .i64 P.ents, .int .i64 P.pgs] 30)
    have k6 := (Below.holds hB15' j6).alloc (.cells #[.int .i64 P.tx, .int .i64 P.root, .int .i64 P.ents, .int .i64 P.pgs] 30)
    have k7 := Holds.new w15 30 #[.int .i64 P.tx, .int .i64 P.root, .int .i64 P.ents, .int .i64 P.pgs]
    clear hB15' hB13 j1 j2 j3 j4 j5 j6 hP1 hP2 hP3
    obtain ⟨x0, -, -, -⟩ := k1.four
    obtain ⟨y0, y1, y2, y3⟩ := k2.four
    obtain ⟨z0, z1, z2, z3⟩ := k3.four
    obtain ⟨u0, u1, u2, u3⟩ := k4.four
    obtain ⟨v0, v1, v2, v3⟩ := k5.four
    obtain ⟨s0, s1, s2, s3⟩ := k6.four
    have hgd := guardMeta
    have hsM := eql_same M
    have hsN := eql_same N
    have hsP := eql_same P
    clear k1 k2 k3 k4 k5 k6 k7
    by_cases hpos : t ≤ 0
    · have hp2 : ¬ 0 < t := by omega
      rw [if_pos hpos] at hsl
      go_wp2_with (first
        | (go_at_call 19; refine (hsl _).mono ?_; rintro e1 w17 ⟨rfl, rfl⟩)
        | fail)
      go_ret
      exact ⟨rfl, hB15⟩
    · have hp2 : 0 < t := by omega
      rw [if_neg hpos] at hsl
      have htm : t.tmod 2 = t % 2 := Int.tmod_eq_emod_of_nonneg (by omega)
      go_wp2_with (first
        | (go_at_call 19; refine (hsl _).mono ?_; rintro e1 w17 ⟨rfl, rfl⟩)
        | fail)
      go_ret
      exact ⟨rfl, hB15⟩
  · have hxi : ¬ (1030 : Int) < x.size := by omega
    go_wp2_with (first
      | (refine wpList_loadG rfl 30 (.tmp 3) rfl g rfl 30 _ _ a1 Tryd.underlying30 rfl isz ?_)
      | fail)
    refine (mA _ (hT.below hB1)).mono ?_
    rintro e1 w2 ⟨rfl, hB2'⟩
    have hB2 := hB1.trans (hB2'.mono hB1.size)
    have b1 := Below.holds hB2' a1
    have b2 := Below.holds hB2' a2
    clear hB2' hB1 a1 a2
    go_wp2_with (first
      | (refine wpList_loadG rfl 30 (.tmp 3) rfl g rfl 30 _ _ b1 Tryd.underlying30 rfl isz ?_)
      | fail)
    refine (qA _).mono ?_
    rintro e1 w3 ⟨rfl, hB3'⟩
    have hB3 := hB2.trans (hB3'.mono hB2.size)
    have c1 := Below.holds hB3' b1
    have c2 := Below.holds hB3' b2
    clear hB3' hB2 b1 b2
    go_wp2_with (first
      | (refine wpList_loadG rfl 30 (.tmp 4) rfl (g + 1) rfl 30 _ _ c2 Tryd.underlying30 rfl isz' ?_)
      | fail)
    refine (mC _ (hT.below hB3)).mono ?_
    rintro e1 w4 ⟨rfl, hB4'⟩
    have hB4 := hB3.trans (hB4'.mono hB3.size)
    have d1 := Below.holds hB4' c1
    clear hB4' hB3 c1 c2
    go_wp2_with fail
    obtain ⟨M, F, hM1, hM2⟩ := read_both x
    refine (read_any x _ (hT.below hB4) (by omega)).mono ?_
    rintro e1 w5 ⟨rfl, hB5'⟩
    rw [hM1, hM2]
    have hB5 := (hB4.trans (hB5'.mono hB4.size)).alloc (hB4.trans (hB5'.mono hB4.size)).size (.cells #[.int .i64 M.tx, .int .i64 M.root, .int .i64 M.ents, .int .i64 M.pgs] 30)
    have f1 := (Below.holds hB5' d1).alloc (.cells #[.int .i64 M.tx, .int .i64 M.root, .int .i64 M.ents, .int .i64 M.pgs] 30)
    have f2 := Holds.new w5 30 #[.int .i64 M.tx, .int .i64 M.root, .int .i64 M.ents, .int .i64 M.pgs]
    clear hB5' hB4 d1
    go_wp2_with fail
    obtain ⟨a, ha⟩ : ∃ a, a = w5.heap.size := ⟨_, rfl⟩
    rw [← ha] at f2 ⊢
    generalize w5.alloc (.cells #[.int .i64 M.tx, .int .i64 M.root, .int .i64 M.ents, .int .i64 M.pgs] 30) = w6 at f1 f2 hB5 ⊢
    clear ha
    refine (qread_any x _ (by omega)).mono ?_
    rintro e1 w7 ⟨rfl, hB7'⟩
    rw [hM1, hM2]
    have hB7 := (hB5.trans (hB7'.mono hB5.size)).alloc (hB5.trans (hB7'.mono hB5.size)).size (.cells #[.int .i64 M.tx, .int .i64 M.root, .int .i64 M.ents, .int .i64 M.pgs] 30)
    have g1 := (Below.holds hB7' f1).alloc (.cells #[.int .i64 M.tx, .int .i64 M.root, .int .i64 M.ents, .int .i64 M.pgs] 30)
    have g2 := (Below.holds hB7' f2).alloc (.cells #[.int .i64 M.tx, .int .i64 M.root, .int .i64 M.ents, .int .i64 M.pgs] 30)
    have g3 := Holds.new w7 30 #[.int .i64 M.tx, .int .i64 M.root, .int .i64 M.ents, .int .i64 M.pgs]
    clear hB7' hB5 f1 f2 hM1 hM2
    go_wp2_with fail
    obtain ⟨b, hb⟩ : ∃ b, b = w7.heap.size := ⟨_, rfl⟩
    rw [← hb] at g3 ⊢
    generalize w7.alloc (.cells #[.int .i64 M.tx, .int .i64 M.root, .int .i64 M.ents, .int .i64 M.pgs] 30) = w8 at g1 g2 g3 hB7 ⊢
    clear hb
    obtain ⟨N, K, J, hN1, hN2, hN3⟩ := new_both A C
    refine (newest_any A C _ (hT.below hB7) (by omega) (by omega)).mono ?_
    rintro e1 w9 ⟨rfl, hB9'⟩
    rw [hN1, hN2, hN3]
    have hB9 := (hB7.trans (hB9'.mono hB7.size)).alloc (hB7.trans (hB9'.mono hB7.size)).size (.cells #[.int .i64 N.tx, .int .i64 N.root, .int .i64 N.ents, .int .i64 N.pgs] 30)
    have h1 := (Below.holds hB9' g1).alloc (.cells #[.int .i64 N.tx, .int .i64 N.root, .int .i64 N.ents, .int .i64 N.pgs] 30)
    have h2 := (Below.holds hB9' g2).alloc (.cells #[.int .i64 N.tx, .int .i64 N.root, .int .i64 N.ents, .int .i64 N.pgs] 30)
    have h3 := (Below.holds hB9' g3).alloc (.cells #[.int .i64 N.tx, .int .i64 N.root, .int .i64 N.ents, .int .i64 N.pgs] 30)
    have h4 := Holds.new w9 30 #[.int .i64 N.tx, .int .i64 N.root, .int .i64 N.ents, .int .i64 N.pgs]
    clear hB9' hB7 g1 g2 g3
    go_wp2_with fail
    obtain ⟨c, hc⟩ : ∃ c, c = w9.heap.size := ⟨_, rfl⟩
    rw [← hc] at h4 ⊢
    generalize w9.alloc (.cells #[.int .i64 N.tx, .int .i64 N.root, .int .i64 N.ents, .int .i64 N.pgs] 30) = w10 at h1 h2 h3 h4 hB9 ⊢
    clear hc
    refine (qnewest_any A C _ (by omega) (by omega)).mono ?_
    rintro e1 w11 ⟨rfl, hB11'⟩
    rw [hN1, hN2, hN3]
    have hB11 := (hB9.trans (hB11'.mono hB9.size)).alloc (hB9.trans (hB11'.mono hB9.size)).size (.cells #[.int .i64 N.tx, .int .i64 N.root, .int .i64 N.ents, .int .i64 N.pgs] 30)
    have i1 := (Below.holds hB11' h1).alloc (.cells #[.int .i64 N.tx, .int .i64 N.root, .int .i64 N.ents, .int .i64 N.pgs] 30)
    have i2 := (Below.holds hB11' h2).alloc (.cells #[.int .i64 N.tx, .int .i64 N.root, .int .i64 N.ents, .int .i64 N.pgs] 30)
    have i3 := (Below.holds hB11' h3).alloc (.cells #[.int .i64 N.tx, .int .i64 N.root, .int .i64 N.ents, .int .i64 N.pgs] 30)
    have i4 := (Below.holds hB11' h4).alloc (.cells #[.int .i64 N.tx, .int .i64 N.root, .int .i64 N.ents, .int .i64 N.pgs] 30)
    have i5 := Holds.new w11 30 #[.int .i64 N.tx, .int .i64 N.root, .int .i64 N.ents, .int .i64 N.pgs]
    clear hB11' hB9 h1 h2 h3 h4 hN1 hN2 hN3
    go_wp2_with fail
    obtain ⟨d, hd⟩ : ∃ d, d = w11.heap.size := ⟨_, rfl⟩
    rw [← hd] at i5 ⊢
    generalize w11.alloc (.cells #[.int .i64 N.tx, .int .i64 N.root, .int .i64 N.ents, .int .i64 N.pgs] 30) = w12 at i1 i2 i3 i4 i5 hB11 ⊢
    clear hd
    obtain ⟨P, K2, J2, hP1, hP2, hP3⟩ := new_both x A
    refine (newest_any x A _ (hT.below hB11) (by omega) (by omega)).mono ?_
    rintro e1 w13 ⟨rfl, hB13'⟩
    rw [hP1, hP2, hP3]
    have hB13 := (hB11.trans (hB13'.mono hB11.size)).alloc (hB11.trans (hB13'.mono hB11.size)).size (.cells #[.int .i64 P.tx, .int .i64 P.root, .int .i64 P.ents, .int .i64 P.pgs] 30)
    have j1 := (Below.holds hB13' i1).alloc (.cells #[.int .i64 P.tx, .int .i64 P.root, .int .i64 P.ents, .int .i64 P.pgs] 30)
    have j2 := (Below.holds hB13' i2).alloc (.cells #[.int .i64 P.tx, .int .i64 P.root, .int .i64 P.ents, .int .i64 P.pgs] 30)
    have j3 := (Below.holds hB13' i3).alloc (.cells #[.int .i64 P.tx, .int .i64 P.root, .int .i64 P.ents, .int .i64 P.pgs] 30)
    have j4 := (Below.holds hB13' i4).alloc (.cells #[.int .i64 P.tx, .int .i64 P.root, .int .i64 P.ents, .int .i64 P.pgs] 30)
    have j5 := (Below.holds hB13' i5).alloc (.cells #[.int .i64 P.tx, .int .i64 P.root, .int .i64 P.ents, .int .i64 P.pgs] 30)
    have j6 := Holds.new w13 30 #[.int .i64 P.tx, .int .i64 P.root, .int .i64 P.ents, .int .i64 P.pgs]
    clear hB13' hB11 i1 i2 i3 i4 i5
    go_wp2_with fail
    obtain ⟨f, hf⟩ : ∃ f, f = w13.heap.size := ⟨_, rfl⟩
    rw [← hf] at j6 ⊢
    generalize w13.alloc (.cells #[.int .i64 P.tx, .int .i64 P.root, .int .i64 P.ents, .int .i64 P.pgs] 30) = w14 at j1 j2 j3 j4 j5 j6 hB13 ⊢
    clear hf
    refine (qnewest_any x A _ (by omega) (by omega)).mono ?_
    rintro e1 w15 ⟨rfl, hB15'⟩
    rw [hP1, hP2, hP3]
    have hB15 := (hB13.trans (hB15'.mono hB13.size)).alloc (hB13.trans (hB15'.mono hB13.size)).size (.cells #[.int .i64 P.tx, .int .i64 P.root, .int .i64 P.ents, .int .i64 P.pgs] 30)
    have k1 := (Below.holds hB15' j1).alloc (.cells #[.int .i64 P.tx, .int .i64 P.root, .int .i64 P.ents, .int .i64 P.pgs] 30)
    have k2 := (Below.holds hB15' j2).alloc (.cells #[.int .i64 P.tx, .int .i64 P.root, .int .i64 P.ents, .int .i64 P.pgs] 30)
    have k3 := (Below.holds hB15' j3).alloc (.cells #[.int .i64 P.tx, .int .i64 P.root, .int .i64 P.ents, .int .i64 P.pgs] 30)
    have k4 := (Below.holds hB15' j4).alloc (.cells #[.int .i64 P.tx, .int .i64 P.root, .int .i64 P.ents, .int .i64 P.pgs] 30)
    have k5 := (Below.holds hB15' j5).alloc (.cells #[.int .i64 P.tx, .int .i64 P.root, .int .i64 P.ents, .int .i64 P.pgs] 30)
    have k6 := (Below.holds hB15' j6).alloc (.cells #[.int .i64 P.tx, .int .i64 P.root, .int .i64 P.ents, .int .i64 P.pgs] 30)
    have k7 := Holds.new w15 30 #[.int .i64 P.tx, .int .i64 P.root, .int .i64 P.ents, .int .i64 P.pgs]
    clear hB15' hB13 j1 j2 j3 j4 j5 j6 hP1 hP2 hP3
    obtain ⟨x0, -, -, -⟩ := k1.four
    obtain ⟨y0, y1, y2, y3⟩ := k2.four
    obtain ⟨z0, z1, z2, z3⟩ := k3.four
    obtain ⟨u0, u1, u2, u3⟩ := k4.four
    obtain ⟨v0, v1, v2, v3⟩ := k5.four
    obtain ⟨s0, s1, s2, s3⟩ := k6.four
    have hgd := guardMeta
    have hsM := eql_same M
    have hsN := eql_same N
    have hsP := eql_same P
    clear k1 k2 k3 k4 k5 k6 k7
    by_cases hpos : t ≤ 0
    · have hp2 : ¬ 0 < t := by omega
      rw [if_pos hpos] at hsl
      go_wp2_with (first
        | (go_at_call 19; refine (hsl _).mono ?_; rintro e1 w17 ⟨rfl, rfl⟩)
        | fail)
      go_ret
      exact ⟨rfl, hB15⟩
    · have hp2 : 0 < t := by omega
      rw [if_neg hpos] at hsl
      have htm : t.tmod 2 = t % 2 := Int.tmod_eq_emod_of_nonneg (by omega)
      go_wp2_with (first
        | (go_at_call 19; refine (hsl _).mono ?_; rintro e1 w17 ⟨rfl, rfl⟩)
        | fail)
      go_ret
      exact ⟨rfl, hB15⟩
end Go.Proofs.YtjbenoaefjlbaaaDoor
