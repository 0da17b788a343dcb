/-
  PageOlder's walk.
-/
import Derived.Test.YtjbenoaefjlbaaaDoorPTornW
namespace Go.Proofs.YtjbenoaefjlbaaaDoor
open Go Go.RowKit

set_option maxRecDepth 8000 in
set_option maxHeartbeats 16000000 in
theorem older_walk (t r e q t' r' e' q' : Int) (x : ByteArray) (w : World) (hT : Tabs w)
    (hm : (t < 0 ∨ r < 0 ∨ e < 0 ∨ q < 0) ∨ ∃ m : M4, m.small ∧ t = (m.tx : Nat) ∧ r = (m.root : Nat) ∧ e = (m.ents : Nat) ∧ q = (m.pgs : Nat))
    (hn : (t' < 0 ∨ r' < 0 ∨ e' < 0 ∨ q' < 0) ∨ ∃ m : M4, m.small ∧ t' = (m.tx : Nat) ∧ r' = (m.root : Nat) ∧ e' = (m.ents : Nat) ∧ q' = (m.pgs : Nat)) (hx : x.size ≤ 9223372036854775807) :
    Calls Tryd.prog 7 #[.agg #[.int .i64 t, .int .i64 r, .int .i64 e, .int .i64 q], .agg #[.int .i64 t', .int .i64 r', .int .i64 e', .int .i64 q'], .string x] w fun e w' => e = .returned (.bool true) ∧ Below w.heap.size w w' := by
  have hz := zeroMeta
  obtain ⟨g, hg⟩ : ∃ g, g = w.heap.size := ⟨_, rfl⟩
  obtain ⟨b1, b2, hB0⟩ := boxes_two w #[.int .i64 t, .int .i64 r, .int .i64 e, .int .i64 q] #[.int .i64 t', .int .i64 r', .int .i64 e', .int .i64 q'] g hg
  have HG : Hid (g = w.heap.size) := hg
  clear hg
  go_enter Tryd.func7, Tryd.ntmps7
  go_wp2_with fail
  rw [← HG.out]
  generalize (w.alloc (.cells #[.int .i64 t, .int .i64 r, .int .i64 e, .int .i64 q] 30)).alloc (.cells #[.int .i64 t', .int .i64 r', .int .i64 e', .int .i64 q'] 30) = W0 at b1 b2 hB0 ⊢
  refine (awake_any _ (hT.below hB0)).mono ?_
  rintro e1 w1 ⟨rfl, hB1'⟩
  have hB1 := hB0.trans (hB1'.mono hB0.size)
  have a1 := Below.holds hB1' b1
  have a2 := Below.holds hB1' b2
  clear hB1' hB0 b1 b2
  have isz : (Tryd.prog.info? 30).map (·.size) = some (#[.int .i64 t, .int .i64 r, .int .i64 e, .int .i64 q] : Array Value).size := infoMeta
  have isz' : (Tryd.prog.info? 30).map (·.size) = some (#[.int .i64 t', .int .i64 r', .int .i64 e', .int .i64 q'] : Array Value).size := infoMeta
  go_wp2_with (first
    | (refine wpList_loadG rfl 30 (.tmp 3) rfl g rfl 30 _ _ a1 Tryd.underlying30 rfl isz ?_)
    | fail)
  rcases hm with hm | ⟨m, hm, rfl, rfl, rfl, rfl⟩
  · refine (meta_no t r e q _ hm).mono ?_
    rintro e1 w2 ⟨rfl, hB2'⟩
    have hB2 := hB1.trans (hB2'.mono hB1.size)
    have b2 := Below.holds hB2' a2
    clear hB2' hB1 a1 a2
    go_wp2_with (first
      | (refine wpList_loadG rfl 30 (.tmp 4) rfl (g + 1) rfl 30 _ _ b2 Tryd.underlying30 rfl isz' ?_)
      | fail)
    rcases hn with hn | ⟨n, hn, rfl, rfl, rfl, rfl⟩
    · refine (meta_no t' r' e' q' _ hn).mono ?_
      rintro e1 w3 ⟨rfl, hB3'⟩
      have hB3 := hB2.trans (hB3'.mono hB2.size)
      clear hB3' hB2 b2
      go_wp2_with fail
      go_ret
      exact ⟨rfl, hB3⟩
    · refine (meta_any n hn _ (hT.below hB2)).mono ?_
      rintro e1 w3 ⟨rfl, hB3'⟩
      have hB3 := hB2.trans (hB3'.mono hB2.size)
      generalize metaS n = N
      clear hB3' hB2 b2
      go_wp2_with fail
      go_ret
      exact ⟨rfl, hB3⟩
  · refine (meta_any m hm _ (hT.below hB1)).mono ?_
    rintro e1 w2 ⟨rfl, hB2'⟩
    have hB2 := hB1.trans (hB2'.mono hB1.size)
    have b1 := Below.holds hB2' a1
    have b2 := Below.holds hB2' a2
    clear hB2' hB1 a1 a2
    obtain ⟨A, hA⟩ : ∃ A, A = metaS m := ⟨_, rfl⟩
    have hAs : A.size = 1024 := by rw [hA]; exact metaS_size m
    have hAr : readS A = some m := by rw [hA]; exact read_meta m hm
    rw [← hA]
    clear hA
    go_wp2_with (first
      | (refine wpList_loadG rfl 30 (.tmp 4) rfl (g + 1) rfl 30 _ _ b2 Tryd.underlying30 rfl isz' ?_)
      | fail)
    rcases hn with hn | ⟨n, hn, rfl, rfl, rfl, rfl⟩
    · refine (meta_no t' r' e' q' _ hn).mono ?_
      rintro e1 w3 ⟨rfl, hB3'⟩
      have hB3 := hB2.trans (hB3'.mono hB2.size)
      clear hB3' hB2 b1 b2
      go_wp2_with fail
      go_ret
      exact ⟨rfl, hB3⟩
    · refine (meta_any n hn _ (hT.below hB2)).mono ?_
      rintro e1 w3 ⟨rfl, hB3'⟩
      have hB3 := hB2.trans (hB3'.mono hB2.size)
      have c1 := Below.holds hB3' b1
      have c2 := Below.holds hB3' b2
      clear hB3' hB2 b1 b2
      obtain ⟨B, hBB⟩ : ∃ B, B = metaS n := ⟨_, rfl⟩
      have hBs : B.size = 1024 := by rw [hBB]; exact metaS_size n
      have hBr : readS B = some n := by rw [hBB]; exact read_meta n hn
      rw [← hBB]
      clear hBB
      by_cases hxs : 1030 < x.size
      · have hxi : (1030 : Int) < x.size := by omega
        go_wp2_with fail
        go_ret
        exact ⟨rfl, hB3⟩
      · have hxi : ¬ (1030 : Int) < x.size := by omega
        have hgd := guardMeta
        have hsm := eql_same m
        have hsn := eql_same n
        go_wp2_with fail
        rcases (by omega : m.tx < n.tx ∨ n.tx < m.tx ∨ m.tx = n.tx) with hlt | hlt | hlt
        · have n1 : newS A B = some (n, 1) := (new_two hAr hBr).trans (if_pos (by omega))
          have n2 : newS B A = some (n, 0) := (new_two hBr hAr).trans (if_neg (by omega))
          have h1 : (m.tx : Int) ≤ n.tx := by omega
          refine (newest_any A B _ (hT.below hB3) (by omega) (by omega)).mono ?_
          rintro e1 w4 ⟨rfl, hB4'⟩
          have hB4 := hB3.trans (hB4'.mono hB3.size)
          rw [n1, show newM (some (n, 1)) = n from rfl, show newA (some (n, 1)) = 1 from rfl, show newE (some (n, 1)) = 0 from rfl, show m4A n = #[.int .i64 n.tx, .int .i64 n.root, .int .i64 n.ents, .int .i64 n.pgs] from rfl]
          have d1 := (Below.holds hB4' c1).alloc (.cells #[.int .i64 n.tx, .int .i64 n.root, .int .i64 n.ents, .int .i64 n.pgs] 30)
          have d2 := (Below.holds hB4' c2).alloc (.cells #[.int .i64 n.tx, .int .i64 n.root, .int .i64 n.ents, .int .i64 n.pgs] 30)
          have d3 := Holds.new w4 30 #[.int .i64 n.tx, .int .i64 n.root, .int .i64 n.ents, .int .i64 n.pgs]
          have hB5 := hB4.alloc hB4.size (.cells #[.int .i64 n.tx, .int .i64 n.root, .int .i64 n.ents, .int .i64 n.pgs] 30)
          clear hB4' hB3 c1 c2 n1
          go_wp2_with fail
          obtain ⟨a, ha⟩ : ∃ a, a = w4.heap.size := ⟨_, rfl⟩
          rw [← ha] at d3 ⊢
          generalize w4.alloc (.cells #[.int .i64 n.tx, .int .i64 n.root, .int .i64 n.ents, .int .i64 n.pgs] 30) = w5 at d1 d2 d3 hB5 ⊢
          clear ha hB4
          refine (newest_any B A _ (hT.below hB5) (by omega) (by omega)).mono ?_
          rintro e1 w6 ⟨rfl, hB6'⟩
          have hB6 := hB5.trans (hB6'.mono hB5.size)
          rw [n2, show newM (some (n, 0)) = n from rfl, show newA (some (n, 0)) = 0 from rfl, show newE (some (n, 0)) = 0 from rfl, show m4A n = #[.int .i64 n.tx, .int .i64 n.root, .int .i64 n.ents, .int .i64 n.pgs] from rfl]
          have f1 := (Below.holds hB6' d1).alloc (.cells #[.int .i64 n.tx, .int .i64 n.root, .int .i64 n.ents, .int .i64 n.pgs] 30)
          have f2 := (Below.holds hB6' d2).alloc (.cells #[.int .i64 n.tx, .int .i64 n.root, .int .i64 n.ents, .int .i64 n.pgs] 30)
          have f3 := (Below.holds hB6' d3).alloc (.cells #[.int .i64 n.tx, .int .i64 n.root, .int .i64 n.ents, .int .i64 n.pgs] 30)
          have f4 := Holds.new w6 30 #[.int .i64 n.tx, .int .i64 n.root, .int .i64 n.ents, .int .i64 n.pgs]
          have hB7 := hB6.alloc hB6.size (.cells #[.int .i64 n.tx, .int .i64 n.root, .int .i64 n.ents, .int .i64 n.pgs] 30)
          obtain ⟨b, hb⟩ : ∃ b, b = w6.heap.size := ⟨_, rfl⟩
          rw [← hb] at f4
          obtain ⟨x0, x1, x2, x3⟩ := f1.four
          obtain ⟨y0, y1, y2, y3⟩ := f2.four
          obtain ⟨z0, z1, z2, z3⟩ := f3.four
          obtain ⟨u0, u1, u2, u3⟩ := f4.four
          have HB : Hid (b = w6.heap.size) := hb
          have F : Hid (Holds _ g 30 #[.int .i64 m.tx, .int .i64 m.root, .int .i64 m.ents, .int .i64 m.pgs]) := f1
          clear hB6' hB5 d1 d2 d3 f1 f2 f3 f4 n2 hb
          dsimp only
          go_wp2_with fail
          clear x0 x1 x2 x3 y0 y1 y2 y3 z0 z1 z2 z3 u0 u1 u2 u3 hB6
          generalize w6.alloc (.cells #[.int .i64 n.tx, .int .i64 n.root, .int .i64 n.ents, .int .i64 n.pgs] 30) = w7 at F hB7 ⊢
          refine (read_any x _ (hT.below hB7) (by omega)).mono ?_
          rintro e1 w8 ⟨rfl, hB8'⟩
          have hB8 := hB7.trans (hB8'.mono hB7.size)
          have n := Below.holds hB8' F.out
          clear hB8' hB7 F
          cases hxr : readS x with
          | some k =>
            obtain ⟨r1, r2⟩ := read_yes hxr
            rw [r1, r2, show m4A k = #[.int .i64 k.tx, .int .i64 k.root, .int .i64 k.ents, .int .i64 k.pgs] from rfl]
            clear r1 r2 hxr n
            go_wp2_with fail
            go_ret
            exact ⟨rfl, hB8.alloc hB8.size _⟩
          | none =>
            obtain ⟨r1, r2⟩ := read_no hxr
            rw [r1, r2]
            clear r1 r2
            have F3 := n.alloc (.cells #[.int .i64 0, .int .i64 0, .int .i64 0, .int .i64 0] 30)
            have hB9 := hB8.alloc hB8.size (.cells #[.int .i64 0, .int .i64 0, .int .i64 0, .int .i64 0] 30)
            clear n hB8
            go_wp2_with fail
            generalize w8.alloc (.cells #[.int .i64 0, .int .i64 0, .int .i64 0, .int .i64 0] 30) = w9 at F3 hB9 ⊢
            refine (newest_any x A _ (hT.below hB9) (by omega) (by omega)).mono ?_
            rintro e1 w10 ⟨rfl, hB10'⟩
            have hB10 := hB9.trans (hB10'.mono hB9.size)
            rw [new_right hxr hAr, show newM (some (m, 1)) = m from rfl, show newA (some (m, 1)) = 1 from rfl, show newE (some (m, 1)) = 0 from rfl, show m4A m = #[.int .i64 m.tx, .int .i64 m.root, .int .i64 m.ents, .int .i64 m.pgs] from rfl]
            have F4 := (Below.holds hB10' F3).alloc (.cells #[.int .i64 m.tx, .int .i64 m.root, .int .i64 m.ents, .int .i64 m.pgs] 30)
            have G4 := Holds.new w10 30 #[.int .i64 m.tx, .int .i64 m.root, .int .i64 m.ents, .int .i64 m.pgs]
            have hB11 := hB10.alloc hB10.size (.cells #[.int .i64 m.tx, .int .i64 m.root, .int .i64 m.ents, .int .i64 m.pgs] 30)
            clear hB10' hB9 F3
            go_wp2_with fail
            obtain ⟨u, hu⟩ : ∃ u, u = w10.heap.size := ⟨_, rfl⟩
            rw [← hu] at G4 ⊢
            generalize w10.alloc (.cells #[.int .i64 m.tx, .int .i64 m.root, .int .i64 m.ents, .int .i64 m.pgs] 30) = w11 at F4 G4 hB11 ⊢
            clear hu hB10
            refine (newest_any A x _ (hT.below hB11) (by omega) (by omega)).mono ?_
            rintro e1 w12 ⟨rfl, hB12'⟩
            have hB12 := hB11.trans (hB12'.mono hB11.size)
            rw [new_left hAr hxr, show newM (some (m, 0)) = m from rfl, show newA (some (m, 0)) = 0 from rfl, show newE (some (m, 0)) = 0 from rfl, show m4A m = #[.int .i64 m.tx, .int .i64 m.root, .int .i64 m.ents, .int .i64 m.pgs] from rfl]
            have F5 := (Below.holds hB12' F4).alloc (.cells #[.int .i64 m.tx, .int .i64 m.root, .int .i64 m.ents, .int .i64 m.pgs] 30)
            have G5 := (Below.holds hB12' G4).alloc (.cells #[.int .i64 m.tx, .int .i64 m.root, .int .i64 m.ents, .int .i64 m.pgs] 30)
            obtain ⟨x0, x1, x2, x3⟩ := F5.four
            obtain ⟨y0, y1, y2, y3⟩ := G5.four
            clear hB12' hB11 F4 G4 F5 G5 hxr hAr hBr
            go_wp2_with fail
            go_ret
            exact ⟨rfl, hB12.alloc hB12.size _⟩
        · have n1 : newS A B = some (m, 0) := (new_two hAr hBr).trans (if_neg (by omega))
          have n2 : newS B A = some (m, 1) := (new_two hBr hAr).trans (if_pos (by omega))
          have h1 : (n.tx : Int) ≤ m.tx := by omega
          refine (newest_any A B _ (hT.below hB3) (by omega) (by omega)).mono ?_
          rintro e1 w4 ⟨rfl, hB4'⟩
          have hB4 := hB3.trans (hB4'.mono hB3.size)
          rw [n1, show newM (some (m, 0)) = m from rfl, show newA (some (m, 0)) = 0 from rfl, show newE (some (m, 0)) = 0 from rfl, show m4A m = #[.int .i64 m.tx, .int .i64 m.root, .int .i64 m.ents, .int .i64 m.pgs] from rfl]
          have d1 := (Below.holds hB4' c1).alloc (.cells #[.int .i64 m.tx, .int .i64 m.root, .int .i64 m.ents, .int .i64 m.pgs] 30)
          have d2 := (Below.holds hB4' c2).alloc (.cells #[.int .i64 m.tx, .int .i64 m.root, .int .i64 m.ents, .int .i64 m.pgs] 30)
          have d3 := Holds.new w4 30 #[.int .i64 m.tx, .int .i64 m.root, .int .i64 m.ents, .int .i64 m.pgs]
          have hB5 := hB4.alloc hB4.size (.cells #[.int .i64 m.tx, .int .i64 m.root, .int .i64 m.ents, .int .i64 m.pgs] 30)
          clear hB4' hB3 c1 c2 n1
          go_wp2_with fail
          obtain ⟨a, ha⟩ : ∃ a, a = w4.heap.size := ⟨_, rfl⟩
          rw [← ha] at d3 ⊢
          generalize w4.alloc (.cells #[.int .i64 m.tx, .int .i64 m.root, .int .i64 m.ents, .int .i64 m.pgs] 30) = w5 at d1 d2 d3 hB5 ⊢
          clear ha hB4
          refine (newest_any B A _ (hT.below hB5) (by omega) (by omega)).mono ?_
          rintro e1 w6 ⟨rfl, hB6'⟩
          have hB6 := hB5.trans (hB6'.mono hB5.size)
          rw [n2, show newM (some (m, 1)) = m from rfl, show newA (some (m, 1)) = 1 from rfl, show newE (some (m, 1)) = 0 from rfl, show m4A m = #[.int .i64 m.tx, .int .i64 m.root, .int .i64 m.ents, .int .i64 m.pgs] from rfl]
          have f1 := (Below.holds hB6' d1).alloc (.cells #[.int .i64 m.tx, .int .i64 m.root, .int .i64 m.ents, .int .i64 m.pgs] 30)
          have f2 := (Below.holds hB6' d2).alloc (.cells #[.int .i64 m.tx, .int .i64 m.root, .int .i64 m.ents, .int .i64 m.pgs] 30)
          have f3 := (Below.holds hB6' d3).alloc (.cells #[.int .i64 m.tx, .int .i64 m.root, .int .i64 m.ents, .int .i64 m.pgs] 30)
          have f4 := Holds.new w6 30 #[.int .i64 m.tx, .int .i64 m.root, .int .i64 m.ents, .int .i64 m.pgs]
          have hB7 := hB6.alloc hB6.size (.cells #[.int .i64 m.tx, .int .i64 m.root, .int .i64 m.ents, .int .i64 m.pgs] 30)
          obtain ⟨b, hb⟩ : ∃ b, b = w6.heap.size := ⟨_, rfl⟩
          rw [← hb] at f4
          obtain ⟨x0, x1, x2, x3⟩ := f1.four
          obtain ⟨y0, y1, y2, y3⟩ := f2.four
          obtain ⟨z0, z1, z2, z3⟩ := f3.four
          obtain ⟨u0, u1, u2, u3⟩ := f4.four
          have HB : Hid (b = w6.heap.size) := hb
          have F : Hid (Holds _ g 30 #[.int .i64 m.tx, .int .i64 m.root, .int .i64 m.ents, .int .i64 m.pgs]) := f1
          clear hB6' hB5 d1 d2 d3 f1 f2 f3 f4 n2 hb
          dsimp only
          go_wp2_with fail
          clear x0 x1 x2 x3 y0 y1 y2 y3 z0 z1 z2 z3 u0 u1 u2 u3 hB6
          generalize w6.alloc (.cells #[.int .i64 m.tx, .int .i64 m.root, .int .i64 m.ents, .int .i64 m.pgs] 30) = w7 at F hB7 ⊢
          refine (read_any x _ (hT.below hB7) (by omega)).mono ?_
          rintro e1 w8 ⟨rfl, hB8'⟩
          have hB8 := hB7.trans (hB8'.mono hB7.size)
          have m := Below.holds hB8' F.out
          clear hB8' hB7 F
          cases hxr : readS x with
          | some k =>
            obtain ⟨r1, r2⟩ := read_yes hxr
            rw [r1, r2, show m4A k = #[.int .i64 k.tx, .int .i64 k.root, .int .i64 k.ents, .int .i64 k.pgs] from rfl]
            clear r1 r2 hxr m
            go_wp2_with fail
            go_ret
            exact ⟨rfl, hB8.alloc hB8.size _⟩
          | none =>
            obtain ⟨r1, r2⟩ := read_no hxr
            rw [r1, r2]
            clear r1 r2
            have F3 := m.alloc (.cells #[.int .i64 0, .int .i64 0, .int .i64 0, .int .i64 0] 30)
            have hB9 := hB8.alloc hB8.size (.cells #[.int .i64 0, .int .i64 0, .int .i64 0, .int .i64 0] 30)
            clear m hB8
            go_wp2_with fail
            generalize w8.alloc (.cells #[.int .i64 0, .int .i64 0, .int .i64 0, .int .i64 0] 30) = w9 at F3 hB9 ⊢
            refine (newest_any x A _ (hT.below hB9) (by omega) (by omega)).mono ?_
            rintro e1 w10 ⟨rfl, hB10'⟩
            have hB10 := hB9.trans (hB10'.mono hB9.size)
            rw [new_right hxr hAr, show newM (some (m, 1)) = m from rfl, show newA (some (m, 1)) = 1 from rfl, show newE (some (m, 1)) = 0 from rfl, show m4A m = #[.int .i64 m.tx, .int .i64 m.root, .int .i64 m.ents, .int .i64 m.pgs] from rfl]
            have F4 := (Below.holds hB10' F3).alloc (.cells #[.int .i64 m.tx, .int .i64 m.root, .int .i64 m.ents, .int .i64 m.pgs] 30)
            have G4 := Holds.new w10 30 #[.int .i64 m.tx, .int .i64 m.root, .int .i64 m.ents, .int .i64 m.pgs]
            have hB11 := hB10.alloc hB10.size (.cells #[.int .i64 m.tx, .int .i64 m.root, .int .i64 m.ents, .int .i64 m.pgs] 30)
            clear hB10' hB9 F3
            go_wp2_with fail
            obtain ⟨u, hu⟩ : ∃ u, u = w10.heap.size := ⟨_, rfl⟩
            rw [← hu] at G4 ⊢
            generalize w10.alloc (.cells #[.int .i64 m.tx, .int .i64 m.root, .int .i64 m.ents, .int .i64 m.pgs] 30) = w11 at F4 G4 hB11 ⊢
            clear hu hB10
            refine (newest_any A x _ (hT.below hB11) (by omega) (by omega)).mono ?_
            rintro e1 w12 ⟨rfl, hB12'⟩
            have hB12 := hB11.trans (hB12'.mono hB11.size)
            rw [new_left hAr hxr, show newM (some (m, 0)) = m from rfl, show newA (some (m, 0)) = 0 from rfl, show newE (some (m, 0)) = 0 from rfl, show m4A m = #[.int .i64 m.tx, .int .i64 m.root, .int .i64 m.ents, .int .i64 m.pgs] from rfl]
            have F5 := (Below.holds hB12' F4).alloc (.cells #[.int .i64 m.tx, .int .i64 m.root, .int .i64 m.ents, .int .i64 m.pgs] 30)
            have G5 := (Below.holds hB12' G4).alloc (.cells #[.int .i64 m.tx, .int .i64 m.root, .int .i64 m.ents, .int .i64 m.pgs] 30)
            obtain ⟨x0, x1, x2, x3⟩ := F5.four
            obtain ⟨y0, y1, y2, y3⟩ := G5.four
            clear hB12' hB11 F4 G4 F5 G5 hxr hAr hBr
            go_wp2_with fail
            go_ret
            exact ⟨rfl, hB12.alloc hB12.size _⟩
        · have n1 : newS A B = some (m, 0) := (new_two hAr hBr).trans (if_neg (by omega))
          have n2 : newS B A = some (n, 0) := (new_two hBr hAr).trans (if_neg (by omega))
          rw [hlt] at c1 hsm ⊢
          refine (newest_any A B _ (hT.below hB3) (by omega) (by omega)).mono ?_
          rintro e1 w4 ⟨rfl, hB4'⟩
          have hB4 := hB3.trans (hB4'.mono hB3.size)
          rw [n1, show newM (some (m, 0)) = m from rfl, show newA (some (m, 0)) = 0 from rfl, show newE (some (m, 0)) = 0 from rfl, show m4A m = #[.int .i64 n.tx, .int .i64 m.root, .int .i64 m.ents, .int .i64 m.pgs] from (by unfold m4A; rw [hlt])]
          have d1 := (Below.holds hB4' c1).alloc (.cells #[.int .i64 n.tx, .int .i64 m.root, .int .i64 m.ents, .int .i64 m.pgs] 30)
          have d2 := (Below.holds hB4' c2).alloc (.cells #[.int .i64 n.tx, .int .i64 m.root, .int .i64 m.ents, .int .i64 m.pgs] 30)
          have d3 := Holds.new w4 30 #[.int .i64 n.tx, .int .i64 m.root, .int .i64 m.ents, .int .i64 m.pgs]
          have hB5 := hB4.alloc hB4.size (.cells #[.int .i64 n.tx, .int .i64 m.root, .int .i64 m.ents, .int .i64 m.pgs] 30)
          clear hB4' hB3 c1 c2 n1
          go_wp2_with fail
          obtain ⟨a, ha⟩ : ∃ a, a = w4.heap.size := ⟨_, rfl⟩
          rw [← ha] at d3 ⊢
          generalize w4.alloc (.cells #[.int .i64 n.tx, .int .i64 m.root, .int .i64 m.ents, .int .i64 m.pgs] 30) = w5 at d1 d2 d3 hB5 ⊢
          clear ha hB4
          refine (newest_any B A _ (hT.below hB5) (by omega) (by omega)).mono ?_
          rintro e1 w6 ⟨rfl, hB6'⟩
          have hB6 := hB5.trans (hB6'.mono hB5.size)
          rw [n2, show newM (some (n, 0)) = n from rfl, show newA (some (n, 0)) = 0 from rfl, show newE (some (n, 0)) = 0 from rfl, show m4A n = #[.int .i64 n.tx, .int .i64 n.root, .int .i64 n.ents, .int .i64 n.pgs] from rfl]
          have f1 := (Below.holds hB6' d1).alloc (.cells #[.int .i64 n.tx, .int .i64 n.root, .int .i64 n.ents, .int .i64 n.pgs] 30)
          have f2 := (Below.holds hB6' d2).alloc (.cells #[.int .i64 n.tx, .int .i64 n.root, .int .i64 n.ents, .int .i64 n.pgs] 30)
          have f3 := (Below.holds hB6' d3).alloc (.cells #[.int .i64 n.tx, .int .i64 n.root, .int .i64 n.ents, .int .i64 n.pgs] 30)
          have f4 := Holds.new w6 30 #[.int .i64 n.tx, .int .i64 n.root, .int .i64 n.ents, .int .i64 n.pgs]
          have hB7 := hB6.alloc hB6.size (.cells #[.int .i64 n.tx, .int .i64 n.root, .int .i64 n.ents, .int .i64 n.pgs] 30)
          obtain ⟨b, hb⟩ : ∃ b, b = w6.heap.size := ⟨_, rfl⟩
          rw [← hb] at f4
          obtain ⟨x0, x1, x2, x3⟩ := f1.four
          obtain ⟨y0, y1, y2, y3⟩ := f2.four
          obtain ⟨z0, z1, z2, z3⟩ := f3.four
          obtain ⟨u0, u1, u2, u3⟩ := f4.four
          have HB : Hid (b = w6.heap.size) := hb
          have F : Hid (Holds _ g 30 #[.int .i64 n.tx, .int .i64 m.root, .int .i64 m.ents, .int .i64 m.pgs]) := f1
          clear hB6' hB5 d1 d2 d3 f1 f2 f3 f4 n2 hb
          dsimp only
          go_wp2_with fail
          clear x0 x1 x2 x3 y0 y1 y2 y3 z0 z1 z2 z3 u0 u1 u2 u3 hB6
          generalize w6.alloc (.cells #[.int .i64 n.tx, .int .i64 n.root, .int .i64 n.ents, .int .i64 n.pgs] 30) = w7 at F hB7 ⊢
          refine (read_any x _ (hT.below hB7) (by omega)).mono ?_
          rintro e1 w8 ⟨rfl, hB8'⟩
          have hB8 := hB7.trans (hB8'.mono hB7.size)
          have n := Below.holds hB8' F.out
          clear hB8' hB7 F
          cases hxr : readS x with
          | some k =>
            obtain ⟨r1, r2⟩ := read_yes hxr
            rw [r1, r2, show m4A k = #[.int .i64 k.tx, .int .i64 k.root, .int .i64 k.ents, .int .i64 k.pgs] from rfl]
            clear r1 r2 hxr n
            go_wp2_with fail
            go_ret
            exact ⟨rfl, hB8.alloc hB8.size _⟩
          | none =>
            obtain ⟨r1, r2⟩ := read_no hxr
            rw [r1, r2]
            clear r1 r2
            have F3 := n.alloc (.cells #[.int .i64 0, .int .i64 0, .int .i64 0, .int .i64 0] 30)
            have hB9 := hB8.alloc hB8.size (.cells #[.int .i64 0, .int .i64 0, .int .i64 0, .int .i64 0] 30)
            clear n hB8
            go_wp2_with fail
            generalize w8.alloc (.cells #[.int .i64 0, .int .i64 0, .int .i64 0, .int .i64 0] 30) = w9 at F3 hB9 ⊢
            refine (newest_any x A _ (hT.below hB9) (by omega) (by omega)).mono ?_
            rintro e1 w10 ⟨rfl, hB10'⟩
            have hB10 := hB9.trans (hB10'.mono hB9.size)
            rw [new_right hxr hAr, show newM (some (m, 1)) = m from rfl, show newA (some (m, 1)) = 1 from rfl, show newE (some (m, 1)) = 0 from rfl, show m4A m = #[.int .i64 n.tx, .int .i64 m.root, .int .i64 m.ents, .int .i64 m.pgs] from (by unfold m4A; rw [hlt])]
            have F4 := (Below.holds hB10' F3).alloc (.cells #[.int .i64 n.tx, .int .i64 m.root, .int .i64 m.ents, .int .i64 m.pgs] 30)
            have G4 := Holds.new w10 30 #[.int .i64 n.tx, .int .i64 m.root, .int .i64 m.ents, .int .i64 m.pgs]
            have hB11 := hB10.alloc hB10.size (.cells #[.int .i64 n.tx, .int .i64 m.root, .int .i64 m.ents, .int .i64 m.pgs] 30)
            clear hB10' hB9 F3
            go_wp2_with fail
            obtain ⟨u, hu⟩ : ∃ u, u = w10.heap.size := ⟨_, rfl⟩
            rw [← hu] at G4 ⊢
            generalize w10.alloc (.cells #[.int .i64 n.tx, .int .i64 m.root, .int .i64 m.ents, .int .i64 m.pgs] 30) = w11 at F4 G4 hB11 ⊢
            clear hu hB10
            refine (newest_any A x _ (hT.below hB11) (by omega) (by omega)).mono ?_
            rintro e1 w12 ⟨rfl, hB12'⟩
            have hB12 := hB11.trans (hB12'.mono hB11.size)
            rw [new_left hAr hxr, show newM (some (m, 0)) = m from rfl, show newA (some (m, 0)) = 0 from rfl, show newE (some (m, 0)) = 0 from rfl, show m4A m = #[.int .i64 n.tx, .int .i64 m.root, .int .i64 m.ents, .int .i64 m.pgs] from (by unfold m4A; rw [hlt])]
            have F5 := (Below.holds hB12' F4).alloc (.cells #[.int .i64 n.tx, .int .i64 m.root, .int .i64 m.ents, .int .i64 m.pgs] 30)
            have G5 := (Below.holds hB12' G4).alloc (.cells #[.int .i64 n.tx, .int .i64 m.root, .int .i64 m.ents, .int .i64 m.pgs] 30)
            obtain ⟨x0, x1, x2, x3⟩ := F5.four
            obtain ⟨y0, y1, y2, y3⟩ := G5.four
            clear hB12' hB11 F4 G4 F5 G5 hxr hAr hBr
            go_wp2_with fail
            go_ret
            exact ⟨rfl, hB12.alloc hB12.size _⟩
end Go.Proofs.YtjbenoaefjlbaaaDoor
