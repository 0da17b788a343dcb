/-
  KeccakParts walked.
-/
import Derived.Test.YtooednielegmnaaDoorPartsPure
import Derived.Test.YtooednielegmnaaDoorSumsWalk
namespace Go.Proofs.YtooednielegmnaaDoor
open Go.RowKit

theorem infoStr : ∃ i, Tryd.prog.info? 9 = some i ∧ i.zero = some (.string ⟨#[]⟩) ∧ i.size = 1 ∧ i.bytes = 16 := by
  refine ⟨_, rfl, ?_, ?_, ?_⟩ <;> kernel_rfl

def cutP (p : ByteArray) : ByteArray := if 600 < p.size then p.extract 0 600 else p
theorem cutP_le (p : ByteArray) : (cutP p).size ≤ 600 := by
  unfold cutP
  split
  · rw [cut_size p 600 (by assumption)]; omega
  · omega

theorem Hashes.grown {w w' : World} {b : Nat} {M : List UInt8} {row : Option Nat} (h : Hashes w b M) (hg : w.grownBy w' row) (hb : some b ≠ row) : Hashes w' b M := by
  obtain ⟨s, B, h1, h2⟩ := h
  exact ⟨s, B, Holds.grown h1 hg hb, h2⟩

set_option maxRecDepth 4000 in
set_option maxHeartbeats 1000000 in
theorem parts_walk (v : Value) (ps : List ByteArray) (w : World) (hT : Tabs w) (hx : Texts w v ps) (_ : ps.length ≤ maxLen) :
    Calls Tryd.prog 5 #[v] w fun e w' => e = .returned (.bool true) ∧ Below w.heap.size w w' := by
  obtain ⟨i8, hi, hiz, his, hib⟩ := infoStr
  have HI : Hid (Tryd.prog.info? 9 = some i8 ∧ i8.zero = some (.string ⟨#[]⟩) ∧ i8.size = 1 ∧ i8.bytes = 16) := ⟨hi, hiz, his, hib⟩
  clear hi hiz his hib
  have hz0 := zeroHash
  obtain ⟨base, cap, rfl, hc⟩ := hx
  go_enter Tryd.func5, Tryd.ntmps5
  go_wp2_with fail
  refine (awake_any _ hT).mono ?_
  rintro e w1 ⟨rfl, hB1⟩
  have hT1 := hT.below hB1
  go_wp2_with fail
  refine (new_any _).mono ?_
  rintro e w2 ⟨rfl, hB2, hh2⟩
  obtain ⟨n, hn⟩ : ∃ n, n = w1.heap.size := ⟨_, rfl⟩
  have hn1 : w.heap.size ≤ n := hn ▸ hB1.size
  have hnl := hh2.lt
  rw [← hn] at hh2 hnl ⊢
  have hBB2 := hB1.trans (hB2.mono hB1.size)
  have hn3 : 3 ≤ n := by have := hT.size; omega
  clear hn hB2 hB1 hT1
  go_wp2_with fail
  clear hz0
  obtain ⟨m, hm⟩ : ∃ m, m = w2.heap.size := ⟨_, rfl⟩
  rw [← hm]
  have HMZ : Hid (m = w2.heap.size) := hm
  rw [← hm] at hnl
  clear hm
  go_loopw [6, 7, 8] (fun a l y wr => ∃ (k : Nat) (A : ByteArray) (vl : Value) (qs : List ByteArray), k ≤ ps.length ∧ k ≤ 30 ∧ qs.length = k ∧ (∀ q ∈ qs, q.size ≤ 600) ∧ a = .string A ∧ A.data.toList = cat qs ∧ l = vl ∧ y = .int .i64 k ∧ Below w.heap.size w wr ∧ m + 1 ≤ wr.heap.size ∧ wr.ownsRow (m + 1) 9 1 vl k (strs qs) ∧ Hashes wr n (cat qs) ∧ Hashes wr m (cat qs)) (fun _ _ y _ => ps.length - (intOf y).toNat)
  case atStart =>
    refine ⟨0, _, _, [], by omega, by omega, rfl, by simp, rfl, rfl, rfl, rfl, hBB2.alloc hBB2.size _, by rw [World.size_alloc]; have := HMZ.out; omega, World.ownsRow_nil _ _ _ _, ?_, ?_⟩
    · exact hh2.below ((Below.refl _ _).alloc (Nat.le_refl _) _)
    · rw [HMZ.out]; exact Hashes.zero (Holds.new w2 36 _)
  case round =>
    obtain ⟨k, A, vl, qs, hk, hk30, hql, hqs, rfl, hA, hl, rfl, hB, hms, own, hh, hzz⟩ := hrel
    have hl2 := hl.symm
    clear hl
    subst hl2
    have hTr := hT.below hB
    clear hh2 hBB2
    by_cases hlt : k < ps.length
    · have hk1 : (k : Int) < ps.length := by omega
      by_cases hlt2 : k < 30
      · have hk2 : (k : Int) < 30 := by omega
        obtain ⟨c, o, rfl, hcl, hck⟩ := hc k hlt
        have hck2 : wr.cell? ⟨c, o + k, none⟩ = some (.string ps[k]) := by rw [hB.cell (p := ⟨c, o + k, none⟩) hcl]; exact hck
        obtain ⟨p, hp⟩ : ∃ p, p = ps[k] := ⟨_, rfl⟩
        rw [← hp] at hck2
        clear hck hp
        have hAl : A.size ≤ 18000 := by
          have h1 := cat_bound qs hqs
          have h2 : A.data.toList.length = A.size := rfl
          rw [hA] at h2; omega
        have hmax : 31 ≤ maxLen := by decide
        have OWN : Hid (wr.ownsRow (m + 1) 9 1 vl k (strs qs)) := own
        clear own
        by_cases hx : 600 < p.size
        · have hxi : (600 : Int) < p.size := by omega
          have hxs := cut_size p 600 hx
          generalize hxX : p.extract 0 600 = P at hxs
          have hP : P.size ≤ 600 := by omega
          have hAP : ¬ A.size + P.size > 9223372036854775807 := by omega
          have hAPi : ¬ 9223372036854775807 < A.size + P.size := by omega
          have hAi : (A.size : Int) ≤ 18000 := by omega
          have hPi : (P.size : Int) ≤ 600 := by omega
          go_wp2_with (first
            | (refine wpList_append_own _ rfl _ _ 31 rfl (m + 1) 9 i8 (.string ⟨#[]⟩) 1 16 underStrings HI.out.1 HI.out.2.1 HI.out.2.2.1 HI.out.2.2.2 rfl (by omega) vl k (strs qs) rfl (World.ownsRow.alloc OWN.out _) ⟨wr.heap.size, 0, none⟩ 1 1 [.string P] rfl rfl (one_text wr _) (by intro u hu; simp at hu; subst hu; rfl) (by omega) (by omega) (by rw [World.size_alloc]; omega) ?_
               intro v3 w3 own3 gr3 _)
            | fail)
          obtain ⟨qs2, hq2⟩ : ∃ qs2, qs2 = qs ++ [P] := ⟨_, rfl⟩
          obtain ⟨A2, hA2⟩ : ∃ A2, A2 = A ++ P := ⟨_, rfl⟩
          rw [← hA2]
          have hc2 : cat qs2 = cat qs ++ P.data.toList := by rw [hq2, cat_snoc]
          have hA2l : A2.data.toList = cat qs2 := by rw [hA2, hc2, ← hA]; simp
          have hql2 : qs2.length = k + 1 := by rw [hq2]; simp [hql]
          have hqs2 : ∀ q ∈ qs2, q.size ≤ 600 := fun q hq => by
            rw [hq2] at hq
            rcases List.mem_append.mp hq with r | r
            · exact hqs q r
            · simp at r; subst r; exact hP
          have own3' : w3.ownsRow (m + 1) 9 1 v3 (k + 1) (strs qs2) := by rw [hq2, strs_snoc]; exact own3
          have hr3 : ∀ q, vl.ownBlock = some q → m + 1 ≤ q := fun q hq => (OWN.out.lt q hq).1
          have hB3 : Below w.heap.size w w3 := Below.grownW (hB.alloc hB.size _) gr3 (Nat.le_trans hB.size (by simp)) (fun q hq => by have := hr3 q hq; omega)
          have hal : Below wr.heap.size wr (wr.alloc (.cells #[.string P] 9)) := (Below.refl _ _).alloc (Nat.le_refl _) _
          have hh3 : Hashes w3 n (cat qs) := (hh.below hal).grown gr3 (fun q => by have := hr3 n q.symm; omega)
          have hz3 : Hashes w3 m (cat qs) := (hzz.below hal).grown gr3 (fun q => by have := hr3 m q.symm; omega)
          have hs3 : m + 1 ≤ w3.heap.size := by have := gr3.size; rw [World.size_alloc] at this; omega
          have hT3 := hT.below hB3
          have hcl2 : (cat qs2).length ≤ 18000 := by have := cat_bound qs2 hqs2; omega
          have hclP : (cat qs).length + P.size ≤ 18000 := by
            have h2 : P.data.toList.length = P.size := rfl
            rw [hc2, List.length_append] at hcl2; omega
          have hAs : A2.size = (cat qs2).length := by rw [← hA2l]; rfl
          have HC2 : Hid (cat qs2 = cat qs ++ P.data.toList) := hc2
          have OWN3 : Hid (w3.ownsRow (m + 1) 9 1 v3 (k + 1) (strs qs2)) := own3'
          have HQ : Hid ((∀ q ∈ qs2, q.size ≤ 600) ∧ A2.data.toList = cat qs2) := ⟨hqs2, hA2l⟩
          clear own3 own3' hr3 hal gr3 OWN hh hzz hB hTr hms hA2 hq2 hqs2 hqs hA hc2 hA2l hck2 hAP hAPi hAi hAl
          refine (write_any m (cat qs) P w3 hz3 hT3 (by omega) (by omega)).mono ?_
          rintro e w4 ⟨rfl, o4, hz4⟩
          rw [← HC2.out] at hz4
          have hh4 := hh3.only o4 (by omega)
          have hT4 := hT3.only (by omega) o4
          have hB4 : Below w.heap.size w w4 := Only.fresh hB3 o4 (by omega)
          have OWN4 : Hid (w4.ownsRow (m + 1) 9 1 v3 (k + 1) (strs qs2)) := ownsRow_only OWN3.out o4 (by omega)
          have hs4 := Nat.le_trans hs3 o4.size
          clear o4 hh3 hz3 hT3 hB3 OWN3 hs3
          go_wp2_with fail
          refine (write_any n (cat qs) P w4 hh4 hT4 (by omega) (by omega)).mono ?_
          rintro e w5 ⟨rfl, o5, hh5⟩
          rw [← HC2.out] at hh5
          have hz5 := hz4.only o5 (by omega)
          have hT5 := hT4.only (by omega) o5
          have hB5 : Below w.heap.size w w5 := Only.fresh hB4 o5 (by omega)
          have OWN5 : Hid (w5.ownsRow (m + 1) 9 1 v3 (k + 1) (strs qs2)) := ownsRow_only OWN4.out o5 (by omega)
          have hs5 := Nat.le_trans hs4 o5.size
          clear o5 hh4 hz4 hT4 hB4 OWN4 hs4
          have hyb : (cat qs2).length < 4611686018427387904 := by omega
          have HCT : Hid (cat [A2] = cat qs2) := by rw [cat_one]; exact HQ.out.2
          have hcl : (cat [A2]).length < 4611686018427387904 := by rw [HCT.out]; exact hyb
          have heq := fun w => eql_sums_same w (hashOf (cat qs2))
          generalize hcs : bytesA 32 (hashOf (cat qs2)) = cs at heq
          have HCS : Hid (bytesA 32 (hashOf (cat qs2)) = cs) := hcs
          have HE : Hid (∀ w, (Op.equalIn 10000 27 (.agg cs) (.agg cs)).run Tryd.prog w = .ok true w) := heq
          clear hcs heq
          go_wp2_with fail
          refine (sum_any n _ w5 hh5 hT5 hyb).mono ?_
          rintro e w6 ⟨rfl, hB6⟩
          rw [HCS.out]
          have hh6 := hh5.below hB6
          have hz6 := hz5.below hB6
          have hT6 := hT5.below hB6
          have hBB6 := hB5.trans (hB6.mono hB5.size)
          have OWN6 : Hid (w6.ownsRow (m + 1) 9 1 v3 (k + 1) (strs qs2)) := ownsRow_below OWN5.out hB6
          have hs6 := Nat.le_trans hs5 hB6.size
          clear hB6 hh5 hz5 hT5 hB5 OWN5 hs5
          dsimp only
          go_wp2_with fail
          refine (sumParts_any _ [A2] _ (texts_one w6 _ rfl A2) (hT6.below ((Below.refl _ _).alloc (Nat.le_refl _) _)) hcl (by simp)).mono ?_
          rintro e w7 ⟨rfl, hB7⟩
          rw [HCT.out, HCS.out]
          have hB7' : Below w6.heap.size w6 w7 := ((Below.refl _ _).alloc (Nat.le_refl _) _).trans (hB7.mono (by simp))
          have hh7 := hh6.below hB7'
          have hz7 := hz6.below hB7'
          have hBB7 := hBB6.trans (hB7'.mono hBB6.size)
          have OWN7 : Hid (w7.ownsRow (m + 1) 9 1 v3 (k + 1) (strs qs2)) := ownsRow_below OWN6.out hB7'
          have hs7 := Nat.le_trans hs6 hB7'.size
          clear hB7 hB7' hh6 hz6 hT6 hBB6 OWN6 hs6
          dsimp only
          go_wp2_with (first
            | (refine wpList_neq rfl 27 _ _ _ rfl cs cs rfl rfl true guardSum (HE.out _) ?_)
            | fail)
          refine (len_any n _ w7 hh7).mono ?_
          rintro e w8 ⟨rfl, rfl⟩
          rw [← hAs]
          go_wp2_with fail
          go_roundw
          case rel =>
            exact ⟨k + 1, A2, v3, qs2, by omega, by omega, hql2, HQ.out.1, rfl, HQ.out.2, rfl, rfl, hBB7, hs7, OWN7.out, hh7, hz7⟩
          case measure => simp [intOf]; omega
        · have hxi : ¬ (600 : Int) < p.size := by omega
          obtain ⟨P, hxX⟩ : ∃ P, P = p := ⟨_, rfl⟩
          subst hxX
          have hP : P.size ≤ 600 := by omega
          have hAP : ¬ A.size + P.size > 9223372036854775807 := by omega
          have hAPi : ¬ 9223372036854775807 < A.size + P.size := by omega
          have hAi : (A.size : Int) ≤ 18000 := by omega
          have hPi : (P.size : Int) ≤ 600 := by omega
          go_wp2_with (first
            | (refine wpList_append_own _ rfl _ _ 31 rfl (m + 1) 9 i8 (.string ⟨#[]⟩) 1 16 underStrings HI.out.1 HI.out.2.1 HI.out.2.2.1 HI.out.2.2.2 rfl (by omega) vl k (strs qs) rfl (World.ownsRow.alloc OWN.out _) ⟨wr.heap.size, 0, none⟩ 1 1 [.string P] rfl rfl (one_text wr _) (by intro u hu; simp at hu; subst hu; rfl) (by omega) (by omega) (by rw [World.size_alloc]; omega) ?_
               intro v3 w3 own3 gr3 _)
            | fail)
          obtain ⟨qs2, hq2⟩ : ∃ qs2, qs2 = qs ++ [P] := ⟨_, rfl⟩
          obtain ⟨A2, hA2⟩ : ∃ A2, A2 = A ++ P := ⟨_, rfl⟩
          rw [← hA2]
          have hc2 : cat qs2 = cat qs ++ P.data.toList := by rw [hq2, cat_snoc]
          have hA2l : A2.data.toList = cat qs2 := by rw [hA2, hc2, ← hA]; simp
          have hql2 : qs2.length = k + 1 := by rw [hq2]; simp [hql]
          have hqs2 : ∀ q ∈ qs2, q.size ≤ 600 := fun q hq => by
            rw [hq2] at hq
            rcases List.mem_append.mp hq with r | r
            · exact hqs q r
            · simp at r; subst r; exact hP
          have own3' : w3.ownsRow (m + 1) 9 1 v3 (k + 1) (strs qs2) := by rw [hq2, strs_snoc]; exact own3
          have hr3 : ∀ q, vl.ownBlock = some q → m + 1 ≤ q := fun q hq => (OWN.out.lt q hq).1
          have hB3 : Below w.heap.size w w3 := Below.grownW (hB.alloc hB.size _) gr3 (Nat.le_trans hB.size (by simp)) (fun q hq => by have := hr3 q hq; omega)
          have hal : Below wr.heap.size wr (wr.alloc (.cells #[.string P] 9)) := (Below.refl _ _).alloc (Nat.le_refl _) _
          have hh3 : Hashes w3 n (cat qs) := (hh.below hal).grown gr3 (fun q => by have := hr3 n q.symm; omega)
          have hz3 : Hashes w3 m (cat qs) := (hzz.below hal).grown gr3 (fun q => by have := hr3 m q.symm; omega)
          have hs3 : m + 1 ≤ w3.heap.size := by have := gr3.size; rw [World.size_alloc] at this; omega
          have hT3 := hT.below hB3
          have hcl2 : (cat qs2).length ≤ 18000 := by have := cat_bound qs2 hqs2; omega
          have hclP : (cat qs).length + P.size ≤ 18000 := by
            have h2 : P.data.toList.length = P.size := rfl
            rw [hc2, List.length_append] at hcl2; omega
          have hAs : A2.size = (cat qs2).length := by rw [← hA2l]; rfl
          have HC2 : Hid (cat qs2 = cat qs ++ P.data.toList) := hc2
          have OWN3 : Hid (w3.ownsRow (m + 1) 9 1 v3 (k + 1) (strs qs2)) := own3'
          have HQ : Hid ((∀ q ∈ qs2, q.size ≤ 600) ∧ A2.data.toList = cat qs2) := ⟨hqs2, hA2l⟩
          clear own3 own3' hr3 hal gr3 OWN hh hzz hB hTr hms hA2 hq2 hqs2 hqs hA hc2 hA2l hck2 hAP hAPi hAi hAl
          refine (write_any m (cat qs) P w3 hz3 hT3 (by omega) (by omega)).mono ?_
          rintro e w4 ⟨rfl, o4, hz4⟩
          rw [← HC2.out] at hz4
          have hh4 := hh3.only o4 (by omega)
          have hT4 := hT3.only (by omega) o4
          have hB4 : Below w.heap.size w w4 := Only.fresh hB3 o4 (by omega)
          have OWN4 : Hid (w4.ownsRow (m + 1) 9 1 v3 (k + 1) (strs qs2)) := ownsRow_only OWN3.out o4 (by omega)
          have hs4 := Nat.le_trans hs3 o4.size
          clear o4 hh3 hz3 hT3 hB3 OWN3 hs3
          go_wp2_with fail
          refine (write_any n (cat qs) P w4 hh4 hT4 (by omega) (by omega)).mono ?_
          rintro e w5 ⟨rfl, o5, hh5⟩
          rw [← HC2.out] at hh5
          have hz5 := hz4.only o5 (by omega)
          have hT5 := hT4.only (by omega) o5
          have hB5 : Below w.heap.size w w5 := Only.fresh hB4 o5 (by omega)
          have OWN5 : Hid (w5.ownsRow (m + 1) 9 1 v3 (k + 1) (strs qs2)) := ownsRow_only OWN4.out o5 (by omega)
          have hs5 := Nat.le_trans hs4 o5.size
          clear o5 hh4 hz4 hT4 hB4 OWN4 hs4
          have hyb : (cat qs2).length < 4611686018427387904 := by omega
          have HCT : Hid (cat [A2] = cat qs2) := by rw [cat_one]; exact HQ.out.2
          have hcl : (cat [A2]).length < 4611686018427387904 := by rw [HCT.out]; exact hyb
          have heq := fun w => eql_sums_same w (hashOf (cat qs2))
          generalize hcs : bytesA 32 (hashOf (cat qs2)) = cs at heq
          have HCS : Hid (bytesA 32 (hashOf (cat qs2)) = cs) := hcs
          have HE : Hid (∀ w, (Op.equalIn 10000 27 (.agg cs) (.agg cs)).run Tryd.prog w = .ok true w) := heq
          clear hcs heq
          go_wp2_with fail
          refine (sum_any n _ w5 hh5 hT5 hyb).mono ?_
          rintro e w6 ⟨rfl, hB6⟩
          rw [HCS.out]
          have hh6 := hh5.below hB6
          have hz6 := hz5.below hB6
          have hT6 := hT5.below hB6
          have hBB6 := hB5.trans (hB6.mono hB5.size)
          have OWN6 : Hid (w6.ownsRow (m + 1) 9 1 v3 (k + 1) (strs qs2)) := ownsRow_below OWN5.out hB6
          have hs6 := Nat.le_trans hs5 hB6.size
          clear hB6 hh5 hz5 hT5 hB5 OWN5 hs5
          dsimp only
          go_wp2_with fail
          refine (sumParts_any _ [A2] _ (texts_one w6 _ rfl A2) (hT6.below ((Below.refl _ _).alloc (Nat.le_refl _) _)) hcl (by simp)).mono ?_
          rintro e w7 ⟨rfl, hB7⟩
          rw [HCT.out, HCS.out]
          have hB7' : Below w6.heap.size w6 w7 := ((Below.refl _ _).alloc (Nat.le_refl _) _).trans (hB7.mono (by simp))
          have hh7 := hh6.below hB7'
          have hz7 := hz6.below hB7'
          have hBB7 := hBB6.trans (hB7'.mono hBB6.size)
          have OWN7 : Hid (w7.ownsRow (m + 1) 9 1 v3 (k + 1) (strs qs2)) := ownsRow_below OWN6.out hB7'
          have hs7 := Nat.le_trans hs6 hB7'.size
          clear hB7 hB7' hh6 hz6 hT6 hBB6 OWN6 hs6
          dsimp only
          go_wp2_with (first
            | (refine wpList_neq rfl 27 _ _ _ rfl cs cs rfl rfl true guardSum (HE.out _) ?_)
            | fail)
          refine (len_any n _ w7 hh7).mono ?_
          rintro e w8 ⟨rfl, rfl⟩
          rw [← hAs]
          go_wp2_with fail
          go_roundw
          case rel =>
            exact ⟨k + 1, A2, v3, qs2, by omega, by omega, hql2, HQ.out.1, rfl, HQ.out.2, rfl, rfl, hBB7, hs7, OWN7.out, hh7, hz7⟩
          case measure => simp [intOf]; omega
      · have hk2 : ¬ (k : Int) < 30 := by omega
        have hcl2 : (cat qs).length ≤ 18000 := by have := cat_bound qs hqs; omega
        have hyb : (cat qs).length < 4611686018427387904 := by omega
        have HCT : Hid (cat [A] = cat qs) := by rw [cat_one]; exact hA
        have hcl : (cat [A]).length < 4611686018427387904 := by rw [HCT.out]; exact hyb
        have OWN : Hid (wr.ownsRow (m + 1) 9 1 vl k (strs qs)) := own
        have heq := fun w => eql_sums_same w (hashOf (cat qs))
        generalize hcs : bytesA 32 (hashOf (cat qs)) = cs at heq
        have HCS : Hid (bytesA 32 (hashOf (cat qs)) = cs) := hcs
        have HE : Hid (∀ w, (Op.equalIn 10000 27 (.agg cs) (.agg cs)).run Tryd.prog w = .ok true w) := heq
        clear hcs heq own hc hqs hA
        go_wp2_with fail
        refine (sum_any m _ wr hzz hTr hyb).mono ?_
        rintro e w3 ⟨rfl, hB3⟩
        rw [HCS.out]
        have hh3 := hh.below hB3
        have hT3 := hTr.below hB3
        have hBB3 := hB.trans (hB3.mono hB.size)
        have OWN3 : Hid (w3.ownsRow (m + 1) 9 1 vl k (strs qs)) := ownsRow_below OWN.out hB3
        clear hB3 hh hzz hTr hB OWN
        dsimp only
        go_wp2_with fail
        refine (sum_any n _ w3 hh3 hT3 hyb).mono ?_
        rintro e w4 ⟨rfl, hB4⟩
        rw [HCS.out]
        have hh4 := hh3.below hB4
        have hT4 := hT3.below hB4
        have hBB4 := hBB3.trans (hB4.mono hBB3.size)
        have hx4 : Texts w4 vl qs := texts_owned (ownsRow_below OWN3.out hB4)
        clear hB4 hh3 hT3 hBB3 OWN3
        dsimp only
        go_wp2_with (first
          | (refine wpList_neq rfl 27 _ _ _ rfl cs cs rfl rfl true guardSum (HE.out _) ?_)
          | fail)
        refine (sumParts_any vl qs w4 hx4 hT4 hyb (by omega)).mono ?_
        rintro e w5 ⟨rfl, hB5⟩
        rw [HCS.out]
        have hh5 := hh4.below hB5
        have hT5 := hT4.below hB5
        have hBB5 := hBB4.trans (hB5.mono hBB4.size)
        clear hB5 hh4 hT4 hBB4 hx4
        dsimp only
        go_wp2_with fail
        refine (sumParts_any _ [A] _ (texts_one w5 _ rfl A) (hT5.below ((Below.refl _ _).alloc (Nat.le_refl _) _)) hcl (by simp)).mono ?_
        rintro e w6 ⟨rfl, hB6⟩
        rw [HCT.out, HCS.out]
        have hB6' : Below w5.heap.size w5 w6 := ((Below.refl _ _).alloc (Nat.le_refl _) _).trans (hB6.mono (by simp))
        have hh6 := hh5.below hB6'
        have hT6 := hT5.below hB6'
        have hBB6 := hBB5.trans (hB6'.mono hBB5.size)
        clear hB6 hB6' hh5 hT5 hBB5
        dsimp only
        go_wp2_with (first
          | (refine wpList_neq rfl 27 _ _ _ rfl cs cs rfl rfl true guardSum (HE.out _) ?_)
          | fail)
        refine (reset_any n _ w6 hh6).mono ?_
        rintro e w7 ⟨rfl, o7, hh7⟩
        have hT7 := hT6.only hn3 o7
        have hBB7 : Below w.heap.size w w7 := Only.fresh hBB6 o7 hn1
        clear o7 hh6 hT6 hBB6 HCS HE
        have heq := fun w => eql_sums_same w (hashOf [])
        generalize hcs : bytesA 32 (hashOf []) = cz at heq
        have HCS : Hid (bytesA 32 (hashOf []) = cz) := hcs
        have HE : Hid (∀ w, (Op.equalIn 10000 27 (.agg cz) (.agg cz)).run Tryd.prog w = .ok true w) := heq
        have HCN : Hid (cat [] = []) := rfl
        clear hcs heq
        go_wp2_with fail
        refine (sum_any n _ w7 hh7 hT7 (by simp)).mono ?_
        rintro e w8 ⟨rfl, hB8⟩
        rw [HCS.out]
        have hh8 := hh7.below hB8
        have hT8 := hT7.below hB8
        have hBB8 := hBB7.trans (hB8.mono hBB7.size)
        clear hB8 hh7 hT7 hBB7
        dsimp only
        go_wp2_with fail
        refine (sumParts_any _ [] w8 (texts_none w8) hT8 (by simp [cat]) (by simp)).mono ?_
        rintro e w9 ⟨rfl, hB9⟩
        rw [HCN.out, HCS.out]
        have hh9 := hh8.below hB9
        have hBB9 := hBB8.trans (hB9.mono hBB8.size)
        clear hB9 hh8 hT8 hBB8
        dsimp only
        go_wp2_with (first
          | (refine wpList_eql rfl 27 _ _ _ rfl cz cz rfl rfl true guardSum (HE.out _) ?_)
          | fail)
        refine (len_any n _ w9 hh9).mono ?_
        rintro e w10 ⟨rfl, rfl⟩
        go_wp2
        go_ret
        exact ⟨rfl, hBB9⟩
    · have hk1 : ¬ (k : Int) < ps.length := by omega
      have hcl2 : (cat qs).length ≤ 18000 := by have := cat_bound qs hqs; omega
      have hyb : (cat qs).length < 4611686018427387904 := by omega
      have HCT : Hid (cat [A] = cat qs) := by rw [cat_one]; exact hA
      have hcl : (cat [A]).length < 4611686018427387904 := by rw [HCT.out]; exact hyb
      have OWN : Hid (wr.ownsRow (m + 1) 9 1 vl k (strs qs)) := own
      have heq := fun w => eql_sums_same w (hashOf (cat qs))
      generalize hcs : bytesA 32 (hashOf (cat qs)) = cs at heq
      have HCS : Hid (bytesA 32 (hashOf (cat qs)) = cs) := hcs
      have HE : Hid (∀ w, (Op.equalIn 10000 27 (.agg cs) (.agg cs)).run Tryd.prog w = .ok true w) := heq
      clear hcs heq own hc hqs hA
      go_wp2_with fail
      refine (sum_any m _ wr hzz hTr hyb).mono ?_
      rintro e w3 ⟨rfl, hB3⟩
      rw [HCS.out]
      have hh3 := hh.below hB3
      have hT3 := hTr.below hB3
      have hBB3 := hB.trans (hB3.mono hB.size)
      have OWN3 : Hid (w3.ownsRow (m + 1) 9 1 vl k (strs qs)) := ownsRow_below OWN.out hB3
      clear hB3 hh hzz hTr hB OWN
      dsimp only
      go_wp2_with fail
      refine (sum_any n _ w3 hh3 hT3 hyb).mono ?_
      rintro e w4 ⟨rfl, hB4⟩
      rw [HCS.out]
      have hh4 := hh3.below hB4
      have hT4 := hT3.below hB4
      have hBB4 := hBB3.trans (hB4.mono hBB3.size)
      have hx4 : Texts w4 vl qs := texts_owned (ownsRow_below OWN3.out hB4)
      clear hB4 hh3 hT3 hBB3 OWN3
      dsimp only
      go_wp2_with (first
        | (refine wpList_neq rfl 27 _ _ _ rfl cs cs rfl rfl true guardSum (HE.out _) ?_)
        | fail)
      refine (sumParts_any vl qs w4 hx4 hT4 hyb (by omega)).mono ?_
      rintro e w5 ⟨rfl, hB5⟩
      rw [HCS.out]
      have hh5 := hh4.below hB5
      have hT5 := hT4.below hB5
      have hBB5 := hBB4.trans (hB5.mono hBB4.size)
      clear hB5 hh4 hT4 hBB4 hx4
      dsimp only
      go_wp2_with fail
      refine (sumParts_any _ [A] _ (texts_one w5 _ rfl A) (hT5.below ((Below.refl _ _).alloc (Nat.le_refl _) _)) hcl (by simp)).mono ?_
      rintro e w6 ⟨rfl, hB6⟩
      rw [HCT.out, HCS.out]
      have hB6' : Below w5.heap.size w5 w6 := ((Below.refl _ _).alloc (Nat.le_refl _) _).trans (hB6.mono (by simp))
      have hh6 := hh5.below hB6'
      have hT6 := hT5.below hB6'
      have hBB6 := hBB5.trans (hB6'.mono hBB5.size)
      clear hB6 hB6' hh5 hT5 hBB5
      dsimp only
      go_wp2_with (first
        | (refine wpList_neq rfl 27 _ _ _ rfl cs cs rfl rfl true guardSum (HE.out _) ?_)
        | fail)
      refine (reset_any n _ w6 hh6).mono ?_
      rintro e w7 ⟨rfl, o7, hh7⟩
      have hT7 := hT6.only hn3 o7
      have hBB7 : Below w.heap.size w w7 := Only.fresh hBB6 o7 hn1
      clear o7 hh6 hT6 hBB6 HCS HE
      have heq := fun w => eql_sums_same w (hashOf [])
      generalize hcs : bytesA 32 (hashOf []) = cz at heq
      have HCS : Hid (bytesA 32 (hashOf []) = cz) := hcs
      have HE : Hid (∀ w, (Op.equalIn 10000 27 (.agg cz) (.agg cz)).run Tryd.prog w = .ok true w) := heq
      have HCN : Hid (cat [] = []) := rfl
      clear hcs heq
      go_wp2_with fail
      refine (sum_any n _ w7 hh7 hT7 (by simp)).mono ?_
      rintro e w8 ⟨rfl, hB8⟩
      rw [HCS.out]
      have hh8 := hh7.below hB8
      have hT8 := hT7.below hB8
      have hBB8 := hBB7.trans (hB8.mono hBB7.size)
      clear hB8 hh7 hT7 hBB7
      dsimp only
      go_wp2_with fail
      refine (sumParts_any _ [] w8 (texts_none w8) hT8 (by simp [cat]) (by simp)).mono ?_
      rintro e w9 ⟨rfl, hB9⟩
      rw [HCN.out, HCS.out]
      have hh9 := hh8.below hB9
      have hBB9 := hBB8.trans (hB9.mono hBB8.size)
      clear hB9 hh8 hT8 hBB8
      dsimp only
      go_wp2_with (first
        | (refine wpList_eql rfl 27 _ _ _ rfl cz cz rfl rfl true guardSum (HE.out _) ?_)
        | fail)
      refine (len_any n _ w9 hh9).mono ?_
      rintro e w10 ⟨rfl, rfl⟩
      go_wp2
      go_ret
      exact ⟨rfl, hBB9⟩

end Go.Proofs.YtooednielegmnaaDoor
