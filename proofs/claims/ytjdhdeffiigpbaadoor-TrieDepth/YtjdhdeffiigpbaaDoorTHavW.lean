/-
  What having, extended and alikeAhead do.
-/
import Derived.Test.YtjdhdeffiigpbaaDoorTRootW
namespace Go.Proofs.YtjdhdeffiigpbaaDoor
open Go Go.RowKit Nb

theorem extS_extd (path b : ByteArray) (hr : rightL path.data.toList = true) : (if path.size = 0 then b else extS path ⟨(refN b.data.toList).toArray⟩) = ⟨(extd path.data.toList b.data.toList).toArray⟩ := by
  unfold extd extS
  by_cases h : path.size = 0
  · rw [if_pos h, if_pos (List.eq_nil_of_length_eq_zero h)]
  · rw [if_neg h, hr, if_pos rfl, if_neg (fun e => h (by rw [← sizeB, e]; rfl))]
theorem refN_len (l : List UInt8) : (refN l).length ≤ 41 := by
  unfold refN
  split
  · omega
  · have := bytesL_len (K.headL (K.hashOf l) 32)
    have h2 : (K.headL (K.hashOf l) 32).length = 32 := by simp [K.headL]
    omega
set_option maxRecDepth 4000 in
theorem extended_any (path b : ByteArray) (w : World) (hT : K.Tabs w) (hp : path.size ≤ 1000000) (hb : b.size ≤ 100000000) (hr : rightL path.data.toList = true) :
    Calls Tryd.prog 41 #[.string path, .string b] w fun e w' => e = .returned (.string ⟨(extd path.data.toList b.data.toList).toArray⟩) ∧ Below w.heap.size w w' := by
  have HE : Hid ((if path.size = 0 then b else extS path ⟨(refN b.data.toList).toArray⟩) = ⟨(extd path.data.toList b.data.toList).toArray⟩) := extS_extd path b hr
  obtain ⟨Z, hZ⟩ : ∃ Z : ByteArray, (⟨(extd path.data.toList b.data.toList).toArray⟩ : ByteArray) = Z := ⟨_, rfl⟩
  rw [hZ] at HE ⊢
  by_cases h : path.size = 0
  · have ep := isEmpty0 path h
    have HZ : Hid (b = Z) := by have := HE.out; rwa [if_pos h] at this
    clear hZ h HE hr
    go_enter Tryd.func41, Tryd.ntmps41
    go_wp2_with fail
    go_ret
    exact ⟨by rw [← HZ.out]; rfl, Below.refl _ _⟩
  · have ep := notEmpty path h
    have HZ : Hid (extS path ⟨(refN b.data.toList).toArray⟩ = Z) := by have := HE.out; rwa [if_neg h] at this
    have hrf := ref_any b w hT hb
    have hln : ((⟨(refN b.data.toList).toArray⟩ : ByteArray)).size ≤ 41 := refN_len _
    obtain ⟨y, hy⟩ : ∃ y : ByteArray, (⟨(refN b.data.toList).toArray⟩ : ByteArray) = y := ⟨_, rfl⟩
    rw [hy] at hrf HZ hln
    have hex := fun w => ext_any path y w hp (by omega)
    obtain ⟨X, hX⟩ : ∃ X, extS path y = X := ⟨_, rfl⟩
    rw [hX] at hex HZ
    have hXZ : X = Z := HZ.out
    subst hXZ
    obtain ⟨k, hk⟩ : ∃ k, okE path.data.toList = k := ⟨_, rfl⟩
    rw [hk] at hex
    clear hZ h HE hr hy hX hk HZ
    go_enter Tryd.func41, Tryd.ntmps41
    go_wp2_with fail
    refine hrf.mono ?_
    rintro e w1 ⟨rfl, hB1⟩
    go_wp2_with fail
    refine (hex _).mono ?_
    rintro e w2 ⟨rfl, hB2⟩
    go_wp2_with fail
    go_ret
    exact ⟨rfl, hB1.trans (hB2.mono hB1.size)⟩
/-- Pairs of a part of a row. -/
def RowIn (w : World) (b o : Nat) (L : List Pr) : Prop := ∀ i x, L[i]? = some x → PairAt w b (o + i * 2) x
theorem RowIn.below {w w' : World} {b o : Nat} {L : List Pr} (h : RowIn w b o L) (hb : Below w.heap.size w w') : RowIn w' b o L := fun i x hx => (h i x hx).below hb
theorem RowIn.left {w : World} {b o : Nat} {A B : List Pr} (h : RowIn w b o (A ++ B)) : RowIn w b o A := fun i x hx => h i x (by rw [List.getElem?_append_left (List.getElem?_eq_some_iff.1 hx).1]; exact hx)
theorem RowIn.right {w : World} {b o : Nat} {A B : List Pr} (h : RowIn w b o (A ++ B)) : RowIn w b (o + A.length * 2) B := fun i x hx => by
  have := h (A.length + i) x (by rw [List.getElem?_append_right (by omega), Nat.add_sub_cancel_left]; exact hx)
  rwa [Nat.add_mul, ← Nat.add_assoc] at this
set_option maxRecDepth 8000 in
set_option maxHeartbeats 1000000 in
theorem having_any (b o c : Nat) (L : List Pr) (q n : Nat) (w : World) (h : RowIn w b o L) (hl : L.length ≤ 1000000) (hk : ∀ p ∈ L, q < p.1.size) :
    Calls Tryd.prog 40 #[.slice (some ⟨b, o, none⟩) L.length c, .int .i64 (q : Nat), .int .u8 (n : Nat)] w fun e w' => e = .returned (.int .i64 ((L.takeWhile fun x => nibAt q x == n).length : Nat)) ∧ Below w.heap.size w w' := by
  obtain ⟨N, hN⟩ : ∃ N, L.length = N := ⟨_, rfl⟩
  have HN : Hid (L.length = N) := hN
  have HK : Hid (∀ p ∈ L, q < p.1.size) := hk
  rw [hN] at hl ⊢
  have HH : Hid (RowIn w b o L) := h
  clear hN hk h
  go_enter Tryd.func40, Tryd.ntmps40
  go_wp2_with fail
  go_loopw [11] (fun z wr => ∃ i : Nat, i ≤ N ∧ z = .int .i64 (i : Nat) ∧ Hid (Below w.heap.size w wr) ∧ Hid (∀ j x, j < i → L[j]? = some x → nibAt q x = n)) (fun z _ => N - (intOf z).toNat)
  case atStart => exact ⟨0, by omega, rfl, Below.refl _ _, fun j x hj => absurd hj (Nat.not_lt_zero _)⟩
  case round =>
    obtain ⟨i, hi, rfl, HB, HA⟩ := hrel
    by_cases hlt : i < N
    · have hlti : (i : Int) < N := by omega
      have hi0 : (0 : Int) ≤ i := by omega
      obtain ⟨x, hx⟩ : ∃ x, L[i]? = some x := ⟨_, List.getElem?_eq_getElem (by rw [HN.out]; exact hlt)⟩
      obtain ⟨x1, x2⟩ := x
      have hxa := (HH.out i _ hx).below HB.out
      obtain ⟨q1, q2⟩ := hxa
      have hxs : q < x1.size := HK.out _ (List.mem_of_getElem? hx)
      have hni : nibAt q (x1, x2) = (x1[q]).toNat := by
        unfold nibAt kb
        rw [List.getD_eq_getElem?_getD, List.getElem?_eq_getElem (by exact hxs)]; rfl
      have hqi : (q : Int) < x1.size := by omega
      have hq0 : (0 : Int) ≤ q := by omega
      have HX : Hid (L[i]? = some (x1, x2)) := hx
      have hz := zeroPair
      dsimp only at q1 q2
      by_cases he : nibAt q (x1, x2) = n
      · have hnb : ((x1[q]).toNat : Int) = n := by rw [← hni, he]
        have HA' : Hid (∀ j y, j < i + 1 → L[j]? = some y → nibAt q y = n) := fun j y hj hy => by
          by_cases e : j = i
          · subst e
            rw [HX.out] at hy
            injection hy with hy
            rw [← hy]; exact he
          · exact HA.out j y (by omega) hy
        clear hx he hni
        go_wp2_with fail
        go_roundw
        case rel => exact ⟨i + 1, by omega, by simp, HB.out.alloc HB.out.size _, HA'⟩
        case measure => simp [intOf]; omega
      · have hnb : ¬ ((x1[q]).toNat : Int) = n := by rw [← hni]; omega
        have HR : Hid ((L.takeWhile fun x => nibAt q x == n).length = i) := by
          show _ = _
          have e1 : L = L.take i ++ (x1, x2) :: L.drop (i + 1) := by
            obtain ⟨h1, h2⟩ := List.getElem?_eq_some_iff.1 hx
            rw [← h2, ← List.drop_eq_getElem_cons h1, List.take_append_drop]
          rw [e1, List.takeWhile_append_of_pos (fun y hy => ?_), List.takeWhile_cons_of_neg (by simpa using he), List.append_nil, List.length_take]
          · have := (List.getElem?_eq_some_iff.1 hx).1
            omega
          · obtain ⟨j, hj⟩ := List.mem_iff_getElem?.1 hy
            rw [List.getElem?_take] at hj
            split at hj
            · rename_i hji
              simpa using HA.out j y hji hj
            · cases hj
        clear hx he hni
        go_wp2_with fail
        go_ret
        exact ⟨by rw [HR.out]; rfl, HB.out.alloc HB.out.size _⟩
    · have hlti : ¬ (i : Int) < N := by omega
      have HR : Hid ((L.takeWhile fun x => nibAt q x == n).length = N) := by
        show _ = _
        rw [← HN.out]
        congr 1
        have hall : ∀ y ∈ L, (nibAt q y == n) = true := by
          intro y hy
          obtain ⟨j, hj⟩ := List.mem_iff_getElem?.1 hy
          have := (List.getElem?_eq_some_iff.1 hj).1
          rw [HN.out] at this
          simpa using HA.out j y (by omega) hj
        have := List.takeWhile_append_of_pos (l₂ := []) hall
        simpa using this
      go_wp2_with fail
      go_ret
      exact ⟨by rw [HR.out]; rfl, HB.out⟩
end Go.Proofs.YtjdhdeffiigpbaaDoor
