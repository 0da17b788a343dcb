/-
  What the document's Unpack does.
-/
import Derived.Test.YtkkjkanlaldhcaaRefC
import Derived.Test.YtkkjkanlaldhcaaUnpackW
namespace Go.Proofs.Ytkkjkanlaldhcaa
open Go Go.RowKit

/-- Are these bytes the pack of this row? -/
def mt (x X : ByteArray) (leaf : Bool) : Bool := (pckS X.data.toList leaf).toList == x.toList
theorem mt_true {x X : ByteArray} {leaf : Bool} (hr : rightL X.data.toList = true) (h : mt x X leaf = true) : unpS x.data.toList = X ∧ unpB x.data.toList = leaf ∧ unpE x.data.toList = 0 := by
  unfold mt at h
  rw [beq_iff_eq, lb, lb] at h
  unfold pckS at h
  rw [hr, if_pos rfl] at h
  have h2 : pck X.data.toList leaf = x.data.toList := h
  have := unp_pck X.data.toList leaf hr
  rw [h2] at this
  refine ⟨?_, ?_, ?_⟩
  · unfold unpS; rw [this]
    obtain ⟨l, rfl⟩ := exists_list X
    rfl
  · unfold unpB; rw [this]; rfl
  · unfold unpE; rw [this]; rfl
theorem mt_none {x X0 X1 : ByteArray} (h0 : X0.data.toList = (hal x.data.toList).drop 2) (h1 : X1.data.toList = (hal x.data.toList).drop 1) (hr0 : rightL X0.data.toList = true) (hr1 : rightL X1.data.toList = true)
    (a : mt x X0 false = false) (b : mt x X1 false = false) (c : mt x X0 true = false) (d : mt x X1 true = false) : unpS x.data.toList = ⟨#[]⟩ ∧ unpB x.data.toList = false ∧ unpE x.data.toList = 10 := by
  have hu : unp x.data.toList = none := by
    cases hu : unp x.data.toList with
    | none => rfl
    | some p =>
      obtain ⟨n, leaf⟩ := p
      obtain ⟨hr, hp⟩ := pck_unp _ _ _ hu
      have hx : n = X0.data.toList ∨ n = X1.data.toList := by
        rw [h0, h1]
        cases hl : x.data.toList with
        | nil => rw [hl] at hu; cases hu
        | cons e l =>
          rw [hl, unp_cons] at hu
          rw [hal]
          split at hu
          · cases hu
          · split at hu
            · injection hu with hu; injection hu with q _; right; exact q.symm
            · split at hu
              · injection hu with hu; injection hu with q _; left; exact q.symm
              · cases hu
      have key : ∀ X : ByteArray, rightL X.data.toList = true → n = X.data.toList → mt x X leaf = true := fun X hX e => by
        unfold mt
        rw [beq_iff_eq, lb, lb]
        unfold pckS
        rw [hX, if_pos rfl]
        show pck X.data.toList leaf = _
        rw [← e]; exact hp
      rcases hx with q | q
      · have := key X0 hr0 q
        cases leaf
        · rw [a] at this; cases this
        · rw [c] at this; cases this
      · have := key X1 hr1 q
        cases leaf
        · rw [b] at this; cases this
        · rw [d] at this; cases this
  refine ⟨?_, ?_, ?_⟩
  · unfold unpS; rw [hu]; rfl
  · unfold unpB; rw [hu]; rfl
  · unfold unpE; rw [hu]; rfl

theorem slice_from (x : ByteArray) (p : Nat) (hp : p ≤ x.size) (w : World) : (Instr.sliceAt 9 (.string x) (some (.int .i64 (p : Int))) none none).run Try.prog w = .ok (.string (x.extract p x.size)) w := by
  have h1 : (p : Int) ≤ x.size := by omega
  go_simp

set_option maxRecDepth 8000 in
set_option maxHeartbeats 4000000 in
theorem refUnpack_any (x : ByteArray) (w : World) (hx : x.size ≤ 100000) :
    Calls Try.prog 15 #[.string x] w fun e w' => e = .returned (.tuple #[.string (unpS x.data.toList), .bool (unpB x.data.toList), .int .i64 (unpE x.data.toList)]) ∧ Below w.heap.size w w' := by
  by_cases h0 : x.size = 0
  · have hl : x.data.toList = [] := List.eq_nil_of_length_eq_zero (by rw [sizeB, h0])
    have h0i : (x.size : Int) = 0 := by omega
    rw [hl]
    clear hl
    go_enter Try.func15, Try.ntmps15
    go_wp2_with fail
    go_ret3
    exact ⟨rfl, Below.refl _ _⟩
  · have h0i : ¬ (x.size : Int) = 0 := by omega
    obtain ⟨H, hH⟩ : ∃ H : ByteArray, H = ⟨(hal x.data.toList).toArray⟩ := ⟨_, rfl⟩
    have hHl : H.data.toList = hal x.data.toList := by rw [hH]
    have hHs : H.size = 2 * x.size := by rw [← sizeB, hHl, hal_len, sizeB]
    obtain ⟨X0, hX0⟩ : ∃ X, X = H.extract 2 H.size := ⟨_, rfl⟩
    obtain ⟨X1, hX1⟩ : ∃ X, X = H.extract 1 H.size := ⟨_, rfl⟩
    have hl0 : X0.data.toList = (hal x.data.toList).drop 2 := by rw [hX0, extract_drop, hHl]
    have hl1 : X1.data.toList = (hal x.data.toList).drop 1 := by rw [hX1, extract_drop, hHl]
    have hr0 : rightL X0.data.toList = true := by rw [hl0]; exact right_drop _ _ (right_hal _)
    have hr1 : rightL X1.data.toList = true := by rw [hl1]; exact right_drop _ _ (right_hal _)
    have hs0 : X0.size ≤ 200000 := by rw [← sizeB, hl0, List.length_drop, hal_len, sizeB]; omega
    have hs1 : X1.size ≤ 200000 := by rw [← sizeB, hl1, List.length_drop, hal_len, sizeB]; omega
    have he0 : pckE X0.data.toList = 0 := by unfold pckE; rw [hr0]; rfl
    have he1 : pckE X1.data.toList = 0 := by unfold pckE; rw [hr1]; rfl
    have hsl0 := slice_from H 2 (by omega)
    have hsl1 := slice_from H 1 (by omega)
    rw [← hX0] at hsl0
    rw [← hX1] at hsl1
    simp only [Int.cast_ofNat_Int] at hsl0 hsl1
    have T00 : Hid (mt x X0 false = true → unpS x.data.toList = X0 ∧ unpB x.data.toList = false ∧ unpE x.data.toList = 0) := mt_true hr0
    have T01 : Hid (mt x X1 false = true → unpS x.data.toList = X1 ∧ unpB x.data.toList = false ∧ unpE x.data.toList = 0) := mt_true hr1
    have T10 : Hid (mt x X0 true = true → unpS x.data.toList = X0 ∧ unpB x.data.toList = true ∧ unpE x.data.toList = 0) := mt_true hr0
    have T11 : Hid (mt x X1 true = true → unpS x.data.toList = X1 ∧ unpB x.data.toList = true ∧ unpE x.data.toList = 0) := mt_true hr1
    have TN : Hid (mt x X0 false = false → mt x X1 false = false → mt x X0 true = false → mt x X1 true = false → unpS x.data.toList = ⟨#[]⟩ ∧ unpB x.data.toList = false ∧ unpE x.data.toList = 10) := mt_none hl0 hl1 hr0 hr1
    have EH : Hid (⟨(hal x.data.toList).toArray⟩ = H) := hH.symm
    have E0 : Hid (pckE X0.data.toList = 0 ∧ pckE X1.data.toList = 0) := ⟨he0, he1⟩
    have hH1 : (1 : Int) ≤ H.size := by omega
    have hH2 : (2 : Int) ≤ H.size := by omega
    have hx0 : H.extract 2 H.size = X0 := hX0.symm
    have hx1 : H.extract 1 H.size = X1 := hX1.symm
    clear hH hHl hHs hX0 hX1 hl0 hl1 hr0 hr1 he0 he1
    go_enter Try.func15, Try.ntmps15
    go_wp2_with fail
    refine (refOf_any x _ (by omega)).mono ?_
    rintro e w1 ⟨rfl, hB1⟩
    rw [EH.out]
    go_wp2_with fail
    go_loopw [6] (fun z wr => Below w.heap.size w wr ∧ (z = .int .i64 0 ∨ z = .int .i64 1 ∧ Hid (mt x X0 false = false ∧ mt x X1 false = false) ∨ z = .int .i64 2 ∧ Hid (mt x X0 false = false ∧ mt x X1 false = false ∧ mt x X0 true = false ∧ mt x X1 true = false))) (fun z _ => 2 - (intOf z).toNat)
    case atStart => exact ⟨hB1, .inl rfl⟩
    case round =>
      clear hB1
      obtain ⟨hB, rfl | ⟨rfl, M0⟩ | ⟨rfl, M1⟩⟩ := hrel
      · go_wp2_with fail
        go_loopw [7] (fun z wr => Below w.heap.size w wr ∧ (z = .int .i64 0 ∨ z = .int .i64 1 ∧ Hid (mt x X0 false = false) ∨ z = .int .i64 2 ∧ Hid (mt x X0 false = false ∧ mt x X1 false = false))) (fun z _ => 2 - (intOf z).toNat)
        case atStart => exact ⟨hB, .inl rfl⟩
        case round =>
          clear hB
          obtain ⟨hB, rfl | ⟨rfl, N0⟩ | ⟨rfl, N1⟩⟩ := hrel
          · go_wp2_with fail
            refine (rpack_any X0 false _ (by omega)).mono ?_
            rintro e w2 ⟨rfl, h2⟩
            replace hB := hB.trans (h2.mono hB.size)
            clear h2
            rw [E0.out.1]
            cases hm : mt x X0 false with
            | true =>
              obtain ⟨u1, u2, u3⟩ := T00.out hm
              have U : Hid (unpS x.data.toList = X0 ∧ unpB x.data.toList = false ∧ unpE x.data.toList = 0) := ⟨u1, u2, u3⟩
              have hmm : ((pckS X0.data.toList false).toList == x.toList) = true := hm
              clear u1 u2 u3 hm
              generalize pckS X0.data.toList false = P at hmm ⊢
              go_wp2_with fail
              go_ret3
              exact ⟨by rw [U.out.1, U.out.2.1, U.out.2.2]; rfl, hB⟩
            | false =>
              have HM : Hid (mt x X0 false = false) := hm
              have hmm : ((pckS X0.data.toList false).toList == x.toList) = false := hm
              clear hm
              generalize pckS X0.data.toList false = P at hmm ⊢
              go_wp2_with fail
              go_roundw
              case rel => exact ⟨hB, .inr (.inl ⟨rfl, HM⟩)⟩
              case measure => simp [intOf]
          · go_wp2_with fail
            refine (rpack_any X1 false _ (by omega)).mono ?_
            rintro e w2 ⟨rfl, h2⟩
            replace hB := hB.trans (h2.mono hB.size)
            clear h2
            rw [E0.out.2]
            cases hm : mt x X1 false with
            | true =>
              obtain ⟨u1, u2, u3⟩ := T01.out hm
              have U : Hid (unpS x.data.toList = X1 ∧ unpB x.data.toList = false ∧ unpE x.data.toList = 0) := ⟨u1, u2, u3⟩
              have hmm : ((pckS X1.data.toList false).toList == x.toList) = true := hm
              clear u1 u2 u3 hm
              generalize pckS X1.data.toList false = P at hmm ⊢
              go_wp2_with fail
              go_ret3
              exact ⟨by rw [U.out.1, U.out.2.1, U.out.2.2]; rfl, hB⟩
            | false =>
              have HM : Hid (mt x X1 false = false) := hm
              have hmm : ((pckS X1.data.toList false).toList == x.toList) = false := hm
              clear hm
              generalize pckS X1.data.toList false = P at hmm ⊢
              go_wp2_with fail
              go_roundw
              case rel => exact ⟨hB, .inr (.inr ⟨rfl, N0, HM⟩)⟩
              case measure => simp [intOf]
          · go_wp2_with fail
            go_roundw
            case rel => exact ⟨hB, .inr (.inl ⟨rfl, N1⟩)⟩
            case measure => simp [intOf]
      · go_wp2_with fail
        go_loopw [7] (fun z wr => Below w.heap.size w wr ∧ (z = .int .i64 0 ∨ z = .int .i64 1 ∧ Hid (mt x X0 true = false) ∨ z = .int .i64 2 ∧ Hid (mt x X0 true = false ∧ mt x X1 true = false))) (fun z _ => 2 - (intOf z).toNat)
        case atStart => exact ⟨hB, .inl rfl⟩
        case round =>
          clear hB
          obtain ⟨hB, rfl | ⟨rfl, N0⟩ | ⟨rfl, N1⟩⟩ := hrel
          · go_wp2_with fail
            refine (rpack_any X0 true _ (by omega)).mono ?_
            rintro e w2 ⟨rfl, h2⟩
            replace hB := hB.trans (h2.mono hB.size)
            clear h2
            rw [E0.out.1]
            cases hm : mt x X0 true with
            | true =>
              obtain ⟨u1, u2, u3⟩ := T10.out hm
              have U : Hid (unpS x.data.toList = X0 ∧ unpB x.data.toList = true ∧ unpE x.data.toList = 0) := ⟨u1, u2, u3⟩
              have hmm : ((pckS X0.data.toList true).toList == x.toList) = true := hm
              clear u1 u2 u3 hm
              generalize pckS X0.data.toList true = P at hmm ⊢
              go_wp2_with fail
              go_ret3
              exact ⟨by rw [U.out.1, U.out.2.1, U.out.2.2]; rfl, hB⟩
            | false =>
              have HM : Hid (mt x X0 true = false) := hm
              have hmm : ((pckS X0.data.toList true).toList == x.toList) = false := hm
              clear hm
              generalize pckS X0.data.toList true = P at hmm ⊢
              go_wp2_with fail
              go_roundw
              case rel => exact ⟨hB, .inr (.inl ⟨rfl, HM⟩)⟩
              case measure => simp [intOf]
          · go_wp2_with fail
            refine (rpack_any X1 true _ (by omega)).mono ?_
            rintro e w2 ⟨rfl, h2⟩
            replace hB := hB.trans (h2.mono hB.size)
            clear h2
            rw [E0.out.2]
            cases hm : mt x X1 true with
            | true =>
              obtain ⟨u1, u2, u3⟩ := T11.out hm
              have U : Hid (unpS x.data.toList = X1 ∧ unpB x.data.toList = true ∧ unpE x.data.toList = 0) := ⟨u1, u2, u3⟩
              have hmm : ((pckS X1.data.toList true).toList == x.toList) = true := hm
              clear u1 u2 u3 hm
              generalize pckS X1.data.toList true = P at hmm ⊢
              go_wp2_with fail
              go_ret3
              exact ⟨by rw [U.out.1, U.out.2.1, U.out.2.2]; rfl, hB⟩
            | false =>
              have HM : Hid (mt x X1 true = false) := hm
              have hmm : ((pckS X1.data.toList true).toList == x.toList) = false := hm
              clear hm
              generalize pckS X1.data.toList true = P at hmm ⊢
              go_wp2_with fail
              go_roundw
              case rel => exact ⟨hB, .inr (.inr ⟨rfl, N0, HM⟩)⟩
              case measure => simp [intOf]
          · go_wp2_with fail
            go_roundw
            case rel => exact ⟨hB, .inr (.inr ⟨rfl, M0.out.1, M0.out.2, N1.out.1, N1.out.2⟩)⟩
            case measure => simp [intOf]
      · obtain ⟨u1, u2, u3⟩ := TN.out M1.out.1 M1.out.2.1 M1.out.2.2.1 M1.out.2.2.2
        have U : Hid (unpS x.data.toList = ⟨#[]⟩ ∧ unpB x.data.toList = false ∧ unpE x.data.toList = 10) := ⟨u1, u2, u3⟩
        clear u1 u2 u3
        go_wp2_with fail
        go_ret3
        exact ⟨by rw [U.out.1, U.out.2.1, U.out.2.2]; rfl, hB⟩
end Go.Proofs.Ytkkjkanlaldhcaa
