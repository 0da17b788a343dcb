/-
  What the document's Encode does.
-/
import Derived.Test.YtikpmafmmjfioaaRBackW
namespace Go.Proofs.Ytikpmafmmjfioaa
open Go Go.RowKit

theorem encL_get : ∀ (r : Row) (d : Nat) (xs : List ByteArray), encL r d = some xs → ∀ k (hk : k < xs.length), encOne (r.at k).1 (r.at k).2.1 (r.at k).2.2 d = some xs[k].data.toList
  | .nil, d, xs, h, k, hk => by cases h; simp at hk
  | .item b s i r, d, xs, h, k, hk => by
    rw [encL_cons] at h
    cases h1 : encOne b s i d with
    | none => rw [h1] at h; cases h
    | some x =>
      cases h2 : encL r d with
      | none => rw [h1, h2] at h; cases h
      | some ys =>
        rw [h1, h2] at h
        cases h
        cases k with
        | zero => exact h1
        | succ k => exact encL_get r d ys h2 k (by simpa using hk)
theorem encL_some : ∀ (r : Row) (d : Nat), (∀ k, k < r.len → (encOne (r.at k).1 (r.at k).2.1 (r.at k).2.2 d).isSome = true) → (encL r d).isSome = true
  | .nil, _, _ => rfl
  | .item b s i r, d, h => by
    have h0 : (encOne b s i d).isSome = true := h 0 (by simp [Row.len])
    have ih := encL_some r d (fun k hk => h (k + 1) (by simpa [Row.len] using hk))
    rw [encL_cons]
    obtain ⟨x, hx⟩ := Option.isSome_iff_exists.1 h0
    obtain ⟨ys, hy⟩ := Option.isSome_iff_exists.1 ih
    rw [hx, hy]; rfl

set_option maxRecDepth 8000 in
set_option maxHeartbeats 4000000 in
theorem deep_any (N : Nat) : ∀ (i : Row) (b : Bool) (s : List UInt8) (a : Option Addr) (c d : Nat) (w : World), i.sz < N → i.len ≤ 1000000 → i.wt ≤ 100000 → d ≤ 1000000 →
    Lies w (fun k => k < w.heap.size) i a →
    Calls Try.prog 27 #[.agg #[.bool b, .string ⟨s.toArray⟩, .slice a i.len c], .int .i64 d] w fun e w' => e = .returned (.bool (encOne b s i d).isSome) ∧ Below w.heap.size w w' := by
  induction N with
  | zero => intro i b s a c d w h; omega
  | succ N ih =>
    intro i b s a c d w hN hlen hwt hdb hl
    cases d with
    | zero =>
      rw [show (encOne b s i 0).isSome = false from rfl]
      clear ih
      go_enter Try.func27, Try.ntmps27
      go_wp2_with fail
      go_ret
      exact ⟨rfl, (Below.refl _ _).alloc (Nat.le_refl _) _⟩
    | succ d =>
      obtain ⟨D, hD⟩ : ∃ D, D = d + 1 := ⟨_, rfl⟩
      have hDi : ¬ (D : Int) < 1 := by omega
      have hDs : (D : Int) - 1 = d := by omega
      have HD : Hid (D = d + 1) := hD
      rw [← hD]
      clear hD
      rcases (show (b = true ∧ s ≠ []) ∨ (b = false ∧ i.len ≠ 0) ∨ (b = true ∧ s = []) ∨ (b = false ∧ i.len = 0) by
        cases b
        · by_cases h : i.len = 0
          · exact .inr (.inr (.inr ⟨rfl, h⟩))
          · exact .inr (.inl ⟨rfl, h⟩)
        · by_cases h : s = []
          · exact .inr (.inr (.inl ⟨rfl, h⟩))
          · exact .inl ⟨rfl, h⟩) with ⟨rfl, hs⟩ | ⟨rfl, hs⟩ | ⟨rfl, rfl⟩ | ⟨rfl, hs⟩
      · have he : (encOne true s i D).isSome = false := by rw [enc_wrong1 _ _ _ _ rfl hs]; rfl
        obtain ⟨h1, h2⟩ := emp_false s hs
        rw [he]
        clear ih he
        go_enter Try.func27, Try.ntmps27
        go_wp2_with fail
        go_ret
        exact ⟨rfl, (Below.refl _ _).alloc (Nat.le_refl _) _⟩
      · have he : (encOne false s i D).isSome = false := by rw [enc_wrong2 _ _ _ _ rfl hs]; rfl
        have hzi : (0 : Int) < i.len := by omega
        rw [he]
        clear ih he
        generalize i.len = L at hzi ⊢
        go_enter Try.func27, Try.ntmps27
        go_wp2_with fail
        go_ret
        exact ⟨rfl, (Below.refl _ _).alloc (Nat.le_refl _) _⟩
      · have he : (encOne true [] i D).isSome = (encL i d).isSome := by rw [HD.out]; unfold encOne; simp
        rw [he]
        obtain ⟨L, hL⟩ : ∃ L, L = i.len := ⟨_, rfl⟩
        have HL : Hid (L = i.len) := hL
        rw [← hL] at hlen ⊢
        have hLi : (L : Int) ≤ 1000000 := by omega
        obtain ⟨n, hn⟩ : ∃ n, n = w.heap.size := ⟨_, rfl⟩
        have HN : Hid (n = w.heap.size) := hn
        have HLI : Hid (Lies w (fun k => k < w.heap.size) i a) := hl
        have IH : Hid _ := ih
        clear hn hl ih he hL
        go_enter Try.func27, Try.ntmps27
        go_wp2_with fail
        rw [← HN.out]
        go_loopw [5] (fun y wr => ∃ k : Nat, k ≤ L ∧ y = .int .i64 k ∧ Hid (∀ j, j < k → (encOne (i.at j).1 (i.at j).2.1 (i.at j).2.2 d).isSome = true) ∧ Below n w wr ∧ n < wr.heap.size ∧ Holds wr n 24 #[.bool true, .string ⟨#[]⟩, .slice a L c]) (fun y _ => L - (intOf y).toNat)
        case atStart =>
          refine ⟨0, by omega, rfl, fun j hj => by omega, ?_, ?_, ?_⟩
          · rw [HN.out]; exact (Below.refl _ _).alloc (Nat.le_refl _) _
          · rw [World.size_alloc, HN.out]; omega
          · rw [HN.out]; exact Holds.new w _ _
        case round =>
          obtain ⟨k, hk, rfl, HX, hB, hsz, hh⟩ := hrel
          have f2 := hh.cell 2
          simp at f2
          by_cases hlt : k < L
          · have hki : (k : Int) < L := by omega
            obtain ⟨bk, o, a', c', rfl, hbk, p0, p1, p2, pl, pL⟩ := HLI.out.get k (by have := HL.out; omega)
            have hsz2 := Row.at_sz i k (by have := HL.out; omega)
            have hw2 := Row.at_wt i k (by have := HL.out; omega)
            rcases hat : i.at k with ⟨bb, ss, ii⟩
            rw [hat] at p0 p1 p2 pl pL hsz2 hw2
            dsimp only at p0 p1 p2 pl pL hsz2 hw2
            rw [Nat.mul_comm 3 k] at p0 p1 p2
            have hcw : ∀ j, wr.cell? ⟨bk, j, none⟩ = w.cell? ⟨bk, j, none⟩ := fun j => hB.cell (p := ⟨bk, j, none⟩) (by show bk < n; have := HN.out; omega)
            have d0 : wr.cell? ⟨bk, o + k * 3, none⟩ = some (.bool bb) := (hcw _).trans p0
            have d1 : wr.cell? ⟨bk, o + k * 3 + 1, none⟩ = some (.string ⟨ss.toArray⟩) := (hcw _).trans p1
            have d2 : wr.cell? ⟨bk, o + k * 3 + 2, none⟩ = some (.slice a' ii.len c') := (hcw _).trans p2
            have HLW : Hid (Lies wr (fun k => k < wr.heap.size) ii a') := (pL.kept fun j hj => hB.block j (by have := HN.out; omega)).mono fun j hj => by have := HN.out; omega
            have HAT : Hid (i.at k = (bb, ss, ii)) := hat
            have hiil := Row.len_le_wt ii
            have HSZ : Hid (ii.sz < N ∧ ii.len ≤ 1000000 ∧ ii.wt ≤ 100000) := ⟨by omega, by omega, by omega⟩
            clear hat p0 p1 p2 pL hcw hsz2 hw2 hiil hbk
            go_wp2_with fail
            refine (IH.out ii bb ss a' c' d wr HSZ.out.1 HSZ.out.2.1 HSZ.out.2.2 (by omega) HLW.out).mono ?_
            rintro e w2 ⟨rfl, h2⟩
            have hB2 := hB.trans (h2.mono (by omega))
            have hh2 := below_holds h2 hh
            have hz2 := h2.size
            cases hen : (encOne bb ss ii d).isSome with
            | false =>
              have hz : (encL i d).isSome = false := by
                rw [encL_none i k d (by have := HL.out; omega) (by rw [HAT.out]; exact Option.not_isSome_iff_eq_none.1 (by rw [hen]; simp))]; rfl
              have HZ : Hid ((encL i d).isSome = false) := hz
              clear hz hen
              go_wp2_with fail
              go_ret
              exact ⟨by rw [HZ.out]; rfl, by rw [← HN.out]; exact hB2⟩
            | true =>
              have HEN : Hid ((encOne bb ss ii d).isSome = true) := hen
              clear hen
              go_wp2_with fail
              go_roundw
              case rel =>
                refine ⟨k + 1, by omega, rfl, fun j hj => ?_, hB2, by omega, hh2⟩
                by_cases q : j < k
                · exact HX.out j q
                · have : j = k := by omega
                  subst this
                  rw [HAT.out]; exact HEN.out
              case measure => simp [intOf]; omega
          · have hki : ¬ (k : Int) < L := by omega
            have hel : (encL i d).isSome = true := encL_some i d (fun j hj => HX.out j (by have := HL.out; omega))
            have HEL : Hid ((encL i d).isSome = true) := hel
            clear hel
            go_wp2_with fail
            go_ret
            exact ⟨by rw [HEL.out]; rfl, by rw [← HN.out]; exact hB⟩
      · have he : (encOne false s i D).isSome = true := by rw [HD.out]; unfold encOne; simp [hs]
        rw [he, hs]
        clear ih he
        obtain ⟨n, hn⟩ : ∃ n, n = w.heap.size := ⟨_, rfl⟩
        have HN : Hid (n = w.heap.size) := hn
        clear hn
        go_enter Try.func27, Try.ntmps27
        go_wp2_with fail
        rw [← HN.out]
        go_loopw [5] (fun y wr => y = .int .i64 0 ∧ wr = w.alloc (.cells #[.bool false, .string ⟨s.toArray⟩, .slice a 0 c] 24)) (fun _ _ => 0)
        case atStart => exact ⟨rfl, rfl⟩
        case round =>
          obtain ⟨rfl, rfl⟩ := hrel
          have hhz : Holds (w.alloc (.cells #[.bool false, .string ⟨s.toArray⟩, .slice a 0 c] 24)) n 24 #[.bool false, .string ⟨s.toArray⟩, .slice a 0 c] := by rw [HN.out]; exact Holds.new _ _ _
          have f2 : (w.alloc (.cells #[.bool false, .string ⟨s.toArray⟩, .slice a 0 c] 24)).cell? ⟨n, 2, none⟩ = some (.slice a 0 c) := hhz.cell 2
          have hB : Below w.heap.size w (w.alloc (.cells #[.bool false, .string ⟨s.toArray⟩, .slice a 0 c] 24)) := (Below.refl _ _).alloc (Nat.le_refl _) _
          generalize w.alloc (.cells #[.bool false, .string ⟨s.toArray⟩, .slice a 0 c] 24) = w3 at f2 hB ⊢
          clear hhz
          go_wp2_with fail
          go_ret
          exact ⟨rfl, hB⟩

theorem cat_append (xs ys : List ByteArray) : cat (xs ++ ys) = cat xs ++ cat ys := by unfold cat; rw [List.map_append, List.flatten_append]
theorem cat_one (x : ByteArray) : cat [x] = x.data.toList := by unfold cat; simp
theorem cat_take (xs : List ByteArray) (k : Nat) (h : k < xs.length) : cat (xs.take (k + 1)) = cat (xs.take k) ++ xs[k].data.toList := by
  rw [List.take_succ_eq_append_getElem h, cat_append, cat_one]
theorem cat_take_le (xs : List ByteArray) (k : Nat) : (cat (xs.take k)).length ≤ (cat xs).length := by
  have : cat xs = cat (xs.take k) ++ cat (xs.drop k) := by rw [← cat_append, List.take_append_drop]
  rw [this, List.length_append]; omega

set_option maxRecDepth 8000 in
set_option maxHeartbeats 4000000 in
theorem refencode_any (N : Nat) : ∀ (i : Row) (b : Bool) (s : List UInt8) (a : Option Addr) (c d : Nat) (x : List UInt8) (w : World), i.sz < N → 1 + s.length / 64 + i.wt ≤ 100000 → encOne b s i d = some x →
    Lies w (fun k => k < w.heap.size) i a →
    Calls Try.prog 28 #[.agg #[.bool b, .string ⟨s.toArray⟩, .slice a i.len c]] w fun e w' => e = .returned (.string ⟨x.toArray⟩) ∧ Below w.heap.size w w' := by
  induction N with
  | zero => intro i b s a c d x w h; omega
  | succ N ih =>
    intro i b s a c d x w hN hwt henc hl
    cases d with
    | zero => cases henc
    | succ d =>
      unfold encOne at henc
      cases b with
      | false =>
        simp only [Bool.false_eq_true, if_false] at henc
        split at henc
        · injection henc with henc
          subst henc
          clear ih
          go_enter Try.func28, Try.ntmps28
          go_wp2_with fail
          refine (refBytes_any ⟨s.toArray⟩ _ (by show s.length < _; omega)).mono ?_
          rintro e w2 ⟨rfl, h2⟩
          go_wp2_with fail
          go_ret
          exact ⟨rfl, ((Below.refl _ _).alloc (Nat.le_refl _) _).trans (h2.mono (by rw [World.size_alloc]; omega))⟩
        · cases henc
      | true =>
        simp only [if_true] at henc
        split at henc
        · rename_i hs
          subst hs
          cases hel : encL i d with
          | none => rw [hel] at henc; cases henc
          | some xs =>
            rw [hel] at henc
            injection henc with henc
            subst henc
            obtain ⟨hxl, hcl⟩ := encL_len i d xs hel
            have hget := encL_get i d xs hel
            obtain ⟨L, hL⟩ : ∃ L, L = i.len := ⟨_, rfl⟩
            have HL : Hid (L = i.len) := hL
            rw [← hL] at hxl ⊢
            have hLw : L ≤ 100000 := by have := Row.len_le_wt i; omega
            have hLi : (L : Int) ≤ 100000 := by omega
            obtain ⟨n, hn⟩ : ∃ n, n = w.heap.size := ⟨_, rfl⟩
            have HN : Hid (n = w.heap.size) := hn
            have HLI : Hid (Lies w (fun k => k < w.heap.size) i a) := hl
            have IH : Hid _ := ih
            have HG : Hid (∀ k (hk : k < xs.length), encOne (i.at k).1 (i.at k).2.1 (i.at k).2.2 d = some xs[k].data.toList) := hget
            have HW : Hid (i.wt ≤ 100000) := by simp only [Hid]; simp at hwt; omega
            have HCL : Hid ((cat xs).length ≤ 10000000) := by simp only [Hid]; have := HW.out; omega
            clear hn hl ih hL hel hget hcl hwt
            go_enter Try.func28, Try.ntmps28
            go_wp2_with fail
            rw [← HN.out]
            go_loopw [3, 4] (fun z y wr => ∃ (k : Nat) (A : ByteArray), k ≤ L ∧ z = .string A ∧ y = .int .i64 k ∧ Hid (A.data.toList = cat (xs.take k)) ∧ Below n w wr ∧ n < wr.heap.size ∧ Holds wr n 24 #[.bool true, .string ⟨#[]⟩, .slice a L c]) (fun _ y _ => L - (intOf y).toNat)
            case atStart =>
              refine ⟨0, _, by omega, rfl, rfl, rfl, ?_, ?_, ?_⟩
              · rw [HN.out]; exact (Below.refl _ _).alloc (Nat.le_refl _) _
              · rw [World.size_alloc, HN.out]; omega
              · rw [HN.out]; exact Holds.new w _ _
            case round =>
              obtain ⟨k, A, hk, rfl, rfl, HA, hB, hsz, hh⟩ := hrel
              have f2 := hh.cell 2
              simp at f2
              have hAs : A.size ≤ 10000000 := by have h1 := cat_take_le xs k; have h2 := HCL.out; rw [← sizeB, HA.out]; omega
              by_cases hlt : k < L
              · have hki : (k : Int) < L := by omega
                obtain ⟨bk, o, a', c', rfl, hbk, p0, p1, p2, pl, pL⟩ := HLI.out.get k (by have := HL.out; omega)
                have hsz2 := Row.at_sz i k (by have := HL.out; omega)
                have hw2 := Row.at_wt i k (by have := HL.out; omega)
                have hg := HG.out k (by omega)
                rcases hat : i.at k with ⟨bb, ss, ii⟩
                rw [hat] at p0 p1 p2 pl pL hsz2 hw2 hg
                dsimp only at p0 p1 p2 pl pL hsz2 hw2 hg
                rw [Nat.mul_comm 3 k] at p0 p1 p2
                have hcw : ∀ j, wr.cell? ⟨bk, j, none⟩ = w.cell? ⟨bk, j, none⟩ := fun j => hB.cell (p := ⟨bk, j, none⟩) (by show bk < n; have := HN.out; omega)
                have d0 : wr.cell? ⟨bk, o + k * 3, none⟩ = some (.bool bb) := (hcw _).trans p0
                have d1 : wr.cell? ⟨bk, o + k * 3 + 1, none⟩ = some (.string ⟨ss.toArray⟩) := (hcw _).trans p1
                have d2 : wr.cell? ⟨bk, o + k * 3 + 2, none⟩ = some (.slice a' ii.len c') := (hcw _).trans p2
                have HLW : Hid (Lies wr (fun k => k < wr.heap.size) ii a') := (pL.kept fun j hj => hB.block j (by have := HN.out; omega)).mono fun j hj => by have := HN.out; omega
                obtain ⟨E, hE⟩ : ∃ E, E = xs[k]'(by omega) := ⟨_, rfl⟩
                have hEs : E.size ≤ 10000000 := by
                  have h1 := cat_take xs k (by omega)
                  have h2 := cat_take_le xs (k + 1)
                  have h3 := HCL.out
                  have h4 := congrArg List.length h1
                  rw [List.length_append, ← hE, sizeB] at h4
                  omega
                have HE : Hid (E = xs[k]'(by omega)) := hE
                have HG2 : Hid (encOne bb ss ii d = some E.data.toList) := by simp only [Hid]; rw [hE]; exact hg
                have HSZ : Hid (ii.sz < N ∧ 1 + ss.length / 64 + ii.wt ≤ 100000) := ⟨by omega, by have := HW.out; omega⟩
                have hAi : (A.size : Int) ≤ 10000000 := by omega
                have hEi : (E.size : Int) ≤ 10000000 := by omega
                clear hat p0 p1 p2 pL hcw hsz2 hw2 hg hbk hE
                go_wp2_with fail
                refine (IH.out ii bb ss a' c' d E.data.toList wr HSZ.out.1 HSZ.out.2 HG2.out HLW.out).mono ?_
                rintro e w2 ⟨rfl, h2⟩
                rw [show (⟨E.data.toList.toArray⟩ : ByteArray) = E by simp]
                have hB2 := hB.trans (h2.mono (by omega))
                have hh2 := below_holds h2 hh
                have hz2 := h2.size
                go_wp2_with fail
                go_roundw
                case rel =>
                  refine ⟨k + 1, A ++ E, by omega, rfl, rfl, ?_, hB2, by omega, hh2⟩
                  show (A ++ E).data.toList = _
                  rw [cat_take xs k (by omega), ← HA.out, ← HE.out]
                  obtain ⟨l1, rfl⟩ := exists_list A
                  obtain ⟨l2, h6⟩ := exists_list E
                  rw [h6, ByteArray.mk_append_mk]
                case measure => simp [intOf]; omega
              · have hki : ¬ (k : Int) < L := by omega
                have hAe : A.data.toList = cat xs := by rw [HA.out, List.take_of_length_le (by omega)]
                have HAE : Hid (A.data.toList = cat xs) := hAe
                clear hAe
                go_wp2_with fail
                refine (refList_any A _ (by omega)).mono ?_
                rintro e w3 ⟨rfl, h3⟩
                rw [HAE.out]
                go_wp2_with fail
                go_ret
                exact ⟨rfl, by rw [← HN.out]; exact hB.trans (h3.mono (by rw [HN.out]; exact hB.size))⟩
        · cases henc

theorem refEncode_any (i : Row) (b : Bool) (s : List UInt8) (a : Option Addr) (c : Nat) (w : World) (hwt : 1 + s.length / 64 + i.wt ≤ 100000) (hl : Lies w (fun k => k < w.heap.size) i a) :
    Calls Try.prog 12 #[.agg #[.bool b, .string ⟨s.toArray⟩, .slice a i.len c]] w fun e w' => e = .returned (.tuple #[.string ⟨((encOne b s i 16).getD []).toArray⟩, .int .i64 (encE (encOne b s i 16))]) ∧ Below w.heap.size w w' := by
  have hlen := Row.len_le_wt i
  have hc := fun w1 h => deep_any (i.sz + 1) i b s a c 16 w1 (Nat.lt_succ_self _) (by omega) (by omega) (by omega) h
  have HC : Hid _ := hc
  obtain ⟨n, hn⟩ : ∃ n, n = w.heap.size := ⟨_, rfl⟩
  have HN : Hid (n = w.heap.size) := hn
  have hh0 : Holds (w.alloc (.cells #[.bool b, .string ⟨s.toArray⟩, .slice a i.len c] 24)) n 24 #[.bool b, .string ⟨s.toArray⟩, .slice a i.len c] := by rw [hn]; exact Holds.new _ _ _
  have hB0 : Below w.heap.size w (w.alloc (.cells #[.bool b, .string ⟨s.toArray⟩, .slice a i.len c] 24)) := (Below.refl _ _).alloc (Nat.le_refl _) _
  have HL0 : Hid (Lies (w.alloc (.cells #[.bool b, .string ⟨s.toArray⟩, .slice a i.len c] 24)) (fun k => k < (w.alloc (.cells #[.bool b, .string ⟨s.toArray⟩, .slice a i.len c] 24)).heap.size) i a) :=
    (hl.kept fun j hj => hB0.block j hj).mono fun j hj => by rw [World.size_alloc]; omega
  have HB0 : Hid (Below w.heap.size w (w.alloc (.cells #[.bool b, .string ⟨s.toArray⟩, .slice a i.len c] 24)) ∧ Holds (w.alloc (.cells #[.bool b, .string ⟨s.toArray⟩, .slice a i.len c] 24)) n 24 #[.bool b, .string ⟨s.toArray⟩, .slice a i.len c]) := ⟨hB0, hh0⟩
  have HLW : Hid (Lies w (fun k => k < w.heap.size) i a) := hl
  clear hc hB0 hl hh0 hn
  go_enter Try.func12, Try.ntmps12
  go_wp2_with fail
  refine (HC.out _ HL0.out).mono ?_
  rintro e w2 ⟨rfl, h2⟩
  have hB := HB0.out.1.trans (h2.mono HB0.out.1.size)
  have hh2 := below_holds h2 HB0.out.2
  rw [← HN.out]
  cases hen : encOne b s i 16 with
  | none =>
    have HEN : Hid (encOne b s i 16 = none) := hen
    clear hen
    simp only [Option.isSome_none]
    go_wp2_with fail
    go_ret2
    exact ⟨by rw [HEN.out]; rfl, hB⟩
  | some x =>
    have HEN : Hid (encOne b s i 16 = some x) := hen
    clear hen
    simp only [Option.isSome_some]
    have c0 : w2.cell? ⟨n, 0, none⟩ = some (.bool b) := hh2.cell 0
    have c1 : w2.cell? ⟨n, 1, none⟩ = some (.string ⟨s.toArray⟩) := hh2.cell 1
    have c2 : w2.cell? ⟨n, 2, none⟩ = some (.slice a i.len c) := hh2.cell 2
    go_wp2_with fail
    refine (refencode_any (i.sz + 1) i b s a c 16 x w2 (Nat.lt_succ_self _) hwt HEN.out ((HLW.out.kept fun j hj => hB.block j hj).mono fun j hj => by have := hB.size; omega)).mono ?_
    rintro e w3 ⟨rfl, h3⟩
    go_wp2_with fail
    go_ret2
    exact ⟨by rw [HEN.out]; rfl, hB.trans (h3.mono hB.size)⟩
end Go.Proofs.Ytikpmafmmjfioaa
