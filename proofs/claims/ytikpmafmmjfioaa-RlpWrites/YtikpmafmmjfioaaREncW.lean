/-
  What the calls of Encode do.
-/
import Derived.Test.YtikpmafmmjfioaaREnc
namespace Go.Proofs.Ytikpmafmmjfioaa
open Go Go.RowKit

def encV (o : Option (List UInt8)) : Value := .tuple #[.string ⟨(o.getD []).toArray⟩, .bool o.isSome]
theorem info9 : (Try.prog.info? 9).map (fun i => (i.zero, i.size, i.bytes)) = some (some (.string ⟨#[]⟩), 1, 16) := by kernel_rfl

theorem enc_wrong1 (b : Bool) (s : List UInt8) (i : Row) (d : Nat) (h : b = true) (hs : s ≠ []) : encOne b s i d = none := by
  subst h
  cases d with
  | zero => rfl
  | succ d => unfold encOne; simp [hs]
theorem enc_wrong2 (b : Bool) (s : List UInt8) (i : Row) (d : Nat) (h : b = false) (hs : i.len ≠ 0) : encOne b s i d = none := by
  subst h
  cases d with
  | zero => rfl
  | succ d => unfold encOne; simp [hs]
theorem emp_false (s : List UInt8) (h : s ≠ []) : (⟨s.toArray⟩ : ByteArray).toList.isEmpty = false ∧ s.isEmpty = false := by
  rw [lb]
  cases s with
  | nil => exact absurd rfl h
  | cons c l => exact ⟨rfl, rfl⟩

theorem Row.at_wt : ∀ (r : Row) (k : Nat), k < r.len → 1 + (r.at k).2.1.length / 64 + (r.at k).2.2.wt ≤ r.wt
  | .nil, k, h => by simp [Row.len] at h
  | .item b s i r, 0, _ => by simp only [Row.at, Row.wt]; omega
  | .item b s i r, k + 1, h => by
    have := Row.at_wt r k (by simp only [Row.len] at h; omega)
    simp only [Row.at, Row.wt]; omega

set_option maxRecDepth 8000 in
set_option maxHeartbeats 4000000 in
theorem encode_any (N : Nat) : ∀ (i : Row) (b : Bool) (s : List UInt8) (a : Option Addr) (c dep : Nat) (w : World), i.sz < N → 1 + s.length / 64 + i.wt ≤ 100000 → dep ≤ 1000000 →
    Lies w (fun k => k < w.heap.size) i a →
    Calls Try.prog 26 #[.agg #[.bool b, .string ⟨s.toArray⟩, .slice a i.len c], .int .i64 dep] w fun e w' => e = .returned (encV (encOne b s i (17 - dep))) ∧ Below w.heap.size w w' := by
  induction N with
  | zero => intro i b s a c dep w h; omega
  | succ N ih =>
    intro i b s a c dep w hN hwt hdep hl
    by_cases hd : 16 < dep
    · have hdi : (16 : Int) < dep := by omega
      rw [show 17 - dep = 0 by omega]
      clear ih
      go_enter Try.func26, Try.ntmps26
      go_wp2_with fail
      go_ret2
      exact ⟨rfl, (Below.refl _ _).alloc (Nat.le_refl _) _⟩
    · have hdi : ¬ (16 : Int) < dep := by omega
      cases b with
      | false =>
        by_cases hz : i.len = 0
        · obtain ⟨d, hd2⟩ : ∃ d, 17 - dep = d + 1 := ⟨16 - dep, by omega⟩
          have he : encOne false s i (17 - dep) = some (bytesL s) := by rw [hd2]; unfold encOne; simp [hz]
          have hzi : (i.len : Int) = 0 := by omega
          rw [he, hz]
          clear ih he
          go_enter Try.func26, Try.ntmps26
          go_wp2_with fail
          refine (bytes_any ⟨s.toArray⟩ _ (by show s.length < _; omega)).mono ?_
          rintro e w2 ⟨rfl, h2⟩
          go_wp2_with fail
          go_ret2
          exact ⟨rfl, ((Below.refl _ _).alloc (Nat.le_refl _) _).trans (h2.mono (by rw [World.size_alloc]; omega))⟩
        · have he : encOne false s i (17 - dep) = none := enc_wrong2 _ _ _ _ rfl hz
          have hzi : (0 : Int) < i.len := by omega
          rw [he]
          generalize i.len = L at hzi ⊢
          clear ih he
          go_enter Try.func26, Try.ntmps26
          go_wp2_with fail
          go_ret2
          exact ⟨rfl, (Below.refl _ _).alloc (Nat.le_refl _) _⟩
      | true =>
        by_cases hs : s = []
        · subst hs
          obtain ⟨d, hd2⟩ : ∃ d, 17 - dep = d + 1 := ⟨16 - dep, by omega⟩
          have hd3 : 17 - (dep + 1) = d := by omega
          have he : encOne true [] i (17 - dep) = (encL i d).map (fun xs => listL (cat xs)) := by rw [hd2]; unfold encOne; simp
          rw [he]
          obtain ⟨L, hL⟩ : ∃ L, L = i.len := ⟨_, rfl⟩
          have HL : Hid (L = i.len) := hL
          rw [← hL]
          have hLw : L ≤ 100000 := by have := Row.len_le_wt i; omega
          have hLi : (L : Int) ≤ 100000 := by omega
          have hmk := run_make_row' (P := Try.prog) 25 9 (.string ⟨#[]⟩) 16 underStrings info9 rfl .i64 .i64 L (by omega) (by omega)
          obtain ⟨n, hn⟩ : ∃ n, n = w.heap.size := ⟨_, rfl⟩
          have HN : Hid (n = w.heap.size) := hn
          have HLI : Hid (Lies w (fun k => k < w.heap.size) i a) := hl
          have IH : Hid _ := ih
          have HW : Hid (i.wt ≤ 100000) := by simp only [Hid]; simp at hwt; omega
          have HD3 : Hid (17 - (dep + 1) = d) := hd3
          clear hn hl ih he hL hd2 hd3 hwt
          go_enter Try.func26, Try.ntmps26
          go_wp2_with fail
          rw [← HN.out]
          clear hmk
          obtain ⟨pb, hpb⟩ : ∃ pb, pb = n + 1 := ⟨_, rfl⟩
          rw [← hpb]
          have HP : Hid (pb = n + 1) := hpb
          clear hpb
          go_loopw [46] (fun y wr => ∃ (k : Nat) (xs : List ByteArray), k ≤ L ∧ y = .int .i64 k ∧ xs.length = k ∧ Hid (∀ j (hj : j < xs.length), encOne (i.at j).1 (i.at j).2.1 (i.at j).2.2 d = some xs[j].data.toList) ∧ Below n w wr ∧ wr.rowIs pb 9 L (fun j => .string (xs.getD j ⟨#[]⟩))) (fun y _ => L - (intOf y).toNat)
          case atStart =>
            refine ⟨0, [], by omega, rfl, rfl, fun j hj => by simp at hj, ?_, ?_⟩
            · rw [HN.out]; exact ((Below.refl _ _).alloc (Nat.le_refl _) _).alloc (by rw [World.size_alloc]; omega) _
            · have h := World.rowIs_made (w.alloc (.cells #[.bool true, .string ⟨#[]⟩, .slice a L c] 24)) (.string ⟨#[]⟩) L 9
              rw [World.size_alloc, ← HN.out, ← HP.out] at h
              exact h.congr fun j hj => by simp
          case round =>
            obtain ⟨k, xs, hk, rfl, hxl, HX, hB, hr⟩ := hrel
            by_cases hlt : k < L
            · have hki : (k : Int) < L := by omega
              have hk0 : (0 : Int) ≤ k := by omega
              obtain ⟨bk, o, a', c', rfl, hbk, p0, p1, p2, pl, pL⟩ := HLI.out.get k (by have := HL.out; omega)
              have hsz2 := Row.at_sz i k (by have := HL.out; omega)
              have hw2 := Row.at_wt i k (by have := HL.out; omega)
              rcases hat : i.at k with ⟨bb, ss, ii⟩
              rw [hat] at p0 p1 p2 pl pL hsz2 hw2
              dsimp only at p0 p1 p2 pl pL hsz2 hw2
              rw [Nat.mul_comm 3 k] at p0 p1 p2
              have hcw : ∀ j, wr.cell? ⟨bk, j, none⟩ = w.cell? ⟨bk, j, none⟩ := fun j => hB.cell (p := ⟨bk, j, none⟩) (by show bk < n; have := HN.out; omega)
              have d0 : wr.cell? ⟨bk, o + k * 3, none⟩ = some (.bool bb) := (hcw _).trans p0
              have d1 : wr.cell? ⟨bk, o + k * 3 + 1, none⟩ = some (.string ⟨ss.toArray⟩) := (hcw _).trans p1
              have d2 : wr.cell? ⟨bk, o + k * 3 + 2, none⟩ = some (.slice a' ii.len c') := (hcw _).trans p2
              have HAT : Hid (i.at k = (bb, ss, ii)) := hat
              have HSZ : Hid (ii.sz < N ∧ 1 + ss.length / 64 + ii.wt ≤ 100000) := ⟨by omega, by have := HW.out; omega⟩
              have HPL : Hid (Lies w (fun k => k < w.heap.size) ii a') := pL
              have HRW : Hid (wr.rowIs pb 9 L (fun j => .string (xs.getD j ⟨#[]⟩))) := hr
              clear hat p0 p1 p2 pL hcw hsz2 hw2 hr hbk
              go_wp2_with fail
              have hw1 : Below wr.heap.size wr (wr.alloc (.cells #[.bool bb, .string ⟨ss.toArray⟩, .slice a' ii.len c'] 24)) := (Below.refl _ _).alloc (Nat.le_refl _) _
              have hB1 := hB.trans (hw1.mono (by rw [HN.out]; exact hB.size))
              refine (IH.out ii bb ss a' c' (dep + 1) _ HSZ.out.1 HSZ.out.2 (by omega) ((HPL.out.kept fun j hj => hB1.block j (by have := HN.out; omega)).mono fun j hj => by have := hB1.size; omega)).mono ?_
              rintro e w2 ⟨rfl, h2⟩
              have hB2 : Below n w w2 := hB1.trans (h2.mono (by rw [HN.out]; exact hB1.size))
              have hr2 : w2.rowIs pb 9 L (fun j => .string (xs.getD j ⟨#[]⟩)) := (HRW.out.alloc _).of_block (h2.block pb ((HRW.out.alloc _).lt))
              rw [HD3.out]
              clear h2 hw1 hB1
              cases hen : encOne bb ss ii d with
              | none =>
                have hz : encL i d = none := encL_none i k d (by have := HL.out; omega) (by rw [HAT.out]; exact hen)
                have HZ : Hid (encL i d = none) := hz
                clear hz hen d0 d1 d2
                unfold encV
                simp only [Option.getD_none, Option.isSome_none]
                go_wp2_with fail
                go_ret2
                exact ⟨by rw [HZ.out]; rfl, by rw [← HN.out]; exact hB2⟩
              | some x =>
                have HEN : Hid (encOne bb ss ii d = some x) := hen
                obtain ⟨E, hE⟩ : ∃ E : ByteArray, E = ⟨x.toArray⟩ := ⟨_, rfl⟩
                have HE : Hid (E = ⟨x.toArray⟩) := hE
                unfold encV
                simp only [Option.getD_some, Option.isSome_some]
                rw [← hE]
                have hck : w2.cell? ⟨pb, k, none⟩ = some (.string ⟨#[]⟩) := by
                  have := hr2.cell hlt
                  rw [List.getD_eq_getElem?_getD, List.getElem?_eq_none (by omega)] at this
                  exact this
                have hf := hr2.frozen k
                have HR2 : Hid (w2.rowIs pb 9 L (fun j => .string (xs.getD j ⟨#[]⟩))) := hr2
                clear hE hen hr2 d0 d1 d2
                go_wp2_with fail
                go_roundw
                case rel =>
                  refine ⟨k + 1, xs ++ [E], by omega, rfl, by rw [List.length_append, List.length_singleton, hxl], fun j hj => ?_, hB2.setCell (by show n ≤ pb; have := HP.out; omega) _, (HR2.out.set k _).congr fun j hj => ?_⟩
                  · rw [List.length_append, List.length_singleton] at hj
                    by_cases q : j < xs.length
                    · rw [List.getElem_append_left q]; exact HX.out j q
                    · have : j = k := by omega
                      subst this
                      rw [List.getElem_append_right (by omega), HAT.out]
                      simp only [hxl, Nat.sub_self, List.getElem_singleton]
                      rw [HE.out]; exact HEN.out
                  · by_cases q : j = k
                    · subst q
                      rw [if_pos rfl, List.getD_eq_getElem?_getD, List.getElem?_append_right (by omega), hxl]
                      simp
                    · rw [if_neg q]
                      congr 1
                      rw [List.getD_eq_getElem?_getD, List.getD_eq_getElem?_getD]
                      by_cases q2 : j < xs.length
                      · rw [List.getElem?_append_left q2]
                      · rw [List.getElem?_eq_none (by omega), List.getElem?_eq_none (by rw [List.length_append, List.length_singleton]; omega)]
                case measure => simp [intOf]; omega
            · have hki : ¬ (k : Int) < L := by omega
              have hkk : k = L := by omega
              have hel : encL i d = some xs := encL_all i d xs (by have := HL.out; omega) HX.out
              have hcl := (encL_len i d xs hel).2
              have HEL : Hid (encL i d = some xs) := hel
              have hxL : xs.length = L := by omega
              have HRW : Hid (wr.rowIs pb 9 L (fun j => .string (xs.getD j ⟨#[]⟩))) := hr
              have hcat : (cat xs).length ≤ 100000000 := by have := HW.out; omega
              clear hel hr hcl hkk
              go_wp2_with fail
              rw [← hxL]
              refine (list_any pb 0 xs.length xs wr (fun j x hj => ?_) HRW.out.lt (by omega) (Nat.le_refl _) hcat).mono ?_
              · obtain ⟨hlt2, rfl⟩ := List.getElem?_eq_some_iff.1 hj
                have := HRW.out.cell (i := j) (by omega)
                rw [Nat.zero_add, this, List.getD_eq_getElem?_getD, List.getElem?_eq_getElem hlt2]; rfl
              rintro e w3 ⟨rfl, h3⟩
              go_wp2_with fail
              go_ret2
              exact ⟨by rw [HEL.out]; rfl, by rw [← HN.out]; exact hB.trans (h3.mono (by rw [HN.out]; exact hB.size))⟩
        · have he : encOne true s i (17 - dep) = none := enc_wrong1 _ _ _ _ rfl hs
          obtain ⟨h1, h2⟩ := emp_false s hs
          rw [he]
          clear ih he
          go_enter Try.func26, Try.ntmps26
          go_wp2_with fail
          go_ret2
          exact ⟨rfl, (Below.refl _ _).alloc (Nat.le_refl _) _⟩
end Go.Proofs.Ytikpmafmmjfioaa
