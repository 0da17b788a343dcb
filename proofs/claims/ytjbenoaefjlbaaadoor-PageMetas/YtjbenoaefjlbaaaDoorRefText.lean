/-
  What the document's call of Text does.
-/
import Derived.Test.YtjbenoaefjlbaaaDoorRefSum
namespace Go.Proofs.YtjbenoaefjlbaaaDoor
open Go.RowKit

def headL (R : Nat → UInt8) (i : Nat) : List UInt8 := (List.range i).map R
theorem headL_succ (R : Nat → UInt8) (i : Nat) : octs (headL R (i + 1)) = octs (headL R i) ++ [.int .u8 (oct (R i))] := by
  unfold headL octs
  rw [List.range_succ]
  simp

set_option maxRecDepth 4000 in
set_option maxHeartbeats 4000000 in
theorem refText_any (R : Nat → UInt8) (w : World) :
    Calls Tryd.prog 23 #[.agg (bytesA 32 R)] w fun e w' => e = .returned (.string ⟨(headL R 32).toArray⟩) ∧ Below w.heap.size w w' := by
  obtain ⟨i8, hi, hiz, his, hib⟩ := infoU8i
  have HI : Hid (Tryd.prog.info? 5 = some i8 ∧ i8.zero = some (.int .u8 0) ∧ i8.size = 1 ∧ i8.bytes = 1) := ⟨hi, hiz, his, hib⟩
  clear hi hiz his hib
  obtain ⟨n, hn⟩ : ∃ n, n = w.heap.size := ⟨_, rfl⟩
  have HN : Hid (n = w.heap.size) := hn
  have hmax : (3000 : Nat) + 200 ≤ maxLen := by decide
  have hnew : Holds (w.alloc (.cells (bytesA 32 R) 44)) n 44 (bytesA 32 R) := by rw [hn]; exact Holds.new _ _ _
  have hsz := bytesA_size 32 R
  obtain ⟨rs, hrs⟩ : ∃ rs, rs = bytesA 32 R := ⟨_, rfl⟩
  rw [← hrs] at hnew hsz ⊢
  have HRS : Hid (rs = bytesA 32 R) := hrs
  clear hn hrs
  go_enter Tryd.func23, Tryd.ntmps23
  go_wp2_with fail
  rw [← HN.out]
  go_loopw [3, 4] (fun sv zv wr => ∃ (i : Nat) (v : Value), i ≤ 32 ∧ zv = .int .i64 i ∧ sv = v ∧ Below w.heap.size w wr ∧ Holds wr n 44 rs ∧ n + 1 ≤ wr.heap.size ∧ wr.ownsRow (n + 1) 5 1 v i (octs (headL R i))) (fun _ zv _ => 32 - (intOf zv).toNat)
  case atStart => exact ⟨0, _, by omega, rfl, rfl, (Below.refl _ _).alloc (Nat.le_refl _) _, hnew, by rw [World.size_alloc, HN.out]; exact Nat.le_refl _, World.ownsRow_nil _ _ _ _⟩
  case round =>
    clear hnew
    obtain ⟨i, v, hi, rfl, hv, hB, hh, hs, own⟩ := hrel
    have hv2 := hv.symm
    clear hv
    subst hv2
    by_cases hlt : i < 32
    · have hii : (i : Int) < 32 := by omega
      have hi0 : (0 : Int) ≤ i := by omega
      have hc : wr.cell? ⟨n, i, none⟩ = some (.int .u8 (oct (R i))) := by rw [hh.cell, HRS.out, bytesA_get 32 R i hlt]
      have OWN : Hid (wr.ownsRow (n + 1) 5 1 v i (octs (headL R i))) := own
      have HH : Hid (Holds wr n 44 rs) := hh
      clear own hh
      go_wp2_with (first
        | (refine wpList_append_own _ rfl _ _ 42 rfl (n + 1) 5 i8 (.int .u8 0) 1 1 underBytesR HI.out.1 HI.out.2.1 HI.out.2.2.1 HI.out.2.2.2 rfl (by omega) v i (octs (headL R i)) rfl (World.ownsRow.alloc OWN.out _) ⟨wr.heap.size, 0, none⟩ 1 1 [.int .u8 (oct (R i))] rfl rfl (one_news wr _) (by intro u hu; simp at hu; subst hu; rfl) (by omega) (by omega) (by rw [World.size_alloc]; omega) ?_
           intro v3 w3 own3 gr3 _
           rw [← headL_succ] at own3
           have hr : ∀ k, v.ownBlock = some k → n + 1 ≤ k := fun k hk => (OWN.out.lt k hk).1
           have hB3 : Below w.heap.size w w3 := Below.grownW (hB.alloc hB.size _) gr3 (Nat.le_trans hB.size (by simp)) (fun k hk => by have := hr k hk; have := HN.out; omega)
           have g3 : Holds w3 n 44 rs := Holds.grown (HH.out.alloc _) gr3 (fun q => by have := hr n q.symm; omega)
           have hs3 : n + 1 ≤ w3.heap.size := by have := gr3.size; rw [World.size_alloc] at this; omega
           clear gr3 hr hc)
        | fail)
      have HF : Hid (Below w.heap.size w w3 ∧ Holds w3 n 44 rs ∧ n + 1 ≤ w3.heap.size ∧ w3.ownsRow (n + 1) 5 1 v3 (i + 1) (octs (headL R (i + 1)))) := ⟨hB3, g3, hs3, own3⟩
      clear own3 hB3 g3 hs3
      go_roundw
      case rel => exact ⟨i + 1, v3, by omega, rfl, rfl, HF.out.1, HF.out.2.1, HF.out.2.2.1, HF.out.2.2.2⟩
      case measure => simp [intOf]; omega
    · have hii : ¬ (i : Int) < 32 := by omega
      have hik : i = 32 := by omega
      subst hik
      obtain ⟨g, cap, rfl, hgb, hgl⟩ := owned_slice own (by omega)
      have hl : (headL R 32).length = 32 := by simp [headL]
      have hcv := run_convert_bytes_back wr 42 9 5 ⟨g, 0, none⟩ cap (headL R 32) underBytesR (by kernel_rfl) (by kernel_rfl) (fun j hj => by
        rw [hl] at hj
        have hc := own.cellAt j (by omega)
        rw [octs_get _ j (by rw [hl]; exact hj)] at hc
        rw [show (⟨g, 0, none⟩ : Addr).add j = ⟨g, j, none⟩ by unfold Addr.add; split <;> simp_all, hc]
        rw [List.getD_eq_getElem?_getD, List.getElem?_eq_getElem (by rw [hl]; exact hj)]
        rfl)
      rw [hl] at hcv
      clear own
      go_wp2_with fail
      go_ret
      exact ⟨rfl, hB⟩
end Go.Proofs.YtjbenoaefjlbaaaDoor
