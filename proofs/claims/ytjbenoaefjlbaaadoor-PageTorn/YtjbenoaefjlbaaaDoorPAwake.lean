/-
  What the call of awake does: true, and nothing that was there has turned.
-/
import Derived.Test.YtjbenoaefjlbaaaDoorPNewW
import Derived.Test.YtjbenoaefjlbaaaDoorPEval
import Derived.Deep.OwnRows
namespace Go.Proofs.YtjbenoaefjlbaaaDoor
open Go Go.RowKit

def abc : ByteArray := ⟨#[97, 98, 99]⟩
def zeroS : ByteArray := ⟨(List.replicate 1024 0).toArray⟩
theorem zeroS_size : zeroS.size = 1024 := List.length_replicate
/-- A new row of bytes, as a text. -/
theorem made_zeros (w : World) : ∃ w', (Instr.makeSlice 42 (.int .i64 1024) (.int .i64 1024)).run Tryd.prog w = .ok (.slice (some ⟨w.heap.size, 0, none⟩) 1024 1024) w' ∧ Below w.heap.size w w' ∧
    (convert 42 9 (.slice (some ⟨w.heap.size, 0, none⟩) 1024 1024)).run Tryd.prog w' = .ok (.string zeroS) w' := by
  have h := run_make_row' (P := Tryd.prog) 42 5 (.int .u8 0) 1 underBytesP (by kernel_rfl) rfl .i64 .i64 1024 (by omega) (by omega)
  have hr0 := World.rowIs_made w (.int .u8 0) 1024 5
  have hl : (List.replicate 1024 (0 : UInt8)).length = 1024 := List.length_replicate
  refine ⟨_, h w, (Below.refl _ _).alloc (Nat.le_refl _) _, ?_⟩
  have := run_convert_bytes_back (P := Tryd.prog) (w.alloc (.cells (madeCells #[.int .u8 0] 1024) 5)) 42 9 5 ⟨w.heap.size, 0, none⟩ 1024 (List.replicate 1024 0) underBytesP (by kernel_rfl) (by kernel_rfl) (fun j hj => by
    rw [hl] at hj
    rw [List.getElem_replicate, add0, hr0.cell hj]
    rfl)
  rw [hl] at this
  exact this
theorem slot5 (w : World) : Calls Tryd.prog 19 #[.int .i64 5] w fun e w' => e = .returned (.int .i64 1) ∧ w' = w := slot_any 5 w (by decide)
def mT (t : Nat) : M4 := ⟨t, 0, 0, 0⟩
theorem mT_small (t : Nat) (h : t < 100) : (mT t).small := by
  unfold mT M4.small
  dsimp only
  omega
theorem read_nil : readS ⟨#[]⟩ = none := by
  apply readS_none
  unfold openS
  rw [if_neg]
  rintro ⟨h, _⟩
  cases h
theorem new_two {a b : ByteArray} {m n : M4} (ha : readS a = some m) (hb : readS b = some n) : newS a b = if m.tx < n.tx then some (n, 1) else some (m, 0) := by
  unfold newS
  rw [ha, hb]
theorem new_left {a b : ByteArray} {m : M4} (ha : readS a = some m) (hb : readS b = none) : newS a b = some (m, 0) := by
  unfold newS
  rw [ha, hb]
theorem new_right {a b : ByteArray} {n : M4} (ha : readS a = none) (hb : readS b = some n) : newS a b = some (n, 1) := by
  unfold newS
  rw [ha, hb]
theorem new_none {a b : ByteArray} (ha : readS a = none) (hb : readS b = none) : newS a b = none := by
  unfold newS
  rw [ha, hb]
theorem mT_meta (t : Nat) (h : t < 100) : ∃ X, X = metaS (mT t) ∧ readS X = some (mT t) ∧ X.size = 1024 := ⟨_, rfl, read_meta _ (mT_small t h), metaS_size _⟩
theorem seal_abc : ∃ S, S = sealS 76 abc ∧ openS S = some (76, abc) ∧ S.size = 1024 ∧ S.data.toList.getD 0 0 = 76 ∧ S.data.toList.getD 1 0 = 0 ∧ S.data.toList.getD 2 0 = 3 :=
  ⟨_, rfl, open_seal 76 (by decide), sealS_size 76 (by decide), kind_seal 76 abc, rfl, rfl⟩
set_option maxRecDepth 8000 in
set_option maxHeartbeats 8000000 in
theorem awake_any (w : World) (hT : Tabs w) :
    Calls Tryd.prog 8 #[] w fun e w' => e = .returned (.bool true) ∧ Below w.heap.size w w' := by
  have hz := zeroMeta
  obtain ⟨S, hS, hSo, hSs, s0, s1, s2⟩ := seal_abc
  go_enter Tryd.func8, Tryd.ntmps8
  go_wp2_with fail
  refine (seal_any 76 abc _ hT (by decide)).mono ?_
  rintro e w1 ⟨rfl, hB1⟩
  rw [← hS]
  clear hS
  have hSi : (S.size : Int) = 1024 := by omega
  go_wp2_with fail
  refine (open_any S _ (hT.below hB1) (by omega)).mono ?_
  rintro e w2 ⟨rfl, hB2'⟩
  have hB2 := hB1.trans (hB2'.mono hB1.size)
  clear hB1 hB2'
  obtain ⟨e1, e2, e3⟩ := open_yes hSo
  rw [e1, e2, e3, show oct 76 = 76 from rfl]
  clear e1 e2 e3
  obtain ⟨w3, hmk, hB3', hcv⟩ := made_zeros w2
  have hB3 := hB2.trans (hB3'.mono hB2.size)
  obtain ⟨Z, hZ⟩ : ∃ Z, Z = zeroS := ⟨_, rfl⟩
  rw [← hZ] at hcv
  have hZo : openS Z = none := by rw [hZ]; exact open_zeros
  have hZs : Z.size = 1024 := by rw [hZ]; exact zeroS_size
  clear hZ hB3' hB2
  go_wp2_with fail
  refine (open_any Z _ (hT.below hB3) (by omega)).mono ?_
  rintro e w4 ⟨rfl, hB4'⟩
  have hB4 := hB3.trans (hB4'.mono hB3.size)
  obtain ⟨e1, e2, e3⟩ := open_no hZo
  rw [e1, e2, e3]
  clear e1 e2 e3 hZo hZs hB4' hB3 hmk hcv
  go_wp2_with fail
  obtain ⟨X, hX, hXr, hXs⟩ := mT_meta 3 (by omega)
  refine (meta_any (mT 3) (mT_small 3 (by omega)) _ (hT.below hB4)).mono ?_
  rintro e w5 ⟨rfl, hB5'⟩
  have hB5 := hB4.trans (hB5'.mono hB4.size)
  rw [← hX]
  clear hB5' hB4 hX
  go_wp2_with fail
  obtain ⟨Y, hY, hYr, hYs⟩ := mT_meta 4 (by omega)
  refine (meta_any (mT 4) (mT_small 4 (by omega)) _ (hT.below hB5)).mono ?_
  rintro e w6 ⟨rfl, hB6'⟩
  have hB6 := hB5.trans (hB6'.mono hB5.size)
  rw [← hY]
  clear hB6' hB5 hY
  go_wp2_with fail
  refine (newest_any X Y _ (hT.below hB6) (by omega) (by omega)).mono ?_
  rintro e w7 ⟨rfl, hB7'⟩
  have hB7 := hB6.trans (hB7'.mono hB6.size)
  rw [(new_two hXr hYr).trans (if_pos (by decide)), show newM (some (mT 4, 1)) = mT 4 from rfl, show newA (some (mT 4, 1)) = 1 from rfl, show newE (some (mT 4, 1)) = 0 from rfl, show m4A (mT 4) = #[.int .i64 4, .int .i64 0, .int .i64 0, .int .i64 0] from rfl]
  clear hB7' hB6
  go_wp2_with fail
  have m7 := Holds.new w7 30 #[.int .i64 4, .int .i64 0, .int .i64 0, .int .i64 0]
  obtain ⟨g, hg⟩ : ∃ g, g = w7.heap.size := ⟨_, rfl⟩
  have hB8' := hB7.alloc hB7.size (.cells #[.int .i64 4, .int .i64 0, .int .i64 0, .int .i64 0] 30)
  rw [← hg] at m7 ⊢
  generalize w7.alloc (.cells #[.int .i64 4, .int .i64 0, .int .i64 0, .int .i64 0] 30) = w8 at m7 hB8' ⊢
  clear hg hB7
  refine (newest_any Y ⟨#[]⟩ _ (hT.below hB8') (by omega) (by decide)).mono ?_
  rintro e w9 ⟨rfl, hB9'⟩
  have hB9 := hB8'.trans (hB9'.mono hB8'.size)
  have m9 := Below.holds hB9' m7
  rw [new_left hYr read_nil, show newM (some (mT 4, 0)) = mT 4 from rfl, show newA (some (mT 4, 0)) = 0 from rfl, show newE (some (mT 4, 0)) = 0 from rfl, show m4A (mT 4) = #[.int .i64 4, .int .i64 0, .int .i64 0, .int .i64 0] from rfl]
  clear hB9' hB8' m7
  go_wp2_with fail
  have n9 := Holds.new w9 30 #[.int .i64 4, .int .i64 0, .int .i64 0, .int .i64 0]
  obtain ⟨h, hh⟩ : ∃ h, h = w9.heap.size := ⟨_, rfl⟩
  have hB10' := hB9.alloc hB9.size (.cells #[.int .i64 4, .int .i64 0, .int .i64 0, .int .i64 0] 30)
  have m10 := m9.alloc (.cells #[.int .i64 4, .int .i64 0, .int .i64 0, .int .i64 0] 30)
  rw [← hh] at n9 ⊢
  generalize w9.alloc (.cells #[.int .i64 4, .int .i64 0, .int .i64 0, .int .i64 0] 30) = w10 at n9 m10 hB10' ⊢
  clear hh hB9 m9
  refine (newest_any ⟨#[]⟩ ⟨#[]⟩ _ (hT.below hB10') (by decide) (by decide)).mono ?_
  rintro e w11 ⟨rfl, hB11'⟩
  have hB11 := hB10'.trans (hB11'.mono hB10'.size)
  have m11 := Below.holds hB11' m10
  have n11 := Below.holds hB11' n9
  rw [new_none read_nil read_nil, show newM none = zeroM from rfl, show newA none = 0 from rfl, show newE none = 17 from rfl, show m4A zeroM = #[.int .i64 0, .int .i64 0, .int .i64 0, .int .i64 0] from rfl]
  clear hB11' hB10' m10 n9
  have c1 : (w11.alloc (.cells #[.int .i64 0, .int .i64 0, .int .i64 0, .int .i64 0] 30)).cell? ⟨g, 0, none⟩ = some (.int .i64 4) := (m11.alloc _).cell 0
  have c2 : (w11.alloc (.cells #[.int .i64 0, .int .i64 0, .int .i64 0, .int .i64 0] 30)).cell? ⟨h, 0, none⟩ = some (.int .i64 4) := (n11.alloc _).cell 0
  have k0 : (S[0]'(by omega)).toNat = 76 := by rw [getD_get S 0 (by omega), s0]; rfl
  have k1 : (S[1]'(by omega)).toNat = 0 := by rw [getD_get S 1 (by omega), s1]; rfl
  have k2 : (S[2]'(by omega)).toNat = 3 := by rw [getD_get S 2 (by omega), s2]; rfl
  rw [show abc = ⟨#[97, 98, 99]⟩ from rfl]
  have hs5 := slot5
  clear s0 s1 s2 hSo hXr hYr m11 n11 hT
  go_wp2_with (first
    | (go_at_call 19; refine (hs5 _).mono ?_; rintro e w12 ⟨rfl, rfl⟩)
    | fail)
  go_ret
  exact ⟨rfl, hB11.alloc hB11.size _⟩
end Go.Proofs.YtjbenoaefjlbaaaDoor
