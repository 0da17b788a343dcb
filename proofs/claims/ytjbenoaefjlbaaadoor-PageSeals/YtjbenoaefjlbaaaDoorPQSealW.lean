/-
  What the document's calls of Seal and Open do.
-/
import Derived.Test.YtjbenoaefjlbaaaDoorPOpenW
import Derived.Test.YtjbenoaefjlbaaaDoorRefText
import Derived.Deep.OwnRows
namespace Go.Proofs.YtjbenoaefjlbaaaDoor
open Go Go.RowKit

theorem underBytesQ : Tryd.prog.underlying 42 = some (.slice 5) := by kernel_rfl
/-- A new row of bytes, as a text. -/
theorem made_row (n : Nat) (hn : n ≤ 2000) (w : World) : ∃ w', (Instr.makeSlice 42 (.int .i64 (n : Nat)) (.int .i64 (n : Nat))).run Tryd.prog w = .ok (.slice (some ⟨w.heap.size, 0, none⟩) n n) w' ∧ Below w.heap.size w w' ∧
    (convert 42 9 (.slice (some ⟨w.heap.size, 0, none⟩) n n)).run Tryd.prog w' = .ok (.string ⟨(List.replicate n 0).toArray⟩) w' := by
  have h := run_make_row' (P := Tryd.prog) 42 5 (.int .u8 0) 1 underBytesQ (by kernel_rfl) rfl .i64 .i64 n (by omega) (by omega)
  have hr0 := World.rowIs_made w (.int .u8 0) n 5
  have hl : (List.replicate n (0 : UInt8)).length = n := List.length_replicate
  refine ⟨_, h w, (Below.refl _ _).alloc (Nat.le_refl _) _, ?_⟩
  have := run_convert_bytes_back (P := Tryd.prog) (w.alloc (.cells (madeCells #[.int .u8 0] n) 5)) 42 9 5 ⟨w.heap.size, 0, none⟩ n (List.replicate n 0) underBytesQ (by kernel_rfl) (by kernel_rfl) (fun j hj => by
    rw [hl] at hj
    rw [List.getElem_replicate, add0, hr0.cell hj]
    rfl)
  rw [hl] at this
  exact this
set_option maxRecDepth 4000 in
theorem qseal_no (k : UInt8) (b : ByteArray) (w : World) (h : 1013 < b.size) :
    Calls Tryd.prog 10 #[.int .u8 (oct k), .string b] w fun e w' => e = .returned (.tuple #[.string ⟨#[]⟩, .int .i64 11]) ∧ Below w.heap.size w w' := by
  have h1 : (1013 : Int) < b.size := by omega
  go_enter Tryd.func10, Tryd.ntmps10
  go_wp2
  go_ret2
  exact ⟨rfl, Below.refl _ _⟩
set_option maxRecDepth 4000 in
set_option maxHeartbeats 1000000 in
theorem qseal_any (k : UInt8) (b : ByteArray) (w : World) (h : b.size ≤ 1013) :
    Calls Tryd.prog 10 #[.int .u8 (oct k), .string b] w fun e w' => e = .returned (.tuple #[.string (sealS k b), .int .i64 0]) ∧ Below w.heap.size w w' := by
  have h1 : ¬ (1013 : Int) < b.size := by omega
  have hbi : (b.size : Int) ≤ 1013 := by omega
  obtain ⟨hd, hhd⟩ : ∃ hd, hd = headS k b.size := ⟨_, rfl⟩
  have hds : hd.size = 3 := by rw [hhd]; rfl
  have hdi : (hd.size : Int) = 3 := by omega
  have HD : Hid (hd = headS k b.size) := hhd
  have hcv : (convert 42 9 (.slice (some ⟨w.heap.size, 0, none⟩) 3 3)).run Tryd.prog (w.alloc (.cells #[.int .u8 (oct k), .int .u8 (b.size / 256), .int .u8 (b.size % 256)] 5)) = .ok (.string hd) (w.alloc (.cells #[.int .u8 (oct k), .int .u8 (b.size / 256), .int .u8 (b.size % 256)] 5)) := by
    rw [hhd]
    refine convert_first (Holds.new w 5 _) (headP k b.size) 3 (fun j hj => ?_)
    have : j = 0 ∨ j = 1 ∨ j = 2 := by have : j < 3 := hj; omega
    rcases this with rfl | rfl | rfl
    · rfl
    · show some (Value.int .u8 _) = some (Value.int .u8 ((UInt8.ofNat (b.size / 256)).toNat : Int))
      rw [ofNat_toNat8 _ (by omega)]; rfl
    · show some (Value.int .u8 _) = some (Value.int .u8 ((UInt8.ofNat b.size).toNat : Int))
      rw [UInt8.toNat_ofNat']; rfl
  have hB1 := (Below.refl w.heap.size w).alloc (Nat.le_refl _) (.cells #[.int .u8 (oct k), .int .u8 (b.size / 256), .int .u8 (b.size % 256)] 5)
  clear hhd
  go_enter Tryd.func10, Tryd.ntmps10
  go_wp2_with fail
  clear hcv
  generalize w.alloc (.cells #[.int .u8 (oct k), .int .u8 (b.size / 256), .int .u8 (b.size % 256)] 5) = w1 at hB1 ⊢
  refine (refSum_any (hd ++ b) _ (by rw [ByteArray.size_append]; omega)).mono ?_
  rintro e w2 ⟨rfl, hB2'⟩
  have hB2 := hB1.trans (hB2'.mono hB1.size)
  clear hB1 hB2'
  rw [append_toList]
  obtain ⟨M, hM⟩ : ∃ M, M = hd.data.toList ++ b.data.toList := ⟨_, rfl⟩
  rw [← hM]
  have HM : Hid (M = hd.data.toList ++ b.data.toList) := hM
  clear hM
  go_wp2_with fail
  refine (refText_any (hashOf M) _).mono ?_
  rintro e w3 ⟨rfl, hB3'⟩
  have hB3 := hB2.trans (hB3'.mono hB2.size)
  clear hB2 hB3'
  obtain ⟨H, hH⟩ : ∃ H : ByteArray, H = ⟨(headL (hashOf M) 32).toArray⟩ := ⟨_, rfl⟩
  have hHs : (H.size : Int) = 32 := by rw [hH]; show (((headL (hashOf M) 32).length : Nat) : Int) = 32; simp [headL]
  rw [← hH]
  have hc8 : H.extract 0 8 = ⟨(h8 M).toArray⟩ := by
    apply bytes_ext
    rw [extract_toList, hH]
    show (((List.range 32).map (hashOf M)).drop 0).take 8 = (List.range 8).map (hashOf M)
    rw [List.drop_zero, ← List.map_take]
    rfl
  obtain ⟨c8, hc⟩ : ∃ c8, c8 = H.extract 0 8 := ⟨_, rfl⟩
  have hc8s : (c8.size : Int) = 8 := by rw [hc, hc8]; show (((h8 M).length : Nat) : Int) = 8; rw [h8_len]; rfl
  have HC8 : Hid (c8 = ⟨(h8 M).toArray⟩) := hc.trans hc8
  have hce := hc.symm
  clear hH hc hc8
  have hsz : ((hd ++ c8 ++ b).size : Int) = 11 + b.size := by rw [ByteArray.size_append, ByteArray.size_append]; omega
  obtain ⟨z, hz⟩ : ∃ z, z = 1013 - b.size := ⟨_, rfl⟩
  have hzi : (1024 : Int) - (11 + b.size) = (z : Nat) := by omega
  obtain ⟨w4, hmk, hB4', hcv⟩ := made_row z (by omega) w3
  have hB4 := hB3.trans (hB4'.mono hB3.size)
  obtain ⟨Z, hZ⟩ : ∃ Z : ByteArray, Z = ⟨(List.replicate z 0).toArray⟩ := ⟨_, rfl⟩
  have hZs : (Z.size : Int) ≤ 1013 := by rw [hZ]; show (((List.replicate z (0 : UInt8)).length : Nat) : Int) ≤ 1013; rw [List.length_replicate]; omega
  rw [← hZ] at hcv
  have HZ : Hid (Z = ⟨(List.replicate (1013 - b.size) 0).toArray⟩) := by unfold Hid; rw [hZ, hz]
  clear hZ hz hB4' hB3
  go_wp2_with fail
  go_ret2
  have hf : hd ++ c8 ++ b ++ Z = sealS k b := by
    apply bytes_ext
    rw [append_toList, append_toList, append_toList, sealS_toList, HC8.out, HZ.out, HM.out, HD.out]
    rfl
  rw [← hf]
  exact ⟨rfl, hB4⟩
end Go.Proofs.YtjbenoaefjlbaaaDoor
