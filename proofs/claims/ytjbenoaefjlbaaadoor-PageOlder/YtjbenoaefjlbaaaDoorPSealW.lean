/-
  What the call of Seal does.
-/
import Derived.Test.YtjbenoaefjlbaaaDoorSumParts
import Derived.Test.YtjbenoaefjlbaaaDoorPPure
import Derived.Test.YtjbenoaefjlbaaaDoorShelf
import Derived.Laws.IdiomStrings
namespace Go.Proofs.YtjbenoaefjlbaaaDoor
open Go Go.RowKit

theorem texts_two (w : World) (m : Nat) (hm : m = w.heap.size) (p q : ByteArray) : Texts (w.alloc (.cells #[.string p, .string q] 9)) (.slice (some ⟨m, 0, none⟩) 2 2) [p, q] := by
  subst hm
  refine ⟨some ⟨w.heap.size, 0, none⟩, 2, rfl, fun i hi => ⟨w.heap.size, 0, rfl, by simp, ?_⟩⟩
  rw [(Holds.new w 9 #[.string p, .string q]).cell]
  have : i = 0 ∨ i = 1 := by simp at hi; omega
  rcases this with rfl | rfl <;> rfl
theorem cat_two (p q : ByteArray) : cat [p, q] = p.data.toList ++ q.data.toList := by simp [cat]
theorem add0 (b j : Nat) : (⟨b, 0, none⟩ : Addr).add j = ⟨b, j, none⟩ := by
  rw [Addr.add_mid, Nat.zero_add]
/-- Bytes of a block, as a string. -/
theorem convert_first {w : World} {b : Nat} {t : TypeId} {cs : Array Value} (h : Holds w b t cs) (l : List UInt8) (c : Nat) (hl : ∀ j (hj : j < l.length), cs[j]? = some (.int .u8 (l[j].toNat : Int))) :
    (convert 42 9 (.slice (some ⟨b, 0, none⟩) l.length c)).run Tryd.prog w = .ok (.string ⟨l.toArray⟩) w :=
  run_convert_bytes_back w 42 9 5 ⟨b, 0, none⟩ c l (by kernel_rfl) (by kernel_rfl) (by kernel_rfl) (fun j hj => by
    rw [add0, h.cell j]; exact hl j hj)
theorem repeat_zeros : ∀ c, Lib.repeatL (⟨#[0]⟩ : ByteArray).data.toList c = List.replicate c 0
  | 0 => rfl
  | c + 1 => by rw [Lib.repeatL, repeat_zeros c]; rfl
theorem zeroSum8 : ∀ w, (zeroValue 44).run Tryd.prog w = .ok (.agg (bytesA 32 fun _ => 0)) w := (zero_of_info (n := 32) (by kernel_rfl)).1
def headS (k : UInt8) (n : Nat) : ByteArray := ⟨(headP k n).toArray⟩
theorem append_toList (a b : ByteArray) : (a ++ b).data.toList = a.data.toList ++ b.data.toList := by
  rw [ByteArray.data_append, Array.toList_append]
set_option maxRecDepth 4000 in
theorem seal_no (k : UInt8) (b : ByteArray) (w : World) (h : 1013 < b.size) :
    Calls Tryd.prog 9 #[.int .u8 (oct k), .string b] w fun e w' => e = .returned (.tuple #[.string ⟨#[]⟩, .int .i64 11]) ∧ Below w.heap.size w w' := by
  have h1 : (1013 : Int) < b.size := by omega
  go_enter Tryd.func9, Tryd.ntmps9
  go_wp2
  go_ret2
  exact ⟨rfl, Below.refl _ _⟩
set_option maxRecDepth 4000 in
set_option maxHeartbeats 1000000 in
theorem seal_any (k : UInt8) (b : ByteArray) (w : World) (hT : Tabs w) (h : b.size ≤ 1013) :
    Calls Tryd.prog 9 #[.int .u8 (oct k), .string b] w fun e w' => e = .returned (.tuple #[.string (sealS k b), .int .i64 0]) ∧ Below w.heap.size w w' := by
  have h1 : ¬ (1013 : Int) < b.size := by omega
  have hbi : (b.size : Int) ≤ 1013 := by omega
  obtain ⟨hd, hhd⟩ : ∃ hd, hd = headS k b.size := ⟨_, rfl⟩
  have hds : hd.size = 3 := by rw [hhd]; rfl
  have HD : Hid (hd = headS k b.size) := hhd
  have hcv : (convert 42 9 (.slice (some ⟨w.heap.size, 0, none⟩) 3 3)).run Tryd.prog (w.alloc (.cells #[.int .u8 (oct k), .int .u8 (b.size / 256), .int .u8 (b.size % 256)] 5)) = .ok (.string hd) (w.alloc (.cells #[.int .u8 (oct k), .int .u8 (b.size / 256), .int .u8 (b.size % 256)] 5)) := by
    rw [hhd]
    refine convert_first (Holds.new w 5 _) (headP k b.size) 3 (fun j hj => ?_)
    have : j = 0 ∨ j = 1 ∨ j = 2 := by have : j < 3 := hj; omega
    rcases this with rfl | rfl | rfl
    · rfl
    · show some (Value.int .u8 _) = some (Value.int .u8 ((UInt8.ofNat (b.size / 256)).toNat : Int))
      rw [ofNat_toNat8 _ (by omega)]; rfl
    · show some (Value.int .u8 _) = some (Value.int .u8 ((UInt8.ofNat b.size).toNat : Int))
      rw [UInt8.toNat_ofNat']; rfl
  have hz := zeroSum8
  have hB1 := (Below.refl w.heap.size w).alloc (Nat.le_refl _) (.cells #[.int .u8 (oct k), .int .u8 (b.size / 256), .int .u8 (b.size % 256)] 5)
  have hs1 : Hid (w.heap.size + 1 = (w.alloc (.cells #[.int .u8 (oct k), .int .u8 (b.size / 256), .int .u8 (b.size % 256)] 5)).heap.size) := (World.size_alloc _ _).symm
  clear hhd
  go_enter Tryd.func9, Tryd.ntmps9
  go_wp2_with fail
  clear hcv
  generalize w.alloc (.cells #[.int .u8 (oct k), .int .u8 (b.size / 256), .int .u8 (b.size % 256)] 5) = w1 at hB1 hs1 ⊢
  have hT1 := hT.below hB1
  refine (sumParts_any _ [hd, b] _ (texts_two w1 (w.heap.size + 1) hs1.out hd b) (hT1.below ((Below.refl _ _).alloc (Nat.le_refl _) _)) (by rw [cat_two, List.length_append, toList_size, toList_size]; omega) (by simp)).mono ?_
  rintro e w2 ⟨rfl, hB2⟩
  have hB2' : Below w.heap.size w w2 := hB1.trans ((((Below.refl _ _).alloc (Nat.le_refl _) _).trans (hB2.mono (by simp))).mono hB1.size)
  rw [cat_two]
  obtain ⟨M, hM⟩ : ∃ M, M = hd.data.toList ++ b.data.toList := ⟨_, rfl⟩
  rw [← hM]
  have HM : Hid (M = hd.data.toList ++ b.data.toList) := hM
  clear hB1 hs1 hB2 hT1 hM
  have hin : (Tryd.prog.info? 44).map (·.size) = some (bytesA 32 (hashOf M)).size := by rw [bytesA_size]; exact info32
  have hzs : (bytesA 32 (fun _ => 0)).size = (bytesA 32 (hashOf M)).size := by rw [bytesA_size, bytesA_size]
  have hon := bytesA_one 32 (hashOf M)
  generalize hcs : bytesA 32 (hashOf M) = cs at hin hzs hon ⊢
  have HCS : Hid (bytesA 32 (hashOf M) = cs) := hcs
  clear hcs
  dsimp only
  go_wp2_with (first
    | (refine wpList_storeH rfl 44 _ _ rfl w2.heap.size cs rfl rfl 44 (bytesA 32 (fun _ => 0)) (Holds.new _ _ _) hin hzs hon ?_
       intro w3 h3 o3 z3)
    | fail)
  have hB3 : Below w.heap.size w w3 := Only.fresh (hB2'.trans (((Below.refl _ _).alloc (Nat.le_refl _) _).mono hB2'.size)) o3 hB2'.size
  rw [show (1013 : Int) - b.size = ((1013 - b.size : Nat) : Int) by omega]
  have hrep := Tryd.strings_Repeat ⟨#[0]⟩ (1013 - b.size) w3 (by omega) (by show 1 * (1013 - b.size) ≤ _; omega)
  rw [repeat_zeros] at hrep
  obtain ⟨zs, hzz⟩ : ∃ zs : ByteArray, zs = ⟨(List.replicate (1013 - b.size) 0).toArray⟩ := ⟨_, rfl⟩
  rw [← hzz] at hrep
  have hzsz : zs.size = 1013 - b.size := by rw [hzz]; exact List.length_replicate
  have HZ : Hid (zs = ⟨(List.replicate (1013 - b.size) 0).toArray⟩) := hzz
  clear hzz o3 z3
  refine hrep.mono ?_
  rintro e w4 ⟨rfl, hB4⟩
  clear hrep
  have h4 := Below.holds hB4 h3
  obtain ⟨c8, hc8⟩ : ∃ c8 : ByteArray, c8 = ⟨(h8 M).toArray⟩ := ⟨_, rfl⟩
  have hc8s : c8.size = 8 := by rw [hc8]; exact h8_len M
  have hcv : (convert 42 9 (.slice (some ⟨w2.heap.size, 0, none⟩) 8 32)).run Tryd.prog w4 = .ok (.string c8) w4 := by
    rw [hc8]
    have := convert_first h4 (h8 M) 32 (fun j hj => by
      have hj8 : j < 8 := by rw [h8_len] at hj; exact hj
      rw [← HCS.out, bytesA_get 32 _ j (by omega)]
      simp [h8, oct])
    rw [h8_len] at this
    exact this
  have HC8 : Hid (c8 = ⟨(h8 M).toArray⟩) := hc8
  have hB5 : Below w.heap.size w w4 := hB3.trans (hB4.mono hB3.size)
  have i1 : (hd.size : Int) = 3 := by omega
  have i2 : (c8.size : Int) = 8 := by omega
  have i3 : (zs.size : Int) ≤ 1013 := by omega
  clear hc8 hB4 hB3 hB2' h3 h4 hz hin hzs hon
  go_wp2_with fail
  go_ret2
  have hf : hd ++ c8 ++ b ++ zs = sealS k b := by
    apply bytes_ext
    rw [append_toList, append_toList, append_toList, sealS_toList, HC8.out, HZ.out, HM.out, HD.out]
    rfl
  rw [← hf]
  exact ⟨rfl, hB5⟩
end Go.Proofs.YtjbenoaefjlbaaaDoor
