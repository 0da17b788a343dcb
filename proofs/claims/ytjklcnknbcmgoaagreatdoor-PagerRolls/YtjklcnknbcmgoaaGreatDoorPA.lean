/-
  Texts of this claim, put together.
-/
import Derived.Test.YtjklcnknbcmgoaaGreatDoorKB
import Derived.Test.YtjklcnknbcmgoaaGreatDoorPPure
import Derived.Test.YtjklcnknbcmgoaaGreatDoorShelf
import Derived.Laws.IdiomStrings
/-
  What the call of Seal does.
-/
namespace Go.Proofs.YtjklcnknbcmgoaaGreatDoor.K
open Go Go.RowKit

theorem texts_two (w : World) (m : Nat) (hm : m = w.heap.size) (p q : ByteArray) : Texts (w.alloc (.cells #[.string p, .string q] 9)) (.slice (some ⟨m, 0, none⟩) 2 2) [p, q] := by
  subst hm
  refine ⟨some ⟨w.heap.size, 0, none⟩, 2, rfl, fun i hi => ⟨w.heap.size, 0, rfl, by simp, ?_⟩⟩
  rw [(Holds.new w 9 #[.string p, .string q]).cell]
  have : i = 0 ∨ i = 1 := by simp at hi; omega
  rcases this with rfl | rfl <;> rfl
theorem cat_two (p q : ByteArray) : cat [p, q] = p.data.toList ++ q.data.toList := by simp [cat]
theorem add0 (b j : Nat) : (⟨b, 0, none⟩ : Addr).add j = ⟨b, j, none⟩ := by
  rw [Addr.add_mid, Nat.zero_add]
/-- Bytes of a block, as a string. -/
theorem convert_first {w : World} {b : Nat} {t : TypeId} {cs : Array Value} (h : Holds w b t cs) (l : List UInt8) (c : Nat) (hl : ∀ j (hj : j < l.length), cs[j]? = some (.int .u8 (l[j].toNat : Int))) :
    (convert 120 9 (.slice (some ⟨b, 0, none⟩) l.length c)).run Tryz.prog w = .ok (.string ⟨l.toArray⟩) w :=
  run_convert_bytes_back w 120 9 5 ⟨b, 0, none⟩ c l (by kernel_rfl) (by kernel_rfl) (by kernel_rfl) (fun j hj => by
    rw [add0, h.cell j]; exact hl j hj)
theorem repeat_zeros : ∀ c, Lib.repeatL (⟨#[0]⟩ : ByteArray).data.toList c = List.replicate c 0
  | 0 => rfl
  | c + 1 => by rw [Lib.repeatL, repeat_zeros c]; rfl
theorem zeroSum8 : ∀ w, (zeroValue 130).run Tryz.prog w = .ok (.agg (bytesA 32 fun _ => 0)) w := (zero_of_info (n := 32) (by kernel_rfl)).1
def headS (k : UInt8) (n : Nat) : ByteArray := ⟨(headP k n).toArray⟩
theorem append_toList (a b : ByteArray) : (a ++ b).data.toList = a.data.toList ++ b.data.toList := by
  rw [ByteArray.data_append, Array.toList_append]
set_option maxRecDepth 4000 in
theorem seal_no (k : UInt8) (b : ByteArray) (w : World) (h : 1013 < b.size) :
    Calls Tryz.prog 48 #[.int .u8 (oct k), .string b] w fun e w' => e = .returned (.tuple #[.string ⟨#[]⟩, .int .i64 11]) ∧ Below w.heap.size w w' := by
  have h1 : (1013 : Int) < b.size := by omega
  go_enter Tryz.func48, Tryz.ntmps48
  go_wp2
  go_ret2
  exact ⟨rfl, Below.refl _ _⟩
set_option maxRecDepth 4000 in
set_option maxHeartbeats 1000000 in
theorem seal_any (k : UInt8) (b : ByteArray) (w : World) (hT : Tabs w) (h : b.size ≤ 1013) :
    Calls Tryz.prog 48 #[.int .u8 (oct k), .string b] w fun e w' => e = .returned (.tuple #[.string (sealS k b), .int .i64 0]) ∧ Below w.heap.size w w' := by
  have h1 : ¬ (1013 : Int) < b.size := by omega
  have hbi : (b.size : Int) ≤ 1013 := by omega
  obtain ⟨hd, hhd⟩ : ∃ hd, hd = headS k b.size := ⟨_, rfl⟩
  have hds : hd.size = 3 := by rw [hhd]; rfl
  have HD : Hid (hd = headS k b.size) := hhd
  have hcv : (convert 120 9 (.slice (some ⟨w.heap.size, 0, none⟩) 3 3)).run Tryz.prog (w.alloc (.cells #[.int .u8 (oct k), .int .u8 (b.size / 256), .int .u8 (b.size % 256)] 5)) = .ok (.string hd) (w.alloc (.cells #[.int .u8 (oct k), .int .u8 (b.size / 256), .int .u8 (b.size % 256)] 5)) := by
    rw [hhd]
    refine convert_first (Holds.new w 5 _) (headP k b.size) 3 (fun j hj => ?_)
    have : j = 0 ∨ j = 1 ∨ j = 2 := by have : j < 3 := hj; omega
    rcases this with rfl | rfl | rfl
    · rfl
    · show some (Value.int .u8 _) = some (Value.int .u8 ((UInt8.ofNat (b.size / 256)).toNat : Int))
      rw [ofNat_toNat8 _ (by omega)]; rfl
    · show some (Value.int .u8 _) = some (Value.int .u8 ((UInt8.ofNat b.size).toNat : Int))
      rw [UInt8.toNat_ofNat']; rfl
  have hz := zeroSum8
  have hB1 := (Below.refl w.heap.size w).alloc (Nat.le_refl _) (.cells #[.int .u8 (oct k), .int .u8 (b.size / 256), .int .u8 (b.size % 256)] 5)
  have hs1 : Hid (w.heap.size + 1 = (w.alloc (.cells #[.int .u8 (oct k), .int .u8 (b.size / 256), .int .u8 (b.size % 256)] 5)).heap.size) := (World.size_alloc _ _).symm
  clear hhd
  go_enter Tryz.func48, Tryz.ntmps48
  go_wp2_with fail
  clear hcv
  generalize w.alloc (.cells #[.int .u8 (oct k), .int .u8 (b.size / 256), .int .u8 (b.size % 256)] 5) = w1 at hB1 hs1 ⊢
  have hT1 := hT.below hB1
  refine (sumParts_any _ [hd, b] _ (texts_two w1 (w.heap.size + 1) hs1.out hd b) (hT1.below ((Below.refl _ _).alloc (Nat.le_refl _) _)) (by rw [cat_two, List.length_append, toList_size, toList_size]; omega) (by simp)).mono ?_
  rintro e w2 ⟨rfl, hB2⟩
  have hB2' : Below w.heap.size w w2 := hB1.trans ((((Below.refl _ _).alloc (Nat.le_refl _) _).trans (hB2.mono (by simp))).mono hB1.size)
  rw [cat_two]
  obtain ⟨M, hM⟩ : ∃ M, M = hd.data.toList ++ b.data.toList := ⟨_, rfl⟩
  rw [← hM]
  have HM : Hid (M = hd.data.toList ++ b.data.toList) := hM
  clear hB1 hs1 hB2 hT1 hM
  have hin : (Tryz.prog.info? 130).map (·.size) = some (bytesA 32 (hashOf M)).size := by rw [bytesA_size]; exact info32
  have hzs : (bytesA 32 (fun _ => 0)).size = (bytesA 32 (hashOf M)).size := by rw [bytesA_size, bytesA_size]
  have hon := bytesA_one 32 (hashOf M)
  generalize hcs : bytesA 32 (hashOf M) = cs at hin hzs hon ⊢
  have HCS : Hid (bytesA 32 (hashOf M) = cs) := hcs
  clear hcs
  dsimp only
  go_wp2_with (first
    | (refine wpList_storeH rfl 130 _ _ rfl w2.heap.size cs rfl rfl 130 (bytesA 32 (fun _ => 0)) (Holds.new _ _ _) hin hzs hon ?_
       intro w3 h3 o3 z3)
    | fail)
  have hB3 : Below w.heap.size w w3 := Only.fresh (hB2'.trans (((Below.refl _ _).alloc (Nat.le_refl _) _).mono hB2'.size)) o3 hB2'.size
  rw [show (1013 : Int) - b.size = ((1013 - b.size : Nat) : Int) by omega]
  have hrep := Tryz.strings_Repeat ⟨#[0]⟩ (1013 - b.size) w3 (by omega) (by show 1 * (1013 - b.size) ≤ _; omega)
  rw [repeat_zeros] at hrep
  obtain ⟨zs, hzz⟩ : ∃ zs : ByteArray, zs = ⟨(List.replicate (1013 - b.size) 0).toArray⟩ := ⟨_, rfl⟩
  rw [← hzz] at hrep
  have hzsz : zs.size = 1013 - b.size := by rw [hzz]; exact List.length_replicate
  have HZ : Hid (zs = ⟨(List.replicate (1013 - b.size) 0).toArray⟩) := hzz
  clear hzz o3 z3
  refine hrep.mono ?_
  rintro e w4 ⟨rfl, hB4⟩
  clear hrep
  have h4 := Below.holds hB4 h3
  obtain ⟨c8, hc8⟩ : ∃ c8 : ByteArray, c8 = ⟨(h8 M).toArray⟩ := ⟨_, rfl⟩
  have hc8s : c8.size = 8 := by rw [hc8]; exact h8_len M
  have hcv : (convert 120 9 (.slice (some ⟨w2.heap.size, 0, none⟩) 8 32)).run Tryz.prog w4 = .ok (.string c8) w4 := by
    rw [hc8]
    have := convert_first h4 (h8 M) 32 (fun j hj => by
      have hj8 : j < 8 := by rw [h8_len] at hj; exact hj
      rw [← HCS.out, bytesA_get 32 _ j (by omega)]
      simp [h8, oct])
    rw [h8_len] at this
    exact this
  have HC8 : Hid (c8 = ⟨(h8 M).toArray⟩) := hc8
  have hB5 : Below w.heap.size w w4 := hB3.trans (hB4.mono hB3.size)
  have i1 : (hd.size : Int) = 3 := by omega
  have i2 : (c8.size : Int) = 8 := by omega
  have i3 : (zs.size : Int) ≤ 1013 := by omega
  clear hc8 hB4 hB3 hB2' h3 h4 hz hin hzs hon
  go_wp2_with fail
  go_ret2
  have hf : hd ++ c8 ++ b ++ zs = sealS k b := by
    apply bytes_ext
    rw [append_toList, append_toList, append_toList, sealS_toList, HC8.out, HZ.out, HM.out, HD.out]
    rfl
  rw [← hf]
  exact ⟨rfl, hB5⟩
end Go.Proofs.YtjklcnknbcmgoaaGreatDoor.K
/-
  What the call of Open does.
-/
namespace Go.Proofs.YtjklcnknbcmgoaaGreatDoor.K
open Go Go.RowKit

theorem getD_get (p : ByteArray) (i : Nat) (h : i < p.size) : p[i] = p.data.toList.getD i 0 := by
  rw [List.getD_eq_getElem?_getD, List.getElem?_eq_getElem (by exact h), Option.getD_some]
  rfl
/-- What Open tells. -/
def openK (p : ByteArray) : Value := .int .u8 (match openS p with | none => 0 | some (k, _) => oct k)
def openB (p : ByteArray) : Value := .string (match openS p with | none => ⟨#[]⟩ | some (_, b) => b)
def openE (p : ByteArray) : Value := .int .i64 (match openS p with | none => 17 | some _ => 0)
theorem open_no {p : ByteArray} (h : openS p = none) : openK p = .int .u8 0 ∧ openB p = .string ⟨#[]⟩ ∧ openE p = .int .i64 17 := by
  unfold openK openB openE
  rw [h]
  exact ⟨rfl, rfl, rfl⟩
theorem open_yes {p : ByteArray} {k : UInt8} {b : ByteArray} (h : openS p = some (k, b)) : openK p = .int .u8 (oct k) ∧ openB p = .string b ∧ openE p = .int .i64 0 := by
  unfold openK openB openE
  rw [h]
  exact ⟨rfl, rfl, rfl⟩
theorem then_normal {K : Act → World → Prop} {Q : Exit → Act → World → Prop} {a : Act} {w : World} (h : K a w) : Exit.then K Q .normal a w := h
theorem text_ne {a b : ByteArray} (h : a ≠ b) : (a.toList == b.toList) = false := by
  rw [ByteArray.toList_eq, ByteArray.toList_eq]
  exact beq_eq_false_iff_ne.2 fun e => h (bytes_ext e)
theorem below_drewn (B : Nat) (w : World) (n : Nat) : Below B w (w.drewN n) := ⟨rfl, rfl, rfl, Nat.le_refl _, fun _ _ => rfl⟩
theorem or_two (x y : Nat) (hx : x < 256) (hy : y < 256) : bits .or .i64 ((x : Int) * 256) (y : Int) = ((256 * x + y : Nat) : Int) := by
  have e3 := Nat.two_pow_add_eq_or_of_lt (i := 8) (b := y) (by omega) x
  have e4 : (BitVec.ofInt 64 ((x : Int) * 256)).toNat = 2 ^ 8 * x := by rw [BitVec.toNat_ofInt]; omega
  have e5 : (BitVec.ofInt 64 (y : Int)).toNat = y := by rw [BitVec.toNat_ofInt]; omega
  show IntKind.i64.wrap (((BitVec.ofInt 64 ((x : Int) * 256)) ||| (BitVec.ofInt 64 (y : Int))).toNat : Nat) = _
  rw [BitVec.toNat_or, e4, e5, ← e3, IntKind.wrap_i64]
  omega
theorem size_or (p : ByteArray) (h : p.size = 1024) : bits .or .i64 (wrap64 (wrap64 ((p[1]'(by omega)).toNat : Nat) * 256)) (wrap64 ((p[2]'(by omega)).toNat : Nat)) = ((szP p : Nat) : Int) := by
  have h1 := (p[1]'(by omega)).toNat_lt
  have h2 := (p[2]'(by omega)).toNat_lt
  rw [show wrap64 ((p[1]'(by omega)).toNat : Int) = ((p[1]'(by omega)).toNat : Int) by unfold wrap64; omega, show wrap64 ((p[2]'(by omega)).toNat : Int) = ((p[2]'(by omega)).toNat : Int) by unfold wrap64; omega,
    show wrap64 (((p[1]'(by omega)).toNat : Int) * 256) = ((p[1]'(by omega)).toNat : Int) * 256 by unfold wrap64; omega, or_two _ _ h1 h2]
  unfold szP
  rw [getD_get p 1, getD_get p 2]
set_option maxRecDepth 4000 in
set_option maxHeartbeats 1000000 in
theorem open_any (p : ByteArray) (w : World) (hT : Tabs w) (hp : p.size ≤ 9223372036854775807) :
    Calls Tryz.prog 45 #[.string p] w fun e w' => e = .returned (.tuple #[openK p, openB p, openE p]) ∧ Below w.heap.size w w' := by
  by_cases h : p.size = 1024
  · have h1 : (p.size : Int) = 1024 := by omega
    go_enter Tryz.func45, Tryz.ntmps45
    go_wp2_with fail
    go_quiet (fail)
    refine then_normal ?_
    go_at_K
    rw [size_or p h]
    obtain ⟨z, hz⟩ : ∃ z, z = szP p := ⟨_, rfl⟩
    rw [← hz]
    have HZ : Hid (z = szP p) := hz
    clear hz
    by_cases hl : z ≤ 1013
    · have hli : ¬ (1013 : Int) < z := by omega
      go_wp2_with fail
      go_quiet (fail)
      refine then_normal ?_
      go_at_K
      go_wp2_with fail
      have hxs : (p.extract 11 (11 + z)).size ≤ 1013 := by rw [ByteArray.size_extract]; omega
      refine (seal_any (p[0]'(by omega)) _ _ (hT.below (below_drewn _ _ _)) hxs).mono ?_
      rintro e w2 ⟨rfl, hB2⟩
      have hB : Below w.heap.size w w2 := (below_drewn w.heap.size w _).trans hB2
      obtain ⟨S, hS⟩ : ∃ S, S = sealS (p[0]'(by omega)) (p.extract 11 (11 + z)) := ⟨_, rfl⟩
      rw [← hS]
      have hk : p[0]'(by omega) = p.data.toList.getD 0 0 := getD_get p 0 (by omega)
      have HS : Hid (S = sealS (p.data.toList.getD 0 0) (p.extract 11 (11 + szP p))) := by unfold Hid; rw [hS, hk, HZ.out]
      clear hS hB2
      by_cases hq : S = p
      · subst hq
        have ho : openS S = some (S.data.toList.getD 0 0, S.extract 11 (11 + szP S)) := by
          have := HS.out
          unfold openS
          rw [if_pos ⟨h, by rw [← HZ.out]; exact hl, this.symm⟩]
        obtain ⟨e1, e2, e3⟩ := open_yes ho
        rw [← hk] at e1
        rw [← HZ.out] at e2
        have E : Hid (openK S = _ ∧ openB S = _ ∧ openE S = _) := ⟨e1, e2, e3⟩
        clear e1 e2 e3 ho hk
        go_wp2_with fail
        go_ret3
        rw [E.out.1, E.out.2.1, E.out.2.2]
        exact ⟨rfl, hB⟩
      · have hqq := text_ne hq
        have ho : openS p = none := by
          unfold openS
          rw [if_neg]
          exact fun q => hq (HS.out.trans q.2.2)
        obtain ⟨e1, e2, e3⟩ := open_no ho
        have E : Hid (openK p = _ ∧ openB p = _ ∧ openE p = _) := ⟨e1, e2, e3⟩
        clear e1 e2 e3 ho hk
        go_wp2_with fail
        go_ret3
        rw [E.out.1, E.out.2.1, E.out.2.2]
        exact ⟨rfl, hB⟩
    · have hli : (1013 : Int) < z := by omega
      obtain ⟨e1, e2, e3⟩ := open_no (p := p) (by unfold openS; rw [if_neg]; rw [← HZ.out]; exact fun q => hl q.2.1)
      go_wp2_with fail
      go_ret3
      rw [e1, e2, e3]
      exact ⟨rfl, below_drewn _ _ _⟩
  · have h1 : ¬ (p.size : Int) = 1024 := by omega
    obtain ⟨e1, e2, e3⟩ := open_no (p := p) (by unfold openS; rw [if_neg]; exact fun q => h q.1)
    rw [e1, e2, e3]
    go_enter Tryz.func45, Tryz.ntmps45
    go_wp2_with fail
    go_ret3
    exact ⟨rfl, Below.refl _ _⟩
end Go.Proofs.YtjklcnknbcmgoaaGreatDoor.K
