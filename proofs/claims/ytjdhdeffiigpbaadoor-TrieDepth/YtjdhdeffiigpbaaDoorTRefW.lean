/-
  What the document's Leaf, Extension, Branch, Ref do.
-/
import Derived.Test.YtjdhdeffiigpbaaDoorTBranchW
import Derived.Test.YtjdhdeffiigpbaaDoorRefC
import Derived.Test.YtjdhdeffiigpbaaDoorKC
namespace Go.Proofs.YtjdhdeffiigpbaaDoor
open Go Go.RowKit Nb

theorem strcat (x y : ByteArray) : x ++ y = ⟨(x.data.toList ++ y.data.toList).toArray⟩ := by
  apply ByteArray.ext
  simp
theorem bytesB_size {x y : ByteArray} (hy : y = ⟨(bytesL x.data.toList).toArray⟩) : y.size ≤ x.size + 9 := by
  rw [hy]
  show (bytesL x.data.toList).length ≤ _
  have := bytesL_len x.data.toList
  rw [sizeB] at this; omega
set_option maxRecDepth 4000 in
theorem qleaf_any (path v : ByteArray) (w : World) (hp : path.size ≤ 1000000) (hb : v.size ≤ 1000000) :
    Calls Tryd.prog 9 #[.string path, .string v] w fun e w' => e = .returned (.tuple #[.string (leafS path v), .int .i64 (okE path.data.toList)]) ∧ Below w.heap.size w w' := by
  have hc := rpack_any path true w hp
  cases h : rightL path.data.toList with
  | false =>
    have hS : pckS path.data.toList true = ⟨#[]⟩ := by unfold pckS; rw [h]; rfl
    have hE : pckE path.data.toList = 1 := by unfold pckE; rw [h]; rfl
    have hS2 : leafS path v = ⟨#[]⟩ := by unfold leafS; rw [h]; rfl
    have hE2 : okE path.data.toList = 1 := by unfold okE; rw [h]; rfl
    rw [hS2, hE2]
    rw [hS, hE] at hc
    clear hS hE hS2 hE2 h
    go_enter Tryd.func9, Tryd.ntmps9
    go_wp2_with fail
    refine hc.mono ?_
    rintro e w1 ⟨rfl, hB⟩
    go_wp2_with fail
    go_ret2
    exact ⟨rfl, hB⟩
  | true =>
    obtain ⟨z, hz⟩ : ∃ z : ByteArray, z = ⟨(pck path.data.toList true).toArray⟩ := ⟨_, rfl⟩
    have hS : pckS path.data.toList true = z := by unfold pckS; rw [h, hz]; rfl
    have hE : pckE path.data.toList = 0 := by unfold pckE; rw [h]; rfl
    rw [hS, hE] at hc
    have hzs : z.size ≤ 1000001 := by
      rw [hz]
      show (pck path.data.toList true).length ≤ _
      rw [pck_len, sizeB]; omega
    obtain ⟨y, hy⟩ : ∃ y : ByteArray, y = ⟨(bytesL z.data.toList).toArray⟩ := ⟨_, rfl⟩
    obtain ⟨u, hu⟩ : ∃ u : ByteArray, u = ⟨(bytesL v.data.toList).toArray⟩ := ⟨_, rfl⟩
    have hys := bytesB_size hy
    have hus := bytesB_size hu
    have HZ : Hid (leafS path v = ⟨(listL (y ++ u).data.toList).toArray⟩) := by
      show _ = _
      unfold leafS
      rw [h, strcat, hy, hu, hz]; rfl
    have hE2 : okE path.data.toList = 0 := by unfold okE; rw [h]; rfl
    have hcz := fun w => refBytes_any z w (by omega)
    have hcv := fun w => refBytes_any v w (by omega)
    rw [← hy] at hcz
    rw [← hu] at hcv
    have HCZ : Hid (∀ w, Calls Tryd.prog 30 #[.string z] w fun e w' => e = .returned (.string y) ∧ Below w.heap.size w w') := hcz
    have HCV : Hid (∀ w, Calls Tryd.prog 30 #[.string v] w fun e w' => e = .returned (.string u) ∧ Below w.heap.size w w') := hcv
    have hlen : (y.size : Int) + (u.size : Int) ≤ 9223372036854775807 := by omega
    rw [hE2]
    clear hS hE hE2 h hz hy hu hcz hcv
    go_enter Tryd.func9, Tryd.ntmps9
    go_wp2_with fail
    refine hc.mono ?_
    rintro e w1 ⟨rfl, hB1⟩
    go_wp2_with fail
    refine (HCZ.out _).mono ?_
    rintro e w2 ⟨rfl, hB2⟩
    go_wp2_with fail
    refine (HCV.out _).mono ?_
    rintro e w3 ⟨rfl, hB3⟩
    have hB := (hB1.trans (hB2.mono hB1.size))
    have hB' := hB.trans (hB3.mono hB.size)
    go_wp2_with fail
    refine (refList_any (y ++ u) _ (by rw [ByteArray.size_append]; omega)).mono ?_
    rintro e w4 ⟨rfl, hB4⟩
    go_wp2_with fail
    go_ret2
    exact ⟨by rw [HZ.out]; rfl, hB'.trans (hB4.mono hB'.size)⟩
set_option maxRecDepth 4000 in
theorem qext_any (path v : ByteArray) (w : World) (hp : path.size ≤ 1000000) (hb : v.size ≤ 1000000) :
    Calls Tryd.prog 11 #[.string path, .string v] w fun e w' => e = .returned (.tuple #[.string (extS path v), .int .i64 (okE path.data.toList)]) ∧ Below w.heap.size w w' := by
  have hc := rpack_any path false w hp
  cases h : rightL path.data.toList with
  | false =>
    have hS : pckS path.data.toList false = ⟨#[]⟩ := by unfold pckS; rw [h]; rfl
    have hE : pckE path.data.toList = 1 := by unfold pckE; rw [h]; rfl
    have hS2 : extS path v = ⟨#[]⟩ := by unfold extS; rw [h]; rfl
    have hE2 : okE path.data.toList = 1 := by unfold okE; rw [h]; rfl
    rw [hS2, hE2]
    rw [hS, hE] at hc
    clear hS hE hS2 hE2 h
    go_enter Tryd.func11, Tryd.ntmps11
    go_wp2_with fail
    refine hc.mono ?_
    rintro e w1 ⟨rfl, hB⟩
    go_wp2_with fail
    go_ret2
    exact ⟨rfl, hB⟩
  | true =>
    obtain ⟨z, hz⟩ : ∃ z : ByteArray, z = ⟨(pck path.data.toList false).toArray⟩ := ⟨_, rfl⟩
    have hS : pckS path.data.toList false = z := by unfold pckS; rw [h, hz]; rfl
    have hE : pckE path.data.toList = 0 := by unfold pckE; rw [h]; rfl
    rw [hS, hE] at hc
    have hzs : z.size ≤ 1000001 := by
      rw [hz]
      show (pck path.data.toList false).length ≤ _
      rw [pck_len, sizeB]; omega
    obtain ⟨y, hy⟩ : ∃ y : ByteArray, y = ⟨(bytesL z.data.toList).toArray⟩ := ⟨_, rfl⟩
    have hys := bytesB_size hy
    have HZ : Hid (extS path v = ⟨(listL (y ++ v).data.toList).toArray⟩) := by
      show _ = _
      unfold extS
      rw [h, strcat, hy, hz]; rfl
    have hE2 : okE path.data.toList = 0 := by unfold okE; rw [h]; rfl
    have hcz := fun w => refBytes_any z w (by omega)
    rw [← hy] at hcz
    have HCZ : Hid (∀ w, Calls Tryd.prog 30 #[.string z] w fun e w' => e = .returned (.string y) ∧ Below w.heap.size w w') := hcz
    have hlen : (y.size : Int) + (v.size : Int) ≤ 9223372036854775807 := by omega
    rw [hE2]
    clear hS hE hE2 h hz hy hcz
    go_enter Tryd.func11, Tryd.ntmps11
    go_wp2_with fail
    refine hc.mono ?_
    rintro e w1 ⟨rfl, hB1⟩
    go_wp2_with fail
    refine (HCZ.out _).mono ?_
    rintro e w2 ⟨rfl, hB2⟩
    have hB := (hB1.trans (hB2.mono hB1.size))
    go_wp2_with fail
    refine (refList_any (y ++ v) _ (by rw [ByteArray.size_append]; omega)).mono ?_
    rintro e w4 ⟨rfl, hB4⟩
    go_wp2_with fail
    go_ret2
    exact ⟨by rw [HZ.out]; rfl, hB.trans (hB4.mono hB.size)⟩
set_option maxRecDepth 4000 in
theorem qref_any (x : ByteArray) (w : World) (hx : x.size ≤ 3000) :
    Calls Tryd.prog 15 #[.string x] w fun e w' => e = .returned (.string ⟨(refN x.data.toList).toArray⟩) ∧ Below w.heap.size w w' := by
  have hl : x.data.toList.length = x.size := rfl
  by_cases h : x.size < 32
  · have hi : (x.size : Int) < 32 := by omega
    have hr : refN x.data.toList = x.data.toList := by unfold refN; rw [hl, if_pos h]
    go_enter Tryd.func15, Tryd.ntmps15
    go_wp2_with fail
    go_ret
    exact ⟨by rw [hr]; rfl, Below.refl _ _⟩
  · have hi : ¬ (x.size : Int) < 32 := by omega
    have HR : Hid (refN x.data.toList = bytesL (K.headL (K.hashOf x.data.toList) 32)) := by show _ = _; unfold refN; rw [hl, if_neg h]
    have hsum := K.refSum_any x w hx
    have htx := fun w => K.refText_any (K.hashOf x.data.toList) w
    obtain ⟨sm, hsm⟩ : ∃ sm, K.bytesA 32 (K.hashOf x.data.toList) = sm := ⟨_, rfl⟩
    obtain ⟨y, hy⟩ : ∃ y : ByteArray, y = ⟨(K.headL (K.hashOf x.data.toList) 32).toArray⟩ := ⟨_, rfl⟩
    have hys : y.size = 32 := by rw [hy]; show (K.headL _ 32).length = 32; simp [K.headL]
    have hyb : bytesL y.data.toList = bytesL (K.headL (K.hashOf x.data.toList) 32) := by rw [hy]
    rw [← hyb] at HR
    rw [hsm] at hsum htx
    rw [← hy] at htx
    have HTX : Hid (∀ w, Calls Tryd.prog 34 #[.agg sm] w fun e w' => e = .returned (.string y) ∧ Below w.heap.size w w') := htx
    have hcb := fun w => refBytes_any y w (by omega)
    clear hsm hy hyb htx
    go_enter Tryd.func15, Tryd.ntmps15
    go_wp2_with fail
    refine hsum.mono ?_
    rintro e w1 ⟨rfl, hB1⟩
    dsimp only
    go_wp2_with fail
    refine (HTX.out _).mono ?_
    rintro e w2 ⟨rfl, hB2⟩
    go_wp2_with fail
    refine (hcb _).mono ?_
    rintro e w3 ⟨rfl, hB3⟩
    go_wp2_with fail
    go_ret
    have hB := hB1.trans (hB2.mono hB1.size)
    exact ⟨by rw [HR.out]; rfl, hB.trans (hB3.mono hB.size)⟩
/-- The refs put together so far. -/
def catR (R : Nat → ByteArray) (n : Nat) : List UInt8 := ((List.range n).map fun c => if (R c).data.toList = [] then [128] else (R c).data.toList).flatten
theorem catR_succ (R : Nat → ByteArray) (n : Nat) : catR R (n + 1) = catR R n ++ if (R n).data.toList = [] then [128] else (R n).data.toList := by
  unfold catR
  rw [List.range_succ, List.map_append, List.flatten_append]
  simp
theorem catR_len (R : Nat → ByteArray) (n : Nat) (h : ∀ c, c < 16 → (R c).size ≤ 1000000) (hn : n ≤ 16) : (catR R n).length ≤ n * 1000000 := by
  induction n with
  | zero => simp [catR]
  | succ n ih =>
    have h1 := ih (by omega)
    have h2 := h n (by omega)
    rw [catR_succ, List.length_append]
    have h3 : (if (R n).data.toList = [] then [128] else (R n).data.toList).length ≤ 1000000 := by
      split
      · simp
      · rw [sizeB]; exact h2
    rw [Nat.succ_mul]
    omega
theorem brL_catR (R : Nat → ByteArray) : (brL fun c => (R c).data.toList) = listL (catR R 16 ++ [128]) := rfl
set_option maxRecDepth 8000 in
theorem qbranch_any (R : Nat → ByteArray) (w : World) (hR : ∀ c, c < 16 → (R c).size ≤ 1000000) :
    Calls Tryd.prog 13 #[.agg (strA 16 R)] w fun e w' => e = .returned (.string ⟨(brL fun c => (R c).data.toList).toArray⟩) ∧ Below w.heap.size w w' := by
  have HR : Hid (∀ c, c < 16 → (R c).size ≤ 1000000) := hR
  obtain ⟨rs, hrs⟩ : ∃ rs, strA 16 R = rs := ⟨_, rfl⟩
  have HRS : Hid (strA 16 R = rs) := hrs
  rw [hrs]
  obtain ⟨r, hr⟩ : ∃ r, w.heap.size = r := ⟨_, rfl⟩
  have hH0 : K.Holds (w.alloc (.cells rs 22)) r 22 rs := hr ▸ K.Holds.new w 22 rs
  have HB0 : Hid (Below w.heap.size w (w.alloc (.cells rs 22))) := (Below.refl _ _).alloc (Nat.le_refl _) _
  clear hR hrs
  go_enter Tryd.func13, Tryd.ntmps13
  go_wp2_with fail
  go_loopw [3, 4] (fun s z wr => ∃ n : Nat, n ≤ 16 ∧ z = .int .i64 (n : Nat) ∧ wr = w.alloc (.cells rs 22) ∧ ∃ x : ByteArray, s = .string x ∧ Hid (x.data.toList = catR R n)) (fun _ z _ => 16 - (intOf z).toNat)
  case atStart => exact ⟨0, by omega, rfl, rfl, ⟨#[]⟩, rfl, rfl⟩
  case round =>
    obtain ⟨n, hn, rfl, rfl, x, rfl, HX⟩ := hrel
    have hxs : x.size ≤ n * 1000000 := by rw [← sizeB, HX.out]; exact catR_len R n HR.out hn
    by_cases hlt : n < 16
    · have hlti : (n : Int) < 16 := by omega
      have hn0 : (0 : Int) ≤ n := by omega
      have hcr : (w.alloc (.cells rs 22)).cell? ⟨r, n, none⟩ = some (.string (R n)) := by rw [hH0.cell n, ← HRS.out]; exact strA_get 16 R n hlt
      have HC := catR_succ R n
      have HN : Hid (catR R (n + 1) = catR R n ++ if (R n).data.toList = [] then [128] else (R n).data.toList) := HC
      obtain ⟨y, hy⟩ : ∃ y, R n = y := ⟨_, rfl⟩
      have hys : y.size ≤ 1000000 := hy ▸ HR.out n hlt
      rw [hy] at hcr HN
      clear HC hy
      by_cases h0 : y.size = 0
      · have ey := isEmpty0 y h0
        have h1 : (x.size : Int) + 1 ≤ 9223372036854775807 := by omega
        have HE : Hid (y.data.toList = []) := List.eq_nil_of_length_eq_zero h0
        clear h0
        go_wp2_with fail
        go_roundw
        case rel =>
          refine ⟨n + 1, by omega, by simp, trivial, _, rfl, ?_⟩
          show _ = _
          rw [HN.out, HE.out, if_pos rfl, strcat, ← HX.out]
        case measure => simp [intOf]; omega
      · have ey := notEmpty y h0
        have h1 : (x.size : Int) + (y.size : Int) ≤ 9223372036854775807 := by omega
        have HE : Hid (y.data.toList ≠ []) := fun e => h0 (by rw [← sizeB, e]; rfl)
        clear h0
        go_wp2_with fail
        go_roundw
        case rel =>
          refine ⟨n + 1, by omega, by simp, trivial, _, rfl, ?_⟩
          show _ = _
          rw [HN.out, if_neg HE.out, strcat, ← HX.out]
        case measure => simp [intOf]; omega
    · have hlti : ¬ (n : Int) < 16 := by omega
      have hn16 : n = 16 := by omega
      have HQ : Hid ((brL fun c => (R c).data.toList) = listL (x ++ ⟨#[128]⟩).data.toList) := by
        show _ = _
        rw [brL_catR, strcat, HX.out, hn16]
      have h1 : (x.size : Int) + 1 ≤ 9223372036854775807 := by omega
      have hls : (x ++ (⟨#[128]⟩ : ByteArray)).size < 4611686018427387904 := by rw [ByteArray.size_append]; show x.size + 1 < _; omega
      clear hn16
      go_wp2_with fail
      refine (refList_any _ _ hls).mono ?_
      rintro e w2 ⟨rfl, hB2⟩
      go_wp2_with fail
      go_ret
      exact ⟨by rw [HQ.out]; rfl, HB0.out.trans (hB2.mono HB0.out.size)⟩
end Go.Proofs.YtjdhdeffiigpbaaDoor
