/-
  What the document's calls of Read do.
-/
import Derived.Test.YtamijfdhaahalaaDoorSReadPure
import Derived.Test.YtamijfdhaahalaaDoorSRefF
import Derived.Test.YtamijfdhaahalaaDoorRefDecodeW
import Derived.BigRegion
namespace Go.Proofs.YtamijfdhaahalaaDoor
open Go Go.RowKit

theorem rowT_none : ∀ r : Row, r.len ≠ 4 → rowT r = none
  | .nil, _ => rfl
  | .item _ _ _ .nil, _ => rfl
  | .item _ _ _ (.item _ _ _ .nil), _ => rfl
  | .item _ _ _ (.item _ _ _ (.item _ _ _ .nil)), _ => rfl
  | .item _ _ _ (.item _ _ _ (.item _ _ _ (.item _ _ _ .nil))), h => absurd rfl h
  | .item _ _ _ (.item _ _ _ (.item _ _ _ (.item _ _ _ (.item _ _ _ _)))), _ => rfl
theorem row_four : ∀ r : Row, r.len = 4 → ∃ b0 s0 i0 b1 s1 i1 b2 s2 i2 b3 s3 i3, r = .item b0 s0 i0 (.item b1 s1 i1 (.item b2 s2 i2 (.item b3 s3 i3 .nil)))
  | .nil, h => by simp [Row.len] at h
  | .item _ _ _ .nil, h => by simp [Row.len] at h
  | .item _ _ _ (.item _ _ _ .nil), h => by simp [Row.len] at h
  | .item _ _ _ (.item _ _ _ (.item _ _ _ .nil)), h => by simp [Row.len] at h
  | .item _ _ _ (.item _ _ _ (.item _ _ _ (.item _ _ _ .nil))), _ => ⟨_, _, _, _, _, _, _, _, _, _, _, _, rfl⟩
  | .item _ _ _ (.item _ _ _ (.item _ _ _ (.item _ _ _ (.item _ _ _ r)))), h => by simp [Row.len] at h

set_option maxRecDepth 8000 in
set_option maxHeartbeats 4000000 in
theorem qread_none (x : ByteArray) (w : World) (hx : x.size ≤ 1000000) (hdec : decode x.data.toList = none) :
    Calls Tryd.prog 25 #[.string x] w fun e w' => e = .returned (readV (docRead x.data.toList)) ∧ Below w.heap.size w w' := by
  have HN : Hid (docRead x.data.toList = none) := by unfold Hid docRead; rw [hdec]
  obtain ⟨V, hV⟩ : ∃ V, readV (docRead x.data.toList) = V := ⟨_, rfl⟩
  rw [hV]
  have HV : Hid (readV (docRead x.data.toList) = V) := hV
  clear hV
  have hz1 : (#[.int .u64 0, .string ⟨#[]⟩, .string ⟨#[]⟩, .int .i64 0] : Array Value) = acct 0 ⟨#[]⟩ ⟨#[]⟩ 0 := rfl
  obtain ⟨g, hg⟩ : ∃ g, g = w.heap.size := ⟨_, rfl⟩
  have hH1 := Holds.new w 33 (acct 0 ⟨#[]⟩ ⟨#[]⟩ 0)
  rw [← hg] at hH1
  have HH : Hid (Holds _ g 33 _) := hH1
  have HG : Hid (g = w.heap.size) := hg
  have hgl : w.heap.size ≤ g := by omega
  clear hH1 hg
  go_enter Tryd.func25, Tryd.ntmps25
  go_wp2_with fail
  rw [← HG.out]
  refine (refDecode_any x _ hx).mono ?_
  rintro e w1 ⟨hans, hB1⟩
  rw [hdec] at hans
  obtain rfl : e = _ := hans
  have h1 := below_holds hB1 HH.out
  have hB := alloc_below hB1
  have hg1 : g < w1.heap.size := h1.lt
  have hBa := hB.alloc hB.size (.cells #[.bool false, .string ⟨#[]⟩, .slice none 0 0] 45)
  have h1a := h1.alloc (.cells #[.bool false, .string ⟨#[]⟩, .slice none 0 0] 45)
  have hle := hB.size
  have HAL : Hid (Below w1.heap.size w1 (w1.alloc (.cells #[.bool false, .string ⟨#[]⟩, .slice none 0 0] 45))) := (Below.refl _ _).alloc (Nat.le_refl _) _
  have HNW : Hid (Holds (w1.alloc (.cells #[.bool false, .string ⟨#[]⟩, .slice none 0 0] 45)) w1.heap.size 45 #[.bool false, .string ⟨#[]⟩, .slice none 0 0]) := Holds.new _ _ _
  clear hB1 hB h1 HH
  go_wp2_with (first
    | (refine wpList_storeH rfl 45 _ _ rfl w1.heap.size #[.bool false, .string ⟨#[]⟩, .slice none 0 0] rfl rfl 45 _ HNW.out infoItem3 rfl (item_one _ _ _ _ _) ?_
       intro w2 h2 o2 z2
       have HB : Hid (Below w.heap.size w w2) := Only.fresh hBa o2 hle
       have HA : Hid (Holds w2 g 33 (acct 0 ⟨#[]⟩ ⟨#[]⟩ 0)) := o2.holds h1a (Nat.ne_of_lt hg1)
       have c0 : w2.cell? ⟨w1.heap.size, 0, none⟩ = some (.bool false) := h2.cell 0
       have c2 : w2.cell? ⟨w1.heap.size, 2, none⟩ = some (.slice none 0 0) := h2.cell 2
       clear o2 z2 h2 hBa h1a hle)
    | (refine wpList_storeH rfl 33 _ _ rfl g (acct 0 ⟨#[]⟩ ⟨#[]⟩ 0) rfl rfl 33 _ HA.out infoAcct rfl (acct_one _ _ _ _) ?_
       intro w9 h9 o9 z9)
    | fail)
  refine bodyPost_ret (results_two (p := 2) (u := 3) rfl _ w9 g 33 _ _ rfl h9 Tryd.underlying33 rfl infoAcct) rfl ⟨?_, ?_⟩
  · rw [← HV.out, HN.out]; rfl
  · exact Only.fresh HB.out o9 hgl

set_option maxRecDepth 8000 in
set_option maxHeartbeats 4000000 in
theorem qread_odd (x : ByteArray) (w : World) (hx : x.size ≤ 1000000) (b : Bool) (s : List UInt8) (i : Row) (hdec : decode x.data.toList = some (.item b s i .nil)) (ho : b = false ∨ i.len ≠ 4) :
    Calls Tryd.prog 25 #[.string x] w fun e w' => e = .returned (readV (docRead x.data.toList)) ∧ Below w.heap.size w w' := by
  have HN : Hid (docRead x.data.toList = none) := by
    unfold Hid docRead
    rw [hdec]
    cases b with
    | false => rfl
    | true =>
      have := rowT_none i (by rcases ho with h | h; · cases h
                              · exact h)
      show (match rowT i with | some (a, b, c, d) => docA x.data.toList a b c d | none => none) = none
      rw [this]
  obtain ⟨V, hV⟩ : ∃ V, readV (docRead x.data.toList) = V := ⟨_, rfl⟩
  rw [hV]
  have HV : Hid (readV (docRead x.data.toList) = V) := hV
  clear hV
  have hz1 : (#[.int .u64 0, .string ⟨#[]⟩, .string ⟨#[]⟩, .int .i64 0] : Array Value) = acct 0 ⟨#[]⟩ ⟨#[]⟩ 0 := rfl
  obtain ⟨g, hg⟩ : ∃ g, g = w.heap.size := ⟨_, rfl⟩
  have hH1 := Holds.new w 33 (acct 0 ⟨#[]⟩ ⟨#[]⟩ 0)
  rw [← hg] at hH1
  have HH : Hid (Holds _ g 33 _) := hH1
  have HG : Hid (g = w.heap.size) := hg
  have hgl : w.heap.size ≤ g := by omega
  clear hH1 hg
  go_enter Tryd.func25, Tryd.ntmps25
  go_wp2_with fail
  rw [← HG.out]
  refine (refDecode_any x _ hx).mono ?_
  rintro e w1 ⟨hans, hB1⟩
  rw [hdec] at hans
  obtain ⟨sa, sc, rfl, _, _, _⟩ := hans
  have h1 := below_holds hB1 HH.out
  have hB := alloc_below hB1
  have hg1 : g < w1.heap.size := h1.lt
  have hBa := hB.alloc hB.size (.cells #[.bool false, .string ⟨#[]⟩, .slice none 0 0] 45)
  have h1a := h1.alloc (.cells #[.bool false, .string ⟨#[]⟩, .slice none 0 0] 45)
  have hle := hB.size
  have HAL : Hid (Below w1.heap.size w1 (w1.alloc (.cells #[.bool false, .string ⟨#[]⟩, .slice none 0 0] 45))) := (Below.refl _ _).alloc (Nat.le_refl _) _
  have HNW : Hid (Holds (w1.alloc (.cells #[.bool false, .string ⟨#[]⟩, .slice none 0 0] 45)) w1.heap.size 45 #[.bool false, .string ⟨#[]⟩, .slice none 0 0]) := Holds.new _ _ _
  clear hB1 hB h1 HH
  have hlen : b = true → ¬ (i.len : Int) = 4 := fun hb => by rcases ho with h | h; · rw [h] at hb; cases hb
                                                             · omega
  cases b with
  | false =>
    go_wp2_with (first
      | (refine wpList_storeH rfl 45 _ _ rfl w1.heap.size #[.bool false, .string ⟨s.toArray⟩, .slice sa i.len sc] rfl rfl 45 _ HNW.out infoItem3 rfl (item_one _ _ _ _ _) ?_
         intro w2 h2 o2 z2
         have HB : Hid (Below w.heap.size w w2) := Only.fresh hBa o2 hle
         have HA : Hid (Holds w2 g 33 (acct 0 ⟨#[]⟩ ⟨#[]⟩ 0)) := o2.holds h1a (Nat.ne_of_lt hg1)
         have c0 : w2.cell? ⟨w1.heap.size, 0, none⟩ = some (.bool false) := h2.cell 0
         have c2 : w2.cell? ⟨w1.heap.size, 2, none⟩ = some (.slice sa i.len sc) := h2.cell 2
         clear o2 z2 h2 hBa h1a hle)
      | (refine wpList_storeH rfl 33 _ _ rfl g (acct 0 ⟨#[]⟩ ⟨#[]⟩ 0) rfl rfl 33 _ HA.out infoAcct rfl (acct_one _ _ _ _) ?_
         intro w9 h9 o9 z9)
      | fail)
    refine bodyPost_ret (results_two (p := 2) (u := 3) rfl _ w9 g 33 _ _ rfl h9 Tryd.underlying33 rfl infoAcct) rfl ⟨?_, ?_⟩
    · rw [← HV.out, HN.out]; rfl
    · exact Only.fresh HB.out o9 hgl
  | true =>
    have hl4 := hlen rfl
    have hl5 : ((i.len : Int) == 4) = false := beq_eq_false_iff_ne.2 hl4
    have hl6 : ((i.len : Int) != 4) = true := by simp [bne, hl5]
    go_wp2_with (first
      | (refine wpList_storeH rfl 45 _ _ rfl w1.heap.size #[.bool true, .string ⟨s.toArray⟩, .slice sa i.len sc] rfl rfl 45 _ HNW.out infoItem3 rfl (item_one _ _ _ _ _) ?_
         intro w2 h2 o2 z2
         have HB : Hid (Below w.heap.size w w2) := Only.fresh hBa o2 hle
         have HA : Hid (Holds w2 g 33 (acct 0 ⟨#[]⟩ ⟨#[]⟩ 0)) := o2.holds h1a (Nat.ne_of_lt hg1)
         have c0 : w2.cell? ⟨w1.heap.size, 0, none⟩ = some (.bool true) := h2.cell 0
         have c2 : w2.cell? ⟨w1.heap.size, 2, none⟩ = some (.slice sa i.len sc) := h2.cell 2
         clear o2 z2 h2 hBa h1a hle)
      | (refine wpList_storeH rfl 33 _ _ rfl g (acct 0 ⟨#[]⟩ ⟨#[]⟩ 0) rfl rfl 33 _ HA.out infoAcct rfl (acct_one _ _ _ _) ?_
         intro w9 h9 o9 z9)
      | fail)
    refine bodyPost_ret (results_two (p := 2) (u := 3) rfl _ w9 g 33 _ _ rfl h9 Tryd.underlying33 rfl infoAcct) rfl ⟨?_, ?_⟩
    · rw [← HV.out, HN.out]; rfl
    · exact Only.fresh HB.out o9 hgl

set_option maxRecDepth 8000 in
set_option maxHeartbeats 8000000 in
theorem qread_four (x : ByteArray) (w : World) (hx : x.size ≤ 1000000) (b0 b1 b2 b3 : Bool) (s s0 s1 s2 s3 : List UInt8) (i0 i1 i2 i3 : Row) (hdec : decode x.data.toList = some (.item true s (.item b0 s0 i0 (.item b1 s1 i1 (.item b2 s2 i2 (.item b3 s3 i3 .nil)))) .nil)) :
    Calls Tryd.prog 25 #[.string x] w fun e w' => e = .returned (readV (docRead x.data.toList)) ∧ Below w.heap.size w w' := by
  have HDO : Hid (docRead x.data.toList = docA x.data.toList s0 s1 s2 s3) := by unfold Hid docRead; rw [hdec]; rfl
  obtain ⟨V, hV⟩ : ∃ V, readV (docRead x.data.toList) = V := ⟨_, rfl⟩
  rw [hV]
  have HV : Hid (readV (docRead x.data.toList) = V) := hV
  clear hV
  have hz1 : (#[.int .u64 0, .string ⟨#[]⟩, .string ⟨#[]⟩, .int .i64 0] : Array Value) = acct 0 ⟨#[]⟩ ⟨#[]⟩ 0 := rfl
  obtain ⟨g, hg⟩ : ∃ g, g = w.heap.size := ⟨_, rfl⟩
  have hH1 := Holds.new w 33 (acct 0 ⟨#[]⟩ ⟨#[]⟩ 0)
  rw [← hg] at hH1
  have HH : Hid (Holds _ g 33 _) := hH1
  have HG : Hid (g = w.heap.size) := hg
  have hgl : w.heap.size ≤ g := by omega
  clear hH1 hg
  go_enter Tryd.func25, Tryd.ntmps25
  go_wp2_with fail
  rw [← HG.out]
  refine (refDecode_any x _ hx).mono ?_
  rintro e w1 ⟨hans, hB1⟩
  rw [hdec] at hans
  obtain ⟨sa, sc, rfl, _, _, hl⟩ := hans
  obtain ⟨bk, o, _, _, rfl, hS0, _, d0, _, l0, _, _, hl1⟩ := hl
  obtain ⟨bk1, o1, _, _, e1, _, _, d1, _, l1, _, _, hl2⟩ := hl1
  cases e1
  obtain ⟨bk1, o1, _, _, e1, _, _, d2, _, l2, _, _, hl3⟩ := hl2
  cases e1
  obtain ⟨bk1, o1, _, _, e1, _, _, d3, _, l3, _, _, _⟩ := hl3
  cases e1
  rw [show (Row.item b0 s0 i0 (.item b1 s1 i1 (.item b2 s2 i2 (.item b3 s3 i3 .nil)))).len = 4 from rfl]
  rw [show o + 3 + 3 + 1 = o + 6 + 1 by omega] at d2
  rw [show o + 3 + 3 + 3 + 1 = o + 9 + 1 by omega] at d3
  have hbk : bk < w1.heap.size := hS0.2
  obtain ⟨y0, hy0⟩ : ∃ y : ByteArray, y = ⟨s0.toArray⟩ := ⟨_, rfl⟩
  obtain ⟨y1, hy1⟩ : ∃ y : ByteArray, y = ⟨s1.toArray⟩ := ⟨_, rfl⟩
  obtain ⟨y2, hy2⟩ : ∃ y : ByteArray, y = ⟨s2.toArray⟩ := ⟨_, rfl⟩
  obtain ⟨y3, hy3⟩ : ∃ y : ByteArray, y = ⟨s3.toArray⟩ := ⟨_, rfl⟩
  have t0 : s0 = y0.data.toList := by rw [hy0]
  have t1 : s1 = y1.data.toList := by rw [hy1]
  have t2 : s2 = y2.data.toList := by rw [hy2]
  have t3 : s3 = y3.data.toList := by rw [hy3]
  rw [t0, sizeB] at l0
  rw [t3, sizeB] at l3
  rw [t0, t1, t2, t3] at HDO
  rw [← hy0] at d0
  rw [← hy1] at d1
  rw [← hy2] at d2
  rw [← hy3] at d3
  have HCE : Hid (w1.cell? ⟨bk, o + 1, none⟩ = some (.string y0) ∧ w1.cell? ⟨bk, o + 3 + 1, none⟩ = some (.string y1) ∧ w1.cell? ⟨bk, o + 6 + 1, none⟩ = some (.string y2) ∧ w1.cell? ⟨bk, o + 9 + 1, none⟩ = some (.string y3)) := ⟨d0, d1, d2, d3⟩
  clear d0 d1 d2 d3 hy0 hy1 hy2 hy3 t0 t1 t2 t3 l1 l2 hS0
  have h1 := below_holds hB1 HH.out
  have hB := alloc_below hB1
  have hg1 : g < w1.heap.size := h1.lt
  have hBa := hB.alloc hB.size (.cells #[.bool false, .string ⟨#[]⟩, .slice none 0 0] 45)
  have h1a := h1.alloc (.cells #[.bool false, .string ⟨#[]⟩, .slice none 0 0] 45)
  have hle := hB.size
  have HAL : Hid (Below w1.heap.size w1 (w1.alloc (.cells #[.bool false, .string ⟨#[]⟩, .slice none 0 0] 45))) := (Below.refl _ _).alloc (Nat.le_refl _) _
  have HNW : Hid (Holds (w1.alloc (.cells #[.bool false, .string ⟨#[]⟩, .slice none 0 0] 45)) w1.heap.size 45 #[.bool false, .string ⟨#[]⟩, .slice none 0 0]) := Holds.new _ _ _
  clear hB1 hB h1 HH
  go_wp2_with (first
    | (refine wpList_storeH rfl 45 _ _ rfl w1.heap.size #[.bool true, .string ⟨s.toArray⟩, .slice (some ⟨bk, o, none⟩) 4 sc] rfl rfl 45 _ HNW.out infoItem3 rfl (item_one _ _ _ _ _) ?_
       intro w2 h2 o2 z2
       have HB : Hid (Below w.heap.size w w2) := Only.fresh hBa o2 hle
       have HA : Hid (Holds w2 g 33 (acct 0 ⟨#[]⟩ ⟨#[]⟩ 0)) := o2.holds h1a (Nat.ne_of_lt hg1)
       have c0 : w2.cell? ⟨w1.heap.size, 0, none⟩ = some (.bool true) := h2.cell 0
       have c2 : w2.cell? ⟨w1.heap.size, 2, none⟩ = some (.slice (some ⟨bk, o, none⟩) 4 sc) := h2.cell 2
       have hk2 : ∀ j, w2.cell? ⟨bk, j, none⟩ = w1.cell? ⟨bk, j, none⟩ := fun j => by
         have e1 : w2.heap[bk]? = w1.heap[bk]? := by
           rw [o2.block bk (by rw [World.size_alloc]; omega) (by omega)]
           exact HAL.out.block bk hbk
         exact World.cell?_of_block e1
       have d0 : w2.cell? ⟨bk, o + 1, none⟩ = some (.string y0) := (hk2 _).trans HCE.out.1
       have d1 : w2.cell? ⟨bk, o + 3 + 1, none⟩ = some (.string y1) := (hk2 _).trans HCE.out.2.1
       have d2 : w2.cell? ⟨bk, o + 6 + 1, none⟩ = some (.string y2) := (hk2 _).trans HCE.out.2.2.1
       have d3 : w2.cell? ⟨bk, o + 9 + 1, none⟩ = some (.string y3) := (hk2 _).trans HCE.out.2.2.2
       clear hk2
       clear o2 z2 h2 hBa h1a hle)
    | fail)
  refine (refUint_any y0 _ (by omega)).mono ?_
  rintro e w3 ⟨rfl, rfl⟩
  go_wp2_with fail
  refine (refUint_any y3 _ (by omega)).mono ?_
  rintro e w3 ⟨rfl, rfl⟩
  obtain ⟨n, hn⟩ : ∃ n, uintV y0.data.toList = n := ⟨_, rfl⟩
  obtain ⟨k, hk⟩ : ∃ k, uintV y3.data.toList = k := ⟨_, rfl⟩
  have hn64 := uintV_lt y0.data.toList
  unfold docA at HDO
  rw [hn] at hn64 HDO ⊢
  rw [hk] at HDO ⊢
  generalize uintB y0.data.toList = bb0
  generalize uintB y3.data.toList = bb3
  rw [bytesOf_list, bytesOf_list] at HDO
  clear hn hk
  by_cases hkm : k ≤ 2147483647
  · have hki : (k : Int) ≤ 2147483647 := by omega
    have hk0 : (0 : Int) ≤ k := by omega
    have hg3 : g < w3.heap.size := HA.out.lt
    obtain ⟨xb, hxb⟩ : ∃ xb, xb = w1.heap.size := ⟨_, rfl⟩
    rw [← hxb] at c0 c2 ⊢
    clear hxb hz1
    go_wp2_with fail
    have hxl : xb < w3.heap.size := World.block_lt_of_cell? w3 ⟨xb, 0, none⟩ c0
    have hbl : bk < w3.heap.size := World.block_lt_of_cell? w3 ⟨bk, o + 1, none⟩ d0
    have q2 : (w3.alloc (.cells #[.int .u64 0, .string ⟨#[]⟩, .string ⟨#[]⟩, .int .i64 0] 33)).cell? ⟨xb, 2, none⟩ = some (.slice (some ⟨bk, o, none⟩) 4 sc) := by rw [World.cell?_alloc_past _ _ _ hxl]; exact c2
    have e1 : (w3.alloc (.cells #[.int .u64 0, .string ⟨#[]⟩, .string ⟨#[]⟩, .int .i64 0] 33)).cell? ⟨bk, o + 3 + 1, none⟩ = some (.string y1) := by rw [World.cell?_alloc_past _ _ _ hbl]; exact d1
    have e2 : (w3.alloc (.cells #[.int .u64 0, .string ⟨#[]⟩, .string ⟨#[]⟩, .int .i64 0] 33)).cell? ⟨bk, o + 6 + 1, none⟩ = some (.string y2) := by rw [World.cell?_alloc_past _ _ _ hbl]; exact d2
    go_region
    have HWN : Hid (Holds (w3.alloc (.cells #[.int .u64 n, .string y1, .string y2, .int .i64 k] 33)).drew w3.heap.size 33 (acct n y1 y2 k)) := Holds.new w3 _ _
    have HWA : Hid (Holds (w3.alloc (.cells #[.int .u64 n, .string y1, .string y2, .int .i64 k] 33)).drew g 33 (acct 0 ⟨#[]⟩ ⟨#[]⟩ 0)) := HA.out.alloc _
    have HWB : Hid (Below w.heap.size w (w3.alloc (.cells #[.int .u64 n, .string y1, .string y2, .int .i64 k] 33)).drew) := (HB.out.alloc HB.out.size _).drew
    generalize (w3.alloc (.cells #[.int .u64 n, .string y1, .string y2, .int .i64 k] 33)).drew = w4 at HWN HWA HWB ⊢
    obtain ⟨m, hm⟩ : ∃ m, m = w3.heap.size := ⟨_, rfl⟩
    rw [← hm] at HWN ⊢
    have hgm : g ≠ m := by omega
    clear hm q2 e1 e2 d0 d1 d2 d3 c0 c2 hxl hbl HA HB
    have hrec := fun w => qrecord_any n y1 y2 k w hn64
    obtain ⟨T, hT⟩ : ∃ T, recT n y1 y2 k = T := ⟨_, rfl⟩
    obtain ⟨E, hE⟩ : ∃ E, chkE y1.data.toList y2.data.toList k = E := ⟨_, rfl⟩
    rw [hT, hE] at hrec
    have HREC : Hid (∀ w, Calls Tryd.prog 23 #[.agg (acct n y1 y2 k)] w fun e w' => e = .returned (.tuple #[.string T, .int .i64 E]) ∧ Below w.heap.size w w') := hrec
    have HTE : Hid (recT n y1 y2 k = T ∧ chkE y1.data.toList y2.data.toList k = E) := ⟨hT, hE⟩
    clear hrec hT hE
    go_wp2_with (first
      | (refine wpList_loadH rfl 33 _ rfl m rfl 33 _ _ HWN.out Tryd.underlying33 rfl infoAcct ?_)
      | fail)
    refine (HREC.out _).mono ?_
    rintro e w5 ⟨rfl, hB5⟩
    have H5 : Hid (Holds w5 m 33 (acct n y1 y2 k)) := below_holds hB5 HWN.out
    have HA : Hid (Holds w5 g 33 (acct 0 ⟨#[]⟩ ⟨#[]⟩ 0)) := below_holds hB5 HWA.out
    have HB : Hid (Below w.heap.size w w5) := HWB.out.trans (hB5.mono HWB.out.size)
    clear hB5 HWN HWA HWB HREC
    cases hok : okA y1.data.toList y2.data.toList k with
    | false =>
      have HN : Hid (docRead x.data.toList = none) := by unfold Hid; rw [HDO.out, if_neg (fun q => by rw [hok] at q; cases q.2.1)]
      have hE1 : E = 1 := by rw [← HTE.out.2]; exact chk_no hok
      subst hE1
      have hz1 : (#[.int .u64 0, .string ⟨#[]⟩, .string ⟨#[]⟩, .int .i64 0] : Array Value) = acct 0 ⟨#[]⟩ ⟨#[]⟩ 0 := rfl
      clear hok HDO HTE
      go_wp2_with (first
        | (refine wpList_storeH rfl 33 _ _ rfl g (acct 0 ⟨#[]⟩ ⟨#[]⟩ 0) rfl rfl 33 _ HA.out infoAcct rfl (acct_one _ _ _ _) ?_
           intro w9 h9 o9 z9)
        | fail)
      refine bodyPost_ret (results_two (p := 2) (u := 3) rfl _ w9 g 33 _ _ rfl h9 Tryd.underlying33 rfl infoAcct) rfl ⟨?_, ?_⟩
      · rw [← HV.out, HN.out]; rfl
      · exact Only.fresh HB.out o9 hgl
    | true =>
      have hE1 : E = 0 := by rw [← HTE.out.2]; exact chk_ok hok
      subst hE1
      have hTl : T.data.toList = recL n y1 y2 k := by
        rw [← HTE.out.1]
        unfold recT
        rw [if_pos hok, Int.toNat_natCast]
      by_cases hs : T = x
      · have hst : (T.toList == x.toList) = true := by rw [hs]; exact beq_self_eq_true _
        have HN : Hid (docRead x.data.toList = some (n, y1, y2, k)) := by unfold Hid; rw [HDO.out, if_pos ⟨hkm, hok, by rw [← hTl, hs]⟩]
        clear hok HDO HTE hTl hs
        go_wp2_with (first
          | (refine wpList_loadH rfl 33 _ rfl m rfl 33 _ _ H5.out Tryd.underlying33 rfl infoAcct ?_)
          | (refine wpList_storeH rfl 33 _ _ rfl g (acct n y1 y2 k) rfl rfl 33 _ HA.out infoAcct rfl (acct_one _ _ _ _) ?_
             intro w9 h9 o9 z9)
          | fail)
        refine bodyPost_ret (results_two (p := 2) (u := 3) rfl _ w9 g 33 _ _ rfl h9 Tryd.underlying33 rfl infoAcct) rfl ⟨?_, ?_⟩
        · rw [← HV.out, HN.out]; rfl
        · exact Only.fresh HB.out o9 hgl
      · have hst : (T.toList == x.toList) = false := by
          rw [lb, lb]
          exact beq_eq_false_iff_ne.2 fun e => hs (bytes_eq e)
        have HN : Hid (docRead x.data.toList = none) := by
          unfold Hid
          rw [HDO.out, if_neg (fun q => hs (bytes_eq (by rw [hTl, q.2.2])))]
        have hz1 : (#[.int .u64 0, .string ⟨#[]⟩, .string ⟨#[]⟩, .int .i64 0] : Array Value) = acct 0 ⟨#[]⟩ ⟨#[]⟩ 0 := rfl
        clear hok HDO HTE hTl hs
        go_wp2_with (first
          | (refine wpList_storeH rfl 33 _ _ rfl g (acct 0 ⟨#[]⟩ ⟨#[]⟩ 0) rfl rfl 33 _ HA.out infoAcct rfl (acct_one _ _ _ _) ?_
             intro w9 h9 o9 z9)
          | fail)
        refine bodyPost_ret (results_two (p := 2) (u := 3) rfl _ w9 g 33 _ _ rfl h9 Tryd.underlying33 rfl infoAcct) rfl ⟨?_, ?_⟩
        · rw [← HV.out, HN.out]; rfl
        · exact Only.fresh HB.out o9 hgl
  · have hki : ¬ (k : Int) ≤ 2147483647 := by omega
    have HN : Hid (docRead x.data.toList = none) := by unfold Hid; rw [HDO.out, if_neg (fun q => hkm q.1)]
    go_wp2_with (first
      | (refine wpList_storeH rfl 33 _ _ rfl g (acct 0 ⟨#[]⟩ ⟨#[]⟩ 0) rfl rfl 33 _ HA.out infoAcct rfl (acct_one _ _ _ _) ?_
         intro w9 h9 o9 z9)
      | fail)
    refine bodyPost_ret (results_two (p := 2) (u := 3) rfl _ w9 g 33 _ _ rfl h9 Tryd.underlying33 rfl infoAcct) rfl ⟨?_, ?_⟩
    · rw [← HV.out, HN.out]; rfl
    · exact Only.fresh HB.out o9 hgl

theorem qread_any (x : ByteArray) (w : World) (hx : x.size ≤ 1000000) :
    Calls Tryd.prog 25 #[.string x] w fun e w' => e = .returned (readV (readA x.data.toList)) ∧ Below w.heap.size w w' := by
  rw [← docRead_eq]
  cases hdec : decode x.data.toList with
  | none => exact qread_none x w hx hdec
  | some r =>
    obtain ⟨b, s, i, rfl, _, _⟩ := decode_one hdec
    by_cases ho : b = false ∨ i.len ≠ 4
    · exact qread_odd x w hx b s i hdec ho
    · have hb : b = true := by
        cases b with
        | false => exact absurd (.inl rfl) ho
        | true => rfl
      subst hb
      have h4 : i.len = 4 := by
        by_cases q : i.len = 4
        · exact q
        · exact absurd (.inr q) ho
      obtain ⟨b0, s0, i0, b1, s1, i1, b2, s2, i2, b3, s3, i3, rfl⟩ := row_four i h4
      exact qread_four x w hx b0 b1 b2 b3 s s0 s1 s2 s3 i0 i1 i2 i3 hdec
end Go.Proofs.YtamijfdhaahalaaDoor
