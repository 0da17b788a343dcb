/-
  What the calls of Unpack do.
-/
import Derived.Test.YtkkjkanlaldhcaaNextW
import Derived.Laws.EntriesVeiled
namespace Go.Proofs.Ytkkjkanlaldhcaa
open Go Go.RowKit

theorem notEmpty (x : ByteArray) (h : x.size ≠ 0) : x.toList.isEmpty = false := by
  rw [lb]
  cases hl : x.data.toList with
  | nil => exact absurd (by rw [← sizeB, hl]; rfl) h
  | cons c l => rfl
theorem isEmpty0 (x : ByteArray) (h : x.size = 0) : x.toList.isEmpty = true := by
  rw [lb]
  cases hl : x.data.toList with
  | nil => rfl
  | cons c l => rw [← sizeB, hl] at h; simp at h

theorem has_any (b g f : Nat) (x : ByteArray) (w : World) (hp : 0 < x.size) (hg : (x[0]).toNat / 16 = g) (hg4 : g < 16) (hc : w.cell? ⟨b, 0, none⟩ = some (.string x)) (r : Bool) (hr : decide (¬ bits .and .u8 (g : Int) (f : Int) = 0) = r) :
    Calls Try.prog 27 #[.int .u8 f, .pointer (some ⟨b, 0, none⟩)] w fun e w' => e = .returned (.bool r) ∧ w' = w := by
  have hpi : (0 : Int) < x.size := by omega
  have hgi : ((x[0]).toNat : Int) / 16 = g := by omega
  have hmod : (g : Int) % 256 = g := by omega
  clear hg
  subst hr
  generalize hq : bits .and .u8 (g : Int) (f : Int) = q
  go_enter Try.func27, Try.ntmps27
  go_wp2_with fail
  go_ret
  refine ⟨?_, rfl⟩
  show Ending.returned (Value.bool (q != 0)) = _
  by_cases e : q = 0 <;> simp [e]

set_option maxRecDepth 4000 in
theorem unpack_empty (x : ByteArray) (w : World) (h : x.size = 0) :
    Calls Try.prog 14 #[.string x] w fun e w' => e = .returned (.tuple #[.string (unpS x.data.toList), .bool (unpB x.data.toList), .int .i64 (unpE x.data.toList)]) ∧ Below w.heap.size w w' := by
  have hl : x.data.toList = [] := List.eq_nil_of_length_eq_zero (by rw [sizeB, h])
  have he : x.toList.isEmpty = true := isEmpty0 x h
  rw [hl]
  clear hl
  go_enter Try.func14, Try.ntmps14
  go_wp2_with fail
  go_ret3
  exact ⟨rfl, (Below.refl _ _).alloc (Nat.le_refl _) _⟩

theorem cons_of (x : ByteArray) (h : 0 < x.size) : x.data.toList = x[0] :: x.data.toList.drop 1 := by
  obtain ⟨l, rfl⟩ := exists_list x
  cases l with
  | nil => cases h
  | cons c l => rfl

set_option maxRecDepth 4000 in
theorem unpack_great (x : ByteArray) (w : World) (h : 0 < x.size) (hg : 3 < (x[0]).toNat / 16) :
    Calls Try.prog 14 #[.string x] w fun e w' => e = .returned (.tuple #[.string (unpS x.data.toList), .bool (unpB x.data.toList), .int .i64 (unpE x.data.toList)]) ∧ Below w.heap.size w w' := by
  have hu : unp x.data.toList = none := by rw [cons_of x h, unp, if_pos hg]
  have h1 : unpS x.data.toList = ⟨#[]⟩ := by unfold unpS; rw [hu]; rfl
  have h2 : unpB x.data.toList = false := by unfold unpB; rw [hu]; rfl
  have h3 : unpE x.data.toList = 10 := by unfold unpE; rw [hu]; rfl
  rw [h1, h2, h3]
  have he : x.toList.isEmpty = false := notEmpty x (by omega)
  have hpi : (0 : Int) < x.size := by omega
  have hgi : (3 : Int) < ((x[0]).toNat : Int) / 16 := by omega
  have hlt := (x[0]).toNat_lt
  clear h1 h2 h3 hu hg
  go_enter Try.func14, Try.ntmps14
  go_wp2_with fail
  go_ret3
  exact ⟨rfl, (Below.refl _ _).alloc (Nat.le_refl _) _⟩

theorem box_cell (w : World) (v : Value) (t : TypeId) : (w.alloc (.cells #[v] t)).cell? ⟨w.heap.size, 0, none⟩ = some v :=
  (World.rowIs_alloc w #[v] t (fun _ => v) (fun i hi => by
    have : i < 1 := hi
    have : i = 0 := by omega
    subst this; rfl)).cell (i := 0) (by simp)

set_option maxRecDepth 4000 in
theorem unpack_0_zero (x : ByteArray) (w : World) (hx : x.size ≤ 100000) (h : 0 < x.size) (hg : (x[0]).toNat / 16 = 0) (hz : (x[0]).toNat % 16 = 0) :
    Calls Try.prog 14 #[.string x] w fun e w' => e = .returned (.tuple #[.string (unpS x.data.toList), .bool (unpB x.data.toList), .int .i64 (unpE x.data.toList)]) ∧ Below w.heap.size w w' := by
  have hu : unp x.data.toList = some (hal (x.data.toList.drop 1), false) := by
    rw [cons_of x h, unp, if_neg (by omega)]
    rw [if_neg (by omega)]
    rw [if_pos hz, hg]; rfl
  have hh : hal x.data.toList = (x[0] / 16) :: (x[0] % 16) :: hal (x.data.toList.drop 1) := by rw [cons_of x h, hal]; rfl
  obtain ⟨T, hT⟩ : ∃ T, T = hal (x.data.toList.drop 1) := ⟨_, rfl⟩
  obtain ⟨c, hc⟩ : ∃ c, c = x[0] % 16 := ⟨_, rfl⟩
  obtain ⟨a, ha⟩ : ∃ a, a = x[0] / 16 := ⟨_, rfl⟩
  have hTl : T.length ≤ 200000 := by rw [hT, hal_len, List.length_drop, sizeB]; omega
  have hcn : c.toNat = (x[0]).toNat % 16 := by rw [hc, mod16]
  rw [← hT, ← hc, ← ha] at hh
  rw [← hT] at hu
  have h1 : unpS x.data.toList = ⟨T.toArray⟩ := by unfold unpS; rw [hu]; rfl
  have h2 : unpB x.data.toList = false := by unfold unpB; rw [hu]; rfl
  have h3 : unpE x.data.toList = 0 := by unfold unpE; rw [hu]; rfl
  rw [h1, h2, h3]
  have he : x.toList.isEmpty = false := notEmpty x (by omega)
  have hpi : (0 : Int) < x.size := by omega
  have hgi : ((x[0]).toNat : Int) / 16 = 0 := by omega
  obtain ⟨H, hH⟩ : ∃ H : ByteArray, H = ⟨(a :: c :: T).toArray⟩ := ⟨_, rfl⟩
  obtain ⟨R, hR⟩ : ∃ R : ByteArray, R = ⟨(c :: T).toArray⟩ := ⟨_, rfl⟩
  have hHs : H.size = T.length + 2 := by rw [hH]; rfl
  have hRs : R.size = T.length + 1 := by rw [hR]; rfl
  have hHR : H.extract 1 H.size = R := by rw [extract_drop, hH, hR]; rfl
  have hHR' : H.extract 1 (T.length + 2) = R := by rw [← hHs]; exact hHR
  have hRT : R.extract 1 R.size = ⟨T.toArray⟩ := by rw [extract_drop, hR]; rfl
  have hRT' : R.extract 1 (T.length + 1) = ⟨T.toArray⟩ := by rw [← hRs]; exact hRT
  have hHsi : (H.size : Int) = T.length + 2 := by omega
  have hRsi : (R.size : Int) = T.length + 1 := by omega
  have hRp : 0 < R.size := by omega
  have hR0 : (R[0]).toNat = (x[0]).toNat % 16 := by rw [← hcn]; subst hR; rfl
  have hR0i : ((R[0]).toNat : Int) = 0 := by omega
  have hR0n : (R[0]).toNat = 0 := by omega
  have HH : Hid (⟨(hal x.data.toList).toArray⟩ = H) := by simp only [Hid]; rw [hh, hH]
  have HG : Hid ((x[0]).toNat / 16 = 0) := hg
  have HR : Hid (R = ⟨(c :: T).toArray⟩) := hR
  clear h1 h2 h3 hu hg hh hT hc ha hcn hH hR hR0 hz
  go_enter Try.func14, Try.ntmps14
  go_wp2_with fail
  have hbc := box_cell w (.string x) 9
  have hB0 : Below w.heap.size w (w.alloc (.cells #[.string x] 9)) := (Below.refl _ _).alloc (Nat.le_refl _) _
  have hlt0 : w.heap.size < (w.alloc (.cells #[.string x] 9)).heap.size := (World.rowIs_alloc w #[.string x] 9 (fun _ => .string x) (fun i hi => by
    have : i < 1 := hi
    have : i = 0 := by omega
    subst this; rfl)).lt
  obtain ⟨b, hb⟩ : ∃ b, b = w.heap.size := ⟨_, rfl⟩
  rw [← hb] at hbc hlt0
  rw [← hb]
  refine (of_any x _ (by omega)).mono ?_
  generalize hw1 : w.alloc (.cells #[.string x] 9) = w1 at *
  rintro e w2 ⟨rfl, hB2⟩
  rw [HH.out]
  have hbc2 : w2.cell? ⟨b, 0, none⟩ = some (.string x) := by rw [hB2.cell hlt0]; exact hbc
  have hB3 : Below w.heap.size w w2 := hB0.trans (hB2.mono hB0.size)
  have HB : Hid (b = w.heap.size) := hb
  clear hw1 hbc hB0 hlt0 hB2 hb
  go_wp2_with fail
  refine (has_any b 0 1 x _ h HG.out (by omega) hbc2 false (by decide)).mono ?_
  rintro e w3 ⟨rfl, rfl⟩
  go_wp2_with fail
  refine (has_any b 0 2 x _ h HG.out (by omega) hbc2 false (by decide)).mono ?_
  rintro e w4 ⟨rfl, rfl⟩
  go_wp2_with fail
  go_ret3
  exact ⟨by rfl, hB3⟩

set_option maxRecDepth 4000 in
theorem unpack_0_bad (x : ByteArray) (w : World) (hx : x.size ≤ 100000) (h : 0 < x.size) (hg : (x[0]).toNat / 16 = 0) (hz : ¬ (x[0]).toNat % 16 = 0) :
    Calls Try.prog 14 #[.string x] w fun e w' => e = .returned (.tuple #[.string (unpS x.data.toList), .bool (unpB x.data.toList), .int .i64 (unpE x.data.toList)]) ∧ Below w.heap.size w w' := by
  have hu : unp x.data.toList = none := by
    rw [cons_of x h, unp, if_neg (by omega)]
    rw [if_neg (by omega)]
    rw [if_neg hz]
  have hh : hal x.data.toList = (x[0] / 16) :: (x[0] % 16) :: hal (x.data.toList.drop 1) := by rw [cons_of x h, hal]; rfl
  obtain ⟨T, hT⟩ : ∃ T, T = hal (x.data.toList.drop 1) := ⟨_, rfl⟩
  obtain ⟨c, hc⟩ : ∃ c, c = x[0] % 16 := ⟨_, rfl⟩
  obtain ⟨a, ha⟩ : ∃ a, a = x[0] / 16 := ⟨_, rfl⟩
  have hTl : T.length ≤ 200000 := by rw [hT, hal_len, List.length_drop, sizeB]; omega
  have hcn : c.toNat = (x[0]).toNat % 16 := by rw [hc, mod16]
  rw [← hT, ← hc, ← ha] at hh
  have h1 : unpS x.data.toList = ⟨#[]⟩ := by unfold unpS; rw [hu]; rfl
  have h2 : unpB x.data.toList = false := by unfold unpB; rw [hu]; rfl
  have h3 : unpE x.data.toList = 10 := by unfold unpE; rw [hu]; rfl
  rw [h1, h2, h3]
  have he : x.toList.isEmpty = false := notEmpty x (by omega)
  have hpi : (0 : Int) < x.size := by omega
  have hgi : ((x[0]).toNat : Int) / 16 = 0 := by omega
  obtain ⟨H, hH⟩ : ∃ H : ByteArray, H = ⟨(a :: c :: T).toArray⟩ := ⟨_, rfl⟩
  obtain ⟨R, hR⟩ : ∃ R : ByteArray, R = ⟨(c :: T).toArray⟩ := ⟨_, rfl⟩
  have hHs : H.size = T.length + 2 := by rw [hH]; rfl
  have hRs : R.size = T.length + 1 := by rw [hR]; rfl
  have hHR : H.extract 1 H.size = R := by rw [extract_drop, hH, hR]; rfl
  have hHR' : H.extract 1 (T.length + 2) = R := by rw [← hHs]; exact hHR
  have hRT : R.extract 1 R.size = ⟨T.toArray⟩ := by rw [extract_drop, hR]; rfl
  have hRT' : R.extract 1 (T.length + 1) = ⟨T.toArray⟩ := by rw [← hRs]; exact hRT
  have hHsi : (H.size : Int) = T.length + 2 := by omega
  have hRsi : (R.size : Int) = T.length + 1 := by omega
  have hRp : 0 < R.size := by omega
  have hR0 : (R[0]).toNat = (x[0]).toNat % 16 := by rw [← hcn]; subst hR; rfl
  have hR0i : ¬ ((R[0]).toNat : Int) = 0 := by omega
  have hR0n : ¬ (R[0]).toNat = 0 := by omega
  have HH : Hid (⟨(hal x.data.toList).toArray⟩ = H) := by simp only [Hid]; rw [hh, hH]
  have HG : Hid ((x[0]).toNat / 16 = 0) := hg
  have HR : Hid (R = ⟨(c :: T).toArray⟩) := hR
  clear h1 h2 h3 hu hg hh hT hc ha hcn hH hR hR0 hz
  go_enter Try.func14, Try.ntmps14
  go_wp2_with fail
  have hbc := box_cell w (.string x) 9
  have hB0 : Below w.heap.size w (w.alloc (.cells #[.string x] 9)) := (Below.refl _ _).alloc (Nat.le_refl _) _
  have hlt0 : w.heap.size < (w.alloc (.cells #[.string x] 9)).heap.size := (World.rowIs_alloc w #[.string x] 9 (fun _ => .string x) (fun i hi => by
    have : i < 1 := hi
    have : i = 0 := by omega
    subst this; rfl)).lt
  obtain ⟨b, hb⟩ : ∃ b, b = w.heap.size := ⟨_, rfl⟩
  rw [← hb] at hbc hlt0
  rw [← hb]
  refine (of_any x _ (by omega)).mono ?_
  generalize hw1 : w.alloc (.cells #[.string x] 9) = w1 at *
  rintro e w2 ⟨rfl, hB2⟩
  rw [HH.out]
  have hbc2 : w2.cell? ⟨b, 0, none⟩ = some (.string x) := by rw [hB2.cell hlt0]; exact hbc
  have hB3 : Below w.heap.size w w2 := hB0.trans (hB2.mono hB0.size)
  have HB : Hid (b = w.heap.size) := hb
  clear hw1 hbc hB0 hlt0 hB2 hb
  go_wp2_with fail
  refine (has_any b 0 1 x _ h HG.out (by omega) hbc2 false (by decide)).mono ?_
  rintro e w3 ⟨rfl, rfl⟩
  go_wp2_with fail
  go_ret3
  exact ⟨by rfl, hB3⟩

set_option maxRecDepth 4000 in
theorem unpack_1_odd (x : ByteArray) (w : World) (hx : x.size ≤ 100000) (h : 0 < x.size) (hg : (x[0]).toNat / 16 = 1) :
    Calls Try.prog 14 #[.string x] w fun e w' => e = .returned (.tuple #[.string (unpS x.data.toList), .bool (unpB x.data.toList), .int .i64 (unpE x.data.toList)]) ∧ Below w.heap.size w w' := by
  have hu : unp x.data.toList = some ((x[0] % 16) :: hal (x.data.toList.drop 1), false) := by
    rw [cons_of x h, unp, if_neg (by omega)]
    rw [if_pos (by omega), hg]
    rfl
  have hh : hal x.data.toList = (x[0] / 16) :: (x[0] % 16) :: hal (x.data.toList.drop 1) := by rw [cons_of x h, hal]; rfl
  obtain ⟨T, hT⟩ : ∃ T, T = hal (x.data.toList.drop 1) := ⟨_, rfl⟩
  obtain ⟨c, hc⟩ : ∃ c, c = x[0] % 16 := ⟨_, rfl⟩
  obtain ⟨a, ha⟩ : ∃ a, a = x[0] / 16 := ⟨_, rfl⟩
  have hTl : T.length ≤ 200000 := by rw [hT, hal_len, List.length_drop, sizeB]; omega
  have hcn : c.toNat = (x[0]).toNat % 16 := by rw [hc, mod16]
  rw [← hT, ← hc, ← ha] at hh
  rw [← hT, ← hc] at hu
  have h1 : unpS x.data.toList = ⟨(c :: T).toArray⟩ := by unfold unpS; rw [hu]; rfl
  have h2 : unpB x.data.toList = false := by unfold unpB; rw [hu]; rfl
  have h3 : unpE x.data.toList = 0 := by unfold unpE; rw [hu]; rfl
  rw [h1, h2, h3]
  have he : x.toList.isEmpty = false := notEmpty x (by omega)
  have hpi : (0 : Int) < x.size := by omega
  have hgi : ((x[0]).toNat : Int) / 16 = 1 := by omega
  obtain ⟨H, hH⟩ : ∃ H : ByteArray, H = ⟨(a :: c :: T).toArray⟩ := ⟨_, rfl⟩
  obtain ⟨R, hR⟩ : ∃ R : ByteArray, R = ⟨(c :: T).toArray⟩ := ⟨_, rfl⟩
  have hHs : H.size = T.length + 2 := by rw [hH]; rfl
  have hRs : R.size = T.length + 1 := by rw [hR]; rfl
  have hHR : H.extract 1 H.size = R := by rw [extract_drop, hH, hR]; rfl
  have hHR' : H.extract 1 (T.length + 2) = R := by rw [← hHs]; exact hHR
  have hRT : R.extract 1 R.size = ⟨T.toArray⟩ := by rw [extract_drop, hR]; rfl
  have hRT' : R.extract 1 (T.length + 1) = ⟨T.toArray⟩ := by rw [← hRs]; exact hRT
  have hHsi : (H.size : Int) = T.length + 2 := by omega
  have hRsi : (R.size : Int) = T.length + 1 := by omega
  have hRp : 0 < R.size := by omega
  have hR0 : (R[0]).toNat = (x[0]).toNat % 16 := by rw [← hcn]; subst hR; rfl
  have HH : Hid (⟨(hal x.data.toList).toArray⟩ = H) := by simp only [Hid]; rw [hh, hH]
  have HG : Hid ((x[0]).toNat / 16 = 1) := hg
  have HR : Hid (R = ⟨(c :: T).toArray⟩) := hR
  clear h1 h2 h3 hu hg hh hT hc ha hcn hH hR hR0 
  go_enter Try.func14, Try.ntmps14
  go_wp2_with fail
  have hbc := box_cell w (.string x) 9
  have hB0 : Below w.heap.size w (w.alloc (.cells #[.string x] 9)) := (Below.refl _ _).alloc (Nat.le_refl _) _
  have hlt0 : w.heap.size < (w.alloc (.cells #[.string x] 9)).heap.size := (World.rowIs_alloc w #[.string x] 9 (fun _ => .string x) (fun i hi => by
    have : i < 1 := hi
    have : i = 0 := by omega
    subst this; rfl)).lt
  obtain ⟨b, hb⟩ : ∃ b, b = w.heap.size := ⟨_, rfl⟩
  rw [← hb] at hbc hlt0
  rw [← hb]
  refine (of_any x _ (by omega)).mono ?_
  generalize hw1 : w.alloc (.cells #[.string x] 9) = w1 at *
  rintro e w2 ⟨rfl, hB2⟩
  rw [HH.out]
  have hbc2 : w2.cell? ⟨b, 0, none⟩ = some (.string x) := by rw [hB2.cell hlt0]; exact hbc
  have hB3 : Below w.heap.size w w2 := hB0.trans (hB2.mono hB0.size)
  have HB : Hid (b = w.heap.size) := hb
  clear hw1 hbc hB0 hlt0 hB2 hb
  go_wp2_with fail
  refine (has_any b 1 1 x _ h HG.out (by omega) hbc2 true (by decide)).mono ?_
  rintro e w3 ⟨rfl, rfl⟩
  go_wp2_with fail
  refine (has_any b 1 2 x _ h HG.out (by omega) hbc2 false (by decide)).mono ?_
  rintro e w4 ⟨rfl, rfl⟩
  go_wp2_with fail
  go_ret3
  exact ⟨by rw [HR.out]; rfl, hB3⟩

set_option maxRecDepth 4000 in
theorem unpack_2_zero (x : ByteArray) (w : World) (hx : x.size ≤ 100000) (h : 0 < x.size) (hg : (x[0]).toNat / 16 = 2) (hz : (x[0]).toNat % 16 = 0) :
    Calls Try.prog 14 #[.string x] w fun e w' => e = .returned (.tuple #[.string (unpS x.data.toList), .bool (unpB x.data.toList), .int .i64 (unpE x.data.toList)]) ∧ Below w.heap.size w w' := by
  have hu : unp x.data.toList = some (hal (x.data.toList.drop 1), true) := by
    rw [cons_of x h, unp, if_neg (by omega)]
    rw [if_neg (by omega)]
    rw [if_pos hz, hg]; rfl
  have hh : hal x.data.toList = (x[0] / 16) :: (x[0] % 16) :: hal (x.data.toList.drop 1) := by rw [cons_of x h, hal]; rfl
  obtain ⟨T, hT⟩ : ∃ T, T = hal (x.data.toList.drop 1) := ⟨_, rfl⟩
  obtain ⟨c, hc⟩ : ∃ c, c = x[0] % 16 := ⟨_, rfl⟩
  obtain ⟨a, ha⟩ : ∃ a, a = x[0] / 16 := ⟨_, rfl⟩
  have hTl : T.length ≤ 200000 := by rw [hT, hal_len, List.length_drop, sizeB]; omega
  have hcn : c.toNat = (x[0]).toNat % 16 := by rw [hc, mod16]
  rw [← hT, ← hc, ← ha] at hh
  rw [← hT] at hu
  have h1 : unpS x.data.toList = ⟨T.toArray⟩ := by unfold unpS; rw [hu]; rfl
  have h2 : unpB x.data.toList = true := by unfold unpB; rw [hu]; rfl
  have h3 : unpE x.data.toList = 0 := by unfold unpE; rw [hu]; rfl
  rw [h1, h2, h3]
  have he : x.toList.isEmpty = false := notEmpty x (by omega)
  have hpi : (0 : Int) < x.size := by omega
  have hgi : ((x[0]).toNat : Int) / 16 = 2 := by omega
  obtain ⟨H, hH⟩ : ∃ H : ByteArray, H = ⟨(a :: c :: T).toArray⟩ := ⟨_, rfl⟩
  obtain ⟨R, hR⟩ : ∃ R : ByteArray, R = ⟨(c :: T).toArray⟩ := ⟨_, rfl⟩
  have hHs : H.size = T.length + 2 := by rw [hH]; rfl
  have hRs : R.size = T.length + 1 := by rw [hR]; rfl
  have hHR : H.extract 1 H.size = R := by rw [extract_drop, hH, hR]; rfl
  have hHR' : H.extract 1 (T.length + 2) = R := by rw [← hHs]; exact hHR
  have hRT : R.extract 1 R.size = ⟨T.toArray⟩ := by rw [extract_drop, hR]; rfl
  have hRT' : R.extract 1 (T.length + 1) = ⟨T.toArray⟩ := by rw [← hRs]; exact hRT
  have hHsi : (H.size : Int) = T.length + 2 := by omega
  have hRsi : (R.size : Int) = T.length + 1 := by omega
  have hRp : 0 < R.size := by omega
  have hR0 : (R[0]).toNat = (x[0]).toNat % 16 := by rw [← hcn]; subst hR; rfl
  have hR0i : ((R[0]).toNat : Int) = 0 := by omega
  have hR0n : (R[0]).toNat = 0 := by omega
  have HH : Hid (⟨(hal x.data.toList).toArray⟩ = H) := by simp only [Hid]; rw [hh, hH]
  have HG : Hid ((x[0]).toNat / 16 = 2) := hg
  have HR : Hid (R = ⟨(c :: T).toArray⟩) := hR
  clear h1 h2 h3 hu hg hh hT hc ha hcn hH hR hR0 hz
  go_enter Try.func14, Try.ntmps14
  go_wp2_with fail
  have hbc := box_cell w (.string x) 9
  have hB0 : Below w.heap.size w (w.alloc (.cells #[.string x] 9)) := (Below.refl _ _).alloc (Nat.le_refl _) _
  have hlt0 : w.heap.size < (w.alloc (.cells #[.string x] 9)).heap.size := (World.rowIs_alloc w #[.string x] 9 (fun _ => .string x) (fun i hi => by
    have : i < 1 := hi
    have : i = 0 := by omega
    subst this; rfl)).lt
  obtain ⟨b, hb⟩ : ∃ b, b = w.heap.size := ⟨_, rfl⟩
  rw [← hb] at hbc hlt0
  rw [← hb]
  refine (of_any x _ (by omega)).mono ?_
  generalize hw1 : w.alloc (.cells #[.string x] 9) = w1 at *
  rintro e w2 ⟨rfl, hB2⟩
  rw [HH.out]
  have hbc2 : w2.cell? ⟨b, 0, none⟩ = some (.string x) := by rw [hB2.cell hlt0]; exact hbc
  have hB3 : Below w.heap.size w w2 := hB0.trans (hB2.mono hB0.size)
  have HB : Hid (b = w.heap.size) := hb
  clear hw1 hbc hB0 hlt0 hB2 hb
  go_wp2_with fail
  refine (has_any b 2 1 x _ h HG.out (by omega) hbc2 false (by decide)).mono ?_
  rintro e w3 ⟨rfl, rfl⟩
  go_wp2_with fail
  refine (has_any b 2 2 x _ h HG.out (by omega) hbc2 true (by decide)).mono ?_
  rintro e w4 ⟨rfl, rfl⟩
  go_wp2_with fail
  go_ret3
  exact ⟨by rfl, hB3⟩

set_option maxRecDepth 4000 in
theorem unpack_2_bad (x : ByteArray) (w : World) (hx : x.size ≤ 100000) (h : 0 < x.size) (hg : (x[0]).toNat / 16 = 2) (hz : ¬ (x[0]).toNat % 16 = 0) :
    Calls Try.prog 14 #[.string x] w fun e w' => e = .returned (.tuple #[.string (unpS x.data.toList), .bool (unpB x.data.toList), .int .i64 (unpE x.data.toList)]) ∧ Below w.heap.size w w' := by
  have hu : unp x.data.toList = none := by
    rw [cons_of x h, unp, if_neg (by omega)]
    rw [if_neg (by omega)]
    rw [if_neg hz]
  have hh : hal x.data.toList = (x[0] / 16) :: (x[0] % 16) :: hal (x.data.toList.drop 1) := by rw [cons_of x h, hal]; rfl
  obtain ⟨T, hT⟩ : ∃ T, T = hal (x.data.toList.drop 1) := ⟨_, rfl⟩
  obtain ⟨c, hc⟩ : ∃ c, c = x[0] % 16 := ⟨_, rfl⟩
  obtain ⟨a, ha⟩ : ∃ a, a = x[0] / 16 := ⟨_, rfl⟩
  have hTl : T.length ≤ 200000 := by rw [hT, hal_len, List.length_drop, sizeB]; omega
  have hcn : c.toNat = (x[0]).toNat % 16 := by rw [hc, mod16]
  rw [← hT, ← hc, ← ha] at hh
  have h1 : unpS x.data.toList = ⟨#[]⟩ := by unfold unpS; rw [hu]; rfl
  have h2 : unpB x.data.toList = false := by unfold unpB; rw [hu]; rfl
  have h3 : unpE x.data.toList = 10 := by unfold unpE; rw [hu]; rfl
  rw [h1, h2, h3]
  have he : x.toList.isEmpty = false := notEmpty x (by omega)
  have hpi : (0 : Int) < x.size := by omega
  have hgi : ((x[0]).toNat : Int) / 16 = 2 := by omega
  obtain ⟨H, hH⟩ : ∃ H : ByteArray, H = ⟨(a :: c :: T).toArray⟩ := ⟨_, rfl⟩
  obtain ⟨R, hR⟩ : ∃ R : ByteArray, R = ⟨(c :: T).toArray⟩ := ⟨_, rfl⟩
  have hHs : H.size = T.length + 2 := by rw [hH]; rfl
  have hRs : R.size = T.length + 1 := by rw [hR]; rfl
  have hHR : H.extract 1 H.size = R := by rw [extract_drop, hH, hR]; rfl
  have hHR' : H.extract 1 (T.length + 2) = R := by rw [← hHs]; exact hHR
  have hRT : R.extract 1 R.size = ⟨T.toArray⟩ := by rw [extract_drop, hR]; rfl
  have hRT' : R.extract 1 (T.length + 1) = ⟨T.toArray⟩ := by rw [← hRs]; exact hRT
  have hHsi : (H.size : Int) = T.length + 2 := by omega
  have hRsi : (R.size : Int) = T.length + 1 := by omega
  have hRp : 0 < R.size := by omega
  have hR0 : (R[0]).toNat = (x[0]).toNat % 16 := by rw [← hcn]; subst hR; rfl
  have hR0i : ¬ ((R[0]).toNat : Int) = 0 := by omega
  have hR0n : ¬ (R[0]).toNat = 0 := by omega
  have HH : Hid (⟨(hal x.data.toList).toArray⟩ = H) := by simp only [Hid]; rw [hh, hH]
  have HG : Hid ((x[0]).toNat / 16 = 2) := hg
  have HR : Hid (R = ⟨(c :: T).toArray⟩) := hR
  clear h1 h2 h3 hu hg hh hT hc ha hcn hH hR hR0 hz
  go_enter Try.func14, Try.ntmps14
  go_wp2_with fail
  have hbc := box_cell w (.string x) 9
  have hB0 : Below w.heap.size w (w.alloc (.cells #[.string x] 9)) := (Below.refl _ _).alloc (Nat.le_refl _) _
  have hlt0 : w.heap.size < (w.alloc (.cells #[.string x] 9)).heap.size := (World.rowIs_alloc w #[.string x] 9 (fun _ => .string x) (fun i hi => by
    have : i < 1 := hi
    have : i = 0 := by omega
    subst this; rfl)).lt
  obtain ⟨b, hb⟩ : ∃ b, b = w.heap.size := ⟨_, rfl⟩
  rw [← hb] at hbc hlt0
  rw [← hb]
  refine (of_any x _ (by omega)).mono ?_
  generalize hw1 : w.alloc (.cells #[.string x] 9) = w1 at *
  rintro e w2 ⟨rfl, hB2⟩
  rw [HH.out]
  have hbc2 : w2.cell? ⟨b, 0, none⟩ = some (.string x) := by rw [hB2.cell hlt0]; exact hbc
  have hB3 : Below w.heap.size w w2 := hB0.trans (hB2.mono hB0.size)
  have HB : Hid (b = w.heap.size) := hb
  clear hw1 hbc hB0 hlt0 hB2 hb
  go_wp2_with fail
  refine (has_any b 2 1 x _ h HG.out (by omega) hbc2 false (by decide)).mono ?_
  rintro e w3 ⟨rfl, rfl⟩
  go_wp2_with fail
  go_ret3
  exact ⟨by rfl, hB3⟩

set_option maxRecDepth 4000 in
theorem unpack_3_odd (x : ByteArray) (w : World) (hx : x.size ≤ 100000) (h : 0 < x.size) (hg : (x[0]).toNat / 16 = 3) :
    Calls Try.prog 14 #[.string x] w fun e w' => e = .returned (.tuple #[.string (unpS x.data.toList), .bool (unpB x.data.toList), .int .i64 (unpE x.data.toList)]) ∧ Below w.heap.size w w' := by
  have hu : unp x.data.toList = some ((x[0] % 16) :: hal (x.data.toList.drop 1), true) := by
    rw [cons_of x h, unp, if_neg (by omega)]
    rw [if_pos (by omega), hg]
    rfl
  have hh : hal x.data.toList = (x[0] / 16) :: (x[0] % 16) :: hal (x.data.toList.drop 1) := by rw [cons_of x h, hal]; rfl
  obtain ⟨T, hT⟩ : ∃ T, T = hal (x.data.toList.drop 1) := ⟨_, rfl⟩
  obtain ⟨c, hc⟩ : ∃ c, c = x[0] % 16 := ⟨_, rfl⟩
  obtain ⟨a, ha⟩ : ∃ a, a = x[0] / 16 := ⟨_, rfl⟩
  have hTl : T.length ≤ 200000 := by rw [hT, hal_len, List.length_drop, sizeB]; omega
  have hcn : c.toNat = (x[0]).toNat % 16 := by rw [hc, mod16]
  rw [← hT, ← hc, ← ha] at hh
  rw [← hT, ← hc] at hu
  have h1 : unpS x.data.toList = ⟨(c :: T).toArray⟩ := by unfold unpS; rw [hu]; rfl
  have h2 : unpB x.data.toList = true := by unfold unpB; rw [hu]; rfl
  have h3 : unpE x.data.toList = 0 := by unfold unpE; rw [hu]; rfl
  rw [h1, h2, h3]
  have he : x.toList.isEmpty = false := notEmpty x (by omega)
  have hpi : (0 : Int) < x.size := by omega
  have hgi : ((x[0]).toNat : Int) / 16 = 3 := by omega
  obtain ⟨H, hH⟩ : ∃ H : ByteArray, H = ⟨(a :: c :: T).toArray⟩ := ⟨_, rfl⟩
  obtain ⟨R, hR⟩ : ∃ R : ByteArray, R = ⟨(c :: T).toArray⟩ := ⟨_, rfl⟩
  have hHs : H.size = T.length + 2 := by rw [hH]; rfl
  have hRs : R.size = T.length + 1 := by rw [hR]; rfl
  have hHR : H.extract 1 H.size = R := by rw [extract_drop, hH, hR]; rfl
  have hHR' : H.extract 1 (T.length + 2) = R := by rw [← hHs]; exact hHR
  have hRT : R.extract 1 R.size = ⟨T.toArray⟩ := by rw [extract_drop, hR]; rfl
  have hRT' : R.extract 1 (T.length + 1) = ⟨T.toArray⟩ := by rw [← hRs]; exact hRT
  have hHsi : (H.size : Int) = T.length + 2 := by omega
  have hRsi : (R.size : Int) = T.length + 1 := by omega
  have hRp : 0 < R.size := by omega
  have hR0 : (R[0]).toNat = (x[0]).toNat % 16 := by rw [← hcn]; subst hR; rfl
  have HH : Hid (⟨(hal x.data.toList).toArray⟩ = H) := by simp only [Hid]; rw [hh, hH]
  have HG : Hid ((x[0]).toNat / 16 = 3) := hg
  have HR : Hid (R = ⟨(c :: T).toArray⟩) := hR
  clear h1 h2 h3 hu hg hh hT hc ha hcn hH hR hR0 
  go_enter Try.func14, Try.ntmps14
  go_wp2_with fail
  have hbc := box_cell w (.string x) 9
  have hB0 : Below w.heap.size w (w.alloc (.cells #[.string x] 9)) := (Below.refl _ _).alloc (Nat.le_refl _) _
  have hlt0 : w.heap.size < (w.alloc (.cells #[.string x] 9)).heap.size := (World.rowIs_alloc w #[.string x] 9 (fun _ => .string x) (fun i hi => by
    have : i < 1 := hi
    have : i = 0 := by omega
    subst this; rfl)).lt
  obtain ⟨b, hb⟩ : ∃ b, b = w.heap.size := ⟨_, rfl⟩
  rw [← hb] at hbc hlt0
  rw [← hb]
  refine (of_any x _ (by omega)).mono ?_
  generalize hw1 : w.alloc (.cells #[.string x] 9) = w1 at *
  rintro e w2 ⟨rfl, hB2⟩
  rw [HH.out]
  have hbc2 : w2.cell? ⟨b, 0, none⟩ = some (.string x) := by rw [hB2.cell hlt0]; exact hbc
  have hB3 : Below w.heap.size w w2 := hB0.trans (hB2.mono hB0.size)
  have HB : Hid (b = w.heap.size) := hb
  clear hw1 hbc hB0 hlt0 hB2 hb
  go_wp2_with fail
  refine (has_any b 3 1 x _ h HG.out (by omega) hbc2 true (by decide)).mono ?_
  rintro e w3 ⟨rfl, rfl⟩
  go_wp2_with fail
  refine (has_any b 3 2 x _ h HG.out (by omega) hbc2 true (by decide)).mono ?_
  rintro e w4 ⟨rfl, rfl⟩
  go_wp2_with fail
  go_ret3
  exact ⟨by rw [HR.out]; rfl, hB3⟩

theorem unpack_any (x : ByteArray) (w : World) (hx : x.size ≤ 100000) :
    Calls Try.prog 14 #[.string x] w fun e w' => e = .returned (.tuple #[.string (unpS x.data.toList), .bool (unpB x.data.toList), .int .i64 (unpE x.data.toList)]) ∧ Below w.heap.size w w' := by
  by_cases h0 : x.size = 0
  · exact unpack_empty x w h0
  · have h : 0 < x.size := by omega
    by_cases hg : 3 < (x[0]).toNat / 16
    · exact unpack_great x w h hg
    · rcases (show (x[0]).toNat / 16 = 0 ∨ (x[0]).toNat / 16 = 1 ∨ (x[0]).toNat / 16 = 2 ∨ (x[0]).toNat / 16 = 3 by omega) with q | q | q | q
      · by_cases hz : (x[0]).toNat % 16 = 0
        · exact unpack_0_zero x w hx h q hz
        · exact unpack_0_bad x w hx h q hz
      · exact unpack_1_odd x w hx h q
      · by_cases hz : (x[0]).toNat % 16 = 0
        · exact unpack_2_zero x w hx h q hz
        · exact unpack_2_bad x w hx h q hz
      · exact unpack_3_odd x w hx h q
end Go.Proofs.Ytkkjkanlaldhcaa
