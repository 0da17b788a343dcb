/-
  RlpBack walked.
-/
import Derived.Test.YtikpmafmmjfioaaREncW
namespace Go.Proofs.Ytikpmafmmjfioaa
open Go Go.RowKit

def encE (o : Option (List UInt8)) : Int := if o.isSome then 0 else 1
theorem Encode_any (i : Row) (b : Bool) (s : List UInt8) (a : Option Addr) (c : Nat) (w : World) (hwt : 1 + s.length / 64 + i.wt ≤ 100000) (hl : Lies w (fun k => k < w.heap.size) i a) :
    Calls Try.prog 11 #[.agg #[.bool b, .string ⟨s.toArray⟩, .slice a i.len c]] w fun e w' => e = .returned (.tuple #[.string ⟨((encOne b s i 16).getD []).toArray⟩, .int .i64 (encE (encOne b s i 16))]) ∧ Below w.heap.size w w' := by
  have hc := fun w1 h => encode_any (i.sz + 1) i b s a c 1 w1 (Nat.lt_succ_self _) hwt (by omega) h
  have HC : Hid _ := hc
  have hB0 : Below w.heap.size w (w.alloc (.cells #[.bool b, .string ⟨s.toArray⟩, .slice a i.len c] 24)) := (Below.refl _ _).alloc (Nat.le_refl _) _
  have HL0 : Hid (Lies (w.alloc (.cells #[.bool b, .string ⟨s.toArray⟩, .slice a i.len c] 24)) (fun k => k < (w.alloc (.cells #[.bool b, .string ⟨s.toArray⟩, .slice a i.len c] 24)).heap.size) i a) :=
    (hl.kept fun j hj => hB0.block j hj).mono fun j hj => by rw [World.size_alloc]; omega
  have HB0 : Hid (Below w.heap.size w (w.alloc (.cells #[.bool b, .string ⟨s.toArray⟩, .slice a i.len c] 24))) := hB0
  clear hc hB0 hl
  go_enter Try.func11, Try.ntmps11
  go_wp2_with fail
  refine (HC.out _ HL0.out).mono ?_
  rintro e w2 ⟨rfl, h2⟩
  have hB := HB0.out.trans (h2.mono HB0.out.size)
  rw [show 17 - 1 = 16 from rfl]
  cases hen : encOne b s i 16 with
  | none =>
    have HEN : Hid (encOne b s i 16 = none) := hen
    clear hen
    unfold encV
    simp only [Option.getD_none, Option.isSome_none]
    go_wp2_with fail
    go_ret2
    exact ⟨by rw [HEN.out]; rfl, hB⟩
  | some x =>
    have HEN : Hid (encOne b s i 16 = some x) := hen
    clear hen
    unfold encV
    simp only [Option.getD_some, Option.isSome_some]
    go_wp2_with fail
    go_ret2
    exact ⟨by rw [HEN.out]; rfl, hB⟩

set_option maxRecDepth 8000 in
set_option maxHeartbeats 4000000 in
theorem rback_walk (b : Bool) (s : List UInt8) (i : Row) (a : Option Addr) (c : Nat) (x : ByteArray) (w : World) (hs : s.length ≤ 9223372036854775807) (hi : i.len ≤ 9223372036854775807) (hl : LiesU w (fun k => k < w.heap.size) i a) :
    Calls Try.prog 5 #[.agg #[.bool b, .string ⟨s.toArray⟩, .slice a i.len c], .string x] w fun e w' => e = .returned (.bool true) ∧ Below w.heap.size w w' := by
  obtain ⟨n, hn⟩ : ∃ n, n = w.heap.size := ⟨_, rfl⟩
  have HN : Hid (n = w.heap.size) := hn
  have hh : Holds (w.alloc (.cells #[.bool b, .string ⟨s.toArray⟩, .slice a i.len c] 24)) n 24 #[.bool b, .string ⟨s.toArray⟩, .slice a i.len c] := by rw [hn]; exact Holds.new _ _ _
  have hB0 : Below w.heap.size w (w.alloc (.cells #[.bool b, .string ⟨s.toArray⟩, .slice a i.len c] 24)) := (Below.refl _ _).alloc (Nat.le_refl _) _
  have H0 : Hid (Holds (w.alloc (.cells #[.bool b, .string ⟨s.toArray⟩, .slice a i.len c] 24)) n 24 #[.bool b, .string ⟨s.toArray⟩, .slice a i.len c] ∧ Below w.heap.size w (w.alloc (.cells #[.bool b, .string ⟨s.toArray⟩, .slice a i.len c] 24))) := ⟨hh, hB0⟩
  have HLU : Hid (LiesU w (fun k => k < w.heap.size) i a) := hl
  clear hn hh hB0 hl
  go_enter Try.func5, Try.ntmps5
  go_wp2_with fail
  refine (awake_any _).mono ?_
  rintro e v1 ⟨rfl, h1⟩
  have HB := H0.out.2.trans (h1.mono H0.out.2.size)
  have hh1 := below_holds h1 H0.out.1
  have c0 : v1.cell? ⟨n, 0, none⟩ = some (.bool b) := hh1.cell 0
  have c1 : v1.cell? ⟨n, 1, none⟩ = some (.string ⟨s.toArray⟩) := hh1.cell 1
  have c2 : v1.cell? ⟨n, 2, none⟩ = some (.slice a i.len c) := hh1.cell 2
  have HL1 : Hid (LiesU v1 (fun k => k < v1.heap.size) i a) := (HLU.out.kept fun j hj => HB.block j hj).mono fun j hj => by have := HB.size; omega
  rw [← HN.out]
  clear h1
  go_wp2_with fail
  refine (nodes_any (i.sz + 1) i b s a c 2000 v1 (Nat.lt_succ_self _) hs hi (Nat.le_refl _) HL1.out).mono ?_
  rintro e v2 ⟨⟨r, rfl, hr1, hr2⟩, h2⟩
  have hh2 := below_holds h2 hh1
  replace HB := HB.trans (h2.mono HB.size)
  clear c0 c1 c2 hh1
  by_cases hr : r ≤ 2000
  · have hri : ¬ (2000 : Int) < r := by omega
    by_cases hx : 5000 < x.size
    · have hxi : (5000 : Int) < x.size := by omega
      clear hr2
      go_wp2_with fail
      go_ret
      exact ⟨rfl, HB⟩
    · have hxi : ¬ (5000 : Int) < x.size := by omega
      have hwt := hr2 hr
      have hw2 : 1 + s.length / 64 + i.wt ≤ 2000 := by omega
      have HWT : Hid (1 + s.length / 64 + i.wt ≤ 2000) := hw2
      have HL2 : Hid (Lies v2 (fun k => k < v2.heap.size) i a) := ((HLU.out.kept fun j hj => HB.block j hj).mono fun j hj => by have := HB.size; omega).lies (by omega)
      have c0 : v2.cell? ⟨n, 0, none⟩ = some (.bool b) := hh2.cell 0
      have c1 : v2.cell? ⟨n, 1, none⟩ = some (.string ⟨s.toArray⟩) := hh2.cell 1
      have c2 : v2.cell? ⟨n, 2, none⟩ = some (.slice a i.len c) := hh2.cell 2
      clear hr2 hwt hw2 h2
      go_wp2_with fail
      refine (Encode_any i b s a c v2 (by have := HWT.out; omega) HL2.out).mono ?_
      rintro e v3 ⟨rfl, h3⟩
      have HB3 := HB.trans (h3.mono HB.size)
      have hh3 := below_holds h3 hh2
      clear c0 c1 c2
      cases hen : encOne b s i 16 with
      | none =>
        rw [show (⟨((none : Option (List UInt8)).getD []).toArray⟩ : ByteArray) = ⟨#[]⟩ from rfl, show encE none = 1 from rfl]
        have HBV := HB3
        clear hen
        go_wp2_with fail
        refine (decode_any x _ (by omega)).mono ?_
        rintro e vd ⟨he, hd⟩
        have HBD := HBV.trans (hd.mono HBV.size)
        cases hdx : decode x.data.toList with
        | none =>
          rw [hdx] at he
          obtain rfl : e = _ := he
          clear hdx
          go_wp2_with fail
          go_ret
          exact ⟨rfl, HBD.alloc HBD.size _⟩
        | some r2 =>
          obtain ⟨bb, ss, ii, rfl, _, _⟩ := decode_one hdx
          obtain ⟨hec, hwx⟩ := enc_decode hdx
          rw [hdx] at he
          obtain ⟨a3, c3, rfl, _, _, hl3⟩ := he
          have HEC : Hid (encOne bb ss ii 16 = some x.data.toList) := hec
          have HWX : Hid (1 + ss.length / 64 + ii.wt ≤ 100000) := by simp only [Hid]; rw [sizeB] at hwx; omega
          have hBz : Below vd.heap.size vd (vd.alloc (.cells #[.bool bb, .string ⟨ss.toArray⟩, .slice a3 ii.len c3] 24)) := (Below.refl _ _).alloc (Nat.le_refl _) _
          have HL3 : Hid (Lies (vd.alloc (.cells #[.bool bb, .string ⟨ss.toArray⟩, .slice a3 ii.len c3] 24)) (fun k => k < (vd.alloc (.cells #[.bool bb, .string ⟨ss.toArray⟩, .slice a3 ii.len c3] 24)).heap.size) ii a3) :=
            (hl3.kept fun j hj => hBz.block j hj.2).mono fun j hj => by rw [World.size_alloc]; have := hj.2; omega
          have HBZ := HBD.trans (hBz.mono HBD.size)
          clear hdx hec hwx hl3 hBz
          go_wp2_with fail
          refine (Encode_any ii bb ss a3 c3 _ HWX.out HL3.out).mono ?_
          rintro e ve ⟨rfl, h7⟩
          have HBE := HBZ.trans (h7.mono HBZ.size)
          rw [HEC.out, show (⟨((some x.data.toList).getD []).toArray⟩ : ByteArray) = x from by simp, show encE (some x.data.toList) = 0 from rfl]
          go_wp2_with fail
          go_ret
          exact ⟨rfl, HBE⟩
      | some y =>
        obtain ⟨Y, hY⟩ : ∃ Y : ByteArray, Y = ⟨y.toArray⟩ := ⟨_, rfl⟩
        have hdy : decode Y.data.toList = some (.item b s i .nil) := by rw [hY]; exact decode_enc HWT.out hen
        have hYs : Y.size ≤ 1000000 := by have h9 := encOne_len hen; have h8 := HWT.out; rw [hY]; show y.length ≤ _; omega
        have HDY : Hid (decode Y.data.toList = some (.item b s i .nil)) := hdy
        rw [show (⟨((some y).getD []).toArray⟩ : ByteArray) = ⟨y.toArray⟩ from rfl, show encE (some y) = 0 from rfl, ← hY]
        clear hen hY hdy
        go_wp2_with fail
        refine (decode_any Y _ hYs).mono ?_
        rintro e v4 ⟨he, h4⟩
        rw [HDY.out] at he
        obtain ⟨a1, c1', rfl, _, _, hl4⟩ := he
        have HB4 := HB3.trans (h4.mono HB3.size)
        have hh4 := below_holds h4 hh3
        have hBz : Below v4.heap.size v4 (v4.alloc (.cells #[.bool b, .string ⟨s.toArray⟩, .slice a1 i.len c1'] 24)) := (Below.refl _ _).alloc (Nat.le_refl _) _
        have hhz := below_holds hBz hh4
        have HBZ := HB4.trans (hBz.mono HB4.size)
        have c0 : (v4.alloc (.cells #[.bool b, .string ⟨s.toArray⟩, .slice a1 i.len c1'] 24)).cell? ⟨n, 0, none⟩ = some (.bool b) := hhz.cell 0
        have c1 : (v4.alloc (.cells #[.bool b, .string ⟨s.toArray⟩, .slice a1 i.len c1'] 24)).cell? ⟨n, 1, none⟩ = some (.string ⟨s.toArray⟩) := hhz.cell 1
        have c2 : (v4.alloc (.cells #[.bool b, .string ⟨s.toArray⟩, .slice a1 i.len c1'] 24)).cell? ⟨n, 2, none⟩ = some (.slice a i.len c) := hhz.cell 2
        have k0 : v4.cell? ⟨n, 0, none⟩ = some (.bool b) := hh4.cell 0
        have k1 : v4.cell? ⟨n, 1, none⟩ = some (.string ⟨s.toArray⟩) := hh4.cell 1
        have k2 : v4.cell? ⟨n, 2, none⟩ = some (.slice a i.len c) := hh4.cell 2
        have hnv : n < v4.heap.size := hh4.lt
        have HLB : Hid (Lies (v4.alloc (.cells #[.bool b, .string ⟨s.toArray⟩, .slice a1 i.len c1'] 24)) (fun k => k < (v4.alloc (.cells #[.bool b, .string ⟨s.toArray⟩, .slice a1 i.len c1'] 24)).heap.size) i a ∧
            Lies (v4.alloc (.cells #[.bool b, .string ⟨s.toArray⟩, .slice a1 i.len c1'] 24)) (fun k => k < (v4.alloc (.cells #[.bool b, .string ⟨s.toArray⟩, .slice a1 i.len c1'] 24)).heap.size) i a1) := by
          have h34 := (h3.trans (h4.mono h3.size)).trans (hBz.mono (h3.trans (h4.mono h3.size)).size)
          refine ⟨(HL2.out.kept fun j hj => h34.block j hj).mono fun j hj => by have := h34.size; omega, (hl4.kept fun j hj => hBz.block j hj.2).mono fun j hj => by rw [World.size_alloc]; have := hj.2; omega⟩
        have hil : i.len < 4611686018427387904 := by have := Row.len_le_wt i; have := HWT.out; omega
        clear h3 h4 hBz hl4 hh3 hhz
        go_wp2_with fail
        refine (same_any (i.sz + 1) i b s a a1 c c1' _ (Nat.lt_succ_self _) hil HLB.out.1 HLB.out.2).mono ?_
        rintro e v5 ⟨rfl, h5⟩
        have HBV := HBZ.trans (h5.mono HBZ.size)
        clear c0 c1 c2 k0 k1 k2 h5
        go_wp2_with fail
        refine (decode_any x _ (by omega)).mono ?_
        rintro e vd ⟨he, hd⟩
        have HBD := HBV.trans (hd.mono HBV.size)
        cases hdx : decode x.data.toList with
        | none =>
          rw [hdx] at he
          obtain rfl : e = _ := he
          clear hdx
          go_wp2_with fail
          go_ret
          exact ⟨rfl, HBD.alloc HBD.size _⟩
        | some r2 =>
          obtain ⟨bb, ss, ii, rfl, _, _⟩ := decode_one hdx
          obtain ⟨hec, hwx⟩ := enc_decode hdx
          rw [hdx] at he
          obtain ⟨a3, c3, rfl, _, _, hl3⟩ := he
          have HEC : Hid (encOne bb ss ii 16 = some x.data.toList) := hec
          have HWX : Hid (1 + ss.length / 64 + ii.wt ≤ 100000) := by simp only [Hid]; rw [sizeB] at hwx; omega
          have hBz : Below vd.heap.size vd (vd.alloc (.cells #[.bool bb, .string ⟨ss.toArray⟩, .slice a3 ii.len c3] 24)) := (Below.refl _ _).alloc (Nat.le_refl _) _
          have HL3 : Hid (Lies (vd.alloc (.cells #[.bool bb, .string ⟨ss.toArray⟩, .slice a3 ii.len c3] 24)) (fun k => k < (vd.alloc (.cells #[.bool bb, .string ⟨ss.toArray⟩, .slice a3 ii.len c3] 24)).heap.size) ii a3) :=
            (hl3.kept fun j hj => hBz.block j hj.2).mono fun j hj => by rw [World.size_alloc]; have := hj.2; omega
          have HBZ := HBD.trans (hBz.mono HBD.size)
          clear hdx hec hwx hl3 hBz
          go_wp2_with fail
          refine (Encode_any ii bb ss a3 c3 _ HWX.out HL3.out).mono ?_
          rintro e ve ⟨rfl, h7⟩
          have HBE := HBZ.trans (h7.mono HBZ.size)
          rw [HEC.out, show (⟨((some x.data.toList).getD []).toArray⟩ : ByteArray) = x from by simp, show encE (some x.data.toList) = 0 from rfl]
          go_wp2_with fail
          go_ret
          exact ⟨rfl, HBE⟩
  · have hri : (2000 : Int) < r := by omega
    clear hr2
    go_wp2_with fail
    go_ret
    exact ⟨rfl, HB⟩
end Go.Proofs.Ytikpmafmmjfioaa
