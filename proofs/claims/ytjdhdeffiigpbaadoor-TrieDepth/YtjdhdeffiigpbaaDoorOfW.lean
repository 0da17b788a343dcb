/-
  What the calls of Of, Right, Prefix, Less and whole do.
-/
import Derived.Test.YtjdhdeffiigpbaaDoorNPure
namespace Go.Proofs.YtjdhdeffiigpbaaDoor.Nb
open Go Go.RowKit

theorem drewB {B : Nat} {a w : World} (h : Below B a w) (n : Nat) : Below B a (w.drewN n) := ⟨h.os, h.tape, h.output, h.size, h.block⟩

theorem right_any (x : ByteArray) (w : World) (hx : x.size ≤ 9223372036854775807) :
    Calls Tryd.prog 42 #[.string x] w fun e w' => e = .returned (.bool (rightL x.data.toList)) ∧ w' = w := by
  go_enter Tryd.func42, Tryd.ntmps42
  go_wp2_with fail
  go_loopw [6] (fun y wr => ∃ k : Nat, k ≤ x.size ∧ y = .int .i64 k ∧ wr = w ∧ ∀ i (hi : i < x.size), i < k → (x[i]).toNat < 16) (fun y _ => x.size - (intOf y).toNat)
  case atStart => exact ⟨0, by omega, rfl, rfl, fun i _ h => by omega⟩
  case round =>
    obtain ⟨k, hk, rfl, rfl, hall⟩ := hrel
    by_cases hlt : k < x.size
    · have hki : (k : Int) < x.size := by omega
      have hk0 : (0 : Int) ≤ k := by omega
      by_cases hc : (x[k]).toNat < 16
      · have hci : ¬ (16 : Int) ≤ (x[k]).toNat := by omega
        have HA : Hid (∀ i (hi : i < x.size), i < k → (x[i]).toNat < 16) := hall
        clear hall
        go_wp2_with fail
        go_roundw
        case rel =>
          refine ⟨k + 1, by omega, rfl, trivial, fun i hi h => ?_⟩
          by_cases e : i = k
          · subst e; exact hc
          · exact HA.out i hi (by omega)
        case measure => simp [intOf]; omega
      · have hci : (16 : Int) ≤ (x[k]).toNat := by omega
        have hf := right_false x.data.toList k hlt (by rw [← getB x k hlt]; omega)
        have HF : Hid (rightL x.data.toList = false) := hf
        clear hall hf
        go_wp2_with fail
        go_ret
        exact ⟨by rw [HF.out]; rfl, rfl⟩
    · have hki : ¬ (k : Int) < x.size := by omega
      have hf := right_true x.data.toList (fun i hi => hall i hi (by have : i < x.size := hi; omega))
      have HF : Hid (rightL x.data.toList = true) := hf
      clear hall hf
      go_wp2_with fail
      go_ret
      exact ⟨by rw [HF.out]; rfl, rfl⟩

theorem less_any (x y : ByteArray) (w : World) :
    Calls Tryd.prog 60 #[.string x, .string y] w fun e w' => e = .returned (.bool (Op.bytesLess x.data.toList y.data.toList)) ∧ w' = w := by
  rw [← lb, ← lb]
  go_enter Tryd.func60, Tryd.ntmps60
  go_wp2_with fail
  go_ret
  exact ⟨rfl, rfl⟩

theorem whole_any (b : Nat) (x y : Nat) (w : World) (hx : x < 16) (hy : y < 16) (h0 : w.cell? ⟨b, 0, none⟩ = some (.int .u8 (x : Int))) (h1 : w.cell? ⟨b, 1, none⟩ = some (.int .u8 (y : Int))) :
    Calls Tryd.prog 67 #[.slice (some ⟨b, 0, none⟩) 2 2] w fun e w' => e = .returned (.int .u8 ((x * 16 + y : Nat) : Int)) ∧ w' = w := by
  go_enter Tryd.func67, Tryd.ntmps67
  go_wp2_with fail
  go_loopw [3, 5, 8] (fun v u z wr => wr = w ∧ (v = .int .u8 0 ∧ z = .int .i64 0 ∨ v = .int .u8 (x : Int) ∧ z = .int .i64 1 ∨ v = .int .u8 ((x * 16 + y : Nat) : Int) ∧ z = .int .i64 2)) (fun _ _ z _ => 2 - (intOf z).toNat)
  case atStart => exact ⟨rfl, .inl ⟨rfl, rfl⟩⟩
  case round =>
    obtain ⟨rfl, h⟩ := hrel
    rcases h with ⟨rfl, rfl⟩ | ⟨rfl, rfl⟩ | ⟨rfl, rfl⟩
    · have hq : (x : Int) < 256 := by omega
      have hq0 : (0 : Int) ≤ x := by omega
      go_wp2_with fail
      go_roundw
      case rel => exact ⟨trivial, .inr (.inl ⟨by simp, rfl⟩)⟩
      case measure => simp [intOf]
    · have hq : (x : Int) * 16 + y < 256 := by omega
      have hq1 : (x : Int) * 16 < 256 := by omega
      have hq0 : (0 : Int) ≤ x := by omega
      have hq2 : (0 : Int) ≤ y := by omega
      have hq3 : (0 : Int) ≤ (x : Int) * 16 := by omega
      have hq4 : (0 : Int) ≤ (x : Int) * 16 + y := by omega
      go_wp2_with fail
      go_roundw
      case rel => exact ⟨trivial, .inr (.inr ⟨rfl, rfl⟩)⟩
      case measure => simp [intOf]
    · go_wp2_with fail
      go_ret
      exact ⟨rfl, rfl⟩

theorem take_more (x y : ByteArray) (k : Nat) (hx : k < x.size) (hy : k < y.size) (h : x.data.toList.take k = y.data.toList.take k) (he : (x[k]).toNat = (y[k]).toNat) :
    x.data.toList.take (k + 1) = y.data.toList.take (k + 1) := by
  rw [List.take_succ_eq_append_getElem (by exact hx), List.take_succ_eq_append_getElem (by exact hy), h, ← getB x k hx, ← getB y k hy, UInt8.toNat_inj.1 he]
theorem pre_stop (x y : ByteArray) (k : Nat) (hx : k < x.size) (hy : k < y.size) (h : x.data.toList.take k = y.data.toList.take k) (he : ¬ (x[k]).toNat = (y[k]).toNat) :
    pre x.data.toList y.data.toList = k := by
  refine pre_eq k _ _ (by rw [sizeB]; omega) (by rw [sizeB]; omega) h (.inr (.inr ?_))
  rw [List.getElem?_eq_getElem (by exact hx), List.getElem?_eq_getElem (by exact hy), ← getB x k hx, ← getB y k hy]
  intro e
  exact he (by rw [Option.some.inj e])
theorem pre_end (x y : ByteArray) (k : Nat) (hx : k ≤ x.size) (hy : k ≤ y.size) (h : x.data.toList.take k = y.data.toList.take k) (he : k = x.size ∨ k = y.size) :
    pre x.data.toList y.data.toList = k :=
  pre_eq k _ _ (by rw [sizeB]; omega) (by rw [sizeB]; omega) h (by rw [sizeB, sizeB]; omega)
theorem prefix_x (x y : ByteArray) (w : World) (hx : x.size ≤ 1000000) (hy : y.size ≤ 1000000) (h : ¬ y.size < x.size) :
    Calls Tryd.prog 39 #[.string x, .string y] w fun e w' => e = .returned (.int .i64 (pre x.data.toList y.data.toList : Nat)) ∧ ∃ n, w' = w.drewN n := by
  go_enter Tryd.func39, Tryd.ntmps39
  go_wp2_with fail
  go_loopw [13] (fun z wr => ∃ k : Nat, k ≤ x.size ∧ z = .int .i64 k ∧ (∃ n, wr = w.drewN n) ∧ Hid (x.data.toList.take k = y.data.toList.take k)) (fun z _ => x.size - (intOf z).toNat)
  case atStart => exact ⟨0, by omega, rfl, ⟨0, rfl⟩, by simp [Hid]⟩
  case round =>
    obtain ⟨k, hk, rfl, ⟨nn, hB⟩, HT⟩ := hrel
    by_cases hlt : k < x.size
    · have hki : (k : Int) < x.size := by omega
      have hkx : (k : Int) < x.size := by omega
      have hky : (k : Int) < y.size := by omega
      have hkx' : k < x.size := by omega
      have hky' : k < y.size := by omega
      have hk0 : (0 : Int) ≤ k := by omega
      go_wp2_with fail
      go_quiet (fail)
      by_cases he : (x[k]).toNat = (y[k]).toNat
      · have hei : ((x[k]).toNat : Int) = (y[k]).toNat := by omega
        have HN := take_more x y k hkx' hky' HT.out he
        have HN' : Hid (x.data.toList.take (k + 1) = y.data.toList.take (k + 1)) := HN
        clear HN
        go_wp2_with fail
        go_roundw
        case rel => exact ⟨k + 1, by omega, rfl, ⟨nn + nq, by simp⟩, HN'⟩
        case measure => simp [intOf]; omega
      · have hei : ¬ ((x[k]).toNat : Int) = (y[k]).toNat := by omega
        have HN : Hid (pre x.data.toList y.data.toList = k) := pre_stop x y k hkx' hky' HT.out he
        go_wp2_with fail
        go_ret
        exact ⟨by rw [HN.out]; rfl, ⟨nn + nq, by simp⟩⟩
    · have hki : ¬ (k : Int) < x.size := by omega
      have hkk : k = x.size := by omega
      have HN : Hid (pre x.data.toList y.data.toList = x.size) := hkk ▸ pre_end x y k (by omega) (by omega) HT.out (by omega)
      go_wp2_with fail
      go_ret
      exact ⟨by rw [HN.out]; rfl, nn, rfl⟩
theorem prefix_y (x y : ByteArray) (w : World) (hx : x.size ≤ 1000000) (hy : y.size ≤ 1000000) (h : y.size < x.size) :
    Calls Tryd.prog 39 #[.string x, .string y] w fun e w' => e = .returned (.int .i64 (pre x.data.toList y.data.toList : Nat)) ∧ ∃ n, w' = w.drewN n := by
  go_enter Tryd.func39, Tryd.ntmps39
  go_wp2_with fail
  go_loopw [13] (fun z wr => ∃ k : Nat, k ≤ y.size ∧ z = .int .i64 k ∧ (∃ n, wr = w.drewN n) ∧ Hid (x.data.toList.take k = y.data.toList.take k)) (fun z _ => y.size - (intOf z).toNat)
  case atStart => exact ⟨0, by omega, rfl, ⟨0, rfl⟩, by simp [Hid]⟩
  case round =>
    obtain ⟨k, hk, rfl, ⟨nn, hB⟩, HT⟩ := hrel
    by_cases hlt : k < y.size
    · have hki : (k : Int) < y.size := by omega
      have hkx : (k : Int) < x.size := by omega
      have hky : (k : Int) < y.size := by omega
      have hkx' : k < x.size := by omega
      have hky' : k < y.size := by omega
      have hk0 : (0 : Int) ≤ k := by omega
      go_wp2_with fail
      go_quiet (fail)
      by_cases he : (x[k]).toNat = (y[k]).toNat
      · have hei : ((x[k]).toNat : Int) = (y[k]).toNat := by omega
        have HN := take_more x y k hkx' hky' HT.out he
        have HN' : Hid (x.data.toList.take (k + 1) = y.data.toList.take (k + 1)) := HN
        clear HN
        go_wp2_with fail
        go_roundw
        case rel => exact ⟨k + 1, by omega, rfl, ⟨nn + nq, by simp⟩, HN'⟩
        case measure => simp [intOf]; omega
      · have hei : ¬ ((x[k]).toNat : Int) = (y[k]).toNat := by omega
        have HN : Hid (pre x.data.toList y.data.toList = k) := pre_stop x y k hkx' hky' HT.out he
        go_wp2_with fail
        go_ret
        exact ⟨by rw [HN.out]; rfl, ⟨nn + nq, by simp⟩⟩
    · have hki : ¬ (k : Int) < y.size := by omega
      have hkk : k = y.size := by omega
      have HN : Hid (pre x.data.toList y.data.toList = y.size) := hkk ▸ pre_end x y k (by omega) (by omega) HT.out (by omega)
      go_wp2_with fail
      go_ret
      exact ⟨by rw [HN.out]; rfl, nn, rfl⟩
theorem prefix_drew (x y : ByteArray) (w : World) (hx : x.size ≤ 1000000) (hy : y.size ≤ 1000000) (p : Nat) (hp : pre x.data.toList y.data.toList = p) :
    Calls Tryd.prog 39 #[.string x, .string y] w fun e w' => e = .returned (.int .i64 (p : Int)) ∧ ∃ n, w' = w.drewN n := by
  subst hp
  by_cases h : y.size < x.size
  · exact prefix_y x y w hx hy h
  · exact prefix_x x y w hx hy h
theorem prefix_any (x y : ByteArray) (w : World) (hx : x.size ≤ 1000000) (hy : y.size ≤ 1000000) :
    Calls Tryd.prog 39 #[.string x, .string y] w fun e w' => e = .returned (.int .i64 (pre x.data.toList y.data.toList : Nat)) ∧ Below w.heap.size w w' := by
  refine (prefix_drew x y w hx hy _ rfl).mono ?_
  rintro e w' ⟨rfl, n, rfl⟩
  exact ⟨rfl, drewB (Below.refl _ _) n⟩

theorem hal_at (x : ByteArray) (i : Nat) (h : i < x.size) : ((hal x.data.toList).getD (2 * i) 0).toNat = (x[i]).toNat / 16 ∧ ((hal x.data.toList).getD (2 * i + 1) 0).toNat = (x[i]).toNat % 16 := by
  rw [hal_even, hal_odd, getDB x i h, div16, mod16]; exact ⟨rfl, rfl⟩
end Go.Proofs.YtjdhdeffiigpbaaDoor.Nb
