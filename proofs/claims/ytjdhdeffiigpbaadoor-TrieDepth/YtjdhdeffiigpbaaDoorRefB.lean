/-
  What the document's Of and Bytes do.
-/
import Derived.Test.YtjdhdeffiigpbaaDoorRefA
import Derived.Lib.BufferRead
namespace Go.Proofs.YtjdhdeffiigpbaaDoor.Nb
open Go Go.RowKit

def vals (l : List UInt8) : List Value := l.map fun c => .int .u8 (c.toNat : Int)
theorem vals_len (l : List UInt8) : (vals l).length = l.length := by simp [vals]
theorem vals_append (l m : List UInt8) : vals (l ++ m) = vals l ++ vals m := by simp [vals]
theorem hal_append : ∀ l m : List UInt8, hal (l ++ m) = hal l ++ hal m
  | [], _ => rfl
  | c :: l, m => by rw [List.cons_append, hal, hal, hal_append l m]; rfl
theorem infoU8 : ∃ i, Tryd.prog.info? 5 = some i ∧ i.zero = some (.int .u8 0) ∧ i.size = 1 ∧ i.bytes = 1 := by
  have h := info5
  cases hi : Tryd.prog.info? 5 with
  | none => rw [hi] at h; cases h
  | some i =>
    rw [hi] at h
    simp only [Option.map_some, Option.some.injEq, Prod.mk.injEq] at h
    exact ⟨i, rfl, h.1, h.2.1, h.2.2⟩
theorem conv_owned {w : World} {base n : Nat} {v : Value} {l : List UInt8} (h : w.ownsRow base 5 1 v n (vals l)) : (convert 57 9 v).run Tryd.prog w = .ok (.string ⟨l.toArray⟩) w := by
  have hn : l.length = n := by have := h.1; rw [vals_len] at this; omega
  rcases h.2 with ⟨rfl, h0⟩ | ⟨g, cap, cur, rfl, hg, hb, hc, _, hs, ht⟩
  · have : l = [] := List.eq_nil_of_length_eq_zero (by omega)
    subst this
    exact _root_.Go.Lib.run_convert_nil_bytes w 57 9 5 0 underBytes (by kernel_rfl) (by kernel_rfl)
  · rw [← hn]
    refine run_convert_bytes_back w 57 9 5 ⟨g, 0, none⟩ cap l underBytes (by kernel_rfl) (by kernel_rfl) (fun j hj => ?_)
    rw [add_plain, Nat.zero_add]
    have h1 : (cur.toList.take (n * 1))[j]? = (vals l)[j]? := by rw [ht]
    rw [List.getElem?_take, if_pos (by omega), Array.getElem?_toList] at h1
    have h2 : (vals l)[j]? = some (.int .u8 (l[j].toNat : Int)) := by unfold vals; rw [List.getElem?_map, List.getElem?_eq_getElem hj]; rfl
    rw [h2] at h1
    simp [World.cell?, hb, h1]

theorem two_bytes (w : World) (a b : Value) (j : Nat) (u : Value) (h : [a, b][j]? = some u) : (w.alloc (.cells #[a, b] 5)).drew.cell? ((⟨w.heap.size, 0, none⟩ : Addr).add j) = some u := by
  have hc := cells2d w a b 5
  rw [add_plain, Nat.zero_add]
  match j, h with
  | 0, h => injection h with h; subst h; exact hc.1
  | 1, h => injection h with h; subst h; exact hc.2
  | j + 2, h => simp at h
theorem one_byte (w : World) (a : Value) (j : Nat) (u : Value) (h : [a][j]? = some u) : (w.alloc (.cells #[a] 5)).drew.cell? ((⟨w.heap.size, 0, none⟩ : Addr).add j) = some u := by
  rw [add_plain, Nat.zero_add]
  match j, h with
  | 0, h => injection h with h; subst h; exact (World.rowIs_alloc w #[a] 5 (fun _ => a) (fun i hi => by
      have : i < 1 := hi
      have : i = 0 := by omega
      subst this; rfl)).drew.cell (i := 0) (by simp)
  | j + 1, h => simp at h
theorem grownB {B : Nat} {w w1 w2 : World} {row : Option Nat} (h : Below B w w1) (g : w1.grownBy w2 row) (hB : B ≤ w1.heap.size) (hr : ∀ k, row = some k → B ≤ k) : Below B w w2 := h.grown g hB hr

set_option maxRecDepth 4000 in
theorem refOf_any (x : ByteArray) (w : World) (hx : x.size ≤ 1000000) :
    Calls Tryd.prog 17 #[.string x] w fun e w' => e = .returned (.string ⟨(hal x.data.toList).toArray⟩) ∧ Below w.heap.size w w' := by
  obtain ⟨i5, hi1, hi2, hi3, hi4⟩ := infoU8
  have HI : Hid (Tryd.prog.info? 5 = some i5 ∧ i5.zero = some (.int .u8 0) ∧ i5.size = 1 ∧ i5.bytes = 1) := ⟨hi1, hi2, hi3, hi4⟩
  clear hi1 hi2 hi3 hi4
  go_enter Tryd.func17, Tryd.ntmps17
  go_wp2_with fail
  go_loopw [3, 4] (fun s z wr => ∃ (k : Nat) (vl : Value), k ≤ x.size ∧ z = .int .i64 k ∧ s = vl ∧ Below w.heap.size w wr ∧ Hid (wr.ownsRow w.heap.size 5 1 vl (2 * k) (vals (hal (x.data.toList.take k))))) (fun _ z _ => x.size - (intOf z).toNat)
  case atStart => exact ⟨0, _, by omega, rfl, rfl, Below.refl _ _, World.ownsRow_nil _ _ _ _⟩
  case round =>
    obtain ⟨k, vl, hk, rfl, hvl, hB, OWN⟩ := hrel
    have hvl2 := hvl.symm
    clear hvl
    subst hvl2
    by_cases hlt : k < x.size
    · have hki : (k : Int) < x.size := by omega
      have hk0 : (0 : Int) ≤ k := by omega
      have hc := (x[k]).toNat_lt
      go_wp2_with fail
      refine wp_region_ptail 9 mixedP (by kernel_rfl) (by decide) (by kernel_rfl) (by kernel_rfl) (fun _ _ _ d _ h => by cases d <;> exact h) ?_
      simp only [List.take_succ_cons, List.take_zero, List.drop_succ_cons, List.drop_zero]
      repeat (go_big_quiet_step (fail))
      refine wpQuiet_nil ?_
      go_wp2_with (first
        | (refine wpList_append_own _ rfl _ _ 57 rfl w.heap.size 5 i5 (.int .u8 0) 1 1 underBytes HI.out.1 HI.out.2.1 HI.out.2.2.1 HI.out.2.2.2 rfl (by omega) vl (2 * k) (vals (hal (x.data.toList.take k))) rfl (show (wr.alloc _).drew.ownsRow _ _ _ _ _ _ from World.ownsRow.alloc OWN.out _) ⟨wr.heap.size, 0, none⟩ 2 2 [.int .u8 (((x[k]).toNat : Int) / 16), .int .u8 (((x[k]).toNat : Int) % 16)] rfl rfl (two_bytes wr _ _) (by intro u hu; simp at hu; rcases hu with rfl | rfl <;> rfl) (by unfold maxLen; omega) (by omega) (show w.heap.size ≤ (wr.alloc _).heap.size by rw [World.size_alloc]; have := hB.size; omega) ?_
           intro v3 w3 own3 gr3 _)
        | fail)
      have hst : vals (hal (x.data.toList.take (k + 1))) = vals (hal (x.data.toList.take k)) ++ [.int .u8 (((x[k]).toNat : Int) / 16), .int .u8 (((x[k]).toNat : Int) % 16)] := by
        rw [List.take_succ_eq_append_getElem (by exact hlt), hal_append, vals_append, ← getB x k hlt]
        congr 1
      have hr3 : ∀ q, vl.ownBlock = some q → w.heap.size ≤ q := fun q hq => (OWN.out.lt q hq).1
      refine ⟨⟨k + 1, v3, by omega, by congr 1, rfl, grownB (hB.alloc hB.size _).drew gr3 (show w.heap.size ≤ (wr.alloc _).heap.size by rw [World.size_alloc]; have := hB.size; omega) hr3, ?_⟩, ?_⟩
      · show w3.ownsRow _ _ _ _ _ _
        rw [hst]; exact own3
      · simp [intOf]; omega
    · have hki : ¬ (k : Int) < x.size := by omega
      have hkk : k = x.size := by omega
      have hcv := conv_owned OWN.out
      rw [show x.data.toList.take k = x.data.toList by rw [hkk, ← sizeB, List.take_length]] at hcv
      obtain ⟨S, hS⟩ : ∃ S, S = hal x.data.toList := ⟨_, rfl⟩
      rw [← hS] at hcv
      have HS : Hid (S = hal x.data.toList) := hS
      clear hS OWN
      go_wp2_with fail
      go_ret
      exact ⟨by rw [HS.out]; rfl, hB⟩

theorem whL_append : ∀ (l m : List UInt8), l.length % 2 = 0 → whL (l ++ m) = whL l ++ whL m
  | [], _, _ => rfl
  | [_], _, h => by simp at h
  | a :: b :: l, m, h => by rw [List.cons_append, List.cons_append, whL, whL, whL_append l m (by simp at h; omega)]; rfl

set_option maxRecDepth 4000 in
theorem refBytes_any (x : ByteArray) (w : World) (hx : x.size ≤ 1000000) :
    Calls Tryd.prog 51 #[.string x] w fun e w' => e = .returned (.tuple #[.string (bytS x.data.toList), .bool (bytB x.data.toList)]) ∧ Below w.heap.size w w' := by
  cases hr : rightL x.data.toList with
  | false =>
    have h1 : bytS x.data.toList = ⟨#[]⟩ := by unfold bytS; rw [hr]; rfl
    have h2 : bytB x.data.toList = false := by unfold bytB; rw [hr]; rfl
    rw [h1, h2]
    have HR : Hid (rightL x.data.toList = false) := hr
    clear hr h1 h2
    go_enter Tryd.func51, Tryd.ntmps51
    go_wp2_with fail
    refine (refRight_any x _ (by omega)).mono ?_
    rintro e w1 ⟨rfl, rfl⟩
    rw [HR.out]
    go_wp2_with fail
    go_ret2
    exact ⟨rfl, Below.refl _ _⟩
  | true =>
    by_cases ho : x.size % 2 = 0
    · have hoi : ((x.size : Int).tmod 2) = 0 := by rw [Int.tmod_eq_emod_of_nonneg (by omega)]; omega
      have hoi' : ((x.size : Int) % 2) = 0 := by omega
      have h1 : bytS x.data.toList = ⟨(whL x.data.toList).toArray⟩ := by unfold bytS; rw [hr, sizeB, ho]; rfl
      have h2 : bytB x.data.toList = true := by unfold bytB; rw [hr, sizeB, ho]; rfl
      rw [h1, h2]
      have HR : Hid (rightL x.data.toList = true) := hr
      have HO : Hid (x.size % 2 = 0) := ho
      obtain ⟨i5, hi1, hi2, hi3, hi4⟩ := infoU8
      have HI : Hid (Tryd.prog.info? 5 = some i5 ∧ i5.zero = some (.int .u8 0) ∧ i5.size = 1 ∧ i5.bytes = 1) := ⟨hi1, hi2, hi3, hi4⟩
      clear hi1 hi2 hi3 hi4 hr h1 h2 ho
      go_enter Tryd.func51, Tryd.ntmps51
      go_wp2_with fail
      refine (refRight_any x _ (by omega)).mono ?_
      rintro e w1 ⟨rfl, rfl⟩
      rw [HR.out]
      go_wp2_with fail
      clear hoi hoi'
      go_loopw [5, 6] (fun s z wr => ∃ (k j : Nat) (vl : Value), j ≤ x.size ∧ Hid (j = 2 * k) ∧ z = .int .i64 j ∧ s = vl ∧ Below w1.heap.size w1 wr ∧ Hid (wr.ownsRow w1.heap.size 5 1 vl k (vals (whL (x.data.toList.take j))))) (fun _ z _ => x.size - (intOf z).toNat)
      case atStart => exact ⟨0, 0, _, by omega, rfl, rfl, rfl, Below.refl _ _, World.ownsRow_nil _ _ _ _⟩
      case round =>
        obtain ⟨k, j, vl, hk, HJ, rfl, hvl, hB, OWN⟩ := hrel
        have hvl2 := hvl.symm
        clear hvl
        subst hvl2
        by_cases hlt : j < x.size
        · have hki : (j : Int) < x.size := by omega
          have hk0 : (0 : Int) ≤ j := by omega
          have hj1 : j + 1 < x.size := by have := HJ.out; have := HO.out; omega
          obtain ⟨q, hq⟩ : ∃ q, q = j + 1 := ⟨_, rfl⟩
          have hqi : (j : Int) + 1 = q := by omega
          have hqx : (q : Int) < x.size := by omega
          have hqx' : q < x.size := by omega
          have hq0 : (0 : Int) ≤ q := by omega
          obtain ⟨h16j, h16q, hwn⟩ := whL_nat x k j q HJ.out (by have := HJ.out; omega) hlt hqx' HR.out
          have h5 : ((x[j]).toNat : Int) * 16 < 256 := by omega
          have h6 : ((x[j]).toNat : Int) * 16 + (x[q]).toNat < 256 := by omega
          have HW : Hid (((whL x.data.toList).getD k 0).toNat = (x[j]).toNat * 16 + (x[q]).toNat) := hwn
          have HQ : Hid (q = j + 1) := hq
          clear hwn hq hj1
          go_wp2_with fail
          refine wp_region_ptail 10 mixedP (by kernel_rfl) (by decide) (by kernel_rfl) (by kernel_rfl) (fun _ _ _ d _ h => by cases d <;> exact h) ?_
          simp only [List.take_succ_cons, List.take_zero, List.drop_succ_cons, List.drop_zero]
          repeat (go_big_quiet_step (fail))
          refine wpQuiet_nil ?_
          go_wp2_with (first
            | (refine wpList_append_own _ rfl _ _ 57 rfl w1.heap.size 5 i5 (.int .u8 0) 1 1 underBytes HI.out.1 HI.out.2.1 HI.out.2.2.1 HI.out.2.2.2 rfl (by omega) vl k (vals (whL (x.data.toList.take j))) rfl (show (wr.alloc _).drew.ownsRow _ _ _ _ _ _ from World.ownsRow.alloc OWN.out _) ⟨wr.heap.size, 0, none⟩ 1 1 [.int .u8 (((x[j]).toNat : Int) * 16 + (x[q]).toNat)] rfl rfl (one_byte wr _) (by intro u hu; simp at hu; subst hu; rfl) (by have := HJ.out; unfold maxLen; omega) (by have := HJ.out; omega) (show w1.heap.size ≤ (wr.alloc _).heap.size by rw [World.size_alloc]; have := hB.size; omega) ?_
               intro v3 w3 own3 gr3 _)
            | fail)
          have hst : vals (whL (x.data.toList.take (j + 2))) = vals (whL (x.data.toList.take j)) ++ [.int .u8 (((x[j]).toNat : Int) * 16 + (x[q]).toNat)] := by
            have hq := HQ.out
            have e1 : x.data.toList.take (j + 2) = x.data.toList.take j ++ [x[j], x[q]] := by
              rw [show j + 2 = j + 1 + 1 from rfl, List.take_succ_eq_append_getElem (by rw [sizeB]; omega), List.take_succ_eq_append_getElem (by exact hlt), List.append_assoc]
              subst hq
              rfl
            rw [e1, whL_append _ _ (by rw [List.length_take, sizeB]; have := HJ.out; omega), vals_append]
            congr 1
            show [Value.int .u8 ((whl x[j] x[q]).toNat : Int)] = _
            rw [whl_nat _ _ h16j h16q]
            rfl
          have hr3 : ∀ q, vl.ownBlock = some q → w1.heap.size ≤ q := fun q hq => (OWN.out.lt q hq).1
          refine ⟨⟨k + 1, j + 2, v3, by have := HQ.out; omega, by simp only [Hid]; have := HJ.out; omega, by congr 1, rfl, grownB (hB.alloc hB.size _).drew gr3 (show w1.heap.size ≤ (wr.alloc _).heap.size by rw [World.size_alloc]; have := hB.size; omega) hr3, ?_⟩, ?_⟩
          · show w3.ownsRow _ _ _ _ _ _
            rw [hst]; exact own3
          · simp [intOf]; omega
        · have hki : ¬ (j : Int) < x.size := by omega
          have hkk : j = x.size := by omega
          have hcv := conv_owned OWN.out
          rw [show x.data.toList.take j = x.data.toList by rw [hkk, ← sizeB, List.take_length]] at hcv
          obtain ⟨S, hS⟩ : ∃ S, S = whL x.data.toList := ⟨_, rfl⟩
          rw [← hS] at hcv
          have HS : Hid (S = whL x.data.toList) := hS
          clear hS OWN
          go_wp2_with fail
          go_ret2
          exact ⟨by rw [HS.out]; rfl, hB⟩
    · have hoi : ¬ ((x.size : Int).tmod 2) = 0 := by rw [Int.tmod_eq_emod_of_nonneg (by omega)]; omega
      have hoi' : ((x.size : Int) % 2) = 1 := by omega
      have hl : (x.data.toList.length % 2 == 0) = false := by rw [sizeB]; simpa using ho
      have h1 : bytS x.data.toList = ⟨#[]⟩ := by unfold bytS; rw [hl, Bool.and_false]; rfl
      have h2 : bytB x.data.toList = false := by unfold bytB; rw [hl, Bool.and_false]
      rw [h1, h2]
      have HR : Hid (rightL x.data.toList = true) := hr
      clear hl h1 h2 hr
      go_enter Tryd.func51, Tryd.ntmps51
      go_wp2_with fail
      refine (refRight_any x _ (by omega)).mono ?_
      rintro e w1 ⟨rfl, rfl⟩
      rw [HR.out]
      go_wp2_with fail
      go_ret2
      exact ⟨rfl, Below.refl _ _⟩
end Go.Proofs.YtjdhdeffiigpbaaDoor.Nb
