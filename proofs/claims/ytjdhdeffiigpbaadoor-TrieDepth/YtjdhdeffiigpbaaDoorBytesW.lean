/-
  What the calls of Bytes do.
-/
import Derived.Test.YtjdhdeffiigpbaaDoorOfW
namespace Go.Proofs.YtjdhdeffiigpbaaDoor.Nb
open Go Go.RowKit

theorem cells2 (w : World) (a b : Value) (t : TypeId) : (w.alloc (.cells #[a, b] t)).cell? ⟨w.heap.size, 0, none⟩ = some a ∧ (w.alloc (.cells #[a, b] t)).cell? ⟨w.heap.size, 1, none⟩ = some b := by
  have h := World.rowIs_alloc w #[a, b] t (fun i => if i = 0 then a else b) (fun i hi => by
    have : i < 2 := hi
    rcases i with _ | _ | i
    · rfl
    · rfl
    · omega)
  exact ⟨h.cell (i := 0) (by simp), h.cell (i := 1) (by simp)⟩
theorem cells2d (w : World) (a b : Value) (t : TypeId) : (w.alloc (.cells #[a, b] t)).drew.cell? ⟨w.heap.size, 0, none⟩ = some a ∧ (w.alloc (.cells #[a, b] t)).drew.cell? ⟨w.heap.size, 1, none⟩ = some b := cells2 w a b t
theorem whL_nat (x : ByteArray) (i p q : Nat) (hp : p = 2 * i) (hq : q = 2 * i + 1) (hpm : p < x.size) (hqm : q < x.size) (hr : rightL x.data.toList = true) :
    (x[p]).toNat < 16 ∧ (x[q]).toNat < 16 ∧ ((whL x.data.toList).getD i 0).toNat = (x[p]).toNat * 16 + (x[q]).toNat := by
  have h1 := right_at _ hr p hpm
  have h2 := right_at _ hr q hqm
  rw [← getB x p hpm] at h1
  rw [← getB x q hqm] at h2
  refine ⟨h1, h2, ?_⟩
  rw [whL_at _ i (by rw [sizeB]; omega), ← hq, ← hp, getDB x p hpm, getDB x q hqm, whl_nat _ _ h1 h2]

set_option maxRecDepth 4000 in
theorem bytes_any (x : ByteArray) (w : World) (hx : x.size ≤ 1000000) :
    Calls Tryd.prog 66 #[.string x] w fun e w' => e = .returned (.tuple #[.string (bytS x.data.toList), .bool (bytB x.data.toList)]) ∧ Below w.heap.size w w' := by
  by_cases ho : x.size % 2 = 0
  · have hoi : ((x.size : Int).tmod 2) = 0 := by rw [Int.tmod_eq_emod_of_nonneg (by omega)]; omega
    have hoi' : ((x.size : Int) % 2) = 0 := by omega
    cases hr : rightL x.data.toList with
    | false =>
      have h1 : bytS x.data.toList = ⟨#[]⟩ := by unfold bytS; rw [hr]; rfl
      have h2 : bytB x.data.toList = false := by unfold bytB; rw [hr]; rfl
      rw [h1, h2]
      have HR : Hid (rightL x.data.toList = false) := hr
      clear hr h1 h2
      go_enter Tryd.func66, Tryd.ntmps66
      go_wp2_with fail
      refine (right_any x _ (by omega)).mono ?_
      rintro e w1 ⟨rfl, rfl⟩
      rw [HR.out]
      go_wp2_with fail
      go_ret2
      exact ⟨rfl, Below.refl _ _⟩
    | true =>
      have h1 : bytS x.data.toList = ⟨(whL x.data.toList).toArray⟩ := by unfold bytS; rw [hr, sizeB, ho]; rfl
      have h2 : bytB x.data.toList = true := by unfold bytB; rw [hr, sizeB, ho]; rfl
      rw [h1, h2]
      obtain ⟨m, hm⟩ : ∃ m, m = x.size / 2 := ⟨_, rfl⟩
      have hmi : (x.size : Int) / 2 = (m : Int) := by omega
      have hmk := run_make_row' (P := Tryd.prog) 57 5 (.int .u8 0) 1 underBytes info5 rfl .i64 .i64 m (by omega) (by omega)
      have HM : Hid (2 * m = x.size) := by simp only [Hid]; omega
      have HR : Hid (rightL x.data.toList = true) := hr
      clear hr h1 h2 hm
      go_enter Tryd.func66, Tryd.ntmps66
      go_wp2_with fail
      refine (right_any x _ (by omega)).mono ?_
      rintro e w1 ⟨rfl, rfl⟩
      rw [HR.out]
      go_wp2_with fail
      obtain ⟨b, hb⟩ : ∃ b, b = w1.heap.size := ⟨_, rfl⟩
      rw [← hb]
      have HB : Hid (b = w1.heap.size) := hb
      clear hb hmk hmi hoi hoi'
      go_loopw [21] (fun z wr => ∃ i : Nat, i ≤ m ∧ z = .int .i64 i ∧ Below w1.heap.size w1 wr ∧ wr.rowIs b 5 m (fun j => if j < i then .int .u8 (((whL x.data.toList).getD j 0).toNat : Int) else .int .u8 0)) (fun z _ => m - (intOf z).toNat)
      case atStart => exact ⟨0, by omega, rfl, (Below.refl _ _).alloc (Nat.le_refl _) _, by rw [HB.out]; exact (World.rowIs_made w1 _ m _).congr fun i hi => by simp⟩
      case round =>
        obtain ⟨i, hi, rfl, hB, hr⟩ := hrel
        by_cases hlt : i < m
        · have hii : (i : Int) < m := by omega
          have hi0 : (0 : Int) ≤ i := by omega
          obtain ⟨p, hp⟩ : ∃ p, p = 2 * i := ⟨_, rfl⟩
          obtain ⟨q, hq⟩ : ∃ q, q = 2 * i + 1 := ⟨_, rfl⟩
          have hm := HM.out
          have hpm' : p < x.size := by omega
          have hqm' : q < x.size := by omega
          have hpm : (p : Int) < x.size := by omega
          have hqm : (q : Int) < x.size := by omega
          have hpi : 2 * (i : Int) = p := by omega
          have hqi : (p : Int) + 1 = q := by omega
          have hp0 : (0 : Int) ≤ p := by omega
          have hq0 : (0 : Int) ≤ q := by omega
          have HP : Hid (p = 2 * i) := hp
          have HQ : Hid (q = 2 * i + 1) := hq
          clear hp hq hm
          go_wp2_with fail
          refine wp_region_ptail 11 mixedP (by kernel_rfl) (by decide) (by kernel_rfl) (by kernel_rfl) (fun _ _ _ d _ h => by cases d <;> exact h) ?_
          simp only [List.take_succ_cons, List.take_zero, List.drop_succ_cons, List.drop_zero]
          repeat (go_big_quiet_step (fail))
          refine wpQuiet_nil ?_
          go_wp2_with fail
          obtain ⟨h16p, h16q, hwn⟩ := whL_nat x i p q HP.out HQ.out hpm' hqm' HR.out
          have HW : Hid (((whL x.data.toList).getD i 0).toNat = (x[p]).toNat * 16 + (x[q]).toNat) := hwn
          clear hwn
          have hc2 := cells2d wr (.int .u8 (x[p]).toNat) (.int .u8 (x[q]).toNat) 5
          have hB2 : Below w1.heap.size w1 (wr.alloc (.cells #[.int .u8 (x[p]).toNat, .int .u8 (x[q]).toNat] 5)).drew := (hB.alloc hB.size _).drew
          have hr2 := (hr.alloc (.cells #[.int .u8 (x[p]).toNat, .int .u8 (x[q]).toNat] 5)).drew
          refine (whole_any wr.heap.size (x[p]).toNat (x[q]).toNat _ h16p h16q hc2.1 hc2.2).mono ?_
          clear hc2
          generalize hw2 : (wr.alloc (.cells #[.int .u8 (x[p]).toNat, .int .u8 (x[q]).toNat] 5)).drew = w2 at hB2 hr2 ⊢
          rintro e w3 ⟨rfl, rfl⟩
          have hci : w3.cell? ⟨b, i, none⟩ = some (.int .u8 0) := by have := hr2.cell (i := i) hlt; rwa [if_neg (by omega)] at this
          have hfi := hr2.frozen i
          have HR2 : Hid (w3.rowIs b 5 m (fun j => if j < i then .int .u8 (((whL x.data.toList).getD j 0).toNat : Int) else .int .u8 0)) := hr2
          clear hr2 hr hw2
          go_wp2_with fail
          go_roundw
          case rel =>
            refine ⟨i + 1, by omega, rfl, hB2.setCell (by have := HB.out; show _ ≤ b; omega) _, ?_⟩
            refine (HR2.out.set i _).congr fun j hj => ?_
            by_cases e : j = i
            · subst e
              rw [if_pos rfl, if_pos (by omega), HW.out]; simp
            · rw [if_neg e]
              by_cases q1 : j < i
              · rw [if_pos q1, if_pos (by omega)]
              · rw [if_neg q1, if_neg (by omega)]
          case measure => simp [intOf]; omega
        · have hii : ¬ (i : Int) < m := by omega
          have hik : i = m := by omega
          have hlen : (whL x.data.toList).length = m := by have := HM.out; rw [whL_len, sizeB]; omega
          have hcv := convert_row (l := whL x.data.toList) (cap := m) (w := wr) (b := b) (by
            rw [hlen]
            refine hr.congr fun j hj => ?_
            rw [if_pos (by omega)])
          rw [hlen] at hcv
          obtain ⟨S, hS⟩ : ∃ S, S = whL x.data.toList := ⟨_, rfl⟩
          rw [← hS] at hcv
          have HS : Hid (S = whL x.data.toList) := hS
          clear hr hS hlen
          go_wp2_with fail
          go_ret2
          exact ⟨by rw [HS.out]; rfl, hB⟩
  · have hoi : ¬ ((x.size : Int).tmod 2) = 0 := by rw [Int.tmod_eq_emod_of_nonneg (by omega)]; omega
    have hoi' : ((x.size : Int) % 2) = 1 := by omega
    have hl : (x.data.toList.length % 2 == 0) = false := by rw [sizeB]; simpa using ho
    have h1 : bytS x.data.toList = ⟨#[]⟩ := by unfold bytS; rw [hl, Bool.and_false]; rfl
    have h2 : bytB x.data.toList = false := by unfold bytB; rw [hl, Bool.and_false]
    rw [h1, h2]
    clear hl h1 h2
    go_enter Tryd.func66, Tryd.ntmps66
    go_wp2_with fail
    go_ret2
    exact ⟨rfl, Below.refl _ _⟩
end Go.Proofs.YtjdhdeffiigpbaaDoor.Nb
