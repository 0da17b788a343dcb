/-
  What the document's Right, Prefix, Less and Of do.
-/
import Derived.Test.YtkkjkanlaldhcaaNOrd
import Derived.Test.YtkkjkanlaldhcaaSharesBase
import Derived.Test.YtkkjkanlaldhcaaPTail2
import Derived.Laws.AppendOwn
import Derived.Laws.OwnMore
import Derived.Lib.SmallJoins
namespace Go.Proofs.Ytkkjkanlaldhcaa
open Go Go.RowKit

theorem refRight_any (x : ByteArray) (w : World) (hx : x.size ≤ 9223372036854775807) :
    Calls Try.prog 21 #[.string x] w fun e w' => e = .returned (.bool (rightL x.data.toList)) ∧ w' = w := by
  go_enter Try.func21, Try.ntmps21
  go_wp2_with fail
  go_loopw [3] (fun y wr => ∃ k : Nat, k ≤ x.size ∧ y = .int .i64 k ∧ wr = w ∧ ∀ i (hi : i < x.size), i < k → (x[i]).toNat < 16) (fun y _ => x.size - (intOf y).toNat)
  case atStart => exact ⟨0, by omega, rfl, rfl, fun i _ h => by omega⟩
  case round =>
    obtain ⟨k, hk, rfl, rfl, hall⟩ := hrel
    by_cases hlt : k < x.size
    · have hki : (k : Int) < x.size := by omega
      have hk0 : (0 : Int) ≤ k := by omega
      by_cases hc : (x[k]).toNat < 16
      · have hci : ¬ (15 : Int) < (x[k]).toNat := by omega
        have HA : Hid (∀ i (hi : i < x.size), i < k → (x[i]).toNat < 16) := hall
        clear hall
        go_wp2_with fail
        go_roundw
        case rel =>
          refine ⟨k + 1, by omega, rfl, trivial, fun i hi h => ?_⟩
          by_cases e : i = k
          · subst e; exact hc
          · exact HA.out i hi (by omega)
        case measure => simp [intOf]; omega
      · have hci : (15 : Int) < (x[k]).toNat := by omega
        have hf := right_false x.data.toList k hlt (by rw [← getB x k hlt]; omega)
        have HF : Hid (rightL x.data.toList = false) := hf
        clear hall hf
        go_wp2_with fail
        go_ret
        exact ⟨by rw [HF.out]; rfl, rfl⟩
    · have hki : ¬ (k : Int) < x.size := by omega
      have hf := right_true x.data.toList (fun i hi => hall i hi (by have : i < x.size := hi; omega))
      have HF : Hid (rightL x.data.toList = true) := hf
      clear hall hf
      go_wp2_with fail
      go_ret
      exact ⟨by rw [HF.out]; rfl, rfl⟩

theorem refPrefix_drew (x y : ByteArray) (w : World) (hx : x.size ≤ 1000000) (hy : y.size ≤ 1000000) :
    Calls Try.prog 23 #[.string x, .string y] w fun e w' => e = .returned (.int .i64 (pre x.data.toList y.data.toList : Nat)) ∧ ∃ n, w' = w.drewN n := by
  go_enter Try.func23, Try.ntmps23
  go_wp2_with fail
  go_loopw [5] (fun z wr => ∃ k : Nat, k ≤ x.size ∧ k ≤ y.size ∧ z = .int .i64 k ∧ (∃ n, wr = w.drewN n) ∧ Hid (x.data.toList.take k = y.data.toList.take k)) (fun z _ => x.size - (intOf z).toNat)
  case atStart => exact ⟨0, by omega, by omega, rfl, ⟨0, rfl⟩, by simp [Hid]⟩
  case round =>
    obtain ⟨k, hkx, hky, rfl, ⟨nn, hB⟩, HT⟩ := hrel
    have hk0 : (0 : Int) ≤ k := by omega
    by_cases hlx : k < x.size
    · have hlxi : (k : Int) < x.size := by omega
      by_cases hly : k < y.size
      · have hlyi : (k : Int) < y.size := by omega
        by_cases he : (x[k]).toNat = (y[k]).toNat
        · have hei : ((x[k]).toNat : Int) = (y[k]).toNat := by omega
          have hee : (((x[k]).toNat : Int) == (y[k]).toNat) = true := by simpa using hei
          have HN : Hid (x.data.toList.take (k + 1) = y.data.toList.take (k + 1)) := take_more x y k hlx hly HT.out he
          go_wp2_with fail
          go_quiet (fail)
          go_wp2_with fail
          go_roundw
          case rel => exact ⟨k + 1, by omega, by omega, rfl, ⟨nn + nq, by first | rfl | (rw [hB]; simp; done) | simp⟩, HN⟩
          case measure => simp [intOf]; omega
        · have hei : ¬ ((x[k]).toNat : Int) = (y[k]).toNat := by omega
          have hee : (((x[k]).toNat : Int) == (y[k]).toNat) = false := by simpa using hei
          have HN : Hid (pre x.data.toList y.data.toList = k) := pre_stop x y k hlx hly HT.out he
          go_wp2_with fail
          go_quiet (fail)
          go_wp2_with fail
          go_ret
          exact ⟨by rw [HN.out]; rfl, nn + nq, by first | rfl | (rw [hB]; simp; done) | simp⟩
      · have hlyi : ¬ (k : Int) < y.size := by omega
        have hlyd : decide (k < y.size) = false := decide_eq_false hly
        have HN : Hid (pre x.data.toList y.data.toList = k) := pre_end x y k (by omega) (by omega) HT.out (by omega)
        go_wp2_with fail
        go_quiet (fail)
        go_wp2_with fail
        go_ret
        exact ⟨by rw [HN.out]; rfl, nn + nq, by first | rfl | (rw [hB]; simp; done) | simp⟩
    · have hlxi : ¬ (k : Int) < x.size := by omega
      have hlxd : decide (k < x.size) = false := decide_eq_false hlx
      have HN : Hid (pre x.data.toList y.data.toList = k) := pre_end x y k (by omega) (by omega) HT.out (by omega)
      go_wp2_with fail
      go_quiet (fail)
      go_wp2_with fail
      go_ret
      exact ⟨by rw [HN.out]; rfl, nn + nq, by first | rfl | (rw [hB]; simp; done) | simp⟩

theorem less_pre (x y : List UInt8) : less x y = if pre x y = y.length then false else if pre x y = x.length then true else decide ((x.getD (pre x y) 0).toNat < (y.getD (pre x y) 0).toNat) := by
  induction x generalizing y with
  | nil =>
    cases y with
    | nil => rfl
    | cons b y => simp [pre, less, Op.bytesLess]
  | cons a x ih =>
    cases y with
    | nil => rw [less_nil]; simp [pre]
    | cons b y =>
      rw [less_cons]
      unfold pre
      by_cases e : a = b
      · subst e
        rw [if_pos rfl, ih y]
        simp
      · have hne : ¬ a.toNat = b.toNat := fun q => e (UInt8.toNat_inj.1 q)
        rw [if_neg e]
        simp [hne]
theorem refLess_any (x y : ByteArray) (w : World) (hx : x.size ≤ 1000000) (hy : y.size ≤ 1000000) :
    Calls Try.prog 25 #[.string x, .string y] w fun e w' => e = .returned (.bool (Op.bytesLess x.data.toList y.data.toList)) ∧ Below w.heap.size w w' := by
  have hl := less_pre x.data.toList y.data.toList
  have hle := pre_le x.data.toList y.data.toList
  rw [sizeB, sizeB] at hl hle
  obtain ⟨p, hp⟩ : ∃ p, pre x.data.toList y.data.toList = p := ⟨_, rfl⟩
  rw [hp] at hl hle
  have HP : Hid (pre x.data.toList y.data.toList = p) := hp
  clear hp
  by_cases h1 : p = y.size
  · have h1i : (p : Int) = y.size := by omega
    rw [if_pos h1] at hl
    have HL : Hid (Op.bytesLess x.data.toList y.data.toList = false) := hl
    clear hl hle
    go_enter Try.func25, Try.ntmps25
    go_wp2_with fail
    refine (refPrefix_drew x y _ hx hy).mono ?_
    rintro e v1 ⟨rfl, n, rfl⟩
    rw [HP.out]
    go_wp2_with fail
    go_ret
    exact ⟨by rw [HL.out]; rfl, drewB (Below.refl _ _) n⟩
  · have h1i : ¬ (p : Int) = y.size := by omega
    rw [if_neg h1] at hl
    by_cases h2 : p = x.size
    · rw [if_pos h2] at hl
      have HL : Hid (Op.bytesLess x.data.toList y.data.toList = true) := hl
      have h2i : (p : Int) = x.size := by omega
      have h2b : ((p : Int) == x.size) = true := by simpa using h2i
      clear hl hle
      go_enter Try.func25, Try.ntmps25
      go_wp2_with fail
      refine (refPrefix_drew x y _ hx hy).mono ?_
      rintro e v1 ⟨rfl, n, rfl⟩
      rw [HP.out]
      go_wp2_with fail
      go_quiet (fail)
      go_wp2_with fail
      go_ret
      exact ⟨by rw [HL.out]; first | rfl | simp, drewB (drewB (Below.refl _ _) n) nq⟩
    · have hpx : p < x.size := by omega
      have hpy : p < y.size := by omega
      rw [if_neg h2, getDB x p hpx, getDB y p hpy] at hl
      have HL : Hid (Op.bytesLess x.data.toList y.data.toList = decide ((x[p]).toNat < (y[p]).toNat)) := hl
      have h2i : ¬ (p : Int) = x.size := by omega
      have h2b : ((p : Int) == x.size) = false := by simpa using h2i
      have h2c : (p == x.size) = false := by simpa using h2
      have hpxi : (p : Int) < x.size := by omega
      have hpyi : (p : Int) < y.size := by omega
      have hp0 : (0 : Int) ≤ p := by omega
      clear hl hle
      go_enter Try.func25, Try.ntmps25
      go_wp2_with fail
      refine (refPrefix_drew x y _ hx hy).mono ?_
      rintro e v1 ⟨rfl, n, rfl⟩
      rw [HP.out]
      go_wp2_with fail
      go_quiet (fail)
      go_wp2_with fail
      go_ret
      exact ⟨by rw [HL.out]; first | rfl | simp, drewB (drewB (Below.refl _ _) n) nq⟩
end Go.Proofs.Ytkkjkanlaldhcaa
