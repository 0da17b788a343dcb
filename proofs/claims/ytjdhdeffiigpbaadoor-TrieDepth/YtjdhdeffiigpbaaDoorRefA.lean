/-
  What the document's Right, Prefix, Less and Of do.
-/
import Derived.Test.YtjdhdeffiigpbaaDoorNOrd
import Derived.Test.YtjdhdeffiigpbaaDoorSharesBase
import Derived.Test.YtjdhdeffiigpbaaDoorPTail2
import Derived.Laws.AppendOwn
import Derived.Laws.OwnMore
import Derived.Lib.SmallJoins
namespace Go.Proofs.YtjdhdeffiigpbaaDoor.Nb
open Go Go.RowKit

theorem refRight_any (x : ByteArray) (w : World) (hx : x.size ≤ 9223372036854775807) :
    Calls Tryd.prog 50 #[.string x] w fun e w' => e = .returned (.bool (rightL x.data.toList)) ∧ w' = w := by
  go_enter Tryd.func50, Tryd.ntmps50
  go_wp2_with fail
  go_loopw [3] (fun y wr => ∃ k : Nat, k ≤ x.size ∧ y = .int .i64 k ∧ wr = w ∧ ∀ i (hi : i < x.size), i < k → (x[i]).toNat < 16) (fun y _ => x.size - (intOf y).toNat)
  case atStart => exact ⟨0, by omega, rfl, rfl, fun i _ h => by omega⟩
  case round =>
    obtain ⟨k, hk, rfl, rfl, hall⟩ := hrel
    by_cases hlt : k < x.size
    · have hki : (k : Int) < x.size := by omega
      have hk0 : (0 : Int) ≤ k := by omega
      by_cases hc : (x[k]).toNat < 16
      · have hci : ¬ (15 : Int) < (x[k]).toNat := by omega
        have HA : Hid (∀ i (hi : i < x.size), i < k → (x[i]).toNat < 16) := hall
        clear hall
        go_wp2_with fail
        go_roundw
        case rel =>
          refine ⟨k + 1, by omega, rfl, trivial, fun i hi h => ?_⟩
          by_cases e : i = k
          · subst e; exact hc
          · exact HA.out i hi (by omega)
        case measure => simp [intOf]; omega
      · have hci : (15 : Int) < (x[k]).toNat := by omega
        have hf := right_false x.data.toList k hlt (by rw [← getB x k hlt]; omega)
        have HF : Hid (rightL x.data.toList = false) := hf
        clear hall hf
        go_wp2_with fail
        go_ret
        exact ⟨by rw [HF.out]; rfl, rfl⟩
    · have hki : ¬ (k : Int) < x.size := by omega
      have hf := right_true x.data.toList (fun i hi => hall i hi (by have : i < x.size := hi; omega))
      have HF : Hid (rightL x.data.toList = true) := hf
      clear hall hf
      go_wp2_with fail
      go_ret
      exact ⟨by rw [HF.out]; rfl, rfl⟩

theorem refPrefix_drew (x y : ByteArray) (w : World) (hx : x.size ≤ 1000000) (hy : y.size ≤ 1000000) :
    Calls Tryd.prog 19 #[.string x, .string y] w fun e w' => e = .returned (.int .i64 (pre x.data.toList y.data.toList : Nat)) ∧ ∃ n, w' = w.drewN n := by
  go_enter Tryd.func19, Tryd.ntmps19
  go_wp2_with fail
  go_loopw [5] (fun z wr => ∃ k : Nat, k ≤ x.size ∧ k ≤ y.size ∧ z = .int .i64 k ∧ (∃ n, wr = w.drewN n) ∧ Hid (x.data.toList.take k = y.data.toList.take k)) (fun z _ => x.size - (intOf z).toNat)
  case atStart => exact ⟨0, by omega, by omega, rfl, ⟨0, rfl⟩, by simp [Hid]⟩
  case round =>
    obtain ⟨k, hkx, hky, rfl, ⟨nn, hB⟩, HT⟩ := hrel
    have hk0 : (0 : Int) ≤ k := by omega
    by_cases hlx : k < x.size
    · have hlxi : (k : Int) < x.size := by omega
      by_cases hly : k < y.size
      · have hlyi : (k : Int) < y.size := by omega
        by_cases he : (x[k]).toNat = (y[k]).toNat
        · have hei : ((x[k]).toNat : Int) = (y[k]).toNat := by omega
          have hee : (((x[k]).toNat : Int) == (y[k]).toNat) = true := by simpa using hei
          have HN : Hid (x.data.toList.take (k + 1) = y.data.toList.take (k + 1)) := take_more x y k hlx hly HT.out he
          go_wp2_with fail
          go_quiet (fail)
          go_wp2_with fail
          go_roundw
          case rel => exact ⟨k + 1, by omega, by omega, rfl, ⟨nn + nq, by first | rfl | (rw [hB]; simp; done) | simp⟩, HN⟩
          case measure => simp [intOf]; omega
        · have hei : ¬ ((x[k]).toNat : Int) = (y[k]).toNat := by omega
          have hee : (((x[k]).toNat : Int) == (y[k]).toNat) = false := by simpa using hei
          have HN : Hid (pre x.data.toList y.data.toList = k) := pre_stop x y k hlx hly HT.out he
          go_wp2_with fail
          go_quiet (fail)
          go_wp2_with fail
          go_ret
          exact ⟨by rw [HN.out]; rfl, nn + nq, by first | rfl | (rw [hB]; simp; done) | simp⟩
      · have hlyi : ¬ (k : Int) < y.size := by omega
        have hlyd : decide (k < y.size) = false := decide_eq_false hly
        have HN : Hid (pre x.data.toList y.data.toList = k) := pre_end x y k (by omega) (by omega) HT.out (by omega)
        go_wp2_with fail
        go_quiet (fail)
        go_wp2_with fail
        go_ret
        exact ⟨by rw [HN.out]; rfl, nn + nq, by first | rfl | (rw [hB]; simp; done) | simp⟩
    · have hlxi : ¬ (k : Int) < x.size := by omega
      have hlxd : decide (k < x.size) = false := decide_eq_false hlx
      have HN : Hid (pre x.data.toList y.data.toList = k) := pre_end x y k (by omega) (by omega) HT.out (by omega)
      go_wp2_with fail
      go_quiet (fail)
      go_wp2_with fail
      go_ret
      exact ⟨by rw [HN.out]; rfl, nn + nq, by first | rfl | (rw [hB]; simp; done) | simp⟩

theorem less_pre (x y : List UInt8) : less x y = if pre x y = y.length then false else if pre x y = x.length then true else decide ((x.getD (pre x y) 0).toNat < (y.getD (pre x y) 0).toNat) := by
  induction x generalizing y with
  | nil =>
    cases y with
    | nil => rfl
    | cons b y => simp [pre, less, Op.bytesLess]
  | cons a x ih =>
    cases y with
    | nil => rw [less_nil]; simp [pre]
    | cons b y =>
      rw [less_cons]
      unfold pre
      by_cases e : a = b
      · subst e
        rw [if_pos rfl, ih y]
        simp
      · have hne : ¬ a.toNat = b.toNat := fun q => e (UInt8.toNat_inj.1 q)
        rw [if_neg e]
        simp [hne]
end Go.Proofs.YtjdhdeffiigpbaaDoor.Nb
