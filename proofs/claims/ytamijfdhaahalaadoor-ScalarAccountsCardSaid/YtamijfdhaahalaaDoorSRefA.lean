/-
  What the document's calls of Trim, Right, Wide and Cmp do.
-/
import Derived.Test.YtamijfdhaahalaaDoorSNumW
import Derived.Test.YtamijfdhaahalaaDoorSplitW
namespace Go.Proofs.YtamijfdhaahalaaDoor
open Go Go.RowKit

def sizeV : Value → Nat
  | .string x => x.size
  | _ => 0
theorem list1 (x : ByteArray) (hp : 0 < x.size) : ∃ c l, x.data.toList = c :: l ∧ x[0] = c ∧ (x.extract 1 x.size).data.toList = l := by
  cases hl : x.data.toList with
  | nil => rw [← sizeB, hl] at hp; simp at hp
  | cons c l =>
    refine ⟨c, l, rfl, ?_, ?_⟩
    · rw [getB x 0 hp]; simp [hl]
    · have h1 : l.length = x.size - 1 := by rw [← sizeB, hl]; simp
      rw [extract_str, hl]
      show ((l.take (x.size - 1)).toArray).toList = l
      rw [← h1, List.take_length]
theorem trim_zero {x : ByteArray} (hp : 0 < x.size) (h : (x[0]).toNat = 0) : trimL (x.extract 1 x.size).data.toList = trimL x.data.toList := by
  obtain ⟨c, l, h1, h2, h3⟩ := list1 x hp
  rw [h2] at h
  have : c = 0 := UInt8.toNat_inj.1 h
  subst this
  rw [h1, h3]
  conv => rhs; unfold trimL
  rw [if_pos rfl]
theorem trim_stop {x : ByteArray} (h : ∀ hp : 0 < x.size, ¬ (x[0]).toNat = 0) : trimL x.data.toList = x.data.toList := by
  by_cases hp : 0 < x.size
  · obtain ⟨c, l, h1, h2, _⟩ := list1 x hp
    have := h hp
    rw [h2] at this
    rw [h1]
    unfold trimL
    rw [if_neg (fun e => this (by rw [e]; rfl))]
  · rw [List.eq_nil_of_length_eq_zero (show x.data.toList.length = 0 by rw [sizeB]; omega)]
    rfl
theorem mk_lst (x : ByteArray) : (⟨x.data.toList.toArray⟩ : ByteArray) = x := by simp

theorem qtrim_any (x : ByteArray) (w : World) :
    Calls Tryd.prog 17 #[.string x] w fun e w' => e = .returned (.string ⟨(trimL x.data.toList).toArray⟩) ∧ w' = w := by
  obtain ⟨T, hT⟩ : ∃ T, trimL x.data.toList = T := ⟨_, rfl⟩
  rw [hT]
  have HT : Hid (trimL x.data.toList = T) := hT
  clear hT
  go_enter Tryd.func17, Tryd.ntmps17
  go_wp2_with fail
  go_loopw [0] (fun v wr => ∃ r : ByteArray, v = .string r ∧ wr = w ∧ trimL r.data.toList = T) (fun v _ => sizeV v)
  case atStart => exact ⟨x, rfl, rfl, HT.out⟩
  case round =>
    obtain ⟨r, rfl, rfl, ht⟩ := hrel
    have H2 : Hid (trimL r.data.toList = T) := ht
    clear ht
    by_cases hp : 0 < r.size
    · have hpi : (0 : Int) < r.size := by omega
      have hpi1 : (1 : Int) ≤ r.size := by omega
      have he : r.toList.isEmpty = false := notEmpty r (by omega)
      have hes : ¬ r = ByteArray.empty := by intro e; rw [e] at hp; exact absurd hp (by decide)
      by_cases h0 : (r[0]).toNat = 0
      · have h0i : ((r[0]).toNat : Int) = 0 := by omega
        have H3 : Hid (trimL (r.extract 1 r.size).data.toList = T) := (trim_zero hp h0).trans H2.out
        go_wp2_with fail
        go_roundw
        case rel => exact ⟨_, rfl, trivial, H3.out⟩
        case measure => show (r.extract 1 r.size).size < r.size; rw [ByteArray.size_extract]; omega
      · have h0i : ¬ ((r[0]).toNat : Int) = 0 := by omega
        have hb0 : (((r[0]).toNat : Int) == 0) = false := beq_eq_false_iff_ne.2 h0i
        have H3 : Hid (trimL r.data.toList = r.data.toList) := trim_stop (fun _ => h0)
        go_wp2_with fail
        go_ret
        refine ⟨?_, rfl⟩
        rw [← H2.out, H3.out, mk_lst]
        rfl
    · have hpi : ¬ (0 : Int) < r.size := by omega
      have H3 : Hid (trimL r.data.toList = r.data.toList) := trim_stop (fun h => absurd h hp)
      go_wp2_with fail
      go_ret
      refine ⟨?_, rfl⟩
      rw [← H2.out, H3.out, mk_lst]
      rfl

theorem eq_of_list {x y : ByteArray} (h : x.data.toList = y.data.toList) : x = y := by
  obtain ⟨⟨l⟩⟩ := x
  obtain ⟨⟨m⟩⟩ := y
  simp only at h
  rw [h]
theorem qright_any (x : ByteArray) (w : World) :
    Calls Tryd.prog 19 #[.string x] w fun e w' => e = .returned (.bool (rightN x.data.toList)) ∧ w' = w := by
  obtain ⟨R, hR⟩ : ∃ R, rightN x.data.toList = R := ⟨_, rfl⟩
  rw [hR]
  have HR : Hid (rightN x.data.toList = R) := hR
  clear hR
  by_cases h32 : x.size ≤ 32
  · have h32i : (x.size : Int) ≤ 32 := by omega
    obtain ⟨T, hT⟩ : ∃ T : ByteArray, ⟨(trimL x.data.toList).toArray⟩ = T := ⟨_, rfl⟩
    have HT : Hid ((⟨(trimL x.data.toList).toArray⟩ : ByteArray) = T) := hT
    obtain ⟨d, hd⟩ : ∃ d, (T.toList == x.toList) = d := ⟨_, rfl⟩
    have HD : Hid (R = d) := by
      unfold Hid
      rw [← HR.out, ← hd]
      unfold rightN
      rw [decide_eq_true (by rw [sizeB]; exact h32), Bool.true_and, lb, lb, ← hT, Bool.eq_iff_iff]
      simp
    clear hT
    go_enter Tryd.func19, Tryd.ntmps19
    go_wp2_with fail
    refine (qtrim_any x _).mono ?_
    rintro e w1 ⟨rfl, rfl⟩
    rw [HT.out]
    go_wp2_with fail
    go_ret
    exact ⟨by rw [HD.out]; rfl, rfl⟩
  · have h32i : ¬ (x.size : Int) ≤ 32 := by omega
    have HD : Hid (R = false) := by unfold Hid; rw [← HR.out]; exact right_long (by rw [sizeB]; omega)
    go_enter Tryd.func19, Tryd.ntmps19
    go_wp2_with fail
    go_ret
    exact ⟨by rw [HD.out]; rfl, rfl⟩

set_option maxRecDepth 4000 in
set_option maxHeartbeats 1000000 in
theorem qwide_any (x : ByteArray) (w : World) :
    Calls Tryd.prog 11 #[.string x] w fun e w' => e = .returned (.tuple #[.string ⟨(wideS x.data.toList).toArray⟩, .int .i64 (wideE x.data.toList)]) ∧ Below w.heap.size w w' := by
  obtain ⟨T, hT⟩ : ∃ T, T = trimL x.data.toList := ⟨_, rfl⟩
  have hts : (⟨T.toArray⟩ : ByteArray).size = T.length := rfl
  have HT : Hid (T = trimL x.data.toList) := hT
  by_cases h : T.length ≤ 32
  · have hi : ¬ (32 : Int) < T.length := by omega
    have hS : wideS x.data.toList = List.replicate (32 - T.length) 0 ++ T := by unfold wideS wideL; rw [← hT, if_pos h]
    have hE : wideE x.data.toList = 0 := by unfold wideE; rw [← hT, if_pos h]
    have hcv := fun w => convert_at w 0 0 rfl
    have HS : Hid (wideS x.data.toList = List.replicate (32 - T.length) 0 ++ T) := hS
    have HE : Hid (wideE x.data.toList = 0) := hE
    obtain ⟨S, hSS⟩ : ∃ S, wideS x.data.toList = S := ⟨_, rfl⟩
    rw [hSS, hE]
    have HSS : Hid (wideS x.data.toList = S) := hSS
    clear hS hE hT hSS
    go_enter Tryd.func11, Tryd.ntmps11
    go_wp2_with fail
    refine (qtrim_any x _).mono ?_
    rintro e w1 ⟨rfl, rfl⟩
    rw [← HT.out]
    go_wp2_with fail
    go_loopw [0] (fun v wr => ∃ (r : ByteArray) (k : Nat), v = .string r ∧ r.data.toList = List.replicate k 0 ++ T ∧ k + T.length ≤ 32 ∧ Below w1.heap.size w1 wr) (fun v _ => 32 - sizeV v)
    case atStart => exact ⟨_, 0, rfl, rfl, by omega, Below.refl _ _⟩
    case round =>
      obtain ⟨r, k, rfl, hrl, hk, hB⟩ := hrel
      have hrs : r.size = k + T.length := by rw [← sizeB, hrl]; simp
      by_cases hlt : r.size < 32
      · have hri : (r.size : Int) < 32 := by omega
        have hrb : r.size < 1000 := by omega
        have hap := strApp r [0]
        obtain ⟨r2, hr2⟩ : ∃ r2 : ByteArray, r2 = ⟨([0] ++ r.data.toList).toArray⟩ := ⟨_, rfl⟩
        rw [← hr2] at hap
        have hr2s : r2.size = r.size + 1 := by rw [hr2]; show ([0] ++ r.data.toList).toArray.size = _; rw [List.size_toArray, List.length_append, sizeB]; simp; omega
        have HR : Hid (r.data.toList = List.replicate k 0 ++ T ∧ r2 = ⟨([0] ++ r.data.toList).toArray⟩) := ⟨hrl, hr2⟩
        have hone : (⟨#[0]⟩ : ByteArray).size = 1 := rfl
        clear hrl hr2
        have hap' : (⟨#[0]⟩ : ByteArray) ++ r = r2 := hap
        clear hap
        go_wp2_with fail
        go_roundw
        case rel =>
          refine ⟨r2, k + 1, rfl, ?_, by omega, hB.alloc hB.size _⟩
          rw [HR.out.2]
          show 0 :: r.data.toList = _
          rw [HR.out.1]
          rfl
        case measure => show 32 - r2.size < 32 - r.size; omega
      · have hri : ¬ (r.size : Int) < 32 := by omega
        have HQ : Hid (r = ⟨S.toArray⟩) := by
          unfold Hid
          refine eq_of_list ?_
          rw [hrl, ← HSS.out, HS.out, show 32 - T.length = k by omega]
        clear hrl hrs hcv
        go_wp2_with fail
        go_ret2
        exact ⟨by rw [← HQ.out]; rfl, hB⟩
  · have hi : (32 : Int) < T.length := by omega
    have hS : wideS x.data.toList = [] := by unfold wideS; rw [← hT, if_neg h]
    have hE : wideE x.data.toList = 11 := by unfold wideE; rw [← hT, if_neg h]
    rw [hS, hE]
    clear hT hS hE
    go_enter Tryd.func11, Tryd.ntmps11
    go_wp2_with fail
    refine (qtrim_any x _).mono ?_
    rintro e w1 ⟨rfl, rfl⟩
    rw [← HT.out]
    go_wp2_with fail
    go_ret2
    exact ⟨rfl, Below.refl _ _⟩
end Go.Proofs.YtamijfdhaahalaaDoor
