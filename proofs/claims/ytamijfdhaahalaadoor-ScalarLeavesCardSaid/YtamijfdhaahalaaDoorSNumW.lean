/-
  What the calls of Trim, Right, Wide and Cmp do.
-/
import Derived.Test.YtamijfdhaahalaaDoorListW
import Derived.Test.YtamijfdhaahalaaDoorSRules
import Derived.Test.YtamijfdhaahalaaDoorPTail
namespace Go.Proofs.YtamijfdhaahalaaDoor
open Go Go.RowKit

theorem drewB {B : Nat} {a w : World} (h : Below B a w) (n : Nat) : Below B a (w.drewN n) := ⟨h.os, h.tape, h.output, h.size, h.block⟩

theorem trimB_trimL : ∀ l : List UInt8, Lib.trimLeftB l 0 = trimL l
  | [] => rfl
  | c :: l => by
    unfold trimL
    show (c :: l).dropWhile (· == 0) = _
    by_cases h : c = 0
    · subst h; rw [if_pos rfl, ← trimB_trimL l]; rfl
    · rw [if_neg h, List.dropWhile_cons_of_neg (by simpa using h)]

theorem trim_any (x : ByteArray) (w : World) :
    Calls Tryd.prog 16 #[.string x] w fun e w' => e = .returned (.string ⟨(trimL x.data.toList).toArray⟩) ∧ w' = w := by
  have h := Tryd.strings_TrimLeft_one x 0 (by decide) w
  rw [trimB_trimL] at h
  go_enter Tryd.func16, Tryd.ntmps16
  go_wp2_with fail
  refine h.mono ?_
  rintro e w1 ⟨rfl, rfl⟩
  go_wp2_with fail
  go_ret
  exact ⟨rfl, rfl⟩

theorem right_long {l : List UInt8} (h : 32 < l.length) : rightN l = false := by
  unfold rightN; rw [decide_eq_false (by omega)]; rfl
theorem right_nil : rightN [] = true := rfl
theorem right_zero {x : ByteArray} (hp : 0 < x.size) (h : (x[0]).toNat = 0) : rightN x.data.toList = false := by
  have e : x[0] = 0 := UInt8.toNat_inj.1 h
  rw [getB x 0 hp] at e
  cases hl : x.data.toList with
  | nil => rw [← sizeB, hl] at hp; simp at hp
  | cons c l =>
    simp only [hl, List.getElem_cons_zero] at e
    subst e
    unfold rightN
    have hne : ¬ trimL (0 :: l) = 0 :: l := by
      intro q
      have := trimL_head (0 :: l)
      rw [q] at this
      exact this rfl
    rw [decide_eq_false hne, Bool.and_false]
theorem right_pos {x : ByteArray} (h32 : ¬ 32 < x.size) (hp : 0 < x.size) (h : ¬ (x[0]).toNat = 0) : rightN x.data.toList = true := by
  rw [getB x 0 hp] at h
  refine (rightN_iff _).2 ⟨by rw [sizeB]; omega, trimL_of _ ?_⟩
  rw [List.head?_eq_getElem?, List.getElem?_eq_getElem (by exact hp)]
  intro e
  exact h (by rw [Option.some.inj e]; rfl)

theorem sright_any (x : ByteArray) (w : World) :
    Calls Tryd.prog 18 #[.string x] w fun e w' => e = .returned (.bool (rightN x.data.toList)) ∧ w' = w := by
  by_cases h32 : 32 < x.size
  · have h32i : ¬ (x.size : Int) ≤ 32 := by omega
    have hr : rightN x.data.toList = false := right_long (by rw [sizeB]; exact h32)
    go_enter Tryd.func18, Tryd.ntmps18
    go_wp2_with fail
    go_ret
    exact ⟨by first | rfl | (rw [hr]; rfl), rfl⟩
  · have h32i : (x.size : Int) ≤ 32 := by omega
    by_cases hp : 0 < x.size
    · have hpi : (0 : Int) < x.size := by omega
      have he : x.toList.isEmpty = false := notEmpty x (by omega)
      by_cases h : (x[0]).toNat = 0
      · have hr := right_zero hp h
        have hi : ((x[0]).toNat : Int) = 0 := by omega
        go_enter Tryd.func18, Tryd.ntmps18
        go_wp2_with fail
        go_ret
        exact ⟨by first | rfl | (rw [hr]; rfl), rfl⟩
      · have hr := right_pos h32 hp h
        have hi : ¬ ((x[0]).toNat : Int) = 0 := by omega
        go_enter Tryd.func18, Tryd.ntmps18
        go_wp2_with fail
        go_ret
        refine ⟨?_, rfl⟩
        rw [hr]
        show Ending.returned (Value.bool (((x[0]).toNat : Int) != 0)) = _
        simp
        omega
    · have he : x.toList.isEmpty = true := isEmpty0 x (by omega)
      have hr : rightN x.data.toList = true := by
        have : x.data.toList = [] := List.eq_nil_of_length_eq_zero (by rw [sizeB]; omega)
        rw [this]; rfl
      go_enter Tryd.func18, Tryd.ntmps18
      go_wp2_with fail
      go_ret
      exact ⟨by first | rfl | (rw [hr]; rfl), rfl⟩

def wideE (l : List UInt8) : Int := if (trimL l).length ≤ 32 then 0 else 11
def wideS (l : List UInt8) : List UInt8 := if (trimL l).length ≤ 32 then wideL l else []
theorem repeat_zeros : ∀ c, Lib.repeatL (⟨#[0]⟩ : ByteArray).data.toList c = List.replicate c 0
  | 0 => rfl
  | c + 1 => by rw [Lib.repeatL, repeat_zeros c]; rfl
set_option maxRecDepth 4000 in
theorem wide_any (x : ByteArray) (w : World) :
    Calls Tryd.prog 10 #[.string x] w fun e w' => e = .returned (.tuple #[.string ⟨(wideS x.data.toList).toArray⟩, .int .i64 (wideE x.data.toList)]) ∧ Below w.heap.size w w' := by
  obtain ⟨T, hT⟩ : ∃ T, T = trimL x.data.toList := ⟨_, rfl⟩
  have hts : (⟨T.toArray⟩ : ByteArray).size = T.length := rfl
  have HT : Hid (T = trimL x.data.toList) := hT
  by_cases h : T.length ≤ 32
  · have hi : ¬ (32 : Int) < T.length := by omega
    obtain ⟨m, hm⟩ : ∃ m, m = 32 - T.length := ⟨_, rfl⟩
    have hmi : (32 : Int) - T.length = (m : Int) := by omega
    have hS : wideS x.data.toList = List.replicate m 0 ++ T := by unfold wideS wideL; rw [← hT, if_pos h, ← hm]
    have hE : wideE x.data.toList = 0 := by unfold wideE; rw [← hT, if_pos h]
    have hrep := fun w => Tryd.strings_Repeat ⟨#[0]⟩ m w (by omega) (by show 1 * m ≤ _; omega)
    rw [repeat_zeros] at hrep
    have hap := strApp ⟨T.toArray⟩ (List.replicate m 0)
    rw [show (⟨T.toArray⟩ : ByteArray).data.toList = T from rfl] at hap
    have hrs : (⟨(List.replicate m (0 : UInt8)).toArray⟩ : ByteArray).size = m := by show (List.replicate m (0 : UInt8)).toArray.size = m; simp
    have HS : Hid (wideS x.data.toList = List.replicate m 0 ++ T) := hS
    have HE : Hid (wideE x.data.toList = 0) := hE
    have HR : Hid (∀ w, Calls Tryd.prog 31 #[.string ⟨#[0]⟩, .int .i64 m] w fun e w' => e = .returned (.string ⟨(List.replicate m 0).toArray⟩) ∧ Below w.heap.size w w') := hrep
    clear hS hE hT hm hrep
    generalize hz : List.replicate m (0 : UInt8) = Z at *
    go_enter Tryd.func10, Tryd.ntmps10
    go_wp2_with fail
    refine (trim_any x _).mono ?_
    rintro e w1 ⟨rfl, rfl⟩
    rw [← HT.out]
    go_wp2_with fail
    refine (HR.out _).mono ?_
    rintro e w2 ⟨rfl, hB⟩
    go_wp2_with fail
    go_ret2
    exact ⟨by rw [HS.out, HE.out]; rfl, hB⟩
  · have hi : (32 : Int) < T.length := by omega
    have hS : wideS x.data.toList = [] := by unfold wideS; rw [← hT, if_neg h]
    have hE : wideE x.data.toList = 11 := by unfold wideE; rw [← hT, if_neg h]
    clear hT
    go_enter Tryd.func10, Tryd.ntmps10
    go_wp2_with fail
    refine (trim_any x _).mono ?_
    rintro e w1 ⟨rfl, rfl⟩
    rw [← HT.out]
    go_wp2_with fail
    go_ret2
    exact ⟨by rw [hS, hE]; rfl, Below.refl _ _⟩

def cmpB (a b : List UInt8) : Int := if Op.bytesLess a b = true then -1 else if a = b then 0 else 1
theorem nan_any (x : ByteArray) (w : World) :
    Calls Tryd.prog 64 #[.string x] w fun e w' => e = .returned (.bool false) ∧ w' = w := by
  go_enter Tryd.func64, Tryd.ntmps64
  go_wp2_with fail
  go_ret
  exact ⟨by simp, rfl⟩
theorem cmpStr_any (x y : ByteArray) (w : World) :
    Calls Tryd.prog 37 #[.string x, .string y] w fun e w' => e = .returned (.int .i64 (cmpB x.data.toList y.data.toList)) ∧ w' = w := by
  unfold cmpB
  rw [← lb, ← lb]
  by_cases h1 : Op.bytesLess x.toList y.toList = true
  · go_enter Tryd.func37, Tryd.ntmps37
    go_wp2_with (first
      | (go_at_call 64; refine (nan_any _ _).mono ?_; rintro e w1 ⟨rfl, rfl⟩)
      | fail)
    go_ret
    exact ⟨by first | rfl | (rw [if_pos h1]; rfl), rfl⟩
  · have h1' : Op.bytesLess x.toList y.toList = false := by simpa using h1
    by_cases h2 : x.toList = y.toList
    · have h2' : (!x.toList == y.toList) = false := by rw [h2]; simp
      have H2 : Hid (x.toList = y.toList) := h2
      clear h2
      go_enter Tryd.func37, Tryd.ntmps37
      go_wp2_with (first
        | (go_at_call 64; refine (nan_any _ _).mono ?_; rintro e w1 ⟨rfl, rfl⟩)
        | fail)
      go_ret
      exact ⟨by first | rfl | (rw [if_neg h1, if_pos H2.out]; rfl), rfl⟩
    · have h2' : (!x.toList == y.toList) = true := by simpa using h2
      go_enter Tryd.func37, Tryd.ntmps37
      go_wp2_with (first
        | (go_at_call 64; refine (nan_any _ _).mono ?_; rintro e w1 ⟨rfl, rfl⟩)
        | fail)
      go_ret
      exact ⟨by first | rfl | (rw [if_neg h1, if_neg h2]; rfl), rfl⟩

/-- Held against each other: by their lengths, then as texts. -/
theorem cmpN_len {a b : List UInt8} (h : (trimL a).length ≠ (trimL b).length) : Lib.compareInt ((trimL a).length : Int) ((trimL b).length : Int) = cmpN (val a) (val b) := by
  rw [← trimL_val a, ← trimL_val b]
  unfold Lib.compareInt cmpN
  rcases Nat.lt_or_gt_of_ne h with q | q
  · rw [if_pos (by omega), if_pos (val_shorter _ _ (trimL_head b) q)]
  · have := val_shorter _ _ (trimL_head a) q
    rw [if_neg (by omega), if_pos (by omega), if_neg (by omega), if_pos this]
theorem cmpN_same {a b : List UInt8} (h : (trimL a).length = (trimL b).length) : cmpB (trimL a) (trimL b) = cmpN (val a) (val b) := by
  rw [← trimL_val a, ← trimL_val b]
  have hi : trimL a = trimL b ↔ val (trimL a) = val (trimL b) := ⟨fun e => by rw [e], fun e => val_inj _ _ (trimL_head a) (trimL_head b) e⟩
  unfold cmpB cmpN
  rw [bytesLess_val _ _ h]
  simp only [decide_eq_true_eq, hi]
  by_cases q : val (trimL a) < val (trimL b)
  · rw [if_pos q, if_pos q]
  · rw [if_neg q, if_neg q]
    by_cases r : val (trimL a) = val (trimL b)
    · rw [if_pos r, if_neg (by omega)]
    · rw [if_neg r, if_pos (by omega)]
theorem cmp_any (x y : ByteArray) (w : World) :
    Calls Tryd.prog 20 #[.string x, .string y] w fun e w' => e = .returned (.int .i64 (cmpN (val x.data.toList) (val y.data.toList))) ∧ w' = w := by
  obtain ⟨S, hS⟩ : ∃ S, S = trimL x.data.toList := ⟨_, rfl⟩
  obtain ⟨T, hT⟩ : ∃ T, T = trimL y.data.toList := ⟨_, rfl⟩
  have hts : (⟨T.toArray⟩ : ByteArray).size = T.length := rfl
  have hss : (⟨S.toArray⟩ : ByteArray).size = S.length := rfl
  have HT : Hid (T = trimL y.data.toList) := hT
  have HS : Hid (S = trimL x.data.toList) := hS
  by_cases h : S.length = T.length
  · have hi : (S.length : Int) = T.length := by omega
    have hc : cmpB S T = cmpN (val x.data.toList) (val y.data.toList) := by rw [hS, hT]; exact cmpN_same (by rw [← hS, ← hT]; exact h)
    have HC : Hid (cmpB S T = cmpN (val x.data.toList) (val y.data.toList)) := hc
    clear hS hT hc
    go_enter Tryd.func20, Tryd.ntmps20
    go_wp2_with fail
    refine (trim_any x _).mono ?_
    rintro e w1 ⟨rfl, rfl⟩
    rw [← HS.out]
    go_wp2_with fail
    refine (trim_any y _).mono ?_
    rintro e w2 ⟨rfl, rfl⟩
    rw [← HT.out]
    go_wp2_with fail
    refine (cmpStr_any _ _ _).mono ?_
    rintro e w3 ⟨rfl, rfl⟩
    rw [show (⟨S.toArray⟩ : ByteArray).data.toList = S from rfl, show (⟨T.toArray⟩ : ByteArray).data.toList = T from rfl, HC.out]
    go_wp2_with fail
    go_ret
    exact ⟨rfl, rfl⟩
  · have hi : ¬ (S.length : Int) = T.length := by omega
    have hc : Lib.compareInt (S.length : Int) (T.length : Int) = cmpN (val x.data.toList) (val y.data.toList) := by rw [hS, hT]; exact cmpN_len (by rw [← hS, ← hT]; exact h)
    have HC : Hid (Lib.compareInt (S.length : Int) (T.length : Int) = cmpN (val x.data.toList) (val y.data.toList)) := hc
    clear hS hT hc
    go_enter Tryd.func20, Tryd.ntmps20
    go_wp2_with fail
    refine (trim_any x _).mono ?_
    rintro e w1 ⟨rfl, rfl⟩
    rw [← HS.out]
    go_wp2_with fail
    refine (trim_any y _).mono ?_
    rintro e w2 ⟨rfl, rfl⟩
    rw [← HT.out]
    go_wp2_with fail
    refine (Tryd.cmp_Compare_int _ _ _).mono ?_
    rintro e w3 ⟨rfl, rfl⟩
    rw [HC.out]
    go_wp2_with fail
    go_ret
    exact ⟨rfl, rfl⟩
end Go.Proofs.YtamijfdhaahalaaDoor
