/-
  ScalarOrder walked.
-/
import Derived.Test.YtamijfdhaahalaaDoorAwake4
namespace Go.Proofs.YtamijfdhaahalaaDoor
open Go Go.RowKit

def OrderGoal (s t : ByteArray) (w : World) : Prop :=
    Calls Tryd.prog 7 #[.string s, .string t] w fun e w' => e = .returned (.bool true) ∧ Below w.heap.size w w'
theorem mk_list (x : ByteArray) : (⟨x.data.toList.toArray⟩ : ByteArray) = x := by simp
theorem list_ne {x y : ByteArray} (h : x ≠ y) : (x.toList == y.toList) = false := by
  rw [lb, lb]
  refine beq_eq_false_iff_ne.2 fun e => h ?_
  rw [← mk_list x, ← mk_list y, e]
theorem cut_size (x : ByteArray) (n : Nat) (h : n < x.size) : (x.extract 0 n).size = n := by rw [ByteArray.size_extract]; omega
/-- What the calls answer at two texts of 32 bytes at most. -/
structure OrderAt (A B X Y T : ByteArray) (c : Int) : Prop where
  x : wideS A.data.toList = X.data.toList
  xe : wideE A.data.toList = 0
  y : wideS B.data.toList = Y.data.toList
  ye : wideE B.data.toList = 0
  xs : X.size = 32
  ys : Y.size = 32
  k : cmpN (val A.data.toList) (val B.data.toList) = c
  l : Op.bytesLess X.toList Y.toList = decide (c < 0)
  i : c = 0 ↔ X = Y
  t1 : trimL X.data.toList = T.data.toList
  t2 : trimL A.data.toList = T.data.toList
  r : rightN T.data.toList = true
  z : cmpN (val X.data.toList) (val A.data.toList) = 0
theorem orderAt (A B : ByteArray) (ha : A.size ≤ 32) (hb : B.size ≤ 32) : ∃ X Y T c, OrderAt A B X Y T c := by
  have ha' : A.data.toList.length ≤ 32 := by rw [sizeB]; exact ha
  have hb' : B.data.toList.length ≤ 32 := by rw [sizeB]; exact hb
  obtain ⟨h1, h2, h3, h4, h5, h6, h7⟩ := order_wide ha' hb'
  have ta := Nat.le_trans (trimL_len A.data.toList) ha'
  have tb := Nat.le_trans (trimL_len B.data.toList) hb'
  refine ⟨⟨(wideL A.data.toList).toArray⟩, ⟨(wideL B.data.toList).toArray⟩, ⟨(trimL A.data.toList).toArray⟩, _, ?_, ?_, ?_, ?_, ?_, ?_, rfl, ?_, ?_, ?_, rfl, h6, h7⟩
  · unfold wideS; rw [if_pos ta]
  · unfold wideE; rw [if_pos ta]
  · unfold wideS; rw [if_pos tb]
  · unfold wideE; rw [if_pos tb]
  · show (wideL A.data.toList).toArray.size = 32; simpa using h1
  · show (wideL B.data.toList).toArray.size = 32; simpa using h2
  · rw [lb, lb]; exact h3.symm
  · refine h4.trans ⟨fun e => by rw [e], fun e => ?_⟩
    have := congrArg (fun z : ByteArray => z.data.toList) e
    simpa using this
  · exact h5

set_option maxRecDepth 8000 in
set_option maxHeartbeats 4000000 in
theorem order_ccl (s t : ByteArray) (w : World) (hs :  32 < s.size) (ht :  32 < t.size) (A B X Y T : ByteArray) (c : Int) (hA : s.extract 0 32 = A) (hB : t.extract 0 32 = B) (h : OrderAt A B X Y T c) (hc : c < 0) : OrderGoal s t w := by
  unfold OrderGoal
  have hsi :  (32 : Int) < s.size := by omega
  have hti :  (32 : Int) < t.size := by omega
  have hl := h.l
  have hi := h.i
  have hxs : (X.size : Int) = 32 := by have := h.xs; omega
  have hys : (Y.size : Int) = 32 := by have := h.ys; omega
  have HA : Hid (s.extract 0 32 = A ∧ t.extract 0 32 = B) := ⟨hA, hB⟩
  have HR : Hid (OrderAt A B X Y T c) := h
  rw [decide_eq_true hc] at hl
  have hxl := list_ne (fun e => (by have := hi.2 e; omega : X ≠ Y) e)
  have hc0 : ¬ c = 0 := by omega
  have hcb : (c == 0) = false := beq_eq_false_iff_ne.2 hc0
  have hcd : decide (c < 0) = true := decide_eq_true hc
  clear hA hB h hi
  go_enter Tryd.func7, Tryd.ntmps7
  go_wp2_with fail
  refine (awake_any _).mono ?_
  rintro e w1 ⟨rfl, hB⟩
  go_wp2_with fail
  rw [HA.out.1]
  refine (wide_any A _).mono ?_
  rintro e w2 ⟨rfl, h2⟩
  rw [HR.out.x, HR.out.xe, mk_list]
  replace hB := hB.trans (h2.mono hB.size)
  clear h2
  go_wp2_with fail
  rw [HA.out.2]
  refine (wide_any B _).mono ?_
  rintro e w2 ⟨rfl, h2⟩
  rw [HR.out.y, HR.out.ye, mk_list]
  replace hB := hB.trans (h2.mono hB.size)
  clear h2
  go_wp2_with fail
  refine (cmp_any A B _).mono ?_
  rintro e w3 ⟨rfl, rfl⟩
  rw [HR.out.k]
  go_wp2_with fail
  refine (trim_any X _).mono ?_
  rintro e w3 ⟨rfl, rfl⟩
  rw [HR.out.t1, mk_list]
  go_wp2_with fail
  refine (trim_any A _).mono ?_
  rintro e w3 ⟨rfl, rfl⟩
  rw [HR.out.t2, mk_list]
  go_wp2_with fail
  refine (trim_any A _).mono ?_
  rintro e w3 ⟨rfl, rfl⟩
  rw [HR.out.t2, mk_list]
  go_wp2_with fail
  refine (sright_any T _).mono ?_
  rintro e w3 ⟨rfl, rfl⟩
  rw [HR.out.r]
  go_wp2_with fail
  refine (cmp_any X A _).mono ?_
  rintro e w3 ⟨rfl, rfl⟩
  rw [HR.out.z]
  go_wp2_with fail
  go_ret
  exact ⟨rfl, hB⟩

set_option maxRecDepth 8000 in
set_option maxHeartbeats 4000000 in
theorem order_cce (s t : ByteArray) (w : World) (hs :  32 < s.size) (ht :  32 < t.size) (A B X Y T : ByteArray) (c : Int) (hA : s.extract 0 32 = A) (hB : t.extract 0 32 = B) (h : OrderAt A B X Y T c) (hc : c = 0) : OrderGoal s t w := by
  unfold OrderGoal
  have hsi :  (32 : Int) < s.size := by omega
  have hti :  (32 : Int) < t.size := by omega
  have hl := h.l
  have hi := h.i
  have hxs : (X.size : Int) = 32 := by have := h.xs; omega
  have hys : (Y.size : Int) = 32 := by have := h.ys; omega
  have HA : Hid (s.extract 0 32 = A ∧ t.extract 0 32 = B) := ⟨hA, hB⟩
  have HR : Hid (OrderAt A B X Y T c) := h
  have hxy : X = Y := hi.1 hc
  subst hc
  have hxl : (X.toList == Y.toList) = true := by rw [hxy]; exact beq_self_eq_true _
  rw [decide_eq_false (by omega)] at hl
  clear hxy
  clear hA hB h hi
  go_enter Tryd.func7, Tryd.ntmps7
  go_wp2_with fail
  refine (awake_any _).mono ?_
  rintro e w1 ⟨rfl, hB⟩
  go_wp2_with fail
  rw [HA.out.1]
  refine (wide_any A _).mono ?_
  rintro e w2 ⟨rfl, h2⟩
  rw [HR.out.x, HR.out.xe, mk_list]
  replace hB := hB.trans (h2.mono hB.size)
  clear h2
  go_wp2_with fail
  rw [HA.out.2]
  refine (wide_any B _).mono ?_
  rintro e w2 ⟨rfl, h2⟩
  rw [HR.out.y, HR.out.ye, mk_list]
  replace hB := hB.trans (h2.mono hB.size)
  clear h2
  go_wp2_with fail
  refine (cmp_any A B _).mono ?_
  rintro e w3 ⟨rfl, rfl⟩
  rw [HR.out.k]
  go_wp2_with fail
  refine (trim_any X _).mono ?_
  rintro e w3 ⟨rfl, rfl⟩
  rw [HR.out.t1, mk_list]
  go_wp2_with fail
  refine (trim_any A _).mono ?_
  rintro e w3 ⟨rfl, rfl⟩
  rw [HR.out.t2, mk_list]
  go_wp2_with fail
  refine (trim_any A _).mono ?_
  rintro e w3 ⟨rfl, rfl⟩
  rw [HR.out.t2, mk_list]
  go_wp2_with fail
  refine (sright_any T _).mono ?_
  rintro e w3 ⟨rfl, rfl⟩
  rw [HR.out.r]
  go_wp2_with fail
  refine (cmp_any X A _).mono ?_
  rintro e w3 ⟨rfl, rfl⟩
  rw [HR.out.z]
  go_wp2_with fail
  go_ret
  exact ⟨rfl, hB⟩

set_option maxRecDepth 8000 in
set_option maxHeartbeats 4000000 in
theorem order_ccg (s t : ByteArray) (w : World) (hs :  32 < s.size) (ht :  32 < t.size) (A B X Y T : ByteArray) (c : Int) (hA : s.extract 0 32 = A) (hB : t.extract 0 32 = B) (h : OrderAt A B X Y T c) (hc : 0 < c) : OrderGoal s t w := by
  unfold OrderGoal
  have hsi :  (32 : Int) < s.size := by omega
  have hti :  (32 : Int) < t.size := by omega
  have hl := h.l
  have hi := h.i
  have hxs : (X.size : Int) = 32 := by have := h.xs; omega
  have hys : (Y.size : Int) = 32 := by have := h.ys; omega
  have HA : Hid (s.extract 0 32 = A ∧ t.extract 0 32 = B) := ⟨hA, hB⟩
  have HR : Hid (OrderAt A B X Y T c) := h
  rw [decide_eq_false (by omega)] at hl
  have hxl := list_ne (fun e => (by have := hi.2 e; omega : X ≠ Y) e)
  have hc0 : ¬ c = 0 := by omega
  have hcb : (c == 0) = false := beq_eq_false_iff_ne.2 hc0
  have hcd : decide (c < 0) = false := decide_eq_false (by omega)
  clear hA hB h hi
  go_enter Tryd.func7, Tryd.ntmps7
  go_wp2_with fail
  refine (awake_any _).mono ?_
  rintro e w1 ⟨rfl, hB⟩
  go_wp2_with fail
  rw [HA.out.1]
  refine (wide_any A _).mono ?_
  rintro e w2 ⟨rfl, h2⟩
  rw [HR.out.x, HR.out.xe, mk_list]
  replace hB := hB.trans (h2.mono hB.size)
  clear h2
  go_wp2_with fail
  rw [HA.out.2]
  refine (wide_any B _).mono ?_
  rintro e w2 ⟨rfl, h2⟩
  rw [HR.out.y, HR.out.ye, mk_list]
  replace hB := hB.trans (h2.mono hB.size)
  clear h2
  go_wp2_with fail
  refine (cmp_any A B _).mono ?_
  rintro e w3 ⟨rfl, rfl⟩
  rw [HR.out.k]
  go_wp2_with fail
  refine (trim_any X _).mono ?_
  rintro e w3 ⟨rfl, rfl⟩
  rw [HR.out.t1, mk_list]
  go_wp2_with fail
  refine (trim_any A _).mono ?_
  rintro e w3 ⟨rfl, rfl⟩
  rw [HR.out.t2, mk_list]
  go_wp2_with fail
  refine (trim_any A _).mono ?_
  rintro e w3 ⟨rfl, rfl⟩
  rw [HR.out.t2, mk_list]
  go_wp2_with fail
  refine (sright_any T _).mono ?_
  rintro e w3 ⟨rfl, rfl⟩
  rw [HR.out.r]
  go_wp2_with fail
  refine (cmp_any X A _).mono ?_
  rintro e w3 ⟨rfl, rfl⟩
  rw [HR.out.z]
  go_wp2_with fail
  go_ret
  exact ⟨rfl, hB⟩

set_option maxRecDepth 8000 in
set_option maxHeartbeats 4000000 in
theorem order_cnl (s t : ByteArray) (w : World) (hs :  32 < s.size) (ht : ¬ 32 < t.size) (A B X Y T : ByteArray) (c : Int) (hA : s.extract 0 32 = A) (hB : t = B) (h : OrderAt A B X Y T c) (hc : c < 0) : OrderGoal s t w := by
  unfold OrderGoal
  have hsi :  (32 : Int) < s.size := by omega
  have hti : ¬ (32 : Int) < t.size := by omega
  have hl := h.l
  have hi := h.i
  have hxs : (X.size : Int) = 32 := by have := h.xs; omega
  have hys : (Y.size : Int) = 32 := by have := h.ys; omega
  have HA : Hid (s.extract 0 32 = A ∧ t = B) := ⟨hA, hB⟩
  have HR : Hid (OrderAt A B X Y T c) := h
  rw [decide_eq_true hc] at hl
  have hxl := list_ne (fun e => (by have := hi.2 e; omega : X ≠ Y) e)
  have hc0 : ¬ c = 0 := by omega
  have hcb : (c == 0) = false := beq_eq_false_iff_ne.2 hc0
  have hcd : decide (c < 0) = true := decide_eq_true hc
  clear hA hB h hi
  go_enter Tryd.func7, Tryd.ntmps7
  go_wp2_with fail
  refine (awake_any _).mono ?_
  rintro e w1 ⟨rfl, hB⟩
  go_wp2_with fail
  rw [HA.out.1]
  refine (wide_any A _).mono ?_
  rintro e w2 ⟨rfl, h2⟩
  rw [HR.out.x, HR.out.xe, mk_list]
  replace hB := hB.trans (h2.mono hB.size)
  clear h2
  go_wp2_with fail
  rw [HA.out.2]
  refine (wide_any B _).mono ?_
  rintro e w2 ⟨rfl, h2⟩
  rw [HR.out.y, HR.out.ye, mk_list]
  replace hB := hB.trans (h2.mono hB.size)
  clear h2
  go_wp2_with fail
  refine (cmp_any A B _).mono ?_
  rintro e w3 ⟨rfl, rfl⟩
  rw [HR.out.k]
  go_wp2_with fail
  refine (trim_any X _).mono ?_
  rintro e w3 ⟨rfl, rfl⟩
  rw [HR.out.t1, mk_list]
  go_wp2_with fail
  refine (trim_any A _).mono ?_
  rintro e w3 ⟨rfl, rfl⟩
  rw [HR.out.t2, mk_list]
  go_wp2_with fail
  refine (trim_any A _).mono ?_
  rintro e w3 ⟨rfl, rfl⟩
  rw [HR.out.t2, mk_list]
  go_wp2_with fail
  refine (sright_any T _).mono ?_
  rintro e w3 ⟨rfl, rfl⟩
  rw [HR.out.r]
  go_wp2_with fail
  refine (cmp_any X A _).mono ?_
  rintro e w3 ⟨rfl, rfl⟩
  rw [HR.out.z]
  go_wp2_with fail
  go_ret
  exact ⟨rfl, hB⟩

set_option maxRecDepth 8000 in
set_option maxHeartbeats 4000000 in
theorem order_cne (s t : ByteArray) (w : World) (hs :  32 < s.size) (ht : ¬ 32 < t.size) (A B X Y T : ByteArray) (c : Int) (hA : s.extract 0 32 = A) (hB : t = B) (h : OrderAt A B X Y T c) (hc : c = 0) : OrderGoal s t w := by
  unfold OrderGoal
  have hsi :  (32 : Int) < s.size := by omega
  have hti : ¬ (32 : Int) < t.size := by omega
  have hl := h.l
  have hi := h.i
  have hxs : (X.size : Int) = 32 := by have := h.xs; omega
  have hys : (Y.size : Int) = 32 := by have := h.ys; omega
  have HA : Hid (s.extract 0 32 = A ∧ t = B) := ⟨hA, hB⟩
  have HR : Hid (OrderAt A B X Y T c) := h
  have hxy : X = Y := hi.1 hc
  subst hc
  have hxl : (X.toList == Y.toList) = true := by rw [hxy]; exact beq_self_eq_true _
  rw [decide_eq_false (by omega)] at hl
  clear hxy
  clear hA hB h hi
  go_enter Tryd.func7, Tryd.ntmps7
  go_wp2_with fail
  refine (awake_any _).mono ?_
  rintro e w1 ⟨rfl, hB⟩
  go_wp2_with fail
  rw [HA.out.1]
  refine (wide_any A _).mono ?_
  rintro e w2 ⟨rfl, h2⟩
  rw [HR.out.x, HR.out.xe, mk_list]
  replace hB := hB.trans (h2.mono hB.size)
  clear h2
  go_wp2_with fail
  rw [HA.out.2]
  refine (wide_any B _).mono ?_
  rintro e w2 ⟨rfl, h2⟩
  rw [HR.out.y, HR.out.ye, mk_list]
  replace hB := hB.trans (h2.mono hB.size)
  clear h2
  go_wp2_with fail
  refine (cmp_any A B _).mono ?_
  rintro e w3 ⟨rfl, rfl⟩
  rw [HR.out.k]
  go_wp2_with fail
  refine (trim_any X _).mono ?_
  rintro e w3 ⟨rfl, rfl⟩
  rw [HR.out.t1, mk_list]
  go_wp2_with fail
  refine (trim_any A _).mono ?_
  rintro e w3 ⟨rfl, rfl⟩
  rw [HR.out.t2, mk_list]
  go_wp2_with fail
  refine (trim_any A _).mono ?_
  rintro e w3 ⟨rfl, rfl⟩
  rw [HR.out.t2, mk_list]
  go_wp2_with fail
  refine (sright_any T _).mono ?_
  rintro e w3 ⟨rfl, rfl⟩
  rw [HR.out.r]
  go_wp2_with fail
  refine (cmp_any X A _).mono ?_
  rintro e w3 ⟨rfl, rfl⟩
  rw [HR.out.z]
  go_wp2_with fail
  go_ret
  exact ⟨rfl, hB⟩

set_option maxRecDepth 8000 in
set_option maxHeartbeats 4000000 in
theorem order_cng (s t : ByteArray) (w : World) (hs :  32 < s.size) (ht : ¬ 32 < t.size) (A B X Y T : ByteArray) (c : Int) (hA : s.extract 0 32 = A) (hB : t = B) (h : OrderAt A B X Y T c) (hc : 0 < c) : OrderGoal s t w := by
  unfold OrderGoal
  have hsi :  (32 : Int) < s.size := by omega
  have hti : ¬ (32 : Int) < t.size := by omega
  have hl := h.l
  have hi := h.i
  have hxs : (X.size : Int) = 32 := by have := h.xs; omega
  have hys : (Y.size : Int) = 32 := by have := h.ys; omega
  have HA : Hid (s.extract 0 32 = A ∧ t = B) := ⟨hA, hB⟩
  have HR : Hid (OrderAt A B X Y T c) := h
  rw [decide_eq_false (by omega)] at hl
  have hxl := list_ne (fun e => (by have := hi.2 e; omega : X ≠ Y) e)
  have hc0 : ¬ c = 0 := by omega
  have hcb : (c == 0) = false := beq_eq_false_iff_ne.2 hc0
  have hcd : decide (c < 0) = false := decide_eq_false (by omega)
  clear hA hB h hi
  go_enter Tryd.func7, Tryd.ntmps7
  go_wp2_with fail
  refine (awake_any _).mono ?_
  rintro e w1 ⟨rfl, hB⟩
  go_wp2_with fail
  rw [HA.out.1]
  refine (wide_any A _).mono ?_
  rintro e w2 ⟨rfl, h2⟩
  rw [HR.out.x, HR.out.xe, mk_list]
  replace hB := hB.trans (h2.mono hB.size)
  clear h2
  go_wp2_with fail
  rw [HA.out.2]
  refine (wide_any B _).mono ?_
  rintro e w2 ⟨rfl, h2⟩
  rw [HR.out.y, HR.out.ye, mk_list]
  replace hB := hB.trans (h2.mono hB.size)
  clear h2
  go_wp2_with fail
  refine (cmp_any A B _).mono ?_
  rintro e w3 ⟨rfl, rfl⟩
  rw [HR.out.k]
  go_wp2_with fail
  refine (trim_any X _).mono ?_
  rintro e w3 ⟨rfl, rfl⟩
  rw [HR.out.t1, mk_list]
  go_wp2_with fail
  refine (trim_any A _).mono ?_
  rintro e w3 ⟨rfl, rfl⟩
  rw [HR.out.t2, mk_list]
  go_wp2_with fail
  refine (trim_any A _).mono ?_
  rintro e w3 ⟨rfl, rfl⟩
  rw [HR.out.t2, mk_list]
  go_wp2_with fail
  refine (sright_any T _).mono ?_
  rintro e w3 ⟨rfl, rfl⟩
  rw [HR.out.r]
  go_wp2_with fail
  refine (cmp_any X A _).mono ?_
  rintro e w3 ⟨rfl, rfl⟩
  rw [HR.out.z]
  go_wp2_with fail
  go_ret
  exact ⟨rfl, hB⟩

set_option maxRecDepth 8000 in
set_option maxHeartbeats 4000000 in
theorem order_ncl (s t : ByteArray) (w : World) (hs : ¬ 32 < s.size) (ht :  32 < t.size) (A B X Y T : ByteArray) (c : Int) (hA : s = A) (hB : t.extract 0 32 = B) (h : OrderAt A B X Y T c) (hc : c < 0) : OrderGoal s t w := by
  unfold OrderGoal
  have hsi : ¬ (32 : Int) < s.size := by omega
  have hti :  (32 : Int) < t.size := by omega
  have hl := h.l
  have hi := h.i
  have hxs : (X.size : Int) = 32 := by have := h.xs; omega
  have hys : (Y.size : Int) = 32 := by have := h.ys; omega
  have HA : Hid (s = A ∧ t.extract 0 32 = B) := ⟨hA, hB⟩
  have HR : Hid (OrderAt A B X Y T c) := h
  rw [decide_eq_true hc] at hl
  have hxl := list_ne (fun e => (by have := hi.2 e; omega : X ≠ Y) e)
  have hc0 : ¬ c = 0 := by omega
  have hcb : (c == 0) = false := beq_eq_false_iff_ne.2 hc0
  have hcd : decide (c < 0) = true := decide_eq_true hc
  clear hA hB h hi
  go_enter Tryd.func7, Tryd.ntmps7
  go_wp2_with fail
  refine (awake_any _).mono ?_
  rintro e w1 ⟨rfl, hB⟩
  go_wp2_with fail
  rw [HA.out.1]
  refine (wide_any A _).mono ?_
  rintro e w2 ⟨rfl, h2⟩
  rw [HR.out.x, HR.out.xe, mk_list]
  replace hB := hB.trans (h2.mono hB.size)
  clear h2
  go_wp2_with fail
  rw [HA.out.2]
  refine (wide_any B _).mono ?_
  rintro e w2 ⟨rfl, h2⟩
  rw [HR.out.y, HR.out.ye, mk_list]
  replace hB := hB.trans (h2.mono hB.size)
  clear h2
  go_wp2_with fail
  refine (cmp_any A B _).mono ?_
  rintro e w3 ⟨rfl, rfl⟩
  rw [HR.out.k]
  go_wp2_with fail
  refine (trim_any X _).mono ?_
  rintro e w3 ⟨rfl, rfl⟩
  rw [HR.out.t1, mk_list]
  go_wp2_with fail
  refine (trim_any A _).mono ?_
  rintro e w3 ⟨rfl, rfl⟩
  rw [HR.out.t2, mk_list]
  go_wp2_with fail
  refine (trim_any A _).mono ?_
  rintro e w3 ⟨rfl, rfl⟩
  rw [HR.out.t2, mk_list]
  go_wp2_with fail
  refine (sright_any T _).mono ?_
  rintro e w3 ⟨rfl, rfl⟩
  rw [HR.out.r]
  go_wp2_with fail
  refine (cmp_any X A _).mono ?_
  rintro e w3 ⟨rfl, rfl⟩
  rw [HR.out.z]
  go_wp2_with fail
  go_ret
  exact ⟨rfl, hB⟩

set_option maxRecDepth 8000 in
set_option maxHeartbeats 4000000 in
theorem order_nce (s t : ByteArray) (w : World) (hs : ¬ 32 < s.size) (ht :  32 < t.size) (A B X Y T : ByteArray) (c : Int) (hA : s = A) (hB : t.extract 0 32 = B) (h : OrderAt A B X Y T c) (hc : c = 0) : OrderGoal s t w := by
  unfold OrderGoal
  have hsi : ¬ (32 : Int) < s.size := by omega
  have hti :  (32 : Int) < t.size := by omega
  have hl := h.l
  have hi := h.i
  have hxs : (X.size : Int) = 32 := by have := h.xs; omega
  have hys : (Y.size : Int) = 32 := by have := h.ys; omega
  have HA : Hid (s = A ∧ t.extract 0 32 = B) := ⟨hA, hB⟩
  have HR : Hid (OrderAt A B X Y T c) := h
  have hxy : X = Y := hi.1 hc
  subst hc
  have hxl : (X.toList == Y.toList) = true := by rw [hxy]; exact beq_self_eq_true _
  rw [decide_eq_false (by omega)] at hl
  clear hxy
  clear hA hB h hi
  go_enter Tryd.func7, Tryd.ntmps7
  go_wp2_with fail
  refine (awake_any _).mono ?_
  rintro e w1 ⟨rfl, hB⟩
  go_wp2_with fail
  rw [HA.out.1]
  refine (wide_any A _).mono ?_
  rintro e w2 ⟨rfl, h2⟩
  rw [HR.out.x, HR.out.xe, mk_list]
  replace hB := hB.trans (h2.mono hB.size)
  clear h2
  go_wp2_with fail
  rw [HA.out.2]
  refine (wide_any B _).mono ?_
  rintro e w2 ⟨rfl, h2⟩
  rw [HR.out.y, HR.out.ye, mk_list]
  replace hB := hB.trans (h2.mono hB.size)
  clear h2
  go_wp2_with fail
  refine (cmp_any A B _).mono ?_
  rintro e w3 ⟨rfl, rfl⟩
  rw [HR.out.k]
  go_wp2_with fail
  refine (trim_any X _).mono ?_
  rintro e w3 ⟨rfl, rfl⟩
  rw [HR.out.t1, mk_list]
  go_wp2_with fail
  refine (trim_any A _).mono ?_
  rintro e w3 ⟨rfl, rfl⟩
  rw [HR.out.t2, mk_list]
  go_wp2_with fail
  refine (trim_any A _).mono ?_
  rintro e w3 ⟨rfl, rfl⟩
  rw [HR.out.t2, mk_list]
  go_wp2_with fail
  refine (sright_any T _).mono ?_
  rintro e w3 ⟨rfl, rfl⟩
  rw [HR.out.r]
  go_wp2_with fail
  refine (cmp_any X A _).mono ?_
  rintro e w3 ⟨rfl, rfl⟩
  rw [HR.out.z]
  go_wp2_with fail
  go_ret
  exact ⟨rfl, hB⟩

set_option maxRecDepth 8000 in
set_option maxHeartbeats 4000000 in
theorem order_ncg (s t : ByteArray) (w : World) (hs : ¬ 32 < s.size) (ht :  32 < t.size) (A B X Y T : ByteArray) (c : Int) (hA : s = A) (hB : t.extract 0 32 = B) (h : OrderAt A B X Y T c) (hc : 0 < c) : OrderGoal s t w := by
  unfold OrderGoal
  have hsi : ¬ (32 : Int) < s.size := by omega
  have hti :  (32 : Int) < t.size := by omega
  have hl := h.l
  have hi := h.i
  have hxs : (X.size : Int) = 32 := by have := h.xs; omega
  have hys : (Y.size : Int) = 32 := by have := h.ys; omega
  have HA : Hid (s = A ∧ t.extract 0 32 = B) := ⟨hA, hB⟩
  have HR : Hid (OrderAt A B X Y T c) := h
  rw [decide_eq_false (by omega)] at hl
  have hxl := list_ne (fun e => (by have := hi.2 e; omega : X ≠ Y) e)
  have hc0 : ¬ c = 0 := by omega
  have hcb : (c == 0) = false := beq_eq_false_iff_ne.2 hc0
  have hcd : decide (c < 0) = false := decide_eq_false (by omega)
  clear hA hB h hi
  go_enter Tryd.func7, Tryd.ntmps7
  go_wp2_with fail
  refine (awake_any _).mono ?_
  rintro e w1 ⟨rfl, hB⟩
  go_wp2_with fail
  rw [HA.out.1]
  refine (wide_any A _).mono ?_
  rintro e w2 ⟨rfl, h2⟩
  rw [HR.out.x, HR.out.xe, mk_list]
  replace hB := hB.trans (h2.mono hB.size)
  clear h2
  go_wp2_with fail
  rw [HA.out.2]
  refine (wide_any B _).mono ?_
  rintro e w2 ⟨rfl, h2⟩
  rw [HR.out.y, HR.out.ye, mk_list]
  replace hB := hB.trans (h2.mono hB.size)
  clear h2
  go_wp2_with fail
  refine (cmp_any A B _).mono ?_
  rintro e w3 ⟨rfl, rfl⟩
  rw [HR.out.k]
  go_wp2_with fail
  refine (trim_any X _).mono ?_
  rintro e w3 ⟨rfl, rfl⟩
  rw [HR.out.t1, mk_list]
  go_wp2_with fail
  refine (trim_any A _).mono ?_
  rintro e w3 ⟨rfl, rfl⟩
  rw [HR.out.t2, mk_list]
  go_wp2_with fail
  refine (trim_any A _).mono ?_
  rintro e w3 ⟨rfl, rfl⟩
  rw [HR.out.t2, mk_list]
  go_wp2_with fail
  refine (sright_any T _).mono ?_
  rintro e w3 ⟨rfl, rfl⟩
  rw [HR.out.r]
  go_wp2_with fail
  refine (cmp_any X A _).mono ?_
  rintro e w3 ⟨rfl, rfl⟩
  rw [HR.out.z]
  go_wp2_with fail
  go_ret
  exact ⟨rfl, hB⟩

set_option maxRecDepth 8000 in
set_option maxHeartbeats 4000000 in
theorem order_nnl (s t : ByteArray) (w : World) (hs : ¬ 32 < s.size) (ht : ¬ 32 < t.size) (A B X Y T : ByteArray) (c : Int) (hA : s = A) (hB : t = B) (h : OrderAt A B X Y T c) (hc : c < 0) : OrderGoal s t w := by
  unfold OrderGoal
  have hsi : ¬ (32 : Int) < s.size := by omega
  have hti : ¬ (32 : Int) < t.size := by omega
  have hl := h.l
  have hi := h.i
  have hxs : (X.size : Int) = 32 := by have := h.xs; omega
  have hys : (Y.size : Int) = 32 := by have := h.ys; omega
  have HA : Hid (s = A ∧ t = B) := ⟨hA, hB⟩
  have HR : Hid (OrderAt A B X Y T c) := h
  rw [decide_eq_true hc] at hl
  have hxl := list_ne (fun e => (by have := hi.2 e; omega : X ≠ Y) e)
  have hc0 : ¬ c = 0 := by omega
  have hcb : (c == 0) = false := beq_eq_false_iff_ne.2 hc0
  have hcd : decide (c < 0) = true := decide_eq_true hc
  clear hA hB h hi
  go_enter Tryd.func7, Tryd.ntmps7
  go_wp2_with fail
  refine (awake_any _).mono ?_
  rintro e w1 ⟨rfl, hB⟩
  go_wp2_with fail
  rw [HA.out.1]
  refine (wide_any A _).mono ?_
  rintro e w2 ⟨rfl, h2⟩
  rw [HR.out.x, HR.out.xe, mk_list]
  replace hB := hB.trans (h2.mono hB.size)
  clear h2
  go_wp2_with fail
  rw [HA.out.2]
  refine (wide_any B _).mono ?_
  rintro e w2 ⟨rfl, h2⟩
  rw [HR.out.y, HR.out.ye, mk_list]
  replace hB := hB.trans (h2.mono hB.size)
  clear h2
  go_wp2_with fail
  refine (cmp_any A B _).mono ?_
  rintro e w3 ⟨rfl, rfl⟩
  rw [HR.out.k]
  go_wp2_with fail
  refine (trim_any X _).mono ?_
  rintro e w3 ⟨rfl, rfl⟩
  rw [HR.out.t1, mk_list]
  go_wp2_with fail
  refine (trim_any A _).mono ?_
  rintro e w3 ⟨rfl, rfl⟩
  rw [HR.out.t2, mk_list]
  go_wp2_with fail
  refine (trim_any A _).mono ?_
  rintro e w3 ⟨rfl, rfl⟩
  rw [HR.out.t2, mk_list]
  go_wp2_with fail
  refine (sright_any T _).mono ?_
  rintro e w3 ⟨rfl, rfl⟩
  rw [HR.out.r]
  go_wp2_with fail
  refine (cmp_any X A _).mono ?_
  rintro e w3 ⟨rfl, rfl⟩
  rw [HR.out.z]
  go_wp2_with fail
  go_ret
  exact ⟨rfl, hB⟩

set_option maxRecDepth 8000 in
set_option maxHeartbeats 4000000 in
theorem order_nne (s t : ByteArray) (w : World) (hs : ¬ 32 < s.size) (ht : ¬ 32 < t.size) (A B X Y T : ByteArray) (c : Int) (hA : s = A) (hB : t = B) (h : OrderAt A B X Y T c) (hc : c = 0) : OrderGoal s t w := by
  unfold OrderGoal
  have hsi : ¬ (32 : Int) < s.size := by omega
  have hti : ¬ (32 : Int) < t.size := by omega
  have hl := h.l
  have hi := h.i
  have hxs : (X.size : Int) = 32 := by have := h.xs; omega
  have hys : (Y.size : Int) = 32 := by have := h.ys; omega
  have HA : Hid (s = A ∧ t = B) := ⟨hA, hB⟩
  have HR : Hid (OrderAt A B X Y T c) := h
  have hxy : X = Y := hi.1 hc
  subst hc
  have hxl : (X.toList == Y.toList) = true := by rw [hxy]; exact beq_self_eq_true _
  rw [decide_eq_false (by omega)] at hl
  clear hxy
  clear hA hB h hi
  go_enter Tryd.func7, Tryd.ntmps7
  go_wp2_with fail
  refine (awake_any _).mono ?_
  rintro e w1 ⟨rfl, hB⟩
  go_wp2_with fail
  rw [HA.out.1]
  refine (wide_any A _).mono ?_
  rintro e w2 ⟨rfl, h2⟩
  rw [HR.out.x, HR.out.xe, mk_list]
  replace hB := hB.trans (h2.mono hB.size)
  clear h2
  go_wp2_with fail
  rw [HA.out.2]
  refine (wide_any B _).mono ?_
  rintro e w2 ⟨rfl, h2⟩
  rw [HR.out.y, HR.out.ye, mk_list]
  replace hB := hB.trans (h2.mono hB.size)
  clear h2
  go_wp2_with fail
  refine (cmp_any A B _).mono ?_
  rintro e w3 ⟨rfl, rfl⟩
  rw [HR.out.k]
  go_wp2_with fail
  refine (trim_any X _).mono ?_
  rintro e w3 ⟨rfl, rfl⟩
  rw [HR.out.t1, mk_list]
  go_wp2_with fail
  refine (trim_any A _).mono ?_
  rintro e w3 ⟨rfl, rfl⟩
  rw [HR.out.t2, mk_list]
  go_wp2_with fail
  refine (trim_any A _).mono ?_
  rintro e w3 ⟨rfl, rfl⟩
  rw [HR.out.t2, mk_list]
  go_wp2_with fail
  refine (sright_any T _).mono ?_
  rintro e w3 ⟨rfl, rfl⟩
  rw [HR.out.r]
  go_wp2_with fail
  refine (cmp_any X A _).mono ?_
  rintro e w3 ⟨rfl, rfl⟩
  rw [HR.out.z]
  go_wp2_with fail
  go_ret
  exact ⟨rfl, hB⟩

set_option maxRecDepth 8000 in
set_option maxHeartbeats 4000000 in
theorem order_nng (s t : ByteArray) (w : World) (hs : ¬ 32 < s.size) (ht : ¬ 32 < t.size) (A B X Y T : ByteArray) (c : Int) (hA : s = A) (hB : t = B) (h : OrderAt A B X Y T c) (hc : 0 < c) : OrderGoal s t w := by
  unfold OrderGoal
  have hsi : ¬ (32 : Int) < s.size := by omega
  have hti : ¬ (32 : Int) < t.size := by omega
  have hl := h.l
  have hi := h.i
  have hxs : (X.size : Int) = 32 := by have := h.xs; omega
  have hys : (Y.size : Int) = 32 := by have := h.ys; omega
  have HA : Hid (s = A ∧ t = B) := ⟨hA, hB⟩
  have HR : Hid (OrderAt A B X Y T c) := h
  rw [decide_eq_false (by omega)] at hl
  have hxl := list_ne (fun e => (by have := hi.2 e; omega : X ≠ Y) e)
  have hc0 : ¬ c = 0 := by omega
  have hcb : (c == 0) = false := beq_eq_false_iff_ne.2 hc0
  have hcd : decide (c < 0) = false := decide_eq_false (by omega)
  clear hA hB h hi
  go_enter Tryd.func7, Tryd.ntmps7
  go_wp2_with fail
  refine (awake_any _).mono ?_
  rintro e w1 ⟨rfl, hB⟩
  go_wp2_with fail
  rw [HA.out.1]
  refine (wide_any A _).mono ?_
  rintro e w2 ⟨rfl, h2⟩
  rw [HR.out.x, HR.out.xe, mk_list]
  replace hB := hB.trans (h2.mono hB.size)
  clear h2
  go_wp2_with fail
  rw [HA.out.2]
  refine (wide_any B _).mono ?_
  rintro e w2 ⟨rfl, h2⟩
  rw [HR.out.y, HR.out.ye, mk_list]
  replace hB := hB.trans (h2.mono hB.size)
  clear h2
  go_wp2_with fail
  refine (cmp_any A B _).mono ?_
  rintro e w3 ⟨rfl, rfl⟩
  rw [HR.out.k]
  go_wp2_with fail
  refine (trim_any X _).mono ?_
  rintro e w3 ⟨rfl, rfl⟩
  rw [HR.out.t1, mk_list]
  go_wp2_with fail
  refine (trim_any A _).mono ?_
  rintro e w3 ⟨rfl, rfl⟩
  rw [HR.out.t2, mk_list]
  go_wp2_with fail
  refine (trim_any A _).mono ?_
  rintro e w3 ⟨rfl, rfl⟩
  rw [HR.out.t2, mk_list]
  go_wp2_with fail
  refine (sright_any T _).mono ?_
  rintro e w3 ⟨rfl, rfl⟩
  rw [HR.out.r]
  go_wp2_with fail
  refine (cmp_any X A _).mono ?_
  rintro e w3 ⟨rfl, rfl⟩
  rw [HR.out.z]
  go_wp2_with fail
  go_ret
  exact ⟨rfl, hB⟩

theorem sorder_walk (s t : ByteArray) (w : World) : OrderGoal s t w := by
  by_cases hs : 32 < s.size
  · by_cases ht : 32 < t.size
    · obtain ⟨X, Y, T, c, h⟩ := orderAt (s.extract 0 32) (t.extract 0 32) (by rw [cut_size s 32 hs]; omega) (by rw [cut_size t 32 ht]; omega)
      rcases Int.lt_trichotomy c 0 with q | q | q
      · exact order_ccl s t w hs ht _ _ X Y T c rfl rfl h q
      · exact order_cce s t w hs ht _ _ X Y T c rfl rfl h q
      · exact order_ccg s t w hs ht _ _ X Y T c rfl rfl h q
    · obtain ⟨X, Y, T, c, h⟩ := orderAt (s.extract 0 32) t (by rw [cut_size s 32 hs]; omega) (by omega)
      rcases Int.lt_trichotomy c 0 with q | q | q
      · exact order_cnl s t w hs ht _ _ X Y T c rfl rfl h q
      · exact order_cne s t w hs ht _ _ X Y T c rfl rfl h q
      · exact order_cng s t w hs ht _ _ X Y T c rfl rfl h q
  · by_cases ht : 32 < t.size
    · obtain ⟨X, Y, T, c, h⟩ := orderAt s (t.extract 0 32) (by omega) (by rw [cut_size t 32 ht]; omega)
      rcases Int.lt_trichotomy c 0 with q | q | q
      · exact order_ncl s t w hs ht _ _ X Y T c rfl rfl h q
      · exact order_nce s t w hs ht _ _ X Y T c rfl rfl h q
      · exact order_ncg s t w hs ht _ _ X Y T c rfl rfl h q
    · obtain ⟨X, Y, T, c, h⟩ := orderAt s t (by omega) (by omega)
      rcases Int.lt_trichotomy c 0 with q | q | q
      · exact order_nnl s t w hs ht _ _ X Y T c rfl rfl h q
      · exact order_nne s t w hs ht _ _ X Y T c rfl rfl h q
      · exact order_nng s t w hs ht _ _ X Y T c rfl rfl h q
end Go.Proofs.YtamijfdhaahalaaDoor
