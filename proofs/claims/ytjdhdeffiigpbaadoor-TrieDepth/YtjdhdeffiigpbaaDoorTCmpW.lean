/-
  How pairs are compared: strings.Compare of their keys; the closure that a sort is handed.
-/
import Derived.Test.YtjdhdeffiigpbaaDoorYSortP
import Derived.Shelf.SlSortCmp.InsertionK
import Derived.Lib.Strings
import Derived.Lib.Walk
import Derived.Lib.Bytealg
namespace Go.Proofs.YtjdhdeffiigpbaaDoor
open Go Go.Shelf Go.RowKit Go.Lib Go.Sort Go.Proofs

/-- A pair's cells. -/
def encP (p : Pr) : List Value := [.string p.1, .string p.2]
theorem encP_len (p : Pr) : (encP p).length = 2 := rfl
theorem encP_one (p : Pr) : ∀ v ∈ encP p, v.oneCell' = true := fun v hv => by
  rcases List.mem_cons.1 hv with rfl | hv
  · rfl
  · rw [List.mem_singleton.1 hv]; rfl
def HidY (p : Prop) : Prop := p
theorem HidY.out {p : Prop} (h : HidY p) : p := h
def cfP (x y : Pr) : Int := Lib.compareBytes (kb x) (kb y)
theorem cmp_lt : ∀ s t : List UInt8, decide (Lib.compareBytes s t < 0) = ltB s t
  | [], [] => rfl
  | [], _ :: _ => rfl
  | _ :: _, [] => rfl
  | a :: s, b :: t => by
    rw [show Lib.compareBytes (a :: s) (b :: t) = if a < b then -1 else if b < a then 1 else Lib.compareBytes s t from rfl, show ltB (a :: s) (b :: t) = if a < b then true else if b < a then false else ltB s t from rfl]
    by_cases h1 : a < b
    · rw [if_pos h1, if_pos h1]; rfl
    · rw [if_neg h1, if_neg h1]
      by_cases h2 : b < a
      · rw [if_pos h2, if_pos h2]; rfl
      · rw [if_neg h2, if_neg h2]; exact cmp_lt s t
theorem ltOf_cfP (x y : Pr) : ltOf cfP x y = ltB (kb x) (kb y) := cmp_lt _ _
set_option maxHeartbeats 1000000 in
set_option maxRecDepth 100000 in
theorem bcmp_any (a b : ByteArray) (w : World) : Calls Tryd.prog 77 #[.string a, .string b] w fun e w' => e = .returned (.int .i64 (Lib.compareBytes a.data.toList b.data.toList)) ∧ w' = w := by
  go_enter Tryd.func77, Tryd.ntmps77
  go_wp2
  rw [run_callFunc_extern Tryd.func91 (by kernel_rfl) (by kernel_rfl) (by kernel_rfl) (e := Extern.BytealgCompare.compare) (by kernel_rfl), Lib.run_compareString]
  simp only [Result.andThen]
  rw [Oper.upon_value]
  go_wp2
  go_ret
  exact ⟨rfl, rfl⟩
set_option maxHeartbeats 1000000 in
theorem scmp_any (a b : ByteArray) (w : World) : Calls Tryd.prog 59 #[.string a, .string b] w fun e w' => e = .returned (.int .i64 (Lib.compareBytes a.data.toList b.data.toList)) ∧ w' = w := by
  go_enter Tryd.func59, Tryd.ntmps59
  go_wp2_with (go_at_call 77; refine (bcmp_any _ _ _).mono ?_; rintro e w' ⟨rfl, rfl⟩)
  go_ret
  exact ⟨rfl, rfl⟩
set_option maxHeartbeats 1000000 in
set_option maxRecDepth 8000 in
theorem ycmp_any (x y : Pr) (w : World) : Calls Tryd.prog 58 #[.agg (encP x).toArray, .agg (encP y).toArray] w fun e w' => e = .returned (.int .i64 (cfP x y)) ∧ ∃ q os, w' = grow (w.drewN q) os := by
  obtain ⟨x1, x2⟩ := x
  obtain ⟨y1, y2⟩ := y
  show Calls Tryd.prog 58 #[.agg #[.string x1, .string x2], .agg #[.string y1, .string y2]] w _
  obtain ⟨W, hW⟩ : ∃ W, (w.alloc (.cells #[.string x1, .string x2] 33)).alloc (.cells #[.string y1, .string y2] 33) = W := ⟨_, rfl⟩
  have HW : HidY (W = grow (w.drewN 0) #[.cells #[.string x1, .string x2] 33, .cells #[.string y1, .string y2] 33]) := by
    show W = _
    rw [← hW, alloc_eq_grow, alloc_eq_grow, grow_grow]
    rfl
  have HE : HidY ((w.alloc (.cells #[.string x1, .string x2] 33)).alloc (.cells #[.string y1, .string y2] 33) = W) := hW
  clear hW
  have hc := scmp_any x1 y1
  go_enter Tryd.func58, Tryd.ntmps58
  go_wp2_with (go_at_call 59; refine (hc _).mono ?_; rintro e w' ⟨rfl, rfl⟩)
  go_ret
  refine ⟨rfl, 0, #[.cells #[.string x1, .string x2] 33, .cells #[.string y1, .string y2] 33], ?_⟩
  rw [← HW.out]
  exact HE.out
theorem cmpLays (blk off size : Nat) (w : World) : CmpLays Tryd.prog 58 #[] encP 2 cfP blk off size w := fun _ _ _ _ x y => ycmp_any x y _
end Go.Proofs.YtjdhdeffiigpbaaDoor
