/-
  What On, Pages, Ops, has, next, begin, Limit, Arm and Clear do.
-/
import Derived.Test.YtonmjkalkkfhhaaDDev
import Derived.Test.YtonmjkalkkfhhaaDTake
import Derived.Laws.Cover3
import Derived.Laws.Pointers
namespace Go.Proofs.Ytonmjkalkkfhhaa
open Go Go.RowKit Go.Maps

theorem under24 : Try.prog.underlying 24 = some (.pointer (Try.prog.pointee 24)) := by kernel_rfl
theorem ptr_neq (p : Option Addr) (w : World) : (binOp .neq 24 (.pointer p) (.pointer none)).run Try.prog w = .ok (.bool (!p.isNone)) w := run_neq_pointer_nil w _ _ under24
theorem ptr_eql (p : Option Addr) (w : World) : (binOp .eql 24 (.pointer p) (.pointer none)).run Try.prog w = .ok (.bool p.isNone) w := run_eql_pointer_nil w _ _ under24

theorem run_not (o : Bool) (w : World) : (Op.unary UnOp.not (.bool o)).run Try.prog w = .ok (.bool (!o)) w := rfl

theorem on_any {w : World} {h : Hd} {D : Dev} (a : DiskAt w h D) : Calls Try.prog 31 #[.pointer (some ⟨h.b, 0, none⟩)] w fun e w' => e = .returned (.bool (!D.off)) ∧ w' = w := by
  have hc : w.cell? ⟨h.b, 4, none⟩ = some (.bool D.off) := a.ptr.cell 4
  have hq := ptr_neq
  have hn := run_not
  go_enter Try.func31, Try.ntmps31
  go_wp2_with fail
  go_ret
  exact ⟨rfl, rfl⟩
theorem on_nil (w : World) : Calls Try.prog 31 #[.pointer none] w fun e w' => e = .returned (.bool false) ∧ w' = w := by
  have hq := ptr_neq
  go_enter Try.func31, Try.ntmps31
  go_wp2_with fail
  go_ret
  exact ⟨rfl, rfl⟩
theorem pages_any {w : World} {h : Hd} {D : Dev} (a : DiskAt w h D) : Calls Try.prog 32 #[.pointer (some ⟨h.b, 0, none⟩)] w fun e w' => e = .returned (.int .i64 D.size) ∧ w' = w := by
  have hc : w.cell? ⟨h.b, 0, none⟩ = some (.int .i64 D.size) := a.ptr.cell 0
  have hq := ptr_eql
  go_enter Try.func32, Try.ntmps32
  go_wp2_with fail
  go_ret
  exact ⟨rfl, rfl⟩
theorem pages_nil (w : World) : Calls Try.prog 32 #[.pointer none] w fun e w' => e = .returned (.int .i64 0) ∧ w' = w := by
  have hq := ptr_eql
  go_enter Try.func32, Try.ntmps32
  go_wp2_with fail
  go_ret
  exact ⟨rfl, rfl⟩
theorem ops_any {w : World} {h : Hd} {D : Dev} (a : DiskAt w h D) : Calls Try.prog 35 #[.pointer (some ⟨h.b, 0, none⟩)] w fun e w' => e = .returned (.int .i64 D.ops) ∧ w' = w := by
  have hc : w.cell? ⟨h.b, 3, none⟩ = some (.int .i64 D.ops) := a.ptr.cell 3
  have hq := ptr_eql
  go_enter Try.func35, Try.ntmps35
  go_wp2_with fail
  go_ret
  exact ⟨rfl, rfl⟩
theorem ops_nil (w : World) : Calls Try.prog 35 #[.pointer none] w fun e w' => e = .returned (.int .i64 0) ∧ w' = w := by
  have hq := ptr_eql
  go_enter Try.func35, Try.ntmps35
  go_wp2_with fail
  go_ret
  exact ⟨rfl, rfl⟩

/-- Is there such a page? -/
def Dev.has (D : Dev) (n : Int) : Bool := decide (0 ≤ n) && decide (n < D.size)
theorem has_any {w : World} {h : Hd} {D : Dev} (a : DiskAt w h D) (n : Int) : Calls Try.prog 38 #[.pointer (some ⟨h.b, 0, none⟩), .int .i64 n] w fun e w' => e = .returned (.bool (D.has n)) ∧ w' = w := by
  have hp := pages_any a
  unfold Dev.has
  by_cases h0 : 0 ≤ n
  · rw [decide_eq_true h0, Bool.true_and]
    go_enter Try.func38, Try.ntmps38
    go_wp2_with (go_at_call 32; refine hp.mono ?_; rintro e w1 ⟨rfl, rfl⟩)
    go_ret
    exact ⟨rfl, rfl⟩
  · rw [decide_eq_false h0, Bool.false_and]
    go_enter Try.func38, Try.ntmps38
    go_wp2_with fail
    go_ret
    exact ⟨rfl, rfl⟩
theorem has_nil (n : Int) (w : World) : Calls Try.prog 38 #[.pointer none, .int .i64 n] w fun e w' => e = .returned (.bool (decide (0 ≤ n) && decide (n < 0))) ∧ w' = w := by
  have hp := pages_nil w
  by_cases h0 : 0 ≤ n
  · rw [decide_eq_true h0, Bool.true_and]
    go_enter Try.func38, Try.ntmps38
    go_wp2_with (go_at_call 32; refine hp.mono ?_; rintro e w1 ⟨rfl, rfl⟩)
    go_ret
    exact ⟨rfl, rfl⟩
  · rw [decide_eq_false h0, Bool.false_and]
    go_enter Try.func38, Try.ntmps38
    go_wp2_with fail
    go_ret
    exact ⟨rfl, rfl⟩

theorem frozenD {w : World} {h : Hd} {D : Dev} (a : DiskAt w h D) (i : Nat) : w.frozen? ⟨h.b, i, none⟩ = false := a.ptr.frozen i

/-- A number of pages, kept. -/
def keptP (n : Int) : Int := min (max n 0) 65536
theorem limit_any {w : World} {h : Hd} {D : Dev} (a : DiskAt w h D) (n : Int) : Calls Try.prog 24 #[.pointer (some ⟨h.b, 0, none⟩), .int .i64 n] w fun e w' => e = .returned (.tuple #[]) ∧ Done w h w' h { D with size := keptP n } := by
  have hc : w.cell? ⟨h.b, 0, none⟩ = some (.int .i64 D.size) := a.ptr.cell 0
  have hf := frozenD a 0
  have hq := ptr_neq
  go_enter Try.func24, Try.ntmps24
  go_wp2_with fail
  all_goals
    go_end0
    exact ⟨rfl, Done.turn a ((Only.refl _ _).set 0 _) ((a.ptr.set 0 _).congr (by unfold dcells keptP; simp; omega)) rfl rfl rfl⟩
theorem limit_nil (n : Int) (w : World) : Calls Try.prog 24 #[.pointer none, .int .i64 n] w fun e w' => e = .returned (.tuple #[]) ∧ w' = w := by
  have hq := ptr_neq
  go_enter Try.func24, Try.ntmps24
  go_wp2_with fail
  go_end0
  exact ⟨rfl, rfl⟩
theorem arm_any {w : World} {h : Hd} {D : Dev} (a : DiskAt w h D) (n : Int) : Calls Try.prog 18 #[.pointer (some ⟨h.b, 0, none⟩), .int .i64 n] w fun e w' => e = .returned (.tuple #[]) ∧ Done w h w' h { D with armed := true, left := max n 0 } := by
  have hc : w.cell? ⟨h.b, 5, none⟩ = some (.bool D.armed) := a.ptr.cell 5
  have hc6 : w.cell? ⟨h.b, 6, none⟩ = some (.int .i64 D.left) := a.ptr.cell 6
  have hf := frozenD a 5
  have hf6 := frozenD a 6
  have hq := ptr_neq
  go_enter Try.func18, Try.ntmps18
  go_wp2_with fail
  all_goals
    go_end0
    exact ⟨rfl, Done.turn a (((Only.refl _ _).set 5 _).set 6 _) (((a.ptr.set 5 _).set 6 _).congr (by unfold dcells; simp; omega)) rfl rfl rfl⟩
theorem arm_nil (n : Int) (w : World) : Calls Try.prog 18 #[.pointer none, .int .i64 n] w fun e w' => e = .returned (.tuple #[]) ∧ w' = w := by
  have hq := ptr_neq
  go_enter Try.func18, Try.ntmps18
  go_wp2_with fail
  go_end0
  exact ⟨rfl, rfl⟩
end Go.Proofs.Ytonmjkalkkfhhaa
