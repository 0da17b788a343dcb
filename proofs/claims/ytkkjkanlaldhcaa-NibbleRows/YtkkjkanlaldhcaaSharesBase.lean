/-
  NibbleShares walked: texts that are too long, and what the walks share.
-/
import Derived.Test.YtkkjkanlaldhcaaAwake3
namespace Go.Proofs.Ytkkjkanlaldhcaa
open Go Go.RowKit

def SharesGoal (a b c : ByteArray) (w : World) : Prop :=
    Calls Try.prog 7 #[.string a, .string b, .string c] w fun e w' => e = .returned (.bool true) ∧ Below w.heap.size w w'

set_option maxRecDepth 8000 in
theorem shares_long_a (a b c : ByteArray) (w : World) (h1 : 500 < a.size) : SharesGoal a b c w := by
  unfold SharesGoal
  have h1i : (500 : Int) < a.size := by omega
  go_enter Try.func7, Try.ntmps7
  go_wp2_with fail
  refine (awake_any _).mono ?_
  rintro e v1 ⟨rfl, hB1⟩
  go_wp2_with fail
  go_ret
  exact ⟨rfl, hB1⟩

set_option maxRecDepth 8000 in
theorem shares_long_b (a b c : ByteArray) (w : World) (h1 : ¬ 500 < a.size) (h2 : 500 < b.size) : SharesGoal a b c w := by
  unfold SharesGoal
  have h1i : ¬ (500 : Int) < a.size := by omega
  have h2i : (500 : Int) < b.size := by omega
  go_enter Try.func7, Try.ntmps7
  go_wp2_with fail
  refine (awake_any _).mono ?_
  rintro e v1 ⟨rfl, hB1⟩
  go_wp2_with fail
  go_ret
  exact ⟨rfl, hB1⟩

set_option maxRecDepth 8000 in
theorem shares_long_c (a b c : ByteArray) (w : World) (h1 : ¬ 500 < a.size) (h2 : ¬ 500 < b.size) (h3 : 500 < c.size) : SharesGoal a b c w := by
  unfold SharesGoal
  have h1i : ¬ (500 : Int) < a.size := by omega
  have h2i : ¬ (500 : Int) < b.size := by omega
  have h3i : (500 : Int) < c.size := by omega
  go_enter Try.func7, Try.ntmps7
  go_wp2_with fail
  refine (awake_any _).mono ?_
  rintro e v1 ⟨rfl, hB1⟩
  go_wp2_with fail
  go_ret
  exact ⟨rfl, hB1⟩

theorem slice_to (x : ByteArray) (p : Nat) (hp : p ≤ x.size) (w : World) : (Instr.sliceAt 9 (.string x) none (some (.int .i64 (p : Int))) none).run Try.prog w = .ok (.string (x.extract 0 p)) w := by
  have h1 : (p : Int) ≤ x.size := by omega
  go_simp
theorem extract_take (x : ByteArray) (p : Nat) : x.extract 0 p = ⟨(x.data.toList.take p).toArray⟩ := by rw [extract_str]; simp
end Go.Proofs.Ytkkjkanlaldhcaa
