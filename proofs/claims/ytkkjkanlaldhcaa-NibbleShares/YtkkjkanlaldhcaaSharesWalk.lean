/-
  NibbleShares walked.
-/
import Derived.Test.YtkkjkanlaldhcaaSharesIn
import Derived.Test.YtkkjkanlaldhcaaSharesB
import Derived.Test.YtkkjkanlaldhcaaSharesA
namespace Go.Proofs.Ytkkjkanlaldhcaa
open Go Go.RowKit

theorem shares_walk (a b c : ByteArray) (w : World) :
    Calls Try.prog 7 #[.string a, .string b, .string c] w fun e w' => e = .returned (.bool true) ∧ Below w.heap.size w w' := by
  show SharesGoal a b c w
  by_cases h1 : 500 < a.size
  · exact shares_long_a a b c w h1
  by_cases h2 : 500 < b.size
  · exact shares_long_b a b c w h1 h2
  by_cases h3 : 500 < c.size
  · exact shares_long_c a b c w h1 h2 h3
  by_cases hpa : pre a.data.toList b.data.toList < a.size
  · by_cases hpb : pre a.data.toList b.data.toList < b.size
    · exact shares_in a b c w (by omega) (by omega) (by omega) _ _ _ rfl rfl rfl hpa hpb
    · exact shares_b a b c w (by omega) (by omega) (by omega) _ _ _ rfl rfl rfl hpa hpb
  · exact shares_a a b c w (by omega) (by omega) (by omega) _ _ _ rfl rfl rfl hpa
end Go.Proofs.Ytkkjkanlaldhcaa
