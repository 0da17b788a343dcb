/-
  ScalarLeaves walked, in all cases.
-/
import Derived.Test.YtamijfdhaahalaaDoorSLeavesC
import Derived.Test.YtamijfdhaahalaaDoorSLeavesD
namespace Go.Proofs.YtamijfdhaahalaaDoor
open Go Go.RowKit

theorem sleaves_walk (n m : Nat) (b b' c c' : ByteArray) (z z' : Int) (R Q : Nat → UInt8) (w : World) (hT : K.Tabs w) (hn : n < 18446744073709551616) (hm : m < 18446744073709551616) : LeavesGoal n m b b' c c' z z' R Q w := by
  cases h : okA b.data.toList c.data.toList z with
  | false =>
    cases h' : okA b'.data.toList c'.data.toList z' with
    | false => exact leaves_nn n m b b' c c' z z' R Q w hT hn hm h h'
    | true => exact leaves_ny n m b b' c c' z z' R Q w hT hn hm h h'
  | true =>
    cases h' : okA b'.data.toList c'.data.toList z' with
    | false => exact leaves_yn n m b b' c c' z z' R Q w hT hn hm h h'
    | true =>
      by_cases h0 : c.size = 0
      · exact leaves_yc n m b b' c c' z z' R Q w hT hn hm h h' h0
      · exact leaves_yd n m b b' c c' z z' R Q w hT hn hm h h' h0
end Go.Proofs.YtamijfdhaahalaaDoor
