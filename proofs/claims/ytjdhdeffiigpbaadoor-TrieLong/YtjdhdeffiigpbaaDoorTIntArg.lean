/-
  A number that comes in as an argument: its range.
-/
import Derived.Test.YtjdhdeffiigpbaaDoorTStrArg
namespace Go.Proofs.YtjdhdeffiigpbaaDoor
open Go.ChangeShapes Go.WideShapes Go.ChangeAt Go.RowKit

theorem int_wide {a : Int} (h : (Lit.int .i64 a).wf = true) : -9223372036854775808 ≤ a ∧ a ≤ 9223372036854775807 := by
  simpa [Lit.wf, IntKind.min, IntKind.max, IntKind.signed, IntKind.bits] using h
end Go.Proofs.YtjdhdeffiigpbaaDoor
