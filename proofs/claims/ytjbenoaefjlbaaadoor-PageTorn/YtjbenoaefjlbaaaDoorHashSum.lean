/-
  What the calls of New, Len, Reset and Sum do.
-/
import Derived.Test.YtjbenoaefjlbaaaDoorWrite
namespace Go.Proofs.YtjbenoaefjlbaaaDoor
open Go.RowKit

theorem infoHash : (Tryd.prog.info? 59).map (·.size) = some 162 := by kernel_rfl
theorem zeroHash : ∀ w, (zeroValue 59).run Tryd.prog w = .ok (.agg (hashA (fun _ => 0) (fun _ => 0) 0)) w := (zero_of_info (n := 162) (by kernel_rfl)).1

end Go.Proofs.YtjbenoaefjlbaaaDoor
