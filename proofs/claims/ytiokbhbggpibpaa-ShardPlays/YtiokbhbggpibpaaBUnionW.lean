/-
  What Union does.
-/
import Derived.Test.YtiokbhbggpibpaaBGH
import Derived.Test.YtiokbhbggpibpaaBLeastW
namespace Go.Proofs.Ytiokbhbggpibpaa
open Go Go.RowKit Go.Maps
end Go.Proofs.Ytiokbhbggpibpaa
