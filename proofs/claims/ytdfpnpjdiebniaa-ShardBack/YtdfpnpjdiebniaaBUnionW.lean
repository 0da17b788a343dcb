/-
  What Union does.
-/
import Derived.Test.YtdfpnpjdiebniaaBCut2
import Derived.Test.YtdfpnpjdiebniaaBLeastW
namespace Go.Proofs.Ytdfpnpjdiebniaa
open Go Go.RowKit Go.Maps
end Go.Proofs.Ytdfpnpjdiebniaa
