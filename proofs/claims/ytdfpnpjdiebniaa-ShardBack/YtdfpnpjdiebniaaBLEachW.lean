/-
  each: the members from a number on, at most so many.
-/
import Derived.Test.YtdfpnpjdiebniaaBNilW
namespace Go.Proofs.Ytdfpnpjdiebniaa
open Go Go.RowKit Go.Maps
attribute [local go_sem] Oper.semAt_some
end Go.Proofs.Ytdfpnpjdiebniaa
