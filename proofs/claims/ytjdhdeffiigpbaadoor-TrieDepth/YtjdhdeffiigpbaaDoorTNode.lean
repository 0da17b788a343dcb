/-
  The nodes' texts: leaves, extensions, refs.
-/
import Derived.Test.YtjdhdeffiigpbaaDoorHeadW
import Derived.Test.YtjdhdeffiigpbaaDoorNPure
import Derived.Test.YtjdhdeffiigpbaaDoorKC
namespace Go.Proofs.YtjdhdeffiigpbaaDoor
open Go

def leafL (path value : List UInt8) : List UInt8 := listL (bytesL (Nb.pck path true) ++ bytesL value)
def extL (path ref : List UInt8) : List UInt8 := listL (bytesL (Nb.pck path false) ++ ref)
/-- How a node stands in another one. -/
def refN (n : List UInt8) : List UInt8 := if n.length < 32 then n else bytesL (K.headL (K.hashOf n) 32)
end Go.Proofs.YtjdhdeffiigpbaaDoor
