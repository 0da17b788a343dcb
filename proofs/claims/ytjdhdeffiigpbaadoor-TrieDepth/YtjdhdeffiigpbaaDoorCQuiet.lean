/-
  A region that draws its order and whose operations are all quiet in a class of worlds.
-/
import Derived.Test.YtjdhdeffiigpbaaDoorCTail
namespace Go.Proofs.YtjdhdeffiigpbaaDoor
open Go
theorem wp_region_all {P : Program} {id : Nat} {Q : Exit → Act → World → Prop} {a : Act} {w : World} {l : List Oper} (C : World → Prop) (hm : P.follows .mixedOrders = true) (hB : Region.lexB .any l.toArray = true) (h0 : C w.drew)
    (h : wpQuiet P l.toArray C (fun a' => ∀ w', C w' → Q .normal a' w') l a) : (Code.region id l.toArray true).wp P Q a w :=
  wp_region_quiet (C := C) hm hB h0 (by simpa using h)
end Go.Proofs.YtjdhdeffiigpbaaDoor
