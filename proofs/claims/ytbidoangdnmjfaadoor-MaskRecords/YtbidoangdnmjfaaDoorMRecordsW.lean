/-
  MaskRecords: the law's walk, whatever is cut.
-/
import Derived.Test.YtbidoangdnmjfaaDoorMRc1W
import Derived.Test.YtbidoangdnmjfaaDoorMRc2W
import Derived.Test.YtbidoangdnmjfaaDoorMRc3W
import Derived.Test.YtbidoangdnmjfaaDoorMRc4W
namespace Go.Proofs.YtbidoangdnmjfaaDoor
open Go Go.RowKit

theorem records_walk {w : World} {s t m : Nat} {u : Value} {L : List H32} {q3 : Option Addr} {nl c3 : Nat} {l : List Int} (r : ByteArray) (hs : s < 65536) (ht : t < 65536) (hm : m < 65536) (hv : HashesAt w u L) (hl : L.length ≤ 9223372036854775807) (hr : r.size ≤ 9223372036854775807)
    (hi : IntsM w (.slice q3 nl c3) l) (hnl : nl = l.length) (hnc : nl ≤ c3) (hc3 : c3 ≤ 9223372036854775807) (hT : DbAt w) :
    Calls Tryd.prog 3 #[brV s t m u, .string r, .slice q3 nl c3] w fun e w' => e = .returned (.bool true) ∧ Below w.heap.size w w' := by
  by_cases h1 : 40 < L.length <;> by_cases h2 : 700 < r.size <;> by_cases h3 : 40 < nl
  · exact records_walk7 r hs ht hm hv hl hr hi hnl hnc hc3 hT ⟨h1, h2, h3⟩
  · exact records_walk6 r hs ht hm hv hl hr hi hnl hnc hc3 hT ⟨h1, h2, h3⟩
  · exact records_walk5 r hs ht hm hv hl hr hi hnl hnc hc3 hT ⟨h1, h2, h3⟩
  · exact records_walk4 r hs ht hm hv hl hr hi hnl hnc hc3 hT ⟨h1, h2, h3⟩
  · exact records_walk3 r hs ht hm hv hl hr hi hnl hnc hc3 hT ⟨h1, h2, h3⟩
  · exact records_walk2 r hs ht hm hv hl hr hi hnl hnc hc3 hT ⟨h1, h2, h3⟩
  · exact records_walk1 r hs ht hm hv hl hr hi hnl hnc hc3 hT ⟨h1, h2, h3⟩
  · exact records_walk0 r hs ht hm hv hl hr hi hnl hnc hc3 hT ⟨h1, h2, h3⟩
end Go.Proofs.YtbidoangdnmjfaaDoor
