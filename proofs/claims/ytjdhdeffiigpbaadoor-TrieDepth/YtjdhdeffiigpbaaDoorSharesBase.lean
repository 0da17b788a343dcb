/-
  NibbleShares walked: texts that are too long, and what the walks share.
-/
import Derived.Test.YtjdhdeffiigpbaaDoorNOrd
namespace Go.Proofs.YtjdhdeffiigpbaaDoor.Nb
open Go Go.RowKit









theorem slice_to (x : ByteArray) (p : Nat) (hp : p ≤ x.size) (w : World) : (Instr.sliceAt 9 (.string x) none (some (.int .i64 (p : Int))) none).run Tryd.prog w = .ok (.string (x.extract 0 p)) w := by
  have h1 : (p : Int) ≤ x.size := by omega
  go_simp
theorem extract_take (x : ByteArray) (p : Nat) : x.extract 0 p = ⟨(x.data.toList.take p).toArray⟩ := by rw [extract_str]; simp
end Go.Proofs.YtjdhdeffiigpbaaDoor.Nb
