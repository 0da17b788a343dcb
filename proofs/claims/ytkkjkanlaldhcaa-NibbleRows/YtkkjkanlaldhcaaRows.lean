/-
  No cell of these rows narrows 'for every input' (looked for: loops, veiled, ifaces, maps, wideKeys, modest, calm, conditions, laid).
  DERIVED. THE GIVEN ROWS OF THIS SEAT. 6 by the template 'for every input the law returns true; each argument reads behind the call as it read before'; 0 by the template 'total and deterministic' (their statements: YtkkjkanlaldhcaaTotals.lean).
  GIVEN WITH THE SEED: the statements are not yours to turn. If you find one false, say at which input.
  Laid BY PROGRAM, IN A SANDBOX (cutbox-rows.mjs): the forced cells as the released guide's own fill.sh prints them over the translation f53c12783fdd2fcf… (all of the seat's roots in one cut). By AI agents, Wed Nov 11 2026. No macro, syntax, notation, axiom, sorry.
-/
import Derived.Test.YtkkjkanlaldhcaaChecked
import GoSem.Claim
import GoSem.ClaimJoined
import GoSem.ClaimMapViews
import Derived.JoinedTies
import Derived.KernelRfl
namespace Go.Proofs.Ytkkjkanlaldhcaa
/- THE CELL 'sum', in the pinned program and in every row, IS THE sha256 OF THE DUMP (.gsa) THAT YtkkjkanlaldhcaaProg.lean LOADS. Nothing in Lean hashes anything: it is a label: what it is worth is what the hold of that sum in a sandbox is worth. -/
noncomputable def Try.pinned : Pinned := { name := "ytkkjkanlaldhcaa", sum := "f53c12783fdd2fcfe4b0a61a08d53667b50434eef5760d7bfda82f313dd8beaa", checked := Try.checked }
namespace Rows
def none {H : Type} : Left H := { results := [], args := [] }

/-- 'loesslaw03.NibbleRows': WHATEVER THE INPUT: true; the input reads as it did. -/
def nibbleRowsSpec : ChangeSpec := { name := "nibbleRows", fn := fun _ => fun
  | [d1, d2, d3] => { results := [.lit (.bool true)], args := [d1, d2, d3] }
  | _ => none }
def nibbleRowsRow : OpenClaim := { program := "ytkkjkanlaldhcaa", sum := "f53c12783fdd2fcfe4b0a61a08d53667b50434eef5760d7bfda82f313dd8beaa", func := "loess/loesslaw03.NibbleRows", spec := "nibbleRows", unfollowed := true, recurses := true, apart := false }
def NibbleRowsSaid : Prop := nibbleRowsRow.holds Try.pinned (OpenSpec.ofChange nibbleRowsSpec)

/-- ITS FALSE NEIGHBOUR: 'it returns false'. Refute it at one input. -/
def nibbleRowsWrong : ChangeSpec := { name := "nibbleRows", fn := fun _ => fun
  | [d1, d2, d3] => { results := [.lit (.bool false)], args := [d1, d2, d3] }
  | _ => none }
def NibbleRowsWrongFalsely : Prop := nibbleRowsRow.holds Try.pinned (OpenSpec.ofChange nibbleRowsWrong)

/-- 'loesslaw03.NibbleBack': WHATEVER THE INPUT: true; the input reads as it did. -/
def nibbleBackSpec : ChangeSpec := { name := "nibbleBack", fn := fun _ => fun
  | [d1, d2, d3] => { results := [.lit (.bool true)], args := [d1, d2, d3] }
  | _ => none }
def nibbleBackRow : OpenClaim := { program := "ytkkjkanlaldhcaa", sum := "f53c12783fdd2fcfe4b0a61a08d53667b50434eef5760d7bfda82f313dd8beaa", func := "loess/loesslaw03.NibbleBack", spec := "nibbleBack", unfollowed := true, recurses := true, apart := false }
def NibbleBackSaid : Prop := nibbleBackRow.holds Try.pinned (OpenSpec.ofChange nibbleBackSpec)

/-- ITS FALSE NEIGHBOUR: 'it returns false'. Refute it at one input. -/
def nibbleBackWrong : ChangeSpec := { name := "nibbleBack", fn := fun _ => fun
  | [d1, d2, d3] => { results := [.lit (.bool false)], args := [d1, d2, d3] }
  | _ => none }
def NibbleBackWrongFalsely : Prop := nibbleBackRow.holds Try.pinned (OpenSpec.ofChange nibbleBackWrong)

/-- 'loesslaw03.NibbleOrder': WHATEVER THE INPUT: true; the input reads as it did. -/
def nibbleOrderSpec : ChangeSpec := { name := "nibbleOrder", fn := fun _ => fun
  | [d1, d2, d3] => { results := [.lit (.bool true)], args := [d1, d2, d3] }
  | _ => none }
def nibbleOrderRow : OpenClaim := { program := "ytkkjkanlaldhcaa", sum := "f53c12783fdd2fcfe4b0a61a08d53667b50434eef5760d7bfda82f313dd8beaa", func := "loess/loesslaw03.NibbleOrder", spec := "nibbleOrder", unfollowed := true, recurses := true, apart := false }
def NibbleOrderSaid : Prop := nibbleOrderRow.holds Try.pinned (OpenSpec.ofChange nibbleOrderSpec)

/-- ITS FALSE NEIGHBOUR: 'it returns false'. Refute it at one input. -/
def nibbleOrderWrong : ChangeSpec := { name := "nibbleOrder", fn := fun _ => fun
  | [d1, d2, d3] => { results := [.lit (.bool false)], args := [d1, d2, d3] }
  | _ => none }
def NibbleOrderWrongFalsely : Prop := nibbleOrderRow.holds Try.pinned (OpenSpec.ofChange nibbleOrderWrong)

/-- 'loesslaw03.NibbleUnpacks': WHATEVER THE INPUT: true; the input reads as it did. -/
def nibbleUnpacksSpec : ChangeSpec := { name := "nibbleUnpacks", fn := fun _ => fun
  | [d1, d2, d3] => { results := [.lit (.bool true)], args := [d1, d2, d3] }
  | _ => none }
def nibbleUnpacksRow : OpenClaim := { program := "ytkkjkanlaldhcaa", sum := "f53c12783fdd2fcfe4b0a61a08d53667b50434eef5760d7bfda82f313dd8beaa", func := "loess/loesslaw03.NibbleUnpacks", spec := "nibbleUnpacks", unfollowed := true, recurses := true, apart := false }
def NibbleUnpacksSaid : Prop := nibbleUnpacksRow.holds Try.pinned (OpenSpec.ofChange nibbleUnpacksSpec)

/-- ITS FALSE NEIGHBOUR: 'it returns false'. Refute it at one input. -/
def nibbleUnpacksWrong : ChangeSpec := { name := "nibbleUnpacks", fn := fun _ => fun
  | [d1, d2, d3] => { results := [.lit (.bool false)], args := [d1, d2, d3] }
  | _ => none }
def NibbleUnpacksWrongFalsely : Prop := nibbleUnpacksRow.holds Try.pinned (OpenSpec.ofChange nibbleUnpacksWrong)

/-- 'loesslaw03.NibbleShares': WHATEVER THE INPUT: true; the input reads as it did. -/
def nibbleSharesSpec : ChangeSpec := { name := "nibbleShares", fn := fun _ => fun
  | [d1, d2, d3] => { results := [.lit (.bool true)], args := [d1, d2, d3] }
  | _ => none }
def nibbleSharesRow : OpenClaim := { program := "ytkkjkanlaldhcaa", sum := "f53c12783fdd2fcfe4b0a61a08d53667b50434eef5760d7bfda82f313dd8beaa", func := "loess/loesslaw03.NibbleShares", spec := "nibbleShares", unfollowed := true, recurses := true, apart := false }
def NibbleSharesSaid : Prop := nibbleSharesRow.holds Try.pinned (OpenSpec.ofChange nibbleSharesSpec)

/-- ITS FALSE NEIGHBOUR: 'it returns false'. Refute it at one input. -/
def nibbleSharesWrong : ChangeSpec := { name := "nibbleShares", fn := fun _ => fun
  | [d1, d2, d3] => { results := [.lit (.bool false)], args := [d1, d2, d3] }
  | _ => none }
def NibbleSharesWrongFalsely : Prop := nibbleSharesRow.holds Try.pinned (OpenSpec.ofChange nibbleSharesWrong)

/-- 'loesslaw03.NibbleBehind': WHATEVER THE INPUT: true; the input reads as it did. -/
def nibbleBehindSpec : ChangeSpec := { name := "nibbleBehind", fn := fun _ => fun
  | [d1, d2, d3] => { results := [.lit (.bool true)], args := [d1, d2, d3] }
  | _ => none }
def nibbleBehindRow : OpenClaim := { program := "ytkkjkanlaldhcaa", sum := "f53c12783fdd2fcfe4b0a61a08d53667b50434eef5760d7bfda82f313dd8beaa", func := "loess/loesslaw03.NibbleBehind", spec := "nibbleBehind", unfollowed := true, recurses := true, apart := false }
def NibbleBehindSaid : Prop := nibbleBehindRow.holds Try.pinned (OpenSpec.ofChange nibbleBehindSpec)

/-- ITS FALSE NEIGHBOUR: 'it returns false'. Refute it at one input. -/
def nibbleBehindWrong : ChangeSpec := { name := "nibbleBehind", fn := fun _ => fun
  | [d1, d2, d3] => { results := [.lit (.bool false)], args := [d1, d2, d3] }
  | _ => none }
def NibbleBehindWrongFalsely : Prop := nibbleBehindRow.holds Try.pinned (OpenSpec.ofChange nibbleBehindWrong)

/- THE SECOND FORM. 'bulk': how many values and letters a reading holds, each counted each time it is reached (what is shared counts as often as it is met; a slice's spare places count too). A statement '..UptoSaid' is the law's where the arguments, and the package variables that the reading takes, are together of bulk at most 1048576: NARROWER than '..Said'. Prove '..Said' where nothing that the law and all that it calls make is longer than what came in: it says more and counts as full. Else prove '..UptoSaid'. A law counts once. -/
mutual
def uptoBulk {H : Type} : DataW H → Nat
  | .lit (.string bytes) => bytes.length + 1
  | .lit _ => 1
  | .nil => 1
  | .ptr d => uptoBulk d + 1
  | .slice elems spare => uptoBulkAll elems + uptoBulkAll spare + 1
  | .agg parts => uptoBulkAll parts + 1
  | .iface _ d => uptoBulk d + 1
  | .map entries => uptoBulkEntries entries + 1
  | .held _ => 1
def uptoBulkAll {H : Type} : List (DataW H) → Nat
  | [] => 0
  | d :: r => uptoBulk d + uptoBulkAll r
def uptoBulkEntries {H : Type} : List (Lit × DataW H) → Nat
  | [] => 0
  | x :: r => uptoBulkEntry x + uptoBulkEntries r
def uptoBulkEntry {H : Type} : Lit × DataW H → Nat
  | (.string bytes, d) => bytes.length + uptoBulk d + 1
  | (_, d) => uptoBulk d + 1
 end
def uptoSmall : (H : Type) → List (DataW H) → Bool := fun _ ds => decide (uptoBulkAll ds ≤ 1048576)
def OpenSpec.upto (s : _root_.Go.ChangeSpec) : _root_.Go.OpenSpec := { _root_.Go.OpenSpec.ofChange s with cond := some uptoSmall }

/-- 'loesslaw03.NibbleRows', WHERE WHAT IT READS IS OF BULK AT MOST 1048576: true; the input reads as it did. -/
def nibbleRowsUptoRow : OpenClaim := { program := "ytkkjkanlaldhcaa", sum := "f53c12783fdd2fcfe4b0a61a08d53667b50434eef5760d7bfda82f313dd8beaa", func := "loess/loesslaw03.NibbleRows", spec := "nibbleRows", unfollowed := true, recurses := true, apart := false, narrowed := true }
def NibbleRowsUptoSaid : Prop := nibbleRowsUptoRow.holds Try.pinned (OpenSpec.upto nibbleRowsSpec)

/-- 'loesslaw03.NibbleBack', WHERE WHAT IT READS IS OF BULK AT MOST 1048576: true; the input reads as it did. -/
def nibbleBackUptoRow : OpenClaim := { program := "ytkkjkanlaldhcaa", sum := "f53c12783fdd2fcfe4b0a61a08d53667b50434eef5760d7bfda82f313dd8beaa", func := "loess/loesslaw03.NibbleBack", spec := "nibbleBack", unfollowed := true, recurses := true, apart := false, narrowed := true }
def NibbleBackUptoSaid : Prop := nibbleBackUptoRow.holds Try.pinned (OpenSpec.upto nibbleBackSpec)

/-- 'loesslaw03.NibbleOrder', WHERE WHAT IT READS IS OF BULK AT MOST 1048576: true; the input reads as it did. -/
def nibbleOrderUptoRow : OpenClaim := { program := "ytkkjkanlaldhcaa", sum := "f53c12783fdd2fcfe4b0a61a08d53667b50434eef5760d7bfda82f313dd8beaa", func := "loess/loesslaw03.NibbleOrder", spec := "nibbleOrder", unfollowed := true, recurses := true, apart := false, narrowed := true }
def NibbleOrderUptoSaid : Prop := nibbleOrderUptoRow.holds Try.pinned (OpenSpec.upto nibbleOrderSpec)

/-- 'loesslaw03.NibbleUnpacks', WHERE WHAT IT READS IS OF BULK AT MOST 1048576: true; the input reads as it did. -/
def nibbleUnpacksUptoRow : OpenClaim := { program := "ytkkjkanlaldhcaa", sum := "f53c12783fdd2fcfe4b0a61a08d53667b50434eef5760d7bfda82f313dd8beaa", func := "loess/loesslaw03.NibbleUnpacks", spec := "nibbleUnpacks", unfollowed := true, recurses := true, apart := false, narrowed := true }
def NibbleUnpacksUptoSaid : Prop := nibbleUnpacksUptoRow.holds Try.pinned (OpenSpec.upto nibbleUnpacksSpec)

/-- 'loesslaw03.NibbleShares', WHERE WHAT IT READS IS OF BULK AT MOST 1048576: true; the input reads as it did. -/
def nibbleSharesUptoRow : OpenClaim := { program := "ytkkjkanlaldhcaa", sum := "f53c12783fdd2fcfe4b0a61a08d53667b50434eef5760d7bfda82f313dd8beaa", func := "loess/loesslaw03.NibbleShares", spec := "nibbleShares", unfollowed := true, recurses := true, apart := false, narrowed := true }
def NibbleSharesUptoSaid : Prop := nibbleSharesUptoRow.holds Try.pinned (OpenSpec.upto nibbleSharesSpec)

/-- 'loesslaw03.NibbleBehind', WHERE WHAT IT READS IS OF BULK AT MOST 1048576: true; the input reads as it did. -/
def nibbleBehindUptoRow : OpenClaim := { program := "ytkkjkanlaldhcaa", sum := "f53c12783fdd2fcfe4b0a61a08d53667b50434eef5760d7bfda82f313dd8beaa", func := "loess/loesslaw03.NibbleBehind", spec := "nibbleBehind", unfollowed := true, recurses := true, apart := false, narrowed := true }
def NibbleBehindUptoSaid : Prop := nibbleBehindUptoRow.holds Try.pinned (OpenSpec.upto nibbleBehindSpec)

end Rows
end Go.Proofs.Ytkkjkanlaldhcaa
