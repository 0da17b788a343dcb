/-
  No cell of these rows narrows 'for every input' (looked for: loops, veiled, ifaces, maps, wideKeys, modest, calm, conditions, laid).
  DERIVED. THE GIVEN ROWS OF THIS SEAT. 6 by the template 'for every input the law returns true; each argument reads behind the call as it read before'; 0 by the template 'total and deterministic' (their statements: YtkbpoplodfihoaaTotals.lean).
  GIVEN WITH THE SEED: the statements are not yours to turn. If you find one false, say at which input.
  Laid BY PROGRAM, IN A SANDBOX (cutbox-rows.mjs): the forced cells as the released guide's own fill.sh prints them over the translation 4053ec22be642f0e… (all of the seat's roots in one cut). By AI agents, Wed Nov 11 2026. No macro, syntax, notation, axiom, sorry.
-/
import Derived.Test.YtkbpoplodfihoaaChecked
import GoSem.Claim
import GoSem.ClaimJoined
import GoSem.ClaimMapViews
import Derived.JoinedTies
import Derived.KernelRfl
namespace Go.Proofs.Ytkbpoplodfihoaa
/- THE CELL 'sum', in the pinned program and in every row, IS THE sha256 OF THE DUMP (.gsa) THAT YtkbpoplodfihoaaProg.lean LOADS. Nothing in Lean hashes anything: it is a label: what it is worth is what the hold of that sum in a sandbox is worth. -/
noncomputable def Try.pinned : Pinned := { name := "ytkbpoplodfihoaa", sum := "4053ec22be642f0ee5598e0bbdda392eb9b91d627947d6e3d5a56613a821d034", checked := Try.checked }
namespace Rows
def none {H : Type} : Left H := { results := [], args := [] }

/-- 'loesslaw05.BitsetPlays': WHATEVER THE INPUT: true; the input reads as it did. -/
def bitsetPlaysSpec : ChangeSpec := { name := "bitsetPlays", fn := fun _ => fun
  | [d] => { results := [.lit (.bool true)], args := [d] }
  | _ => none }
def bitsetPlaysRow : OpenClaim := { program := "ytkbpoplodfihoaa", sum := "4053ec22be642f0ee5598e0bbdda392eb9b91d627947d6e3d5a56613a821d034", func := "loess/loesslaw05.BitsetPlays", spec := "bitsetPlays", inPlace := ["internal/abi.NoEscape"], unfollowed := true, recurses := true, apart := false }
def BitsetPlaysSaid : Prop := bitsetPlaysRow.holds Try.pinned (OpenSpec.ofChange bitsetPlaysSpec)

/-- ITS FALSE NEIGHBOUR: 'it returns false'. Refute it at one input. -/
def bitsetPlaysWrong : ChangeSpec := { name := "bitsetPlays", fn := fun _ => fun
  | [d] => { results := [.lit (.bool false)], args := [d] }
  | _ => none }
def BitsetPlaysWrongFalsely : Prop := bitsetPlaysRow.holds Try.pinned (OpenSpec.ofChange bitsetPlaysWrong)

/-- 'loesslaw05.BitsetReads': WHATEVER THE INPUT: true; the input reads as it did. -/
def bitsetReadsSpec : ChangeSpec := { name := "bitsetReads", fn := fun _ => fun
  | [d] => { results := [.lit (.bool true)], args := [d] }
  | _ => none }
def bitsetReadsRow : OpenClaim := { program := "ytkbpoplodfihoaa", sum := "4053ec22be642f0ee5598e0bbdda392eb9b91d627947d6e3d5a56613a821d034", func := "loess/loesslaw05.BitsetReads", spec := "bitsetReads", inPlace := ["internal/abi.NoEscape"], unfollowed := true, recurses := true, apart := false }
def BitsetReadsSaid : Prop := bitsetReadsRow.holds Try.pinned (OpenSpec.ofChange bitsetReadsSpec)

/-- ITS FALSE NEIGHBOUR: 'it returns false'. Refute it at one input. -/
def bitsetReadsWrong : ChangeSpec := { name := "bitsetReads", fn := fun _ => fun
  | [d] => { results := [.lit (.bool false)], args := [d] }
  | _ => none }
def BitsetReadsWrongFalsely : Prop := bitsetReadsRow.holds Try.pinned (OpenSpec.ofChange bitsetReadsWrong)

/-- 'loesslaw05.BitsetBack': WHATEVER THE INPUT: true; the input reads as it did. -/
def bitsetBackSpec : ChangeSpec := { name := "bitsetBack", fn := fun _ => fun
  | [d1, d2] => { results := [.lit (.bool true)], args := [d1, d2] }
  | _ => none }
def bitsetBackRow : OpenClaim := { program := "ytkbpoplodfihoaa", sum := "4053ec22be642f0ee5598e0bbdda392eb9b91d627947d6e3d5a56613a821d034", func := "loess/loesslaw05.BitsetBack", spec := "bitsetBack", inPlace := ["internal/abi.NoEscape"], unfollowed := true, recurses := true, apart := false }
def BitsetBackSaid : Prop := bitsetBackRow.holds Try.pinned (OpenSpec.ofChange bitsetBackSpec)

/-- ITS FALSE NEIGHBOUR: 'it returns false'. Refute it at one input. -/
def bitsetBackWrong : ChangeSpec := { name := "bitsetBack", fn := fun _ => fun
  | [d1, d2] => { results := [.lit (.bool false)], args := [d1, d2] }
  | _ => none }
def BitsetBackWrongFalsely : Prop := bitsetBackRow.holds Try.pinned (OpenSpec.ofChange bitsetBackWrong)

/-- 'loesslaw05.BitsetNil': WHATEVER THE INPUT: true; the input reads as it did. -/
def bitsetNilSpec : ChangeSpec := { name := "bitsetNil", fn := fun _ => fun
  | [d] => { results := [.lit (.bool true)], args := [d] }
  | _ => none }
def bitsetNilRow : OpenClaim := { program := "ytkbpoplodfihoaa", sum := "4053ec22be642f0ee5598e0bbdda392eb9b91d627947d6e3d5a56613a821d034", func := "loess/loesslaw05.BitsetNil", spec := "bitsetNil", inPlace := ["internal/abi.NoEscape"], unfollowed := true, recurses := true, apart := false }
def BitsetNilSaid : Prop := bitsetNilRow.holds Try.pinned (OpenSpec.ofChange bitsetNilSpec)

/-- ITS FALSE NEIGHBOUR: 'it returns false'. Refute it at one input. -/
def bitsetNilWrong : ChangeSpec := { name := "bitsetNil", fn := fun _ => fun
  | [d] => { results := [.lit (.bool false)], args := [d] }
  | _ => none }
def BitsetNilWrongFalsely : Prop := bitsetNilRow.holds Try.pinned (OpenSpec.ofChange bitsetNilWrong)

/-- 'loesslaw05.BitsetOrder': WHATEVER THE INPUT: true; the input reads as it did. -/
def bitsetOrderSpec : ChangeSpec := { name := "bitsetOrder", fn := fun _ => fun
  | [d1, d2] => { results := [.lit (.bool true)], args := [d1, d2] }
  | _ => none }
def bitsetOrderRow : OpenClaim := { program := "ytkbpoplodfihoaa", sum := "4053ec22be642f0ee5598e0bbdda392eb9b91d627947d6e3d5a56613a821d034", func := "loess/loesslaw05.BitsetOrder", spec := "bitsetOrder", inPlace := ["internal/abi.NoEscape"], unfollowed := true, recurses := true, apart := false }
def BitsetOrderSaid : Prop := bitsetOrderRow.holds Try.pinned (OpenSpec.ofChange bitsetOrderSpec)

/-- ITS FALSE NEIGHBOUR: 'it returns false'. Refute it at one input. -/
def bitsetOrderWrong : ChangeSpec := { name := "bitsetOrder", fn := fun _ => fun
  | [d1, d2] => { results := [.lit (.bool false)], args := [d1, d2] }
  | _ => none }
def BitsetOrderWrongFalsely : Prop := bitsetOrderRow.holds Try.pinned (OpenSpec.ofChange bitsetOrderWrong)

/-- 'loesslaw05.BitsetCuts': WHATEVER THE INPUT: true; the input reads as it did. -/
def bitsetCutsSpec : ChangeSpec := { name := "bitsetCuts", fn := fun _ => fun
  | [d1, d2] => { results := [.lit (.bool true)], args := [d1, d2] }
  | _ => none }
def bitsetCutsRow : OpenClaim := { program := "ytkbpoplodfihoaa", sum := "4053ec22be642f0ee5598e0bbdda392eb9b91d627947d6e3d5a56613a821d034", func := "loess/loesslaw05.BitsetCuts", spec := "bitsetCuts", inPlace := ["internal/abi.NoEscape"], unfollowed := true, recurses := true, apart := false }
def BitsetCutsSaid : Prop := bitsetCutsRow.holds Try.pinned (OpenSpec.ofChange bitsetCutsSpec)

/-- ITS FALSE NEIGHBOUR: 'it returns false'. Refute it at one input. -/
def bitsetCutsWrong : ChangeSpec := { name := "bitsetCuts", fn := fun _ => fun
  | [d1, d2] => { results := [.lit (.bool false)], args := [d1, d2] }
  | _ => none }
def BitsetCutsWrongFalsely : Prop := bitsetCutsRow.holds Try.pinned (OpenSpec.ofChange bitsetCutsWrong)

/- THE SECOND FORM. 'bulk': how many values and letters a reading holds, each counted each time it is reached (what is shared counts as often as it is met; a slice's spare places count too). A statement '..UptoSaid' is the law's where the arguments, and the package variables that the reading takes, are together of bulk at most 1048576: NARROWER than '..Said'. Prove '..Said' where nothing that the law and all that it calls make is longer than what came in: it says more and counts as full. Else prove '..UptoSaid'. A law counts once. -/
mutual
def uptoBulk {H : Type} : DataW H → Nat
  | .lit (.string bytes) => bytes.length + 1
  | .lit _ => 1
  | .nil => 1
  | .ptr d => uptoBulk d + 1
  | .slice elems spare => uptoBulkAll elems + uptoBulkAll spare + 1
  | .agg parts => uptoBulkAll parts + 1
  | .iface _ d => uptoBulk d + 1
  | .map entries => uptoBulkEntries entries + 1
  | .held _ => 1
def uptoBulkAll {H : Type} : List (DataW H) → Nat
  | [] => 0
  | d :: r => uptoBulk d + uptoBulkAll r
def uptoBulkEntries {H : Type} : List (Lit × DataW H) → Nat
  | [] => 0
  | x :: r => uptoBulkEntry x + uptoBulkEntries r
def uptoBulkEntry {H : Type} : Lit × DataW H → Nat
  | (.string bytes, d) => bytes.length + uptoBulk d + 1
  | (_, d) => uptoBulk d + 1
 end
def uptoSmall : (H : Type) → List (DataW H) → Bool := fun _ ds => decide (uptoBulkAll ds ≤ 1048576)
def OpenSpec.upto (s : _root_.Go.ChangeSpec) : _root_.Go.OpenSpec := { _root_.Go.OpenSpec.ofChange s with cond := some uptoSmall }

/-- 'loesslaw05.BitsetPlays', WHERE WHAT IT READS IS OF BULK AT MOST 1048576: true; the input reads as it did. -/
def bitsetPlaysUptoRow : OpenClaim := { program := "ytkbpoplodfihoaa", sum := "4053ec22be642f0ee5598e0bbdda392eb9b91d627947d6e3d5a56613a821d034", func := "loess/loesslaw05.BitsetPlays", spec := "bitsetPlays", inPlace := ["internal/abi.NoEscape"], unfollowed := true, recurses := true, apart := false, narrowed := true }
def BitsetPlaysUptoSaid : Prop := bitsetPlaysUptoRow.holds Try.pinned (OpenSpec.upto bitsetPlaysSpec)

/-- 'loesslaw05.BitsetReads', WHERE WHAT IT READS IS OF BULK AT MOST 1048576: true; the input reads as it did. -/
def bitsetReadsUptoRow : OpenClaim := { program := "ytkbpoplodfihoaa", sum := "4053ec22be642f0ee5598e0bbdda392eb9b91d627947d6e3d5a56613a821d034", func := "loess/loesslaw05.BitsetReads", spec := "bitsetReads", inPlace := ["internal/abi.NoEscape"], unfollowed := true, recurses := true, apart := false, narrowed := true }
def BitsetReadsUptoSaid : Prop := bitsetReadsUptoRow.holds Try.pinned (OpenSpec.upto bitsetReadsSpec)

/-- 'loesslaw05.BitsetBack', WHERE WHAT IT READS IS OF BULK AT MOST 1048576: true; the input reads as it did. -/
def bitsetBackUptoRow : OpenClaim := { program := "ytkbpoplodfihoaa", sum := "4053ec22be642f0ee5598e0bbdda392eb9b91d627947d6e3d5a56613a821d034", func := "loess/loesslaw05.BitsetBack", spec := "bitsetBack", inPlace := ["internal/abi.NoEscape"], unfollowed := true, recurses := true, apart := false, narrowed := true }
def BitsetBackUptoSaid : Prop := bitsetBackUptoRow.holds Try.pinned (OpenSpec.upto bitsetBackSpec)

/-- 'loesslaw05.BitsetNil', WHERE WHAT IT READS IS OF BULK AT MOST 1048576: true; the input reads as it did. -/
def bitsetNilUptoRow : OpenClaim := { program := "ytkbpoplodfihoaa", sum := "4053ec22be642f0ee5598e0bbdda392eb9b91d627947d6e3d5a56613a821d034", func := "loess/loesslaw05.BitsetNil", spec := "bitsetNil", inPlace := ["internal/abi.NoEscape"], unfollowed := true, recurses := true, apart := false, narrowed := true }
def BitsetNilUptoSaid : Prop := bitsetNilUptoRow.holds Try.pinned (OpenSpec.upto bitsetNilSpec)

/-- 'loesslaw05.BitsetOrder', WHERE WHAT IT READS IS OF BULK AT MOST 1048576: true; the input reads as it did. -/
def bitsetOrderUptoRow : OpenClaim := { program := "ytkbpoplodfihoaa", sum := "4053ec22be642f0ee5598e0bbdda392eb9b91d627947d6e3d5a56613a821d034", func := "loess/loesslaw05.BitsetOrder", spec := "bitsetOrder", inPlace := ["internal/abi.NoEscape"], unfollowed := true, recurses := true, apart := false, narrowed := true }
def BitsetOrderUptoSaid : Prop := bitsetOrderUptoRow.holds Try.pinned (OpenSpec.upto bitsetOrderSpec)

/-- 'loesslaw05.BitsetCuts', WHERE WHAT IT READS IS OF BULK AT MOST 1048576: true; the input reads as it did. -/
def bitsetCutsUptoRow : OpenClaim := { program := "ytkbpoplodfihoaa", sum := "4053ec22be642f0ee5598e0bbdda392eb9b91d627947d6e3d5a56613a821d034", func := "loess/loesslaw05.BitsetCuts", spec := "bitsetCuts", inPlace := ["internal/abi.NoEscape"], unfollowed := true, recurses := true, apart := false, narrowed := true }
def BitsetCutsUptoSaid : Prop := bitsetCutsUptoRow.holds Try.pinned (OpenSpec.upto bitsetCutsSpec)

end Rows
end Go.Proofs.Ytkbpoplodfihoaa
