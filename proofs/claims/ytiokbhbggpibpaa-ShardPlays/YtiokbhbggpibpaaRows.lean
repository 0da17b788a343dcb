/-
  No cell of these rows narrows 'for every input' (looked for: loops, veiled, ifaces, maps, wideKeys, modest, calm, conditions, laid).
  DERIVED. THE GIVEN ROWS OF THIS SEAT. 6 by the template 'for every input the law returns true; each argument reads behind the call as it read before'; 0 by the template 'total and deterministic' (their statements: YtiokbhbggpibpaaTotals.lean).
  GIVEN WITH THE SEED: the statements are not yours to turn. If you find one false, say at which input.
  Laid BY PROGRAM, IN A SANDBOX (cutbox-rows.mjs): the forced cells as the released guide's own fill.sh prints them over the translation b9b4f1388a0f4ec7… (all of the seat's roots in one cut). By AI agents, Wed Nov 11 2026. No macro, syntax, notation, axiom, sorry.
-/
import Derived.Test.YtiokbhbggpibpaaChecked
import GoSem.Claim
import GoSem.ClaimJoined
import GoSem.ClaimMapViews
import Derived.JoinedTies
import Derived.KernelRfl
namespace Go.Proofs.Ytiokbhbggpibpaa
/- THE CELL 'sum', in the pinned program and in every row, IS THE sha256 OF THE DUMP (.gsa) THAT YtiokbhbggpibpaaProg.lean LOADS. Nothing in Lean hashes anything: it is a label: what it is worth is what the hold of that sum in a sandbox is worth. -/
noncomputable def Try.pinned : Pinned := { name := "ytiokbhbggpibpaa", sum := "b9b4f1388a0f4ec71af1b0e3e018d77e700a8046f619028d2f92c2a5b0310a72", checked := Try.checked }
namespace Rows
def none {H : Type} : Left H := { results := [], args := [] }

/-- 'loesslaw06.ShardPlays': WHATEVER THE INPUT: true; the input reads as it did. -/
def shardPlaysSpec : ChangeSpec := { name := "shardPlays", fn := fun _ => fun
  | [d1, d2, d3] => { results := [.lit (.bool true)], args := [d1, d2, d3] }
  | _ => none }
def shardPlaysRow : OpenClaim := { program := "ytiokbhbggpibpaa", sum := "b9b4f1388a0f4ec71af1b0e3e018d77e700a8046f619028d2f92c2a5b0310a72", func := "loess/loesslaw06.ShardPlays", spec := "shardPlays", inPlace := ["internal/abi.NoEscape"], unfollowed := true, recurses := true, apart := false }
def ShardPlaysSaid : Prop := shardPlaysRow.holds Try.pinned (OpenSpec.ofChange shardPlaysSpec)

/-- ITS FALSE NEIGHBOUR: 'it returns false'. Refute it at one input. -/
def shardPlaysWrong : ChangeSpec := { name := "shardPlays", fn := fun _ => fun
  | [d1, d2, d3] => { results := [.lit (.bool false)], args := [d1, d2, d3] }
  | _ => none }
def ShardPlaysWrongFalsely : Prop := shardPlaysRow.holds Try.pinned (OpenSpec.ofChange shardPlaysWrong)

/-- 'loesslaw06.ShardGrows': WHATEVER THE INPUT: true; the input reads as it did. -/
def shardGrowsSpec : ChangeSpec := { name := "shardGrows", fn := fun _ => fun
  | [d1, d2, d3] => { results := [.lit (.bool true)], args := [d1, d2, d3] }
  | _ => none }
def shardGrowsRow : OpenClaim := { program := "ytiokbhbggpibpaa", sum := "b9b4f1388a0f4ec71af1b0e3e018d77e700a8046f619028d2f92c2a5b0310a72", func := "loess/loesslaw06.ShardGrows", spec := "shardGrows", inPlace := ["internal/abi.NoEscape"], unfollowed := true, recurses := true, apart := false }
def ShardGrowsSaid : Prop := shardGrowsRow.holds Try.pinned (OpenSpec.ofChange shardGrowsSpec)

/-- ITS FALSE NEIGHBOUR: 'it returns false'. Refute it at one input. -/
def shardGrowsWrong : ChangeSpec := { name := "shardGrows", fn := fun _ => fun
  | [d1, d2, d3] => { results := [.lit (.bool false)], args := [d1, d2, d3] }
  | _ => none }
def ShardGrowsWrongFalsely : Prop := shardGrowsRow.holds Try.pinned (OpenSpec.ofChange shardGrowsWrong)

/-- 'loesslaw06.ShardBack': WHATEVER THE INPUT: true; the input reads as it did. -/
def shardBackSpec : ChangeSpec := { name := "shardBack", fn := fun _ => fun
  | [d1, d2] => { results := [.lit (.bool true)], args := [d1, d2] }
  | _ => none }
def shardBackRow : OpenClaim := { program := "ytiokbhbggpibpaa", sum := "b9b4f1388a0f4ec71af1b0e3e018d77e700a8046f619028d2f92c2a5b0310a72", func := "loess/loesslaw06.ShardBack", spec := "shardBack", inPlace := ["internal/abi.NoEscape"], unfollowed := true, recurses := true, apart := false }
def ShardBackSaid : Prop := shardBackRow.holds Try.pinned (OpenSpec.ofChange shardBackSpec)

/-- ITS FALSE NEIGHBOUR: 'it returns false'. Refute it at one input. -/
def shardBackWrong : ChangeSpec := { name := "shardBack", fn := fun _ => fun
  | [d1, d2] => { results := [.lit (.bool false)], args := [d1, d2] }
  | _ => none }
def ShardBackWrongFalsely : Prop := shardBackRow.holds Try.pinned (OpenSpec.ofChange shardBackWrong)

/-- 'loesslaw06.ShardEach': WHATEVER THE INPUT: true; the input reads as it did. -/
def shardEachSpec : ChangeSpec := { name := "shardEach", fn := fun _ => fun
  | [d1, d2] => { results := [.lit (.bool true)], args := [d1, d2] }
  | _ => none }
def shardEachRow : OpenClaim := { program := "ytiokbhbggpibpaa", sum := "b9b4f1388a0f4ec71af1b0e3e018d77e700a8046f619028d2f92c2a5b0310a72", func := "loess/loesslaw06.ShardEach", spec := "shardEach", inPlace := ["internal/abi.NoEscape"], unfollowed := true, recurses := true, apart := false }
def ShardEachSaid : Prop := shardEachRow.holds Try.pinned (OpenSpec.ofChange shardEachSpec)

/-- ITS FALSE NEIGHBOUR: 'it returns false'. Refute it at one input. -/
def shardEachWrong : ChangeSpec := { name := "shardEach", fn := fun _ => fun
  | [d1, d2] => { results := [.lit (.bool false)], args := [d1, d2] }
  | _ => none }
def ShardEachWrongFalsely : Prop := shardEachRow.holds Try.pinned (OpenSpec.ofChange shardEachWrong)

/-- 'loesslaw06.ShardUppers': WHATEVER THE INPUT: true; the input reads as it did. -/
def shardUppersSpec : ChangeSpec := { name := "shardUppers", fn := fun _ => fun
  | [d] => { results := [.lit (.bool true)], args := [d] }
  | _ => none }
def shardUppersRow : OpenClaim := { program := "ytiokbhbggpibpaa", sum := "b9b4f1388a0f4ec71af1b0e3e018d77e700a8046f619028d2f92c2a5b0310a72", func := "loess/loesslaw06.ShardUppers", spec := "shardUppers", inPlace := ["internal/abi.NoEscape"], unfollowed := true, recurses := true, apart := false }
def ShardUppersSaid : Prop := shardUppersRow.holds Try.pinned (OpenSpec.ofChange shardUppersSpec)

/-- ITS FALSE NEIGHBOUR: 'it returns false'. Refute it at one input. -/
def shardUppersWrong : ChangeSpec := { name := "shardUppers", fn := fun _ => fun
  | [d] => { results := [.lit (.bool false)], args := [d] }
  | _ => none }
def ShardUppersWrongFalsely : Prop := shardUppersRow.holds Try.pinned (OpenSpec.ofChange shardUppersWrong)

/-- 'loesslaw06.ShardTail': WHATEVER THE INPUT: true; the input reads as it did. -/
def shardTailSpec : ChangeSpec := { name := "shardTail", fn := fun _ => fun
  | [d1, d2] => { results := [.lit (.bool true)], args := [d1, d2] }
  | _ => none }
def shardTailRow : OpenClaim := { program := "ytiokbhbggpibpaa", sum := "b9b4f1388a0f4ec71af1b0e3e018d77e700a8046f619028d2f92c2a5b0310a72", func := "loess/loesslaw06.ShardTail", spec := "shardTail", inPlace := ["internal/abi.NoEscape"], unfollowed := true, recurses := true, apart := false }
def ShardTailSaid : Prop := shardTailRow.holds Try.pinned (OpenSpec.ofChange shardTailSpec)

/-- ITS FALSE NEIGHBOUR: 'it returns false'. Refute it at one input. -/
def shardTailWrong : ChangeSpec := { name := "shardTail", fn := fun _ => fun
  | [d1, d2] => { results := [.lit (.bool false)], args := [d1, d2] }
  | _ => none }
def ShardTailWrongFalsely : Prop := shardTailRow.holds Try.pinned (OpenSpec.ofChange shardTailWrong)

/- THE SECOND FORM. 'bulk': how many values and letters a reading holds, each counted each time it is reached (what is shared counts as often as it is met; a slice's spare places count too). A statement '..UptoSaid' is the law's where the arguments, and the package variables that the reading takes, are together of bulk at most 1048576: NARROWER than '..Said'. Prove '..Said' where nothing that the law and all that it calls make is longer than what came in: it says more and counts as full. Else prove '..UptoSaid'. A law counts once. -/
mutual
def uptoBulk {H : Type} : DataW H → Nat
  | .lit (.string bytes) => bytes.length + 1
  | .lit _ => 1
  | .nil => 1
  | .ptr d => uptoBulk d + 1
  | .slice elems spare => uptoBulkAll elems + uptoBulkAll spare + 1
  | .agg parts => uptoBulkAll parts + 1
  | .iface _ d => uptoBulk d + 1
  | .map entries => uptoBulkEntries entries + 1
  | .held _ => 1
def uptoBulkAll {H : Type} : List (DataW H) → Nat
  | [] => 0
  | d :: r => uptoBulk d + uptoBulkAll r
def uptoBulkEntries {H : Type} : List (Lit × DataW H) → Nat
  | [] => 0
  | x :: r => uptoBulkEntry x + uptoBulkEntries r
def uptoBulkEntry {H : Type} : Lit × DataW H → Nat
  | (.string bytes, d) => bytes.length + uptoBulk d + 1
  | (_, d) => uptoBulk d + 1
 end
def uptoSmall : (H : Type) → List (DataW H) → Bool := fun _ ds => decide (uptoBulkAll ds ≤ 1048576)
def OpenSpec.upto (s : _root_.Go.ChangeSpec) : _root_.Go.OpenSpec := { _root_.Go.OpenSpec.ofChange s with cond := some uptoSmall }

/-- 'loesslaw06.ShardPlays', WHERE WHAT IT READS IS OF BULK AT MOST 1048576: true; the input reads as it did. -/
def shardPlaysUptoRow : OpenClaim := { program := "ytiokbhbggpibpaa", sum := "b9b4f1388a0f4ec71af1b0e3e018d77e700a8046f619028d2f92c2a5b0310a72", func := "loess/loesslaw06.ShardPlays", spec := "shardPlays", inPlace := ["internal/abi.NoEscape"], unfollowed := true, recurses := true, apart := false, narrowed := true }
def ShardPlaysUptoSaid : Prop := shardPlaysUptoRow.holds Try.pinned (OpenSpec.upto shardPlaysSpec)

/-- 'loesslaw06.ShardGrows', WHERE WHAT IT READS IS OF BULK AT MOST 1048576: true; the input reads as it did. -/
def shardGrowsUptoRow : OpenClaim := { program := "ytiokbhbggpibpaa", sum := "b9b4f1388a0f4ec71af1b0e3e018d77e700a8046f619028d2f92c2a5b0310a72", func := "loess/loesslaw06.ShardGrows", spec := "shardGrows", inPlace := ["internal/abi.NoEscape"], unfollowed := true, recurses := true, apart := false, narrowed := true }
def ShardGrowsUptoSaid : Prop := shardGrowsUptoRow.holds Try.pinned (OpenSpec.upto shardGrowsSpec)

/-- 'loesslaw06.ShardBack', WHERE WHAT IT READS IS OF BULK AT MOST 1048576: true; the input reads as it did. -/
def shardBackUptoRow : OpenClaim := { program := "ytiokbhbggpibpaa", sum := "b9b4f1388a0f4ec71af1b0e3e018d77e700a8046f619028d2f92c2a5b0310a72", func := "loess/loesslaw06.ShardBack", spec := "shardBack", inPlace := ["internal/abi.NoEscape"], unfollowed := true, recurses := true, apart := false, narrowed := true }
def ShardBackUptoSaid : Prop := shardBackUptoRow.holds Try.pinned (OpenSpec.upto shardBackSpec)

/-- 'loesslaw06.ShardEach', WHERE WHAT IT READS IS OF BULK AT MOST 1048576: true; the input reads as it did. -/
def shardEachUptoRow : OpenClaim := { program := "ytiokbhbggpibpaa", sum := "b9b4f1388a0f4ec71af1b0e3e018d77e700a8046f619028d2f92c2a5b0310a72", func := "loess/loesslaw06.ShardEach", spec := "shardEach", inPlace := ["internal/abi.NoEscape"], unfollowed := true, recurses := true, apart := false, narrowed := true }
def ShardEachUptoSaid : Prop := shardEachUptoRow.holds Try.pinned (OpenSpec.upto shardEachSpec)

/-- 'loesslaw06.ShardUppers', WHERE WHAT IT READS IS OF BULK AT MOST 1048576: true; the input reads as it did. -/
def shardUppersUptoRow : OpenClaim := { program := "ytiokbhbggpibpaa", sum := "b9b4f1388a0f4ec71af1b0e3e018d77e700a8046f619028d2f92c2a5b0310a72", func := "loess/loesslaw06.ShardUppers", spec := "shardUppers", inPlace := ["internal/abi.NoEscape"], unfollowed := true, recurses := true, apart := false, narrowed := true }
def ShardUppersUptoSaid : Prop := shardUppersUptoRow.holds Try.pinned (OpenSpec.upto shardUppersSpec)

/-- 'loesslaw06.ShardTail', WHERE WHAT IT READS IS OF BULK AT MOST 1048576: true; the input reads as it did. -/
def shardTailUptoRow : OpenClaim := { program := "ytiokbhbggpibpaa", sum := "b9b4f1388a0f4ec71af1b0e3e018d77e700a8046f619028d2f92c2a5b0310a72", func := "loess/loesslaw06.ShardTail", spec := "shardTail", inPlace := ["internal/abi.NoEscape"], unfollowed := true, recurses := true, apart := false, narrowed := true }
def ShardTailUptoSaid : Prop := shardTailUptoRow.holds Try.pinned (OpenSpec.upto shardTailSpec)

end Rows
end Go.Proofs.Ytiokbhbggpibpaa
