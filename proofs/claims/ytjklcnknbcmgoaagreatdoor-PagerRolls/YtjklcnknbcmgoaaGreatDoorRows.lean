/-
  NARROWER THAN 'FOR EVERY INPUT', by the rows' own cells (each row's printed sentence says how): PagerKeeps: laid · PagerRoom: laid · PagerNil: laid · PagerRolls: laid · PagerGuards: laid.
  DERIVED. THE GIVEN ROWS OF THIS SEAT. 5 by the template 'for every input the law returns true; each argument reads behind the call as it read before'; 0 by the template 'total and deterministic' (their statements: YtjklcnknbcmgoaaGreatDoorTotals.lean).
  GIVEN WITH THE SEED: the statements are not yours to turn. If you find one false, say at which input.
  Laid BY PROGRAM, IN A SANDBOX (cutbox-rows.mjs): the forced cells as the released guide's own fill.sh prints them over the translation 266e792b35ded45a… (all of the seat's roots in one cut). By AI agents, Wed Nov 11 2026. No macro, syntax, notation, axiom, sorry.
-/
import Derived.Test.YtjklcnknbcmgoaaGreatDoorChecked
import GoSem.Claim
import GoSem.ClaimJoined
import GoSem.ClaimMapViews
import Derived.JoinedTies
import Derived.KernelRfl
namespace Go.Proofs.YtjklcnknbcmgoaaGreatDoor
/- THE CELL 'sum', in the pinned program and in every row, IS THE sha256 OF THE DUMP (.gsa) THAT YtjklcnknbcmgoaaGreatDoorProg.lean LOADS. Nothing in Lean hashes anything: it is a label: what it is worth is what the hold of that sum in a sandbox is worth. -/
noncomputable def Tryz.pinned : Pinned := { name := "ytjklcnknbcmgoaagreatdoor", sum := "266e792b35ded45a55b6f71c3eadfe8bedf5f98224f73eafec0e790ebed0aee2", checked := Tryz.checked }
namespace Rows
def none {H : Type} : Left H := { results := [], args := [] }

/- WHAT THE LISTED PACKAGE-LEVEL VARIABLES READ AS WHEN THE CALL BEGINS. Each datum BY PROGRAM (the guide's laid-datum.mjs) off the statement by which the dump's own 'gosem.cut.vars' lays the variable. In a bare row this is a premise. The card (YtjklcnknbcmgoaaGreatDoorCards.lean) ties it to the program's text. -/
def laid_loess_keccak_offsets {H : Type} : DataW H := .agg [.lit (.int .i64 0), .lit (.int .i64 1), .lit (.int .i64 62), .lit (.int .i64 28), .lit (.int .i64 27), .lit (.int .i64 36), .lit (.int .i64 44), .lit (.int .i64 6), .lit (.int .i64 55), .lit (.int .i64 20), .lit (.int .i64 3), .lit (.int .i64 10), .lit (.int .i64 43), .lit (.int .i64 25), .lit (.int .i64 39), .lit (.int .i64 41), .lit (.int .i64 45), .lit (.int .i64 15), .lit (.int .i64 21), .lit (.int .i64 8), .lit (.int .i64 18), .lit (.int .i64 2), .lit (.int .i64 61), .lit (.int .i64 56), .lit (.int .i64 14)]
def laid_loess_keccak_targets {H : Type} : DataW H := .agg [.lit (.int .i64 0), .lit (.int .i64 10), .lit (.int .i64 20), .lit (.int .i64 5), .lit (.int .i64 15), .lit (.int .i64 16), .lit (.int .i64 1), .lit (.int .i64 11), .lit (.int .i64 21), .lit (.int .i64 6), .lit (.int .i64 7), .lit (.int .i64 17), .lit (.int .i64 2), .lit (.int .i64 12), .lit (.int .i64 22), .lit (.int .i64 23), .lit (.int .i64 8), .lit (.int .i64 18), .lit (.int .i64 3), .lit (.int .i64 13), .lit (.int .i64 14), .lit (.int .i64 24), .lit (.int .i64 9), .lit (.int .i64 19), .lit (.int .i64 4)]
def laid_loess_keccak_constants {H : Type} : DataW H := .agg [.lit (.int .u64 1), .lit (.int .u64 32898), .lit (.int .u64 9223372036854808714), .lit (.int .u64 9223372039002292224), .lit (.int .u64 32907), .lit (.int .u64 2147483649), .lit (.int .u64 9223372039002292353), .lit (.int .u64 9223372036854808585), .lit (.int .u64 138), .lit (.int .u64 136), .lit (.int .u64 2147516425), .lit (.int .u64 2147483658), .lit (.int .u64 2147516555), .lit (.int .u64 9223372036854775947), .lit (.int .u64 9223372036854808713), .lit (.int .u64 9223372036854808579), .lit (.int .u64 9223372036854808578), .lit (.int .u64 9223372036854775936), .lit (.int .u64 32778), .lit (.int .u64 9223372039002259466), .lit (.int .u64 9223372039002292353), .lit (.int .u64 9223372036854808704), .lit (.int .u64 2147483649), .lit (.int .u64 9223372039002292232)]

/-- 'loesslaw10.PagerKeeps': WHATEVER THE INPUT: true; the input reads as it did. -/
def pagerKeepsSpec : ChangeSpec := { name := "pagerKeeps", fn := fun _ => fun
  | [d] => { results := [.lit (.bool true)], args := [d] }
  | _ => none }
def pagerKeepsRow : OpenClaim := { program := "ytjklcnknbcmgoaagreatdoor", sum := "266e792b35ded45a55b6f71c3eadfe8bedf5f98224f73eafec0e790ebed0aee2", func := "loess/loesslaw10.PagerKeeps", spec := "pagerKeeps", inPlace := ["internal/abi.NoEscape", "internal/bytealg.MakeNoZero", "slices.overlaps[int]", "sync/atomic.LoadUint32", "(*internal/sync.Mutex).Lock", "internal/race.Disable", "sync/atomic.CompareAndSwapInt32", "internal/race.Enable", "internal/race.Acquire", "(*internal/sync.Mutex).lockSlow", "internal/sync.runtime_canSpin", "internal/sync.runtime_doSpin", "internal/sync.throw", "internal/sync.runtime_nanotime", "internal/sync.runtime_SemacquireMutex", "sync/atomic.AddInt32", "(*internal/sync.Mutex).Unlock", "internal/race.ReleaseMerge", "(*internal/sync.Mutex).unlockSlow", "internal/sync.fatal", "internal/sync.runtime_Semrelease", "sync/atomic.StoreUint32", "sync/atomic.AddInt64"], unfollowed := true, recurses := true, named := ["loess/keccak.constants", "loess/keccak.targets", "loess/keccak.offsets"], apart := false, laid := [("loess/keccak.offsets", laid_loess_keccak_offsets), ("loess/keccak.targets", laid_loess_keccak_targets), ("loess/keccak.constants", laid_loess_keccak_constants)] }
def PagerKeepsSaid : Prop := pagerKeepsRow.holds Tryz.pinned (OpenSpec.ofChange pagerKeepsSpec)

/-- ITS FALSE NEIGHBOUR: 'it returns false'. Refute it at one input. -/
def pagerKeepsWrong : ChangeSpec := { name := "pagerKeeps", fn := fun _ => fun
  | [d] => { results := [.lit (.bool false)], args := [d] }
  | _ => none }
def PagerKeepsWrongFalsely : Prop := pagerKeepsRow.holds Tryz.pinned (OpenSpec.ofChange pagerKeepsWrong)

/-- 'loesslaw10.PagerRoom': WHATEVER THE INPUT: true; the input reads as it did. -/
def pagerRoomSpec : ChangeSpec := { name := "pagerRoom", fn := fun _ => fun
  | [d] => { results := [.lit (.bool true)], args := [d] }
  | _ => none }
def pagerRoomRow : OpenClaim := { program := "ytjklcnknbcmgoaagreatdoor", sum := "266e792b35ded45a55b6f71c3eadfe8bedf5f98224f73eafec0e790ebed0aee2", func := "loess/loesslaw10.PagerRoom", spec := "pagerRoom", inPlace := ["internal/abi.NoEscape", "internal/bytealg.MakeNoZero", "slices.overlaps[int]", "sync/atomic.LoadUint32", "(*internal/sync.Mutex).Lock", "internal/race.Disable", "sync/atomic.CompareAndSwapInt32", "internal/race.Enable", "internal/race.Acquire", "(*internal/sync.Mutex).lockSlow", "internal/sync.runtime_canSpin", "internal/sync.runtime_doSpin", "internal/sync.throw", "internal/sync.runtime_nanotime", "internal/sync.runtime_SemacquireMutex", "sync/atomic.AddInt32", "(*internal/sync.Mutex).Unlock", "internal/race.ReleaseMerge", "(*internal/sync.Mutex).unlockSlow", "internal/sync.fatal", "internal/sync.runtime_Semrelease", "sync/atomic.StoreUint32", "sync/atomic.AddInt64"], unfollowed := true, recurses := true, named := ["loess/keccak.constants", "loess/keccak.targets", "loess/keccak.offsets"], apart := false, laid := [("loess/keccak.offsets", laid_loess_keccak_offsets), ("loess/keccak.targets", laid_loess_keccak_targets), ("loess/keccak.constants", laid_loess_keccak_constants)] }
def PagerRoomSaid : Prop := pagerRoomRow.holds Tryz.pinned (OpenSpec.ofChange pagerRoomSpec)

/-- ITS FALSE NEIGHBOUR: 'it returns false'. Refute it at one input. -/
def pagerRoomWrong : ChangeSpec := { name := "pagerRoom", fn := fun _ => fun
  | [d] => { results := [.lit (.bool false)], args := [d] }
  | _ => none }
def PagerRoomWrongFalsely : Prop := pagerRoomRow.holds Tryz.pinned (OpenSpec.ofChange pagerRoomWrong)

/-- 'loesslaw10.PagerNil': WHATEVER THE INPUT: true; the input reads as it did. -/
def pagerNilSpec : ChangeSpec := { name := "pagerNil", fn := fun _ => fun
  | [d] => { results := [.lit (.bool true)], args := [d] }
  | _ => none }
def pagerNilRow : OpenClaim := { program := "ytjklcnknbcmgoaagreatdoor", sum := "266e792b35ded45a55b6f71c3eadfe8bedf5f98224f73eafec0e790ebed0aee2", func := "loess/loesslaw10.PagerNil", spec := "pagerNil", inPlace := ["sync/atomic.LoadUint32", "(*internal/sync.Mutex).Lock", "internal/race.Disable", "sync/atomic.CompareAndSwapInt32", "internal/race.Enable", "internal/race.Acquire", "(*internal/sync.Mutex).lockSlow", "internal/sync.runtime_canSpin", "internal/sync.runtime_doSpin", "internal/sync.throw", "internal/sync.runtime_nanotime", "internal/sync.runtime_SemacquireMutex", "sync/atomic.AddInt32", "(*internal/sync.Mutex).Unlock", "internal/race.ReleaseMerge", "(*internal/sync.Mutex).unlockSlow", "internal/sync.fatal", "internal/sync.runtime_Semrelease", "sync/atomic.StoreUint32", "slices.overlaps[int]", "internal/abi.NoEscape", "internal/bytealg.MakeNoZero", "sync/atomic.AddInt64", "sync/atomic.LoadInt64"], unfollowed := true, recurses := true, named := ["loess/keccak.constants", "loess/keccak.targets", "loess/keccak.offsets"], apart := false, laid := [("loess/keccak.offsets", laid_loess_keccak_offsets), ("loess/keccak.targets", laid_loess_keccak_targets), ("loess/keccak.constants", laid_loess_keccak_constants)] }
def PagerNilSaid : Prop := pagerNilRow.holds Tryz.pinned (OpenSpec.ofChange pagerNilSpec)

/-- ITS FALSE NEIGHBOUR: 'it returns false'. Refute it at one input. -/
def pagerNilWrong : ChangeSpec := { name := "pagerNil", fn := fun _ => fun
  | [d] => { results := [.lit (.bool false)], args := [d] }
  | _ => none }
def PagerNilWrongFalsely : Prop := pagerNilRow.holds Tryz.pinned (OpenSpec.ofChange pagerNilWrong)

/-- 'loesslaw10.PagerRolls': WHATEVER THE INPUT: true; the input reads as it did. -/
def pagerRollsSpec : ChangeSpec := { name := "pagerRolls", fn := fun _ => fun
  | [d1, d2, d3] => { results := [.lit (.bool true)], args := [d1, d2, d3] }
  | _ => none }
def pagerRollsRow : OpenClaim := { program := "ytjklcnknbcmgoaagreatdoor", sum := "266e792b35ded45a55b6f71c3eadfe8bedf5f98224f73eafec0e790ebed0aee2", func := "loess/loesslaw10.PagerRolls", spec := "pagerRolls", inPlace := ["internal/abi.NoEscape", "internal/bytealg.MakeNoZero", "slices.overlaps[int]", "sync/atomic.LoadUint32", "(*internal/sync.Mutex).Lock", "internal/race.Disable", "sync/atomic.CompareAndSwapInt32", "internal/race.Enable", "internal/race.Acquire", "(*internal/sync.Mutex).lockSlow", "internal/sync.runtime_canSpin", "internal/sync.runtime_doSpin", "internal/sync.throw", "internal/sync.runtime_nanotime", "internal/sync.runtime_SemacquireMutex", "sync/atomic.AddInt32", "(*internal/sync.Mutex).Unlock", "internal/race.ReleaseMerge", "(*internal/sync.Mutex).unlockSlow", "internal/sync.fatal", "internal/sync.runtime_Semrelease", "sync/atomic.StoreUint32", "sync/atomic.AddInt64"], unfollowed := true, recurses := true, named := ["loess/keccak.constants", "loess/keccak.targets", "loess/keccak.offsets"], apart := false, laid := [("loess/keccak.offsets", laid_loess_keccak_offsets), ("loess/keccak.targets", laid_loess_keccak_targets), ("loess/keccak.constants", laid_loess_keccak_constants)] }
def PagerRollsSaid : Prop := pagerRollsRow.holds Tryz.pinned (OpenSpec.ofChange pagerRollsSpec)

/-- ITS FALSE NEIGHBOUR: 'it returns false'. Refute it at one input. -/
def pagerRollsWrong : ChangeSpec := { name := "pagerRolls", fn := fun _ => fun
  | [d1, d2, d3] => { results := [.lit (.bool false)], args := [d1, d2, d3] }
  | _ => none }
def PagerRollsWrongFalsely : Prop := pagerRollsRow.holds Tryz.pinned (OpenSpec.ofChange pagerRollsWrong)

/-- 'loesslaw10.PagerGuards': WHATEVER THE INPUT: true; the input reads as it did. -/
def pagerGuardsSpec : ChangeSpec := { name := "pagerGuards", fn := fun _ => fun
  | [d1, d2, d3] => { results := [.lit (.bool true)], args := [d1, d2, d3] }
  | _ => none }
def pagerGuardsRow : OpenClaim := { program := "ytjklcnknbcmgoaagreatdoor", sum := "266e792b35ded45a55b6f71c3eadfe8bedf5f98224f73eafec0e790ebed0aee2", func := "loess/loesslaw10.PagerGuards", spec := "pagerGuards", inPlace := ["internal/abi.NoEscape", "internal/bytealg.MakeNoZero", "slices.overlaps[int]", "sync/atomic.LoadUint32", "(*internal/sync.Mutex).Lock", "internal/race.Disable", "sync/atomic.CompareAndSwapInt32", "internal/race.Enable", "internal/race.Acquire", "(*internal/sync.Mutex).lockSlow", "internal/sync.runtime_canSpin", "internal/sync.runtime_doSpin", "internal/sync.throw", "internal/sync.runtime_nanotime", "internal/sync.runtime_SemacquireMutex", "sync/atomic.AddInt32", "(*internal/sync.Mutex).Unlock", "internal/race.ReleaseMerge", "(*internal/sync.Mutex).unlockSlow", "internal/sync.fatal", "internal/sync.runtime_Semrelease", "sync/atomic.StoreUint32", "sync/atomic.AddInt64"], unfollowed := true, recurses := true, named := ["loess/keccak.constants", "loess/keccak.targets", "loess/keccak.offsets"], apart := false, laid := [("loess/keccak.offsets", laid_loess_keccak_offsets), ("loess/keccak.targets", laid_loess_keccak_targets), ("loess/keccak.constants", laid_loess_keccak_constants)] }
def PagerGuardsSaid : Prop := pagerGuardsRow.holds Tryz.pinned (OpenSpec.ofChange pagerGuardsSpec)

/-- ITS FALSE NEIGHBOUR: 'it returns false'. Refute it at one input. -/
def pagerGuardsWrong : ChangeSpec := { name := "pagerGuards", fn := fun _ => fun
  | [d1, d2, d3] => { results := [.lit (.bool false)], args := [d1, d2, d3] }
  | _ => none }
def PagerGuardsWrongFalsely : Prop := pagerGuardsRow.holds Tryz.pinned (OpenSpec.ofChange pagerGuardsWrong)

/- THE SECOND FORM. 'bulk': how many values and letters a reading holds, each counted each time it is reached (what is shared counts as often as it is met; a slice's spare places count too). A statement '..UptoSaid' is the law's where the arguments, and the package variables that the reading takes, are together of bulk at most 1048576: NARROWER than '..Said'. Prove '..Said' where nothing that the law and all that it calls make is longer than what came in: it says more and counts as full. Else prove '..UptoSaid'. A law counts once. -/
mutual
def uptoBulk {H : Type} : DataW H → Nat
  | .lit (.string bytes) => bytes.length + 1
  | .lit _ => 1
  | .nil => 1
  | .ptr d => uptoBulk d + 1
  | .slice elems spare => uptoBulkAll elems + uptoBulkAll spare + 1
  | .agg parts => uptoBulkAll parts + 1
  | .iface _ d => uptoBulk d + 1
  | .map entries => uptoBulkEntries entries + 1
  | .held _ => 1
def uptoBulkAll {H : Type} : List (DataW H) → Nat
  | [] => 0
  | d :: r => uptoBulk d + uptoBulkAll r
def uptoBulkEntries {H : Type} : List (Lit × DataW H) → Nat
  | [] => 0
  | x :: r => uptoBulkEntry x + uptoBulkEntries r
def uptoBulkEntry {H : Type} : Lit × DataW H → Nat
  | (.string bytes, d) => bytes.length + uptoBulk d + 1
  | (_, d) => uptoBulk d + 1
 end
def uptoSmall : (H : Type) → List (DataW H) → Bool := fun _ ds => decide (uptoBulkAll ds ≤ 1048576)
def OpenSpec.upto (s : _root_.Go.ChangeSpec) : _root_.Go.OpenSpec := { _root_.Go.OpenSpec.ofChange s with cond := some uptoSmall }

/-- 'loesslaw10.PagerKeeps', WHERE WHAT IT READS IS OF BULK AT MOST 1048576: true; the input reads as it did. -/
def pagerKeepsUptoRow : OpenClaim := { program := "ytjklcnknbcmgoaagreatdoor", sum := "266e792b35ded45a55b6f71c3eadfe8bedf5f98224f73eafec0e790ebed0aee2", func := "loess/loesslaw10.PagerKeeps", spec := "pagerKeeps", inPlace := ["internal/abi.NoEscape", "internal/bytealg.MakeNoZero", "slices.overlaps[int]", "sync/atomic.LoadUint32", "(*internal/sync.Mutex).Lock", "internal/race.Disable", "sync/atomic.CompareAndSwapInt32", "internal/race.Enable", "internal/race.Acquire", "(*internal/sync.Mutex).lockSlow", "internal/sync.runtime_canSpin", "internal/sync.runtime_doSpin", "internal/sync.throw", "internal/sync.runtime_nanotime", "internal/sync.runtime_SemacquireMutex", "sync/atomic.AddInt32", "(*internal/sync.Mutex).Unlock", "internal/race.ReleaseMerge", "(*internal/sync.Mutex).unlockSlow", "internal/sync.fatal", "internal/sync.runtime_Semrelease", "sync/atomic.StoreUint32", "sync/atomic.AddInt64"], unfollowed := true, recurses := true, named := ["loess/keccak.constants", "loess/keccak.targets", "loess/keccak.offsets"], apart := false, laid := [("loess/keccak.offsets", laid_loess_keccak_offsets), ("loess/keccak.targets", laid_loess_keccak_targets), ("loess/keccak.constants", laid_loess_keccak_constants)], narrowed := true }
def PagerKeepsUptoSaid : Prop := pagerKeepsUptoRow.holds Tryz.pinned (OpenSpec.upto pagerKeepsSpec)

/-- 'loesslaw10.PagerRoom', WHERE WHAT IT READS IS OF BULK AT MOST 1048576: true; the input reads as it did. -/
def pagerRoomUptoRow : OpenClaim := { program := "ytjklcnknbcmgoaagreatdoor", sum := "266e792b35ded45a55b6f71c3eadfe8bedf5f98224f73eafec0e790ebed0aee2", func := "loess/loesslaw10.PagerRoom", spec := "pagerRoom", inPlace := ["internal/abi.NoEscape", "internal/bytealg.MakeNoZero", "slices.overlaps[int]", "sync/atomic.LoadUint32", "(*internal/sync.Mutex).Lock", "internal/race.Disable", "sync/atomic.CompareAndSwapInt32", "internal/race.Enable", "internal/race.Acquire", "(*internal/sync.Mutex).lockSlow", "internal/sync.runtime_canSpin", "internal/sync.runtime_doSpin", "internal/sync.throw", "internal/sync.runtime_nanotime", "internal/sync.runtime_SemacquireMutex", "sync/atomic.AddInt32", "(*internal/sync.Mutex).Unlock", "internal/race.ReleaseMerge", "(*internal/sync.Mutex).unlockSlow", "internal/sync.fatal", "internal/sync.runtime_Semrelease", "sync/atomic.StoreUint32", "sync/atomic.AddInt64"], unfollowed := true, recurses := true, named := ["loess/keccak.constants", "loess/keccak.targets", "loess/keccak.offsets"], apart := false, laid := [("loess/keccak.offsets", laid_loess_keccak_offsets), ("loess/keccak.targets", laid_loess_keccak_targets), ("loess/keccak.constants", laid_loess_keccak_constants)], narrowed := true }
def PagerRoomUptoSaid : Prop := pagerRoomUptoRow.holds Tryz.pinned (OpenSpec.upto pagerRoomSpec)

/-- 'loesslaw10.PagerNil', WHERE WHAT IT READS IS OF BULK AT MOST 1048576: true; the input reads as it did. -/
def pagerNilUptoRow : OpenClaim := { program := "ytjklcnknbcmgoaagreatdoor", sum := "266e792b35ded45a55b6f71c3eadfe8bedf5f98224f73eafec0e790ebed0aee2", func := "loess/loesslaw10.PagerNil", spec := "pagerNil", inPlace := ["sync/atomic.LoadUint32", "(*internal/sync.Mutex).Lock", "internal/race.Disable", "sync/atomic.CompareAndSwapInt32", "internal/race.Enable", "internal/race.Acquire", "(*internal/sync.Mutex).lockSlow", "internal/sync.runtime_canSpin", "internal/sync.runtime_doSpin", "internal/sync.throw", "internal/sync.runtime_nanotime", "internal/sync.runtime_SemacquireMutex", "sync/atomic.AddInt32", "(*internal/sync.Mutex).Unlock", "internal/race.ReleaseMerge", "(*internal/sync.Mutex).unlockSlow", "internal/sync.fatal", "internal/sync.runtime_Semrelease", "sync/atomic.StoreUint32", "slices.overlaps[int]", "internal/abi.NoEscape", "internal/bytealg.MakeNoZero", "sync/atomic.AddInt64", "sync/atomic.LoadInt64"], unfollowed := true, recurses := true, named := ["loess/keccak.constants", "loess/keccak.targets", "loess/keccak.offsets"], apart := false, laid := [("loess/keccak.offsets", laid_loess_keccak_offsets), ("loess/keccak.targets", laid_loess_keccak_targets), ("loess/keccak.constants", laid_loess_keccak_constants)], narrowed := true }
def PagerNilUptoSaid : Prop := pagerNilUptoRow.holds Tryz.pinned (OpenSpec.upto pagerNilSpec)

/-- 'loesslaw10.PagerRolls', WHERE WHAT IT READS IS OF BULK AT MOST 1048576: true; the input reads as it did. -/
def pagerRollsUptoRow : OpenClaim := { program := "ytjklcnknbcmgoaagreatdoor", sum := "266e792b35ded45a55b6f71c3eadfe8bedf5f98224f73eafec0e790ebed0aee2", func := "loess/loesslaw10.PagerRolls", spec := "pagerRolls", inPlace := ["internal/abi.NoEscape", "internal/bytealg.MakeNoZero", "slices.overlaps[int]", "sync/atomic.LoadUint32", "(*internal/sync.Mutex).Lock", "internal/race.Disable", "sync/atomic.CompareAndSwapInt32", "internal/race.Enable", "internal/race.Acquire", "(*internal/sync.Mutex).lockSlow", "internal/sync.runtime_canSpin", "internal/sync.runtime_doSpin", "internal/sync.throw", "internal/sync.runtime_nanotime", "internal/sync.runtime_SemacquireMutex", "sync/atomic.AddInt32", "(*internal/sync.Mutex).Unlock", "internal/race.ReleaseMerge", "(*internal/sync.Mutex).unlockSlow", "internal/sync.fatal", "internal/sync.runtime_Semrelease", "sync/atomic.StoreUint32", "sync/atomic.AddInt64"], unfollowed := true, recurses := true, named := ["loess/keccak.constants", "loess/keccak.targets", "loess/keccak.offsets"], apart := false, laid := [("loess/keccak.offsets", laid_loess_keccak_offsets), ("loess/keccak.targets", laid_loess_keccak_targets), ("loess/keccak.constants", laid_loess_keccak_constants)], narrowed := true }
def PagerRollsUptoSaid : Prop := pagerRollsUptoRow.holds Tryz.pinned (OpenSpec.upto pagerRollsSpec)

/-- 'loesslaw10.PagerGuards', WHERE WHAT IT READS IS OF BULK AT MOST 1048576: true; the input reads as it did. -/
def pagerGuardsUptoRow : OpenClaim := { program := "ytjklcnknbcmgoaagreatdoor", sum := "266e792b35ded45a55b6f71c3eadfe8bedf5f98224f73eafec0e790ebed0aee2", func := "loess/loesslaw10.PagerGuards", spec := "pagerGuards", inPlace := ["internal/abi.NoEscape", "internal/bytealg.MakeNoZero", "slices.overlaps[int]", "sync/atomic.LoadUint32", "(*internal/sync.Mutex).Lock", "internal/race.Disable", "sync/atomic.CompareAndSwapInt32", "internal/race.Enable", "internal/race.Acquire", "(*internal/sync.Mutex).lockSlow", "internal/sync.runtime_canSpin", "internal/sync.runtime_doSpin", "internal/sync.throw", "internal/sync.runtime_nanotime", "internal/sync.runtime_SemacquireMutex", "sync/atomic.AddInt32", "(*internal/sync.Mutex).Unlock", "internal/race.ReleaseMerge", "(*internal/sync.Mutex).unlockSlow", "internal/sync.fatal", "internal/sync.runtime_Semrelease", "sync/atomic.StoreUint32", "sync/atomic.AddInt64"], unfollowed := true, recurses := true, named := ["loess/keccak.constants", "loess/keccak.targets", "loess/keccak.offsets"], apart := false, laid := [("loess/keccak.offsets", laid_loess_keccak_offsets), ("loess/keccak.targets", laid_loess_keccak_targets), ("loess/keccak.constants", laid_loess_keccak_constants)], narrowed := true }
def PagerGuardsUptoSaid : Prop := pagerGuardsUptoRow.holds Tryz.pinned (OpenSpec.upto pagerGuardsSpec)

end Rows
end Go.Proofs.YtjklcnknbcmgoaaGreatDoor
