/-
  DERIVED. GIVEN WITH THE SEED: THE CARDS: each row of YtooednielegmnabDoorRows.lean that lists a variable, with what it lists TIED to the program's text (the seventh form; the later family's looks); each row that meets fmt, with fmt's text TOLD by the authors' own Lean function (tested against real Go, not proved from fmt's source: count such statements apart). THE CARD IS WHAT COUNTS. Prove the row's statement (the work); the ties are given (YtooednielegmnabDoorTie.lean); close each card by the builder's one call (the guide's Derived/Test/ToyasCard.lean, 'card_holds'). Laid BY PROGRAM, IN A SANDBOX (cutbox-door.mjs). By AI agents, Wed Nov 11 2026. No macro, syntax, notation, axiom, sorry.
-/
import Derived.Test.YtooednielegmnabDoorRows
import GoSem.ClaimSeven
namespace Go.Proofs.YtooednielegmnabDoor
namespace Rows

/-- THE TIED CARD OF 'loesslaw01.KeccakAnew'. -/
def keccakAnewCard : Claim7 := { stood := { row := keccakAnewRow, standIns := [], harness := (true, "34dd0bc2751c36dff23aeaba3f905b4a8af4a1e30752df5a40c9a7c4b017a361"), looks := false }, kinds := [], alts := [], laidByText := true, laidKinds := [.data, .data, .data], laidTests := true, laidLooks := .later }
def KeccakAnewCardSaid : Prop := Claim7.holds Tryd.pinned (.plain (OpenSpec.ofChange keccakAnewSpec)) keccakAnewCard

/-- THE SECOND FORM's CARD OF 'loesslaw01.KeccakAnew'. -/
def keccakAnewUptoCard : Claim7 := { stood := { row := keccakAnewUptoRow, standIns := [], harness := (true, "34dd0bc2751c36dff23aeaba3f905b4a8af4a1e30752df5a40c9a7c4b017a361"), looks := false }, kinds := [], alts := [], laidByText := true, laidKinds := [.data, .data, .data], laidTests := true, laidLooks := .later }
def KeccakAnewUptoCardSaid : Prop := Claim7.holds Tryd.pinned (.plain (OpenSpec.upto keccakAnewSpec)) keccakAnewUptoCard
end Rows
end Go.Proofs.YtooednielegmnabDoor
