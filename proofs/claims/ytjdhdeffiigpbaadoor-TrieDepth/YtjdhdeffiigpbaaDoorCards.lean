/-
  DERIVED. GIVEN WITH THE SEED: THE CARDS: each row of YtjdhdeffiigpbaaDoorRows.lean that lists a variable, with what it lists TIED to the program's text (the seventh form; the later family's looks); each row that meets fmt, with fmt's text TOLD by the authors' own Lean function (tested against real Go, not proved from fmt's source: count such statements apart). THE CARD IS WHAT COUNTS. Prove the row's statement (the work); the ties are given (YtjdhdeffiigpbaaDoorTie.lean); close each card by the builder's one call (the guide's Derived/Test/ToyasCard.lean, 'card_holds'). Laid BY PROGRAM, IN A SANDBOX (cutbox-door.mjs). By AI agents, Wed Nov 11 2026. No macro, syntax, notation, axiom, sorry.
-/
import Derived.Test.YtjdhdeffiigpbaaDoorRows
import GoSem.ClaimSeven
namespace Go.Proofs.YtjdhdeffiigpbaaDoor
namespace Rows

/-- THE TIED CARD OF 'loesslaw14.TrieNodes'. -/
def trieNodesCard : Claim7 := { stood := { row := trieNodesRow, standIns := [], harness := (true, "6d1d2b54df7c348dddcea1ab4194948b1e20b6391e936f795406864daff2a853"), looks := false }, kinds := [], alts := [], laidByText := true, laidKinds := [.data, .data, .data], laidTests := true, laidLooks := .later }
def TrieNodesCardSaid : Prop := Claim7.holds Tryd.pinned (.plain (OpenSpec.ofChange trieNodesSpec)) trieNodesCard

/-- THE TIED CARD OF 'loesslaw14.TrieDepth'. -/
def trieDepthCard : Claim7 := { stood := { row := trieDepthRow, standIns := [], harness := (true, "6d1d2b54df7c348dddcea1ab4194948b1e20b6391e936f795406864daff2a853"), looks := false }, kinds := [], alts := [], laidByText := true, laidKinds := [.data, .data, .data], laidTests := true, laidLooks := .later }
def TrieDepthCardSaid : Prop := Claim7.holds Tryd.pinned (.plain (OpenSpec.ofChange trieDepthSpec)) trieDepthCard

/-- THE TIED CARD OF 'loesslaw14.TrieNil'. -/
def trieNilCard : Claim7 := { stood := { row := trieNilRow, standIns := [], harness := (true, "6d1d2b54df7c348dddcea1ab4194948b1e20b6391e936f795406864daff2a853"), looks := false }, kinds := [], alts := [], laidByText := true, laidKinds := [.data, .data, .data], laidTests := true, laidLooks := .later }
def TrieNilCardSaid : Prop := Claim7.holds Tryd.pinned (.plain (OpenSpec.ofChange trieNilSpec)) trieNilCard

/-- THE TIED CARD OF 'loesslaw14.TrieLong'. -/
def trieLongCard : Claim7 := { stood := { row := trieLongRow, standIns := [], harness := (true, "6d1d2b54df7c348dddcea1ab4194948b1e20b6391e936f795406864daff2a853"), looks := false }, kinds := [], alts := [], laidByText := true, laidKinds := [.data, .data, .data], laidTests := true, laidLooks := .later }
def TrieLongCardSaid : Prop := Claim7.holds Tryd.pinned (.plain (OpenSpec.ofChange trieLongSpec)) trieLongCard

/-- THE SECOND FORM's CARD OF 'loesslaw14.TrieNodes'. -/
def trieNodesUptoCard : Claim7 := { stood := { row := trieNodesUptoRow, standIns := [], harness := (true, "6d1d2b54df7c348dddcea1ab4194948b1e20b6391e936f795406864daff2a853"), looks := false }, kinds := [], alts := [], laidByText := true, laidKinds := [.data, .data, .data], laidTests := true, laidLooks := .later }
def TrieNodesUptoCardSaid : Prop := Claim7.holds Tryd.pinned (.plain (OpenSpec.upto trieNodesSpec)) trieNodesUptoCard

/-- THE SECOND FORM's CARD OF 'loesslaw14.TrieDepth'. -/
def trieDepthUptoCard : Claim7 := { stood := { row := trieDepthUptoRow, standIns := [], harness := (true, "6d1d2b54df7c348dddcea1ab4194948b1e20b6391e936f795406864daff2a853"), looks := false }, kinds := [], alts := [], laidByText := true, laidKinds := [.data, .data, .data], laidTests := true, laidLooks := .later }
def TrieDepthUptoCardSaid : Prop := Claim7.holds Tryd.pinned (.plain (OpenSpec.upto trieDepthSpec)) trieDepthUptoCard

/-- THE SECOND FORM's CARD OF 'loesslaw14.TrieNil'. -/
def trieNilUptoCard : Claim7 := { stood := { row := trieNilUptoRow, standIns := [], harness := (true, "6d1d2b54df7c348dddcea1ab4194948b1e20b6391e936f795406864daff2a853"), looks := false }, kinds := [], alts := [], laidByText := true, laidKinds := [.data, .data, .data], laidTests := true, laidLooks := .later }
def TrieNilUptoCardSaid : Prop := Claim7.holds Tryd.pinned (.plain (OpenSpec.upto trieNilSpec)) trieNilUptoCard

/-- THE SECOND FORM's CARD OF 'loesslaw14.TrieLong'. -/
def trieLongUptoCard : Claim7 := { stood := { row := trieLongUptoRow, standIns := [], harness := (true, "6d1d2b54df7c348dddcea1ab4194948b1e20b6391e936f795406864daff2a853"), looks := false }, kinds := [], alts := [], laidByText := true, laidKinds := [.data, .data, .data], laidTests := true, laidLooks := .later }
def TrieLongUptoCardSaid : Prop := Claim7.holds Tryd.pinned (.plain (OpenSpec.upto trieLongSpec)) trieLongUptoCard
end Rows
end Go.Proofs.YtjdhdeffiigpbaaDoor
