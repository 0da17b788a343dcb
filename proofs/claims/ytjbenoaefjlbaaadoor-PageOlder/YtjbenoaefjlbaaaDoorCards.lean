/-
  DERIVED. GIVEN WITH THE SEED: THE CARDS: each row of YtjbenoaefjlbaaaDoorRows.lean that lists a variable, with what it lists TIED to the program's text (the seventh form; the later family's looks); each row that meets fmt, with fmt's text TOLD by the authors' own Lean function (tested against real Go, not proved from fmt's source: count such statements apart). THE CARD IS WHAT COUNTS. Prove the row's statement (the work); the ties are given (YtjbenoaefjlbaaaDoorTie.lean); close each card by the builder's one call (the guide's Derived/Test/ToyasCard.lean, 'card_holds'). Laid BY PROGRAM, IN A SANDBOX (cutbox-door.mjs). By AI agents, Wed Nov 11 2026. No macro, syntax, notation, axiom, sorry.
-/
import Derived.Test.YtjbenoaefjlbaaaDoorRows
import GoSem.ClaimSeven
namespace Go.Proofs.YtjbenoaefjlbaaaDoor
namespace Rows

/-- THE TIED CARD OF 'loesslaw08.PageSeals'. -/
def pageSealsCard : Claim7 := { stood := { row := pageSealsRow, standIns := [], harness := (true, "5e9cb1b4d5ad734169b3454c8c3ec4db8af946dddf5153e435157fc824924a23"), looks := false }, kinds := [], alts := [], laidByText := true, laidKinds := [.data, .data, .data], laidTests := true, laidLooks := .later }
def PageSealsCardSaid : Prop := Claim7.holds Tryd.pinned (.plain (OpenSpec.ofChange pageSealsSpec)) pageSealsCard

/-- THE TIED CARD OF 'loesslaw08.PageMetas'. -/
def pageMetasCard : Claim7 := { stood := { row := pageMetasRow, standIns := [], harness := (true, "5e9cb1b4d5ad734169b3454c8c3ec4db8af946dddf5153e435157fc824924a23"), looks := false }, kinds := [], alts := [], laidByText := true, laidKinds := [.data, .data, .data], laidTests := true, laidLooks := .later }
def PageMetasCardSaid : Prop := Claim7.holds Tryd.pinned (.plain (OpenSpec.ofChange pageMetasSpec)) pageMetasCard

/-- THE TIED CARD OF 'loesslaw08.PageTorn'. -/
def pageTornCard : Claim7 := { stood := { row := pageTornRow, standIns := [], harness := (true, "5e9cb1b4d5ad734169b3454c8c3ec4db8af946dddf5153e435157fc824924a23"), looks := false }, kinds := [], alts := [], laidByText := true, laidKinds := [.data, .data, .data], laidTests := true, laidLooks := .later }
def PageTornCardSaid : Prop := Claim7.holds Tryd.pinned (.plain (OpenSpec.ofChange pageTornSpec)) pageTornCard

/-- THE TIED CARD OF 'loesslaw08.PageOne'. -/
def pageOneCard : Claim7 := { stood := { row := pageOneRow, standIns := [], harness := (true, "5e9cb1b4d5ad734169b3454c8c3ec4db8af946dddf5153e435157fc824924a23"), looks := false }, kinds := [], alts := [], laidByText := true, laidKinds := [.data, .data, .data], laidTests := true, laidLooks := .later }
def PageOneCardSaid : Prop := Claim7.holds Tryd.pinned (.plain (OpenSpec.ofChange pageOneSpec)) pageOneCard

/-- THE TIED CARD OF 'loesslaw08.PageOlder'. -/
def pageOlderCard : Claim7 := { stood := { row := pageOlderRow, standIns := [], harness := (true, "5e9cb1b4d5ad734169b3454c8c3ec4db8af946dddf5153e435157fc824924a23"), looks := false }, kinds := [], alts := [], laidByText := true, laidKinds := [.data, .data, .data], laidTests := true, laidLooks := .later }
def PageOlderCardSaid : Prop := Claim7.holds Tryd.pinned (.plain (OpenSpec.ofChange pageOlderSpec)) pageOlderCard

/-- THE SECOND FORM's CARD OF 'loesslaw08.PageSeals'. -/
def pageSealsUptoCard : Claim7 := { stood := { row := pageSealsUptoRow, standIns := [], harness := (true, "5e9cb1b4d5ad734169b3454c8c3ec4db8af946dddf5153e435157fc824924a23"), looks := false }, kinds := [], alts := [], laidByText := true, laidKinds := [.data, .data, .data], laidTests := true, laidLooks := .later }
def PageSealsUptoCardSaid : Prop := Claim7.holds Tryd.pinned (.plain (OpenSpec.upto pageSealsSpec)) pageSealsUptoCard

/-- THE SECOND FORM's CARD OF 'loesslaw08.PageMetas'. -/
def pageMetasUptoCard : Claim7 := { stood := { row := pageMetasUptoRow, standIns := [], harness := (true, "5e9cb1b4d5ad734169b3454c8c3ec4db8af946dddf5153e435157fc824924a23"), looks := false }, kinds := [], alts := [], laidByText := true, laidKinds := [.data, .data, .data], laidTests := true, laidLooks := .later }
def PageMetasUptoCardSaid : Prop := Claim7.holds Tryd.pinned (.plain (OpenSpec.upto pageMetasSpec)) pageMetasUptoCard

/-- THE SECOND FORM's CARD OF 'loesslaw08.PageTorn'. -/
def pageTornUptoCard : Claim7 := { stood := { row := pageTornUptoRow, standIns := [], harness := (true, "5e9cb1b4d5ad734169b3454c8c3ec4db8af946dddf5153e435157fc824924a23"), looks := false }, kinds := [], alts := [], laidByText := true, laidKinds := [.data, .data, .data], laidTests := true, laidLooks := .later }
def PageTornUptoCardSaid : Prop := Claim7.holds Tryd.pinned (.plain (OpenSpec.upto pageTornSpec)) pageTornUptoCard

/-- THE SECOND FORM's CARD OF 'loesslaw08.PageOne'. -/
def pageOneUptoCard : Claim7 := { stood := { row := pageOneUptoRow, standIns := [], harness := (true, "5e9cb1b4d5ad734169b3454c8c3ec4db8af946dddf5153e435157fc824924a23"), looks := false }, kinds := [], alts := [], laidByText := true, laidKinds := [.data, .data, .data], laidTests := true, laidLooks := .later }
def PageOneUptoCardSaid : Prop := Claim7.holds Tryd.pinned (.plain (OpenSpec.upto pageOneSpec)) pageOneUptoCard

/-- THE SECOND FORM's CARD OF 'loesslaw08.PageOlder'. -/
def pageOlderUptoCard : Claim7 := { stood := { row := pageOlderUptoRow, standIns := [], harness := (true, "5e9cb1b4d5ad734169b3454c8c3ec4db8af946dddf5153e435157fc824924a23"), looks := false }, kinds := [], alts := [], laidByText := true, laidKinds := [.data, .data, .data], laidTests := true, laidLooks := .later }
def PageOlderUptoCardSaid : Prop := Claim7.holds Tryd.pinned (.plain (OpenSpec.upto pageOlderSpec)) pageOlderUptoCard
end Rows
end Go.Proofs.YtjbenoaefjlbaaaDoor
