/-
  DERIVED. GIVEN WITH THE SEED: THE CARDS: each row of YtamijfdhaahalaaDoorRows.lean that lists a variable, with what it lists TIED to the program's text (the seventh form; the later family's looks); each row that meets fmt, with fmt's text TOLD by the authors' own Lean function (tested against real Go, not proved from fmt's source: count such statements apart). THE CARD IS WHAT COUNTS. Prove the row's statement (the work); the ties are given (YtamijfdhaahalaaDoorTie.lean); close each card by the builder's one call (the guide's Derived/Test/ToyasCard.lean, 'card_holds'). Laid BY PROGRAM, IN A SANDBOX (cutbox-door.mjs). By AI agents, Wed Nov 11 2026. No macro, syntax, notation, axiom, sorry.
-/
import Derived.Test.YtamijfdhaahalaaDoorRows
import GoSem.ClaimSeven
namespace Go.Proofs.YtamijfdhaahalaaDoor
namespace Rows

/-- THE TIED CARD OF 'loesslaw04.ScalarNumbers'. -/
def scalarNumbersCard : Claim7 := { stood := { row := scalarNumbersRow, standIns := [], harness := (true, "02591673f3a583c73119fd98b54608ac30b865a708b20d6230fe3d799cbd7a49"), looks := false }, kinds := [], alts := [], laidByText := true, laidKinds := [.data, .pinned], laidTests := true, laidLooks := .later }
def ScalarNumbersCardSaid : Prop := Claim7.holds Tryd.pinned (.plain (OpenSpec.ofChange scalarNumbersSpec)) scalarNumbersCard

/-- THE TIED CARD OF 'loesslaw04.ScalarRules'. -/
def scalarRulesCard : Claim7 := { stood := { row := scalarRulesRow, standIns := [], harness := (true, "02591673f3a583c73119fd98b54608ac30b865a708b20d6230fe3d799cbd7a49"), looks := false }, kinds := [], alts := [], laidByText := true, laidKinds := [.data, .pinned], laidTests := true, laidLooks := .later }
def ScalarRulesCardSaid : Prop := Claim7.holds Tryd.pinned (.plain (OpenSpec.ofChange scalarRulesSpec)) scalarRulesCard

/-- THE TIED CARD OF 'loesslaw04.ScalarAccounts'. -/
def scalarAccountsCard : Claim7 := { stood := { row := scalarAccountsRow, standIns := [], harness := (true, "02591673f3a583c73119fd98b54608ac30b865a708b20d6230fe3d799cbd7a49"), looks := false }, kinds := [], alts := [], laidByText := true, laidKinds := [.data, .data, .data, .data, .pinned], laidTests := true, laidLooks := .later }
def ScalarAccountsCardSaid : Prop := Claim7.holds Tryd.pinned (.plain (OpenSpec.ofChange scalarAccountsSpec)) scalarAccountsCard

/-- THE TIED CARD OF 'loesslaw04.ScalarBack'. -/
def scalarBackCard : Claim7 := { stood := { row := scalarBackRow, standIns := [], harness := (true, "02591673f3a583c73119fd98b54608ac30b865a708b20d6230fe3d799cbd7a49"), looks := false }, kinds := [], alts := [], laidByText := true, laidKinds := [.data, .pinned], laidTests := true, laidLooks := .later }
def ScalarBackCardSaid : Prop := Claim7.holds Tryd.pinned (.plain (OpenSpec.ofChange scalarBackSpec)) scalarBackCard

/-- THE TIED CARD OF 'loesslaw04.ScalarOrder'. -/
def scalarOrderCard : Claim7 := { stood := { row := scalarOrderRow, standIns := [], harness := (true, "02591673f3a583c73119fd98b54608ac30b865a708b20d6230fe3d799cbd7a49"), looks := false }, kinds := [], alts := [], laidByText := true, laidKinds := [.data, .pinned], laidTests := true, laidLooks := .later }
def ScalarOrderCardSaid : Prop := Claim7.holds Tryd.pinned (.plain (OpenSpec.ofChange scalarOrderSpec)) scalarOrderCard

/-- THE TIED CARD OF 'loesslaw04.ScalarLeaves'. -/
def scalarLeavesCard : Claim7 := { stood := { row := scalarLeavesRow, standIns := [], harness := (true, "02591673f3a583c73119fd98b54608ac30b865a708b20d6230fe3d799cbd7a49"), looks := false }, kinds := [], alts := [], laidByText := true, laidKinds := [.data, .data, .data, .data, .pinned], laidTests := true, laidLooks := .later }
def ScalarLeavesCardSaid : Prop := Claim7.holds Tryd.pinned (.plain (OpenSpec.ofChange scalarLeavesSpec)) scalarLeavesCard

/-- THE SECOND FORM's CARD OF 'loesslaw04.ScalarNumbers'. -/
def scalarNumbersUptoCard : Claim7 := { stood := { row := scalarNumbersUptoRow, standIns := [], harness := (true, "02591673f3a583c73119fd98b54608ac30b865a708b20d6230fe3d799cbd7a49"), looks := false }, kinds := [], alts := [], laidByText := true, laidKinds := [.data, .pinned], laidTests := true, laidLooks := .later }
def ScalarNumbersUptoCardSaid : Prop := Claim7.holds Tryd.pinned (.plain (OpenSpec.upto scalarNumbersSpec)) scalarNumbersUptoCard

/-- THE SECOND FORM's CARD OF 'loesslaw04.ScalarRules'. -/
def scalarRulesUptoCard : Claim7 := { stood := { row := scalarRulesUptoRow, standIns := [], harness := (true, "02591673f3a583c73119fd98b54608ac30b865a708b20d6230fe3d799cbd7a49"), looks := false }, kinds := [], alts := [], laidByText := true, laidKinds := [.data, .pinned], laidTests := true, laidLooks := .later }
def ScalarRulesUptoCardSaid : Prop := Claim7.holds Tryd.pinned (.plain (OpenSpec.upto scalarRulesSpec)) scalarRulesUptoCard

/-- THE SECOND FORM's CARD OF 'loesslaw04.ScalarAccounts'. -/
def scalarAccountsUptoCard : Claim7 := { stood := { row := scalarAccountsUptoRow, standIns := [], harness := (true, "02591673f3a583c73119fd98b54608ac30b865a708b20d6230fe3d799cbd7a49"), looks := false }, kinds := [], alts := [], laidByText := true, laidKinds := [.data, .data, .data, .data, .pinned], laidTests := true, laidLooks := .later }
def ScalarAccountsUptoCardSaid : Prop := Claim7.holds Tryd.pinned (.plain (OpenSpec.upto scalarAccountsSpec)) scalarAccountsUptoCard

/-- THE SECOND FORM's CARD OF 'loesslaw04.ScalarBack'. -/
def scalarBackUptoCard : Claim7 := { stood := { row := scalarBackUptoRow, standIns := [], harness := (true, "02591673f3a583c73119fd98b54608ac30b865a708b20d6230fe3d799cbd7a49"), looks := false }, kinds := [], alts := [], laidByText := true, laidKinds := [.data, .pinned], laidTests := true, laidLooks := .later }
def ScalarBackUptoCardSaid : Prop := Claim7.holds Tryd.pinned (.plain (OpenSpec.upto scalarBackSpec)) scalarBackUptoCard

/-- THE SECOND FORM's CARD OF 'loesslaw04.ScalarOrder'. -/
def scalarOrderUptoCard : Claim7 := { stood := { row := scalarOrderUptoRow, standIns := [], harness := (true, "02591673f3a583c73119fd98b54608ac30b865a708b20d6230fe3d799cbd7a49"), looks := false }, kinds := [], alts := [], laidByText := true, laidKinds := [.data, .pinned], laidTests := true, laidLooks := .later }
def ScalarOrderUptoCardSaid : Prop := Claim7.holds Tryd.pinned (.plain (OpenSpec.upto scalarOrderSpec)) scalarOrderUptoCard

/-- THE SECOND FORM's CARD OF 'loesslaw04.ScalarLeaves'. -/
def scalarLeavesUptoCard : Claim7 := { stood := { row := scalarLeavesUptoRow, standIns := [], harness := (true, "02591673f3a583c73119fd98b54608ac30b865a708b20d6230fe3d799cbd7a49"), looks := false }, kinds := [], alts := [], laidByText := true, laidKinds := [.data, .data, .data, .data, .pinned], laidTests := true, laidLooks := .later }
def ScalarLeavesUptoCardSaid : Prop := Claim7.holds Tryd.pinned (.plain (OpenSpec.upto scalarLeavesSpec)) scalarLeavesUptoCard
end Rows
end Go.Proofs.YtamijfdhaahalaaDoor
