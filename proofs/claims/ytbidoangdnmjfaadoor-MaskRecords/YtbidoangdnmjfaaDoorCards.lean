/-
  DERIVED. GIVEN WITH THE SEED: THE CARDS: each row of YtbidoangdnmjfaaDoorRows.lean that lists a variable, with what it lists TIED to the program's text (the seventh form; the later family's looks); each row that meets fmt, with fmt's text TOLD by the authors' own Lean function (tested against real Go, not proved from fmt's source: count such statements apart). THE CARD IS WHAT COUNTS. Prove the row's statement (the work); the ties are given (YtbidoangdnmjfaaDoorTie.lean); close each card by the builder's one call (the guide's Derived/Test/ToyasCard.lean, 'card_holds'). Laid BY PROGRAM, IN A SANDBOX (cutbox-door.mjs). By AI agents, Wed Nov 11 2026. No macro, syntax, notation, axiom, sorry.
-/
import Derived.Test.YtbidoangdnmjfaaDoorRows
import GoSem.ClaimSeven
namespace Go.Proofs.YtbidoangdnmjfaaDoor
namespace Rows

/-- THE TIED CARD OF 'loesslaw15.MaskRecords'. -/
def maskRecordsCard : Claim7 := { stood := { row := maskRecordsRow, standIns := [], harness := (true, "00acb8675c10aca1c37281d842ee208fcf32cedd077575953c76de4d78c44a16"), looks := false }, kinds := [], alts := [], laidByText := true, laidKinds := [.data], laidTests := true, laidLooks := .later }
def MaskRecordsCardSaid : Prop := Claim7.holds Tryd.pinned (.plain (OpenSpec.ofChange maskRecordsSpec)) maskRecordsCard

/-- THE TIED CARD OF 'loesslaw15.MaskParts'. -/
def maskPartsCard : Claim7 := { stood := { row := maskPartsRow, standIns := [], harness := (true, "00acb8675c10aca1c37281d842ee208fcf32cedd077575953c76de4d78c44a16"), looks := false }, kinds := [], alts := [], laidByText := true, laidKinds := [.data], laidTests := true, laidLooks := .later }
def MaskPartsCardSaid : Prop := Claim7.holds Tryd.pinned (.plain (OpenSpec.ofChange maskPartsSpec)) maskPartsCard

/-- THE TIED CARD OF 'loesslaw15.MaskBack'. -/
def maskBackCard : Claim7 := { stood := { row := maskBackRow, standIns := [], harness := (true, "00acb8675c10aca1c37281d842ee208fcf32cedd077575953c76de4d78c44a16"), looks := false }, kinds := [], alts := [], laidByText := true, laidKinds := [.data], laidTests := true, laidLooks := .later }
def MaskBackCardSaid : Prop := Claim7.holds Tryd.pinned (.plain (OpenSpec.ofChange maskBackSpec)) maskBackCard

/-- THE TIED CARD OF 'loesslaw15.MaskBits'. -/
def maskBitsCard : Claim7 := { stood := { row := maskBitsRow, standIns := [], harness := (true, "00acb8675c10aca1c37281d842ee208fcf32cedd077575953c76de4d78c44a16"), looks := false }, kinds := [], alts := [], laidByText := true, laidKinds := [.data], laidTests := true, laidLooks := .later }
def MaskBitsCardSaid : Prop := Claim7.holds Tryd.pinned (.plain (OpenSpec.ofChange maskBitsSpec)) maskBitsCard

/-- THE TIED CARD OF 'loesslaw15.MaskOrder'. -/
def maskOrderCard : Claim7 := { stood := { row := maskOrderRow, standIns := [], harness := (true, "00acb8675c10aca1c37281d842ee208fcf32cedd077575953c76de4d78c44a16"), looks := false }, kinds := [], alts := [], laidByText := true, laidKinds := [.data], laidTests := true, laidLooks := .later }
def MaskOrderCardSaid : Prop := Claim7.holds Tryd.pinned (.plain (OpenSpec.ofChange maskOrderSpec)) maskOrderCard

/-- THE SECOND FORM's CARD OF 'loesslaw15.MaskRecords'. -/
def maskRecordsUptoCard : Claim7 := { stood := { row := maskRecordsUptoRow, standIns := [], harness := (true, "00acb8675c10aca1c37281d842ee208fcf32cedd077575953c76de4d78c44a16"), looks := false }, kinds := [], alts := [], laidByText := true, laidKinds := [.data], laidTests := true, laidLooks := .later }
def MaskRecordsUptoCardSaid : Prop := Claim7.holds Tryd.pinned (.plain (OpenSpec.upto maskRecordsSpec)) maskRecordsUptoCard

/-- THE SECOND FORM's CARD OF 'loesslaw15.MaskParts'. -/
def maskPartsUptoCard : Claim7 := { stood := { row := maskPartsUptoRow, standIns := [], harness := (true, "00acb8675c10aca1c37281d842ee208fcf32cedd077575953c76de4d78c44a16"), looks := false }, kinds := [], alts := [], laidByText := true, laidKinds := [.data], laidTests := true, laidLooks := .later }
def MaskPartsUptoCardSaid : Prop := Claim7.holds Tryd.pinned (.plain (OpenSpec.upto maskPartsSpec)) maskPartsUptoCard

/-- THE SECOND FORM's CARD OF 'loesslaw15.MaskBack'. -/
def maskBackUptoCard : Claim7 := { stood := { row := maskBackUptoRow, standIns := [], harness := (true, "00acb8675c10aca1c37281d842ee208fcf32cedd077575953c76de4d78c44a16"), looks := false }, kinds := [], alts := [], laidByText := true, laidKinds := [.data], laidTests := true, laidLooks := .later }
def MaskBackUptoCardSaid : Prop := Claim7.holds Tryd.pinned (.plain (OpenSpec.upto maskBackSpec)) maskBackUptoCard

/-- THE SECOND FORM's CARD OF 'loesslaw15.MaskBits'. -/
def maskBitsUptoCard : Claim7 := { stood := { row := maskBitsUptoRow, standIns := [], harness := (true, "00acb8675c10aca1c37281d842ee208fcf32cedd077575953c76de4d78c44a16"), looks := false }, kinds := [], alts := [], laidByText := true, laidKinds := [.data], laidTests := true, laidLooks := .later }
def MaskBitsUptoCardSaid : Prop := Claim7.holds Tryd.pinned (.plain (OpenSpec.upto maskBitsSpec)) maskBitsUptoCard

/-- THE SECOND FORM's CARD OF 'loesslaw15.MaskOrder'. -/
def maskOrderUptoCard : Claim7 := { stood := { row := maskOrderUptoRow, standIns := [], harness := (true, "00acb8675c10aca1c37281d842ee208fcf32cedd077575953c76de4d78c44a16"), looks := false }, kinds := [], alts := [], laidByText := true, laidKinds := [.data], laidTests := true, laidLooks := .later }
def MaskOrderUptoCardSaid : Prop := Claim7.holds Tryd.pinned (.plain (OpenSpec.upto maskOrderSpec)) maskOrderUptoCard
end Rows
end Go.Proofs.YtbidoangdnmjfaaDoor
