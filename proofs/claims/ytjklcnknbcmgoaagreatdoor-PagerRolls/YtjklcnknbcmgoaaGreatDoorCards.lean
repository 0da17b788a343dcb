/-
  DERIVED. GIVEN WITH THE SEED: THE CARDS: each row of YtjklcnknbcmgoaaGreatDoorRows.lean that lists a variable, with what it lists TIED to the program's text (the seventh form; the later family's looks); each row that meets fmt, with fmt's text TOLD by the authors' own Lean function (tested against real Go, not proved from fmt's source: count such statements apart). THE CARD IS WHAT COUNTS. Prove the row's statement (the work); the ties are given (YtjklcnknbcmgoaaGreatDoorTie.lean); close each card by the builder's one call (the guide's Derived/Test/ToyasCard.lean, 'card_holds'). Laid BY PROGRAM, IN A SANDBOX (cutbox-door.mjs). By AI agents, Wed Nov 11 2026. No macro, syntax, notation, axiom, sorry.
-/
import Derived.Test.YtjklcnknbcmgoaaGreatDoorRows
import GoSem.ClaimSeven
namespace Go.Proofs.YtjklcnknbcmgoaaGreatDoor
namespace Rows

/-- THE TIED CARD OF 'loesslaw10.PagerKeeps'. -/
def pagerKeepsCard : Claim7 := { stood := { row := pagerKeepsRow, standIns := [], harness := (true, "63dfffbd3eadcdb2deb98113b1b92c361d8083bcc719ee112f52b39e8c0a3f2f"), looks := false }, kinds := [], alts := [], laidByText := true, laidKinds := [.data, .data, .data], laidTests := true, laidLooks := .later }
def PagerKeepsCardSaid : Prop := Claim7.holds Tryz.pinned (.plain (OpenSpec.ofChange pagerKeepsSpec)) pagerKeepsCard

/-- THE TIED CARD OF 'loesslaw10.PagerRoom'. -/
def pagerRoomCard : Claim7 := { stood := { row := pagerRoomRow, standIns := [], harness := (true, "63dfffbd3eadcdb2deb98113b1b92c361d8083bcc719ee112f52b39e8c0a3f2f"), looks := false }, kinds := [], alts := [], laidByText := true, laidKinds := [.data, .data, .data], laidTests := true, laidLooks := .later }
def PagerRoomCardSaid : Prop := Claim7.holds Tryz.pinned (.plain (OpenSpec.ofChange pagerRoomSpec)) pagerRoomCard

/-- THE TIED CARD OF 'loesslaw10.PagerNil'. -/
def pagerNilCard : Claim7 := { stood := { row := pagerNilRow, standIns := [], harness := (true, "63dfffbd3eadcdb2deb98113b1b92c361d8083bcc719ee112f52b39e8c0a3f2f"), looks := false }, kinds := [], alts := [], laidByText := true, laidKinds := [.data, .data, .data], laidTests := true, laidLooks := .later }
def PagerNilCardSaid : Prop := Claim7.holds Tryz.pinned (.plain (OpenSpec.ofChange pagerNilSpec)) pagerNilCard

/-- THE TIED CARD OF 'loesslaw10.PagerRolls'. -/
def pagerRollsCard : Claim7 := { stood := { row := pagerRollsRow, standIns := [], harness := (true, "63dfffbd3eadcdb2deb98113b1b92c361d8083bcc719ee112f52b39e8c0a3f2f"), looks := false }, kinds := [], alts := [], laidByText := true, laidKinds := [.data, .data, .data], laidTests := true, laidLooks := .later }
def PagerRollsCardSaid : Prop := Claim7.holds Tryz.pinned (.plain (OpenSpec.ofChange pagerRollsSpec)) pagerRollsCard

/-- THE TIED CARD OF 'loesslaw10.PagerGuards'. -/
def pagerGuardsCard : Claim7 := { stood := { row := pagerGuardsRow, standIns := [], harness := (true, "63dfffbd3eadcdb2deb98113b1b92c361d8083bcc719ee112f52b39e8c0a3f2f"), looks := false }, kinds := [], alts := [], laidByText := true, laidKinds := [.data, .data, .data], laidTests := true, laidLooks := .later }
def PagerGuardsCardSaid : Prop := Claim7.holds Tryz.pinned (.plain (OpenSpec.ofChange pagerGuardsSpec)) pagerGuardsCard

/-- THE SECOND FORM's CARD OF 'loesslaw10.PagerKeeps'. -/
def pagerKeepsUptoCard : Claim7 := { stood := { row := pagerKeepsUptoRow, standIns := [], harness := (true, "63dfffbd3eadcdb2deb98113b1b92c361d8083bcc719ee112f52b39e8c0a3f2f"), looks := false }, kinds := [], alts := [], laidByText := true, laidKinds := [.data, .data, .data], laidTests := true, laidLooks := .later }
def PagerKeepsUptoCardSaid : Prop := Claim7.holds Tryz.pinned (.plain (OpenSpec.upto pagerKeepsSpec)) pagerKeepsUptoCard

/-- THE SECOND FORM's CARD OF 'loesslaw10.PagerRoom'. -/
def pagerRoomUptoCard : Claim7 := { stood := { row := pagerRoomUptoRow, standIns := [], harness := (true, "63dfffbd3eadcdb2deb98113b1b92c361d8083bcc719ee112f52b39e8c0a3f2f"), looks := false }, kinds := [], alts := [], laidByText := true, laidKinds := [.data, .data, .data], laidTests := true, laidLooks := .later }
def PagerRoomUptoCardSaid : Prop := Claim7.holds Tryz.pinned (.plain (OpenSpec.upto pagerRoomSpec)) pagerRoomUptoCard

/-- THE SECOND FORM's CARD OF 'loesslaw10.PagerNil'. -/
def pagerNilUptoCard : Claim7 := { stood := { row := pagerNilUptoRow, standIns := [], harness := (true, "63dfffbd3eadcdb2deb98113b1b92c361d8083bcc719ee112f52b39e8c0a3f2f"), looks := false }, kinds := [], alts := [], laidByText := true, laidKinds := [.data, .data, .data], laidTests := true, laidLooks := .later }
def PagerNilUptoCardSaid : Prop := Claim7.holds Tryz.pinned (.plain (OpenSpec.upto pagerNilSpec)) pagerNilUptoCard

/-- THE SECOND FORM's CARD OF 'loesslaw10.PagerRolls'. -/
def pagerRollsUptoCard : Claim7 := { stood := { row := pagerRollsUptoRow, standIns := [], harness := (true, "63dfffbd3eadcdb2deb98113b1b92c361d8083bcc719ee112f52b39e8c0a3f2f"), looks := false }, kinds := [], alts := [], laidByText := true, laidKinds := [.data, .data, .data], laidTests := true, laidLooks := .later }
def PagerRollsUptoCardSaid : Prop := Claim7.holds Tryz.pinned (.plain (OpenSpec.upto pagerRollsSpec)) pagerRollsUptoCard

/-- THE SECOND FORM's CARD OF 'loesslaw10.PagerGuards'. -/
def pagerGuardsUptoCard : Claim7 := { stood := { row := pagerGuardsUptoRow, standIns := [], harness := (true, "63dfffbd3eadcdb2deb98113b1b92c361d8083bcc719ee112f52b39e8c0a3f2f"), looks := false }, kinds := [], alts := [], laidByText := true, laidKinds := [.data, .data, .data], laidTests := true, laidLooks := .later }
def PagerGuardsUptoCardSaid : Prop := Claim7.holds Tryz.pinned (.plain (OpenSpec.upto pagerGuardsSpec)) pagerGuardsUptoCard
end Rows
end Go.Proofs.YtjklcnknbcmgoaaGreatDoor
