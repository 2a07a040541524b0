/-
  DERIVED. GIVEN WITH THE SEED: THE CARDS: each row of YtedehdbajiaaiaaGreatDoorRows.lean that lists a variable, with what it lists TIED to the program's text (the seventh form; the later family's looks); each row that meets fmt, with fmt's text TOLD by the authors' own Lean function (tested against real Go, not proved from fmt's source: count such statements apart). THE CARD IS WHAT COUNTS. Prove the row's statement (the work); the ties are given (YtedehdbajiaaiaaGreatDoorTie.lean); close each card by the builder's one call (the guide's Derived/Test/ToyasCard.lean, 'card_holds'). Laid BY PROGRAM, IN A SANDBOX (cutbox-door.mjs). By AI agents, Wed Nov 11 2026. No macro, syntax, notation, axiom, sorry.
-/
import Derived.Test.YtedehdbajiaaiaaGreatDoorRows
import GoSem.ClaimSeven
namespace Go.Proofs.YtedehdbajiaaiaaGreatDoor
namespace Rows

/-- THE TIED CARD OF 'clapperlaw09.TicketBodies'. -/
def ticketBodiesCard : Claim7 := { stood := { row := ticketBodiesRow, standIns := [], harness := (true, "5b2a7983533934453dc10b20082c5486a4934877c51a64be40c8bbd1038a4a3c"), looks := true }, kinds := [], alts := [], laidByText := true, laidKinds := [.data], laidTests := true, laidLooks := .later }
def TicketBodiesCardSaid : Prop := Claim7.holds Tryz.pinned (.plain (OpenSpec.ofChange ticketBodiesSpec)) ticketBodiesCard

/-- THE TIED CARD OF 'clapperlaw09.TicketOpens'. -/
def ticketOpensCard : Claim7 := { stood := { row := ticketOpensRow, standIns := [], harness := (true, "5b2a7983533934453dc10b20082c5486a4934877c51a64be40c8bbd1038a4a3c"), looks := true }, kinds := [], alts := [], laidByText := true, laidKinds := [.data], laidTests := true, laidLooks := .later }
def TicketOpensCardSaid : Prop := Claim7.holds Tryz.pinned (.plain (OpenSpec.ofChange ticketOpensSpec)) ticketOpensCard

/-- THE TIED CARD OF 'clapperlaw09.TicketBack'. -/
def ticketBackCard : Claim7 := { stood := { row := ticketBackRow, standIns := [], harness := (true, "5b2a7983533934453dc10b20082c5486a4934877c51a64be40c8bbd1038a4a3c"), looks := true }, kinds := [], alts := [], laidByText := true, laidKinds := [.data], laidTests := true, laidLooks := .later }
def TicketBackCardSaid : Prop := Claim7.holds Tryz.pinned (.plain (OpenSpec.ofChange ticketBackSpec)) ticketBackCard

/-- THE SECOND FORM's CARD OF 'clapperlaw09.TicketBodies'. -/
def ticketBodiesUptoCard : Claim7 := { stood := { row := ticketBodiesUptoRow, standIns := [], harness := (true, "5b2a7983533934453dc10b20082c5486a4934877c51a64be40c8bbd1038a4a3c"), looks := true }, kinds := [], alts := [], laidByText := true, laidKinds := [.data], laidTests := true, laidLooks := .later }
def TicketBodiesUptoCardSaid : Prop := Claim7.holds Tryz.pinned (.plain (OpenSpec.upto ticketBodiesSpec)) ticketBodiesUptoCard

/-- THE SECOND FORM's CARD OF 'clapperlaw09.TicketOpens'. -/
def ticketOpensUptoCard : Claim7 := { stood := { row := ticketOpensUptoRow, standIns := [], harness := (true, "5b2a7983533934453dc10b20082c5486a4934877c51a64be40c8bbd1038a4a3c"), looks := true }, kinds := [], alts := [], laidByText := true, laidKinds := [.data], laidTests := true, laidLooks := .later }
def TicketOpensUptoCardSaid : Prop := Claim7.holds Tryz.pinned (.plain (OpenSpec.upto ticketOpensSpec)) ticketOpensUptoCard

/-- THE SECOND FORM's CARD OF 'clapperlaw09.TicketBack'. -/
def ticketBackUptoCard : Claim7 := { stood := { row := ticketBackUptoRow, standIns := [], harness := (true, "5b2a7983533934453dc10b20082c5486a4934877c51a64be40c8bbd1038a4a3c"), looks := true }, kinds := [], alts := [], laidByText := true, laidKinds := [.data], laidTests := true, laidLooks := .later }
def TicketBackUptoCardSaid : Prop := Claim7.holds Tryz.pinned (.plain (OpenSpec.upto ticketBackSpec)) ticketBackUptoCard
end Rows
end Go.Proofs.YtedehdbajiaaiaaGreatDoor
