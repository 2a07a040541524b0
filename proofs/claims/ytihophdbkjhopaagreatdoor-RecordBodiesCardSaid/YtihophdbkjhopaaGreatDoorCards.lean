/-
  DERIVED. GIVEN WITH THE SEED: THE CARDS: each row of YtihophdbkjhopaaGreatDoorRows.lean that lists a variable, with what it lists TIED to the program's text (the seventh form; the later family's looks); each row that meets fmt, with fmt's text TOLD by the authors' own Lean function (tested against real Go, not proved from fmt's source: count such statements apart). THE CARD IS WHAT COUNTS. Prove the row's statement (the work); the ties are given (YtihophdbkjhopaaGreatDoorTie.lean); close each card by the builder's one call (the guide's Derived/Test/ToyasCard.lean, 'card_holds'). Laid BY PROGRAM, IN A SANDBOX (cutbox-door.mjs). By AI agents, Wed Nov 11 2026. No macro, syntax, notation, axiom, sorry.
-/
import Derived.Test.YtihophdbkjhopaaGreatDoorRows
import GoSem.ClaimSeven
namespace Go.Proofs.YtihophdbkjhopaaGreatDoor
namespace Rows

/-- THE TIED CARD OF 'clapperlaw17.RecordBodies'. -/
def recordBodiesCard : Claim7 := { stood := { row := recordBodiesRow, standIns := [], harness := (true, "5fdb0112da905f24a5de35c8fa19899d610fa9829e5b4e07346901e1a3fa819e"), looks := true }, kinds := [], alts := [], laidByText := true, laidKinds := [.data], laidTests := true, laidLooks := .later }
def RecordBodiesCardSaid : Prop := Claim7.holds Tryz.pinned (.plain (OpenSpec.ofChange recordBodiesSpec)) recordBodiesCard

/-- THE TIED CARD OF 'clapperlaw17.RecordOpens'. -/
def recordOpensCard : Claim7 := { stood := { row := recordOpensRow, standIns := [], harness := (true, "5fdb0112da905f24a5de35c8fa19899d610fa9829e5b4e07346901e1a3fa819e"), looks := true }, kinds := [], alts := [], laidByText := true, laidKinds := [.data], laidTests := true, laidLooks := .later }
def RecordOpensCardSaid : Prop := Claim7.holds Tryz.pinned (.plain (OpenSpec.ofChange recordOpensSpec)) recordOpensCard

/-- THE TIED CARD OF 'clapperlaw17.RecordChains'. -/
def recordChainsCard : Claim7 := { stood := { row := recordChainsRow, standIns := [], harness := (true, "5fdb0112da905f24a5de35c8fa19899d610fa9829e5b4e07346901e1a3fa819e"), looks := true }, kinds := [], alts := [], laidByText := true, laidKinds := [.data], laidTests := true, laidLooks := .later }
def RecordChainsCardSaid : Prop := Claim7.holds Tryz.pinned (.plain (OpenSpec.ofChange recordChainsSpec)) recordChainsCard

/-- THE TIED CARD OF 'clapperlaw17.RecordBack'. -/
def recordBackCard : Claim7 := { stood := { row := recordBackRow, standIns := [], harness := (true, "5fdb0112da905f24a5de35c8fa19899d610fa9829e5b4e07346901e1a3fa819e"), looks := true }, kinds := [], alts := [], laidByText := true, laidKinds := [.data], laidTests := true, laidLooks := .later }
def RecordBackCardSaid : Prop := Claim7.holds Tryz.pinned (.plain (OpenSpec.ofChange recordBackSpec)) recordBackCard

/-- THE SECOND FORM's CARD OF 'clapperlaw17.RecordBodies'. -/
def recordBodiesUptoCard : Claim7 := { stood := { row := recordBodiesUptoRow, standIns := [], harness := (true, "5fdb0112da905f24a5de35c8fa19899d610fa9829e5b4e07346901e1a3fa819e"), looks := true }, kinds := [], alts := [], laidByText := true, laidKinds := [.data], laidTests := true, laidLooks := .later }
def RecordBodiesUptoCardSaid : Prop := Claim7.holds Tryz.pinned (.plain (OpenSpec.upto recordBodiesSpec)) recordBodiesUptoCard

/-- THE SECOND FORM's CARD OF 'clapperlaw17.RecordOpens'. -/
def recordOpensUptoCard : Claim7 := { stood := { row := recordOpensUptoRow, standIns := [], harness := (true, "5fdb0112da905f24a5de35c8fa19899d610fa9829e5b4e07346901e1a3fa819e"), looks := true }, kinds := [], alts := [], laidByText := true, laidKinds := [.data], laidTests := true, laidLooks := .later }
def RecordOpensUptoCardSaid : Prop := Claim7.holds Tryz.pinned (.plain (OpenSpec.upto recordOpensSpec)) recordOpensUptoCard

/-- THE SECOND FORM's CARD OF 'clapperlaw17.RecordChains'. -/
def recordChainsUptoCard : Claim7 := { stood := { row := recordChainsUptoRow, standIns := [], harness := (true, "5fdb0112da905f24a5de35c8fa19899d610fa9829e5b4e07346901e1a3fa819e"), looks := true }, kinds := [], alts := [], laidByText := true, laidKinds := [.data], laidTests := true, laidLooks := .later }
def RecordChainsUptoCardSaid : Prop := Claim7.holds Tryz.pinned (.plain (OpenSpec.upto recordChainsSpec)) recordChainsUptoCard

/-- THE SECOND FORM's CARD OF 'clapperlaw17.RecordBack'. -/
def recordBackUptoCard : Claim7 := { stood := { row := recordBackUptoRow, standIns := [], harness := (true, "5fdb0112da905f24a5de35c8fa19899d610fa9829e5b4e07346901e1a3fa819e"), looks := true }, kinds := [], alts := [], laidByText := true, laidKinds := [.data], laidTests := true, laidLooks := .later }
def RecordBackUptoCardSaid : Prop := Claim7.holds Tryz.pinned (.plain (OpenSpec.upto recordBackSpec)) recordBackUptoCard
end Rows
end Go.Proofs.YtihophdbkjhopaaGreatDoor
