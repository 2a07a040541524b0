/-
  DERIVED. GIVEN WITH THE SEED: THE CARDS: each row of YtmfjigcdhijkjaaDoorRows.lean that lists a variable, with what it lists TIED to the program's text (the seventh form; the later family's looks); each row that meets fmt, with fmt's text TOLD by the authors' own Lean function (tested against real Go, not proved from fmt's source: count such statements apart). THE CARD IS WHAT COUNTS. Prove the row's statement (the work); the ties are given (YtmfjigcdhijkjaaDoorTie.lean); close each card by the builder's one call (the guide's Derived/Test/ToyasCard.lean, 'card_holds'). Laid BY PROGRAM, IN A SANDBOX (cutbox-door.mjs). By AI agents, Wed Nov 11 2026. No macro, syntax, notation, axiom, sorry.
-/
import Derived.Test.YtmfjigcdhijkjaaDoorRows
import GoSem.ClaimSeven
namespace Go.Proofs.YtmfjigcdhijkjaaDoor
namespace Rows

/-- THE TIED CARD OF 'clapperlaw07.SignBytes'. -/
def signBytesCard : Claim7 := { stood := { row := signBytesRow, standIns := [], harness := (true, "611804e57cc422cfa97cee4b223f2c6dc557ec5a733f165270fecb2739e4a323"), looks := true }, kinds := [], alts := [], laidByText := true, laidKinds := [.data], laidTests := true, laidLooks := .later }
def SignBytesCardSaid : Prop := Claim7.holds Tryd.pinned (.plain (OpenSpec.ofChange signBytesSpec)) signBytesCard

/-- THE TIED CARD OF 'clapperlaw07.SignHolds'. -/
def signHoldsCard : Claim7 := { stood := { row := signHoldsRow, standIns := [], harness := (true, "611804e57cc422cfa97cee4b223f2c6dc557ec5a733f165270fecb2739e4a323"), looks := true }, kinds := [], alts := [], laidByText := true, laidKinds := [.data], laidTests := true, laidLooks := .later }
def SignHoldsCardSaid : Prop := Claim7.holds Tryd.pinned (.plain (OpenSpec.ofChange signHoldsSpec)) signHoldsCard

/-- THE TIED CARD OF 'clapperlaw07.SignTurns'. -/
def signTurnsCard : Claim7 := { stood := { row := signTurnsRow, standIns := [], harness := (true, "611804e57cc422cfa97cee4b223f2c6dc557ec5a733f165270fecb2739e4a323"), looks := true }, kinds := [], alts := [], laidByText := true, laidKinds := [.data], laidTests := true, laidLooks := .later }
def SignTurnsCardSaid : Prop := Claim7.holds Tryd.pinned (.plain (OpenSpec.ofChange signTurnsSpec)) signTurnsCard

/-- THE SECOND FORM's CARD OF 'clapperlaw07.SignBytes'. -/
def signBytesUptoCard : Claim7 := { stood := { row := signBytesUptoRow, standIns := [], harness := (true, "611804e57cc422cfa97cee4b223f2c6dc557ec5a733f165270fecb2739e4a323"), looks := true }, kinds := [], alts := [], laidByText := true, laidKinds := [.data], laidTests := true, laidLooks := .later }
def SignBytesUptoCardSaid : Prop := Claim7.holds Tryd.pinned (.plain (OpenSpec.upto signBytesSpec)) signBytesUptoCard

/-- THE SECOND FORM's CARD OF 'clapperlaw07.SignHolds'. -/
def signHoldsUptoCard : Claim7 := { stood := { row := signHoldsUptoRow, standIns := [], harness := (true, "611804e57cc422cfa97cee4b223f2c6dc557ec5a733f165270fecb2739e4a323"), looks := true }, kinds := [], alts := [], laidByText := true, laidKinds := [.data], laidTests := true, laidLooks := .later }
def SignHoldsUptoCardSaid : Prop := Claim7.holds Tryd.pinned (.plain (OpenSpec.upto signHoldsSpec)) signHoldsUptoCard

/-- THE SECOND FORM's CARD OF 'clapperlaw07.SignTurns'. -/
def signTurnsUptoCard : Claim7 := { stood := { row := signTurnsUptoRow, standIns := [], harness := (true, "611804e57cc422cfa97cee4b223f2c6dc557ec5a733f165270fecb2739e4a323"), looks := true }, kinds := [], alts := [], laidByText := true, laidKinds := [.data], laidTests := true, laidLooks := .later }
def SignTurnsUptoCardSaid : Prop := Claim7.holds Tryd.pinned (.plain (OpenSpec.upto signTurnsSpec)) signTurnsUptoCard
end Rows
end Go.Proofs.YtmfjigcdhijkjaaDoor
