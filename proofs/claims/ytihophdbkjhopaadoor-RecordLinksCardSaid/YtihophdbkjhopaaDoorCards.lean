/-
  DERIVED. GIVEN WITH THE SEED: THE CARDS: each row of YtihophdbkjhopaaDoorRows.lean that lists a variable, with what it lists TIED to the program's text (the seventh form; the later family's looks); each row that meets fmt, with fmt's text TOLD by the authors' own Lean function (tested against real Go, not proved from fmt's source: count such statements apart). THE CARD IS WHAT COUNTS. Prove the row's statement (the work); the ties are given (YtihophdbkjhopaaDoorTie.lean); close each card by the builder's one call (the guide's Derived/Test/ToyasCard.lean, 'card_holds'). Laid BY PROGRAM, IN A SANDBOX (cutbox-door.mjs). By AI agents, Wed Nov 11 2026. No macro, syntax, notation, axiom, sorry.
-/
import Derived.Test.YtihophdbkjhopaaDoorRows
import GoSem.ClaimSeven
namespace Go.Proofs.YtihophdbkjhopaaDoor
namespace Rows

/-- THE TIED CARD OF 'clapperlaw17.RecordLinks'. -/
def recordLinksCard : Claim7 := { stood := { row := recordLinksRow, standIns := [], harness := (true, "7b368695fbd30942f179dcbb3b89029ebfb8f46d16209bceb1ee8b5e18ef705c"), looks := true }, kinds := [], alts := [], laidByText := true, laidKinds := [.data], laidTests := true, laidLooks := .later }
def RecordLinksCardSaid : Prop := Claim7.holds Tryd.pinned (.plain (OpenSpec.ofChange recordLinksSpec)) recordLinksCard

/-- THE SECOND FORM's CARD OF 'clapperlaw17.RecordLinks'. -/
def recordLinksUptoCard : Claim7 := { stood := { row := recordLinksUptoRow, standIns := [], harness := (true, "7b368695fbd30942f179dcbb3b89029ebfb8f46d16209bceb1ee8b5e18ef705c"), looks := true }, kinds := [], alts := [], laidByText := true, laidKinds := [.data], laidTests := true, laidLooks := .later }
def RecordLinksUptoCardSaid : Prop := Claim7.holds Tryd.pinned (.plain (OpenSpec.upto recordLinksSpec)) recordLinksUptoCard
end Rows
end Go.Proofs.YtihophdbkjhopaaDoor
