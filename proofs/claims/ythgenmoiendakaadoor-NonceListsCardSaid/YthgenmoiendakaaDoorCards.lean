/-
  DERIVED. GIVEN WITH THE SEED: THE CARDS: each row of YthgenmoiendakaaDoorRows.lean that lists a variable, with what it lists TIED to the program's text (the seventh form; the later family's looks); each row that meets fmt, with fmt's text TOLD by the authors' own Lean function (tested against real Go, not proved from fmt's source: count such statements apart). THE CARD IS WHAT COUNTS. Prove the row's statement (the work); the ties are given (YthgenmoiendakaaDoorTie.lean); close each card by the builder's one call (the guide's Derived/Test/ToyasCard.lean, 'card_holds'). Laid BY PROGRAM, IN A SANDBOX (cutbox-door.mjs). By AI agents, Wed Nov 11 2026. No macro, syntax, notation, axiom, sorry.
-/
import Derived.Test.YthgenmoiendakaaDoorRows
import GoSem.ClaimSeven
namespace Go.Proofs.YthgenmoiendakaaDoor
namespace Rows

/-- THE TIED CARD OF 'clapperlaw06.NonceLists'. -/
def nonceListsCard : Claim7 := { stood := { row := nonceListsRow, standIns := [], harness := (true, "0ea1095497b38e0b43715eece33524029cf1c35619de3da4001c3f256d8b6c4c"), looks := true }, kinds := [], alts := [], laidByText := true, laidKinds := [.data], laidTests := true, laidLooks := .later }
def NonceListsCardSaid : Prop := Claim7.holds Tryd.pinned (.plain (OpenSpec.ofChange nonceListsSpec)) nonceListsCard

/-- THE TIED CARD OF 'clapperlaw06.NonceMore'. -/
def nonceMoreCard : Claim7 := { stood := { row := nonceMoreRow, standIns := [], harness := (true, "0ea1095497b38e0b43715eece33524029cf1c35619de3da4001c3f256d8b6c4c"), looks := true }, kinds := [], alts := [], laidByText := true, laidKinds := [.data], laidTests := true, laidLooks := .later }
def NonceMoreCardSaid : Prop := Claim7.holds Tryd.pinned (.plain (OpenSpec.ofChange nonceMoreSpec)) nonceMoreCard

/-- THE SECOND FORM's CARD OF 'clapperlaw06.NonceLists'. -/
def nonceListsUptoCard : Claim7 := { stood := { row := nonceListsUptoRow, standIns := [], harness := (true, "0ea1095497b38e0b43715eece33524029cf1c35619de3da4001c3f256d8b6c4c"), looks := true }, kinds := [], alts := [], laidByText := true, laidKinds := [.data], laidTests := true, laidLooks := .later }
def NonceListsUptoCardSaid : Prop := Claim7.holds Tryd.pinned (.plain (OpenSpec.upto nonceListsSpec)) nonceListsUptoCard

/-- THE SECOND FORM's CARD OF 'clapperlaw06.NonceMore'. -/
def nonceMoreUptoCard : Claim7 := { stood := { row := nonceMoreUptoRow, standIns := [], harness := (true, "0ea1095497b38e0b43715eece33524029cf1c35619de3da4001c3f256d8b6c4c"), looks := true }, kinds := [], alts := [], laidByText := true, laidKinds := [.data], laidTests := true, laidLooks := .later }
def NonceMoreUptoCardSaid : Prop := Claim7.holds Tryd.pinned (.plain (OpenSpec.upto nonceMoreSpec)) nonceMoreUptoCard
end Rows
end Go.Proofs.YthgenmoiendakaaDoor
