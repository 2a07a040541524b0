/-
  DERIVED. GIVEN WITH THE SEED: THE CARDS: each row of YtbfkecfcolcclaaGreatDoorRows.lean that lists a variable, with what it lists TIED to the program's text (the seventh form; the later family's looks); each row that meets fmt, with fmt's text TOLD by the authors' own Lean function (tested against real Go, not proved from fmt's source: count such statements apart). THE CARD IS WHAT COUNTS. Prove the row's statement (the work); the ties are given (YtbfkecfcolcclaaGreatDoorTie.lean); close each card by the builder's one call (the guide's Derived/Test/ToyasCard.lean, 'card_holds'). Laid BY PROGRAM, IN A SANDBOX (cutbox-door.mjs). By AI agents, Wed Nov 11 2026. No macro, syntax, notation, axiom, sorry.
-/
import Derived.Test.YtbfkecfcolcclaaGreatDoorRows
import GoSem.ClaimSeven
namespace Go.Proofs.YtbfkecfcolcclaaGreatDoor
namespace Rows

/-- THE TIED CARD OF 'clapperlaw14.FareCovers'. -/
def fareCoversCard : Claim7 := { stood := { row := fareCoversRow, standIns := [], harness := (true, "a97ab3aa384c5b8d7e948bdf3f0b84be95fff4775b2b3123e84f8b2579a688fd"), looks := true }, kinds := [], alts := [], laidByText := true, laidKinds := [.data], laidTests := true, laidLooks := .later }
def FareCoversCardSaid : Prop := Claim7.holds Tryz.pinned (.plain (OpenSpec.ofChange fareCoversSpec)) fareCoversCard

/-- THE TIED CARD OF 'clapperlaw14.FareVerdicts'. -/
def fareVerdictsCard : Claim7 := { stood := { row := fareVerdictsRow, standIns := [], harness := (true, "a97ab3aa384c5b8d7e948bdf3f0b84be95fff4775b2b3123e84f8b2579a688fd"), looks := true }, kinds := [], alts := [], laidByText := true, laidKinds := [.data], laidTests := true, laidLooks := .later }
def FareVerdictsCardSaid : Prop := Claim7.holds Tryz.pinned (.plain (OpenSpec.ofChange fareVerdictsSpec)) fareVerdictsCard

/-- THE TIED CARD OF 'clapperlaw14.FareValid'. -/
def fareValidCard : Claim7 := { stood := { row := fareValidRow, standIns := [], harness := (true, "a97ab3aa384c5b8d7e948bdf3f0b84be95fff4775b2b3123e84f8b2579a688fd"), looks := true }, kinds := [], alts := [], laidByText := true, laidKinds := [.data], laidTests := true, laidLooks := .later }
def FareValidCardSaid : Prop := Claim7.holds Tryz.pinned (.plain (OpenSpec.ofChange fareValidSpec)) fareValidCard

/-- THE SECOND FORM's CARD OF 'clapperlaw14.FareCovers'. -/
def fareCoversUptoCard : Claim7 := { stood := { row := fareCoversUptoRow, standIns := [], harness := (true, "a97ab3aa384c5b8d7e948bdf3f0b84be95fff4775b2b3123e84f8b2579a688fd"), looks := true }, kinds := [], alts := [], laidByText := true, laidKinds := [.data], laidTests := true, laidLooks := .later }
def FareCoversUptoCardSaid : Prop := Claim7.holds Tryz.pinned (.plain (OpenSpec.upto fareCoversSpec)) fareCoversUptoCard

/-- THE SECOND FORM's CARD OF 'clapperlaw14.FareVerdicts'. -/
def fareVerdictsUptoCard : Claim7 := { stood := { row := fareVerdictsUptoRow, standIns := [], harness := (true, "a97ab3aa384c5b8d7e948bdf3f0b84be95fff4775b2b3123e84f8b2579a688fd"), looks := true }, kinds := [], alts := [], laidByText := true, laidKinds := [.data], laidTests := true, laidLooks := .later }
def FareVerdictsUptoCardSaid : Prop := Claim7.holds Tryz.pinned (.plain (OpenSpec.upto fareVerdictsSpec)) fareVerdictsUptoCard

/-- THE SECOND FORM's CARD OF 'clapperlaw14.FareValid'. -/
def fareValidUptoCard : Claim7 := { stood := { row := fareValidUptoRow, standIns := [], harness := (true, "a97ab3aa384c5b8d7e948bdf3f0b84be95fff4775b2b3123e84f8b2579a688fd"), looks := true }, kinds := [], alts := [], laidByText := true, laidKinds := [.data], laidTests := true, laidLooks := .later }
def FareValidUptoCardSaid : Prop := Claim7.holds Tryz.pinned (.plain (OpenSpec.upto fareValidSpec)) fareValidUptoCard
end Rows
end Go.Proofs.YtbfkecfcolcclaaGreatDoor
