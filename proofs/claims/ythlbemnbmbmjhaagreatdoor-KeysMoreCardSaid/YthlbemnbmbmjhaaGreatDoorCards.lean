/-
  DERIVED. GIVEN WITH THE SEED: THE CARDS: each row of YthlbemnbmbmjhaaGreatDoorRows.lean that lists a variable, with what it lists TIED to the program's text (the seventh form; the later family's looks); each row that meets fmt, with fmt's text TOLD by the authors' own Lean function (tested against real Go, not proved from fmt's source: count such statements apart). THE CARD IS WHAT COUNTS. Prove the row's statement (the work); the ties are given (YthlbemnbmbmjhaaGreatDoorTie.lean); close each card by the builder's one call (the guide's Derived/Test/ToyasCard.lean, 'card_holds'). Laid BY PROGRAM, IN A SANDBOX (cutbox-door.mjs). By AI agents, Wed Nov 11 2026. No macro, syntax, notation, axiom, sorry.
-/
import Derived.Test.YthlbemnbmbmjhaaGreatDoorRows
import GoSem.ClaimSeven
namespace Go.Proofs.YthlbemnbmbmjhaaGreatDoor
namespace Rows

/-- THE TIED CARD OF 'clapperlaw10.KeysFinds'. -/
def keysFindsCard : Claim7 := { stood := { row := keysFindsRow, standIns := [], harness := (true, "5a703a85844f860a4bda3fefbfe9a90d3c40149e15ca7248d78af4b97dcc01f2"), looks := true }, kinds := [], alts := [], laidByText := true, laidKinds := [.data], laidTests := true, laidLooks := .later }
def KeysFindsCardSaid : Prop := Claim7.holds Tryz.pinned (.plain (OpenSpec.ofChange keysFindsSpec)) keysFindsCard

/-- THE TIED CARD OF 'clapperlaw10.KeysBytes'. -/
def keysBytesCard : Claim7 := { stood := { row := keysBytesRow, standIns := [], harness := (true, "5a703a85844f860a4bda3fefbfe9a90d3c40149e15ca7248d78af4b97dcc01f2"), looks := true }, kinds := [], alts := [], laidByText := true, laidKinds := [.data], laidTests := true, laidLooks := .later }
def KeysBytesCardSaid : Prop := Claim7.holds Tryz.pinned (.plain (OpenSpec.ofChange keysBytesSpec)) keysBytesCard

/-- THE TIED CARD OF 'clapperlaw10.KeysChecks'. -/
def keysChecksCard : Claim7 := { stood := { row := keysChecksRow, standIns := [], harness := (true, "5a703a85844f860a4bda3fefbfe9a90d3c40149e15ca7248d78af4b97dcc01f2"), looks := true }, kinds := [], alts := [], laidByText := true, laidKinds := [.data], laidTests := true, laidLooks := .later }
def KeysChecksCardSaid : Prop := Claim7.holds Tryz.pinned (.plain (OpenSpec.ofChange keysChecksSpec)) keysChecksCard

/-- THE TIED CARD OF 'clapperlaw10.KeysMore'. -/
def keysMoreCard : Claim7 := { stood := { row := keysMoreRow, standIns := [], harness := (true, "5a703a85844f860a4bda3fefbfe9a90d3c40149e15ca7248d78af4b97dcc01f2"), looks := true }, kinds := [], alts := [], laidByText := true, laidKinds := [.data], laidTests := true, laidLooks := .later }
def KeysMoreCardSaid : Prop := Claim7.holds Tryz.pinned (.plain (OpenSpec.ofChange keysMoreSpec)) keysMoreCard

/-- THE SECOND FORM's CARD OF 'clapperlaw10.KeysFinds'. -/
def keysFindsUptoCard : Claim7 := { stood := { row := keysFindsUptoRow, standIns := [], harness := (true, "5a703a85844f860a4bda3fefbfe9a90d3c40149e15ca7248d78af4b97dcc01f2"), looks := true }, kinds := [], alts := [], laidByText := true, laidKinds := [.data], laidTests := true, laidLooks := .later }
def KeysFindsUptoCardSaid : Prop := Claim7.holds Tryz.pinned (.plain (OpenSpec.upto keysFindsSpec)) keysFindsUptoCard

/-- THE SECOND FORM's CARD OF 'clapperlaw10.KeysBytes'. -/
def keysBytesUptoCard : Claim7 := { stood := { row := keysBytesUptoRow, standIns := [], harness := (true, "5a703a85844f860a4bda3fefbfe9a90d3c40149e15ca7248d78af4b97dcc01f2"), looks := true }, kinds := [], alts := [], laidByText := true, laidKinds := [.data], laidTests := true, laidLooks := .later }
def KeysBytesUptoCardSaid : Prop := Claim7.holds Tryz.pinned (.plain (OpenSpec.upto keysBytesSpec)) keysBytesUptoCard

/-- THE SECOND FORM's CARD OF 'clapperlaw10.KeysChecks'. -/
def keysChecksUptoCard : Claim7 := { stood := { row := keysChecksUptoRow, standIns := [], harness := (true, "5a703a85844f860a4bda3fefbfe9a90d3c40149e15ca7248d78af4b97dcc01f2"), looks := true }, kinds := [], alts := [], laidByText := true, laidKinds := [.data], laidTests := true, laidLooks := .later }
def KeysChecksUptoCardSaid : Prop := Claim7.holds Tryz.pinned (.plain (OpenSpec.upto keysChecksSpec)) keysChecksUptoCard

/-- THE SECOND FORM's CARD OF 'clapperlaw10.KeysMore'. -/
def keysMoreUptoCard : Claim7 := { stood := { row := keysMoreUptoRow, standIns := [], harness := (true, "5a703a85844f860a4bda3fefbfe9a90d3c40149e15ca7248d78af4b97dcc01f2"), looks := true }, kinds := [], alts := [], laidByText := true, laidKinds := [.data], laidTests := true, laidLooks := .later }
def KeysMoreUptoCardSaid : Prop := Claim7.holds Tryz.pinned (.plain (OpenSpec.upto keysMoreSpec)) keysMoreUptoCard
end Rows
end Go.Proofs.YthlbemnbmbmjhaaGreatDoor
