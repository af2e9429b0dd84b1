/-
  DERIVED. GIVEN WITH THE SEED: THE CARDS: each row of YtegiloiojloaoaaGreatDoorRows.lean that lists a variable, with what it lists TIED to the program's text (the seventh form; the later family's looks); each row that meets fmt, with fmt's text TOLD by the authors' own Lean function (tested against real Go, not proved from fmt's source: count such statements apart). THE CARD IS WHAT COUNTS. Prove the row's statement (the work); the ties are given (YtegiloiojloaoaaGreatDoorTie.lean); close each card by the builder's one call (the guide's Derived/Test/ToyasCard.lean, 'card_holds'). Laid BY PROGRAM, IN A SANDBOX (cutbox-door.mjs). By AI agents, Wed Nov 11 2026. No macro, syntax, notation, axiom, sorry.
-/
import Derived.Test.YtegiloiojloaoaaGreatDoorRows
import GoSem.ClaimSeven
namespace Go.Proofs.YtegiloiojloaoaaGreatDoor
namespace Rows

/-- THE TIED CARD OF 'striderlaw.Assembles'. -/
def assemblesCard : Claim7 := { stood := { row := assemblesRow, standIns := [], harness := (true, "3d3fbdc773b21e9dc7aabe62b67acfb7a85de8c2aa00dfa6171308ea52f92b61"), looks := false }, kinds := [], alts := [], laidByText := true, laidKinds := [.data, .data, .data, .data, .data, .data, .pinned], laidTests := true, laidLooks := .later }
def AssemblesCardSaid : Prop := Claim7.holds Tryz.pinned (.plain (OpenSpec.ofChange assemblesSpec)) assemblesCard

/-- THE TIED CARD OF 'striderlaw.Lists'. -/
def listsCard : Claim7 := { stood := { row := listsRow, standIns := [], harness := (true, "3d3fbdc773b21e9dc7aabe62b67acfb7a85de8c2aa00dfa6171308ea52f92b61"), looks := false }, kinds := [], alts := [], laidByText := true, laidKinds := [.data, .data, .data, .data, .data, .data, .pinned], laidTests := true, laidLooks := .later }
def ListsCardSaid : Prop := Claim7.holds Tryz.pinned (.plain (OpenSpec.ofChange listsSpec)) listsCard

/-- THE TIED CARD OF 'striderkeep.Wrong'. -/
def wrongCard : Claim7 := { stood := { row := wrongRow, standIns := [], harness := (true, "3d3fbdc773b21e9dc7aabe62b67acfb7a85de8c2aa00dfa6171308ea52f92b61"), looks := false }, kinds := [], alts := [], laidByText := true, laidKinds := [.data, .data, .data, .data, .data, .data, .pinned], laidTests := true, laidLooks := .later }
def WrongCardSaid : Prop := Claim7.holds Tryz.pinned (.plain (OpenSpec.ofChange wrongSpec)) wrongCard

/-- THE TIED CARD OF 'striderkeep.Reaches'. -/
def reachesCard : Claim7 := { stood := { row := reachesRow, standIns := [], harness := (true, "3d3fbdc773b21e9dc7aabe62b67acfb7a85de8c2aa00dfa6171308ea52f92b61"), looks := false }, kinds := [], alts := [], laidByText := true, laidKinds := [.data, .data, .data, .data, .data, .data, .pinned], laidTests := true, laidLooks := .later }
def ReachesCardSaid : Prop := Claim7.holds Tryz.pinned (.plain (OpenSpec.ofChange reachesSpec)) reachesCard

/-- THE TIED CARD OF 'striderlaw.Backs'. -/
def backsCard : Claim7 := { stood := { row := backsRow, standIns := [], harness := (true, "3d3fbdc773b21e9dc7aabe62b67acfb7a85de8c2aa00dfa6171308ea52f92b61"), looks := false }, kinds := [], alts := [], laidByText := true, laidKinds := [.data, .data, .data, .data, .data, .data, .data, .data], laidTests := true, laidLooks := .later }
def BacksCardSaid : Prop := Claim7.holds Tryz.pinned (.plain (OpenSpec.ofChange backsSpec)) backsCard

/-- THE TIED CARD OF 'striderkeep.Round'. -/
def roundCard : Claim7 := { stood := { row := roundRow, standIns := [], harness := (true, "3d3fbdc773b21e9dc7aabe62b67acfb7a85de8c2aa00dfa6171308ea52f92b61"), looks := false }, kinds := [], alts := [], laidByText := true, laidKinds := [.data, .data, .data, .data, .data, .data, .data, .data, .data, .pinned], laidTests := true, laidLooks := .later }
def RoundCardSaid : Prop := Claim7.holds Tryz.pinned (.plain (OpenSpec.ofChange roundSpec)) roundCard

/-- THE TIED CARD OF 'striderlaw.All'. -/
def allCard : Claim7 := { stood := { row := allRow, standIns := [], harness := (true, "3d3fbdc773b21e9dc7aabe62b67acfb7a85de8c2aa00dfa6171308ea52f92b61"), looks := false }, kinds := [], alts := [], laidByText := true, laidKinds := [.data, .data, .data, .data, .data, .data, .data, .data, .data, .pinned], laidTests := true, laidLooks := .later }
def AllCardSaid : Prop := Claim7.holds Tryz.pinned (.plain (OpenSpec.ofChange allSpec)) allCard

/-- THE SECOND FORM's CARD OF 'striderlaw.Assembles'. -/
def assemblesUptoCard : Claim7 := { stood := { row := assemblesUptoRow, standIns := [], harness := (true, "3d3fbdc773b21e9dc7aabe62b67acfb7a85de8c2aa00dfa6171308ea52f92b61"), looks := false }, kinds := [], alts := [], laidByText := true, laidKinds := [.data, .data, .data, .data, .data, .data, .pinned], laidTests := true, laidLooks := .later }
def AssemblesUptoCardSaid : Prop := Claim7.holds Tryz.pinned (.plain (OpenSpec.upto assemblesSpec)) assemblesUptoCard

/-- THE SECOND FORM's CARD OF 'striderlaw.Lists'. -/
def listsUptoCard : Claim7 := { stood := { row := listsUptoRow, standIns := [], harness := (true, "3d3fbdc773b21e9dc7aabe62b67acfb7a85de8c2aa00dfa6171308ea52f92b61"), looks := false }, kinds := [], alts := [], laidByText := true, laidKinds := [.data, .data, .data, .data, .data, .data, .pinned], laidTests := true, laidLooks := .later }
def ListsUptoCardSaid : Prop := Claim7.holds Tryz.pinned (.plain (OpenSpec.upto listsSpec)) listsUptoCard

/-- THE SECOND FORM's CARD OF 'striderkeep.Wrong'. -/
def wrongUptoCard : Claim7 := { stood := { row := wrongUptoRow, standIns := [], harness := (true, "3d3fbdc773b21e9dc7aabe62b67acfb7a85de8c2aa00dfa6171308ea52f92b61"), looks := false }, kinds := [], alts := [], laidByText := true, laidKinds := [.data, .data, .data, .data, .data, .data, .pinned], laidTests := true, laidLooks := .later }
def WrongUptoCardSaid : Prop := Claim7.holds Tryz.pinned (.plain (OpenSpec.upto wrongSpec)) wrongUptoCard

/-- THE SECOND FORM's CARD OF 'striderkeep.Reaches'. -/
def reachesUptoCard : Claim7 := { stood := { row := reachesUptoRow, standIns := [], harness := (true, "3d3fbdc773b21e9dc7aabe62b67acfb7a85de8c2aa00dfa6171308ea52f92b61"), looks := false }, kinds := [], alts := [], laidByText := true, laidKinds := [.data, .data, .data, .data, .data, .data, .pinned], laidTests := true, laidLooks := .later }
def ReachesUptoCardSaid : Prop := Claim7.holds Tryz.pinned (.plain (OpenSpec.upto reachesSpec)) reachesUptoCard

/-- THE SECOND FORM's CARD OF 'striderlaw.Backs'. -/
def backsUptoCard : Claim7 := { stood := { row := backsUptoRow, standIns := [], harness := (true, "3d3fbdc773b21e9dc7aabe62b67acfb7a85de8c2aa00dfa6171308ea52f92b61"), looks := false }, kinds := [], alts := [], laidByText := true, laidKinds := [.data, .data, .data, .data, .data, .data, .data, .data], laidTests := true, laidLooks := .later }
def BacksUptoCardSaid : Prop := Claim7.holds Tryz.pinned (.plain (OpenSpec.upto backsSpec)) backsUptoCard

/-- THE SECOND FORM's CARD OF 'striderkeep.Round'. -/
def roundUptoCard : Claim7 := { stood := { row := roundUptoRow, standIns := [], harness := (true, "3d3fbdc773b21e9dc7aabe62b67acfb7a85de8c2aa00dfa6171308ea52f92b61"), looks := false }, kinds := [], alts := [], laidByText := true, laidKinds := [.data, .data, .data, .data, .data, .data, .data, .data, .data, .pinned], laidTests := true, laidLooks := .later }
def RoundUptoCardSaid : Prop := Claim7.holds Tryz.pinned (.plain (OpenSpec.upto roundSpec)) roundUptoCard

/-- THE SECOND FORM's CARD OF 'striderlaw.All'. -/
def allUptoCard : Claim7 := { stood := { row := allUptoRow, standIns := [], harness := (true, "3d3fbdc773b21e9dc7aabe62b67acfb7a85de8c2aa00dfa6171308ea52f92b61"), looks := false }, kinds := [], alts := [], laidByText := true, laidKinds := [.data, .data, .data, .data, .data, .data, .data, .data, .data, .pinned], laidTests := true, laidLooks := .later }
def AllUptoCardSaid : Prop := Claim7.holds Tryz.pinned (.plain (OpenSpec.upto allSpec)) allUptoCard
end Rows
end Go.Proofs.YtegiloiojloaoaaGreatDoor
