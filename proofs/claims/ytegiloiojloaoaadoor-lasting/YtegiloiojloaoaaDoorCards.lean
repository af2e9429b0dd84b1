/-
  DERIVED. GIVEN WITH THE SEED: THE CARDS: each row of YtegiloiojloaoaaDoorRows.lean that lists a variable, with what it lists TIED to the program's text (the seventh form; the later family's looks); each row that meets fmt, with fmt's text TOLD by the authors' own Lean function (tested against real Go, not proved from fmt's source: count such statements apart). THE CARD IS WHAT COUNTS. Prove the row's statement (the work); the ties are given (YtegiloiojloaoaaDoorTie.lean); close each card by the builder's one call (the guide's Derived/Test/ToyasCard.lean, 'card_holds'). Laid BY PROGRAM, IN A SANDBOX (cutbox-door.mjs). By AI agents, Wed Nov 11 2026. No macro, syntax, notation, axiom, sorry.
-/
import Derived.Test.YtegiloiojloaoaaDoorRows
import GoSem.ClaimSeven
namespace Go.Proofs.YtegiloiojloaoaaDoor
namespace Rows

/-- THE TIED CARD OF 'striderkeep.Dressed'. -/
def dressedCard : Claim7 := { stood := { row := dressedRow, standIns := [], harness := (true, "c8495528785e31a5a8ff773f6423d420c9c0530ceb824173d39f05cf2dfb7fed"), looks := false }, kinds := [], alts := [], laidByText := true, laidKinds := [.data, .data, .data, .data, .data, .data, .pinned], laidTests := true, laidLooks := .later }
def DressedCardSaid : Prop := Claim7.holds Tryd.pinned (.plain (OpenSpec.ofChange dressedSpec)) dressedCard

/-- THE TIED CARD OF 'striderkeep.Least'. -/
def leastCard : Claim7 := { stood := { row := leastRow, standIns := [], harness := (true, "c8495528785e31a5a8ff773f6423d420c9c0530ceb824173d39f05cf2dfb7fed"), looks := false }, kinds := [], alts := [], laidByText := true, laidKinds := [.data, .data, .data, .data, .data, .data, .pinned], laidTests := true, laidLooks := .later }
def LeastCardSaid : Prop := Claim7.holds Tryd.pinned (.plain (OpenSpec.ofChange leastSpec)) leastCard

/-- THE TIED CARD OF 'striderkeep.Lasting'. -/
def lastingCard : Claim7 := { stood := { row := lastingRow, standIns := [], harness := (true, "c8495528785e31a5a8ff773f6423d420c9c0530ceb824173d39f05cf2dfb7fed"), looks := false }, kinds := [], alts := [], laidByText := true, laidKinds := [.data, .data, .data, .data, .data, .data, .pinned], laidTests := true, laidLooks := .later }
def LastingCardSaid : Prop := Claim7.holds Tryd.pinned (.plain (OpenSpec.ofChange lastingSpec)) lastingCard

/-- THE SECOND FORM's CARD OF 'striderkeep.Dressed'. -/
def dressedUptoCard : Claim7 := { stood := { row := dressedUptoRow, standIns := [], harness := (true, "c8495528785e31a5a8ff773f6423d420c9c0530ceb824173d39f05cf2dfb7fed"), looks := false }, kinds := [], alts := [], laidByText := true, laidKinds := [.data, .data, .data, .data, .data, .data, .pinned], laidTests := true, laidLooks := .later }
def DressedUptoCardSaid : Prop := Claim7.holds Tryd.pinned (.plain (OpenSpec.upto dressedSpec)) dressedUptoCard

/-- THE SECOND FORM's CARD OF 'striderkeep.Least'. -/
def leastUptoCard : Claim7 := { stood := { row := leastUptoRow, standIns := [], harness := (true, "c8495528785e31a5a8ff773f6423d420c9c0530ceb824173d39f05cf2dfb7fed"), looks := false }, kinds := [], alts := [], laidByText := true, laidKinds := [.data, .data, .data, .data, .data, .data, .pinned], laidTests := true, laidLooks := .later }
def LeastUptoCardSaid : Prop := Claim7.holds Tryd.pinned (.plain (OpenSpec.upto leastSpec)) leastUptoCard

/-- THE SECOND FORM's CARD OF 'striderkeep.Lasting'. -/
def lastingUptoCard : Claim7 := { stood := { row := lastingUptoRow, standIns := [], harness := (true, "c8495528785e31a5a8ff773f6423d420c9c0530ceb824173d39f05cf2dfb7fed"), looks := false }, kinds := [], alts := [], laidByText := true, laidKinds := [.data, .data, .data, .data, .data, .data, .pinned], laidTests := true, laidLooks := .later }
def LastingUptoCardSaid : Prop := Claim7.holds Tryd.pinned (.plain (OpenSpec.upto lastingSpec)) lastingUptoCard
end Rows
end Go.Proofs.YtegiloiojloaoaaDoor
