/-
  DERIVED. GIVEN WITH THE SEED: THE CARDS: each row of YtkcgbikgblkpjaaDoorRows.lean that lists a variable, with what it lists TIED to the program's text (the seventh form; the later family's looks); each row that meets fmt, with fmt's text TOLD by the authors' own Lean function (tested against real Go, not proved from fmt's source: count such statements apart). THE CARD IS WHAT COUNTS. Prove the row's statement (the work); the ties are given (YtkcgbikgblkpjaaDoorTie.lean); close each card by the builder's one call (the guide's Derived/Test/ToyasCard.lean, 'card_holds'). Laid BY PROGRAM, IN A SANDBOX (cutbox-door.mjs). By AI agents, Wed Nov 11 2026. No macro, syntax, notation, axiom, sorry.
-/
import Derived.Test.YtkcgbikgblkpjaaDoorRows
import GoSem.ClaimSeven
namespace Go.Proofs.YtkcgbikgblkpjaaDoor
namespace Rows

/-- THE TIED CARD OF 'hoistlaw.Lowests'. -/
def lowestsCard : Claim7 := { stood := { row := lowestsRow, standIns := [], harness := (true, "6c4e0629d43068eeba9f671f6d523f60f240023d07ea702bb28aa4b947cc7dbb"), looks := false }, kinds := [], alts := [], laidByText := true, laidKinds := [.data, .data, .data], laidTests := true, laidLooks := .later }
def LowestsCardSaid : Prop := Claim7.holds Tryd.pinned (.plain (OpenSpec.ofChange lowestsSpec)) lowestsCard

/-- THE TIED CARD OF 'hoistkeep.Sides'. -/
def sidesCard : Claim7 := { stood := { row := sidesRow, standIns := [], harness := (true, "6c4e0629d43068eeba9f671f6d523f60f240023d07ea702bb28aa4b947cc7dbb"), looks := false }, kinds := [], alts := [], laidByText := true, laidKinds := [.data, .data, .data], laidTests := true, laidLooks := .later }
def SidesCardSaid : Prop := Claim7.holds Tryd.pinned (.plain (OpenSpec.ofChange sidesSpec)) sidesCard

/-- THE TIED CARD OF 'hoistkeep.Signs'. -/
def signsCard : Claim7 := { stood := { row := signsRow, standIns := [], harness := (true, "6c4e0629d43068eeba9f671f6d523f60f240023d07ea702bb28aa4b947cc7dbb"), looks := false }, kinds := [], alts := [], laidByText := true, laidKinds := [.data, .data, .data], laidTests := true, laidLooks := .later }
def SignsCardSaid : Prop := Claim7.holds Tryd.pinned (.plain (OpenSpec.ofChange signsSpec)) signsCard

/-- THE SECOND FORM's CARD OF 'hoistlaw.Lowests'. -/
def lowestsUptoCard : Claim7 := { stood := { row := lowestsUptoRow, standIns := [], harness := (true, "6c4e0629d43068eeba9f671f6d523f60f240023d07ea702bb28aa4b947cc7dbb"), looks := false }, kinds := [], alts := [], laidByText := true, laidKinds := [.data, .data, .data], laidTests := true, laidLooks := .later }
def LowestsUptoCardSaid : Prop := Claim7.holds Tryd.pinned (.plain (OpenSpec.upto lowestsSpec)) lowestsUptoCard

/-- THE SECOND FORM's CARD OF 'hoistkeep.Sides'. -/
def sidesUptoCard : Claim7 := { stood := { row := sidesUptoRow, standIns := [], harness := (true, "6c4e0629d43068eeba9f671f6d523f60f240023d07ea702bb28aa4b947cc7dbb"), looks := false }, kinds := [], alts := [], laidByText := true, laidKinds := [.data, .data, .data], laidTests := true, laidLooks := .later }
def SidesUptoCardSaid : Prop := Claim7.holds Tryd.pinned (.plain (OpenSpec.upto sidesSpec)) sidesUptoCard

/-- THE SECOND FORM's CARD OF 'hoistkeep.Signs'. -/
def signsUptoCard : Claim7 := { stood := { row := signsUptoRow, standIns := [], harness := (true, "6c4e0629d43068eeba9f671f6d523f60f240023d07ea702bb28aa4b947cc7dbb"), looks := false }, kinds := [], alts := [], laidByText := true, laidKinds := [.data, .data, .data], laidTests := true, laidLooks := .later }
def SignsUptoCardSaid : Prop := Claim7.holds Tryd.pinned (.plain (OpenSpec.upto signsSpec)) signsUptoCard
end Rows
end Go.Proofs.YtkcgbikgblkpjaaDoor
