/-
  DERIVED. GIVEN WITH THE SEED: THE CARDS: each row of YtecocheolbkneaaDoorRows.lean that lists a variable, with what it lists TIED to the program's text (the seventh form; the later family's looks); each row that meets fmt, with fmt's text TOLD by the authors' own Lean function (tested against real Go, not proved from fmt's source: count such statements apart). THE CARD IS WHAT COUNTS. Prove the row's statement (the work); the ties are given (YtecocheolbkneaaDoorTie.lean); close each card by the builder's one call (the guide's Derived/Test/ToyasCard.lean, 'card_holds'). Laid BY PROGRAM, IN A SANDBOX (cutbox-door.mjs). By AI agents, Wed Nov 11 2026. No macro, syntax, notation, axiom, sorry.
-/
import Derived.Test.YtecocheolbkneaaDoorRows
import GoSem.ClaimSeven
namespace Go.Proofs.YtecocheolbkneaaDoor
namespace Rows

/-- THE TIED CARD OF 'hoistlaw.Lowests'. -/
def lowestsCard : Claim7 := { stood := { row := lowestsRow, standIns := [], harness := (true, "bfc2785ac1dcaff8ecf88a087b1627aacc14db3af6142912dd4f3c852ffe190c"), looks := false }, kinds := [], alts := [], laidByText := true, laidKinds := [.data, .data, .data], laidTests := true, laidLooks := .later }
def LowestsCardSaid : Prop := Claim7.holds Tryd.pinned (.plain (OpenSpec.ofChange lowestsSpec)) lowestsCard

/-- THE TIED CARD OF 'hoistkeep.Sides'. -/
def sidesCard : Claim7 := { stood := { row := sidesRow, standIns := [], harness := (true, "bfc2785ac1dcaff8ecf88a087b1627aacc14db3af6142912dd4f3c852ffe190c"), looks := false }, kinds := [], alts := [], laidByText := true, laidKinds := [.data, .data, .data], laidTests := true, laidLooks := .later }
def SidesCardSaid : Prop := Claim7.holds Tryd.pinned (.plain (OpenSpec.ofChange sidesSpec)) sidesCard

/-- THE TIED CARD OF 'hoistkeep.Signs'. -/
def signsCard : Claim7 := { stood := { row := signsRow, standIns := [], harness := (true, "bfc2785ac1dcaff8ecf88a087b1627aacc14db3af6142912dd4f3c852ffe190c"), looks := false }, kinds := [], alts := [], laidByText := true, laidKinds := [.data, .data, .data], laidTests := true, laidLooks := .later }
def SignsCardSaid : Prop := Claim7.holds Tryd.pinned (.plain (OpenSpec.ofChange signsSpec)) signsCard

/-- THE TIED CARD OF 'hoistkeep.Found'. -/
def foundCard : Claim7 := { stood := { row := foundRow, standIns := [], harness := (true, "bfc2785ac1dcaff8ecf88a087b1627aacc14db3af6142912dd4f3c852ffe190c"), looks := false }, kinds := [], alts := [], laidByText := true, laidKinds := [.data, .data, .data], laidTests := true, laidLooks := .later }
def FoundCardSaid : Prop := Claim7.holds Tryd.pinned (.plain (OpenSpec.ofChange foundSpec)) foundCard

/-- THE TIED CARD OF 'hoistkeep.Shuffled'. -/
def shuffledCard : Claim7 := { stood := { row := shuffledRow, standIns := [], harness := (true, "bfc2785ac1dcaff8ecf88a087b1627aacc14db3af6142912dd4f3c852ffe190c"), looks := false }, kinds := [], alts := [], laidByText := true, laidKinds := [.data, .data, .data], laidTests := true, laidLooks := .later }
def ShuffledCardSaid : Prop := Claim7.holds Tryd.pinned (.plain (OpenSpec.ofChange shuffledSpec)) shuffledCard

/-- THE TIED CARD OF 'hoistkeep.Flat'. -/
def flatCard : Claim7 := { stood := { row := flatRow, standIns := [], harness := (true, "bfc2785ac1dcaff8ecf88a087b1627aacc14db3af6142912dd4f3c852ffe190c"), looks := false }, kinds := [], alts := [], laidByText := true, laidKinds := [.data, .data, .data], laidTests := true, laidLooks := .later }
def FlatCardSaid : Prop := Claim7.holds Tryd.pinned (.plain (OpenSpec.ofChange flatSpec)) flatCard

/-- THE SECOND FORM's CARD OF 'hoistlaw.Lowests'. -/
def lowestsUptoCard : Claim7 := { stood := { row := lowestsUptoRow, standIns := [], harness := (true, "bfc2785ac1dcaff8ecf88a087b1627aacc14db3af6142912dd4f3c852ffe190c"), looks := false }, kinds := [], alts := [], laidByText := true, laidKinds := [.data, .data, .data], laidTests := true, laidLooks := .later }
def LowestsUptoCardSaid : Prop := Claim7.holds Tryd.pinned (.plain (OpenSpec.upto lowestsSpec)) lowestsUptoCard

/-- THE SECOND FORM's CARD OF 'hoistkeep.Sides'. -/
def sidesUptoCard : Claim7 := { stood := { row := sidesUptoRow, standIns := [], harness := (true, "bfc2785ac1dcaff8ecf88a087b1627aacc14db3af6142912dd4f3c852ffe190c"), looks := false }, kinds := [], alts := [], laidByText := true, laidKinds := [.data, .data, .data], laidTests := true, laidLooks := .later }
def SidesUptoCardSaid : Prop := Claim7.holds Tryd.pinned (.plain (OpenSpec.upto sidesSpec)) sidesUptoCard

/-- THE SECOND FORM's CARD OF 'hoistkeep.Signs'. -/
def signsUptoCard : Claim7 := { stood := { row := signsUptoRow, standIns := [], harness := (true, "bfc2785ac1dcaff8ecf88a087b1627aacc14db3af6142912dd4f3c852ffe190c"), looks := false }, kinds := [], alts := [], laidByText := true, laidKinds := [.data, .data, .data], laidTests := true, laidLooks := .later }
def SignsUptoCardSaid : Prop := Claim7.holds Tryd.pinned (.plain (OpenSpec.upto signsSpec)) signsUptoCard

/-- THE SECOND FORM's CARD OF 'hoistkeep.Found'. -/
def foundUptoCard : Claim7 := { stood := { row := foundUptoRow, standIns := [], harness := (true, "bfc2785ac1dcaff8ecf88a087b1627aacc14db3af6142912dd4f3c852ffe190c"), looks := false }, kinds := [], alts := [], laidByText := true, laidKinds := [.data, .data, .data], laidTests := true, laidLooks := .later }
def FoundUptoCardSaid : Prop := Claim7.holds Tryd.pinned (.plain (OpenSpec.upto foundSpec)) foundUptoCard

/-- THE SECOND FORM's CARD OF 'hoistkeep.Shuffled'. -/
def shuffledUptoCard : Claim7 := { stood := { row := shuffledUptoRow, standIns := [], harness := (true, "bfc2785ac1dcaff8ecf88a087b1627aacc14db3af6142912dd4f3c852ffe190c"), looks := false }, kinds := [], alts := [], laidByText := true, laidKinds := [.data, .data, .data], laidTests := true, laidLooks := .later }
def ShuffledUptoCardSaid : Prop := Claim7.holds Tryd.pinned (.plain (OpenSpec.upto shuffledSpec)) shuffledUptoCard

/-- THE SECOND FORM's CARD OF 'hoistkeep.Flat'. -/
def flatUptoCard : Claim7 := { stood := { row := flatUptoRow, standIns := [], harness := (true, "bfc2785ac1dcaff8ecf88a087b1627aacc14db3af6142912dd4f3c852ffe190c"), looks := false }, kinds := [], alts := [], laidByText := true, laidKinds := [.data, .data, .data], laidTests := true, laidLooks := .later }
def FlatUptoCardSaid : Prop := Claim7.holds Tryd.pinned (.plain (OpenSpec.upto flatSpec)) flatUptoCard
end Rows
end Go.Proofs.YtecocheolbkneaaDoor
