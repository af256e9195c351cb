/-
  DERIVED. GIVEN WITH THE SEED: THE CARDS: each row of YtecocheolbkneaaGreatDoorRows.lean that lists a variable, with what it lists TIED to the program's text (the seventh form; the later family's looks); each row that meets fmt, with fmt's text TOLD by the authors' own Lean function (tested against real Go, not proved from fmt's source: count such statements apart). THE CARD IS WHAT COUNTS. Prove the row's statement (the work); the ties are given (YtecocheolbkneaaGreatDoorTie.lean); close each card by the builder's one call (the guide's Derived/Test/ToyasCard.lean, 'card_holds'). Laid BY PROGRAM, IN A SANDBOX (cutbox-door.mjs). By AI agents, Wed Nov 11 2026. No macro, syntax, notation, axiom, sorry.
-/
import Derived.Test.YtecocheolbkneaaGreatDoorRows
import GoSem.ClaimSeven
namespace Go.Proofs.YtecocheolbkneaaGreatDoor
namespace Rows

/-- THE TIED CARD OF 'hoistlaw.Sites'. -/
def sitesCard : Claim7 := { stood := { row := sitesRow, standIns := [], harness := (true, "01bd52512ddeda93910ca64f7734339120873d78affce1afc02667bb3a607191"), looks := false }, kinds := [], alts := [], laidByText := true, laidKinds := [.data, .data, .data], laidTests := true, laidLooks := .later }
def SitesCardSaid : Prop := Claim7.holds Tryz.pinned (.plain (OpenSpec.ofChange sitesSpec)) sitesCard

/-- THE TIED CARD OF 'hoistlaw.Trees'. -/
def treesCard : Claim7 := { stood := { row := treesRow, standIns := [], harness := (true, "01bd52512ddeda93910ca64f7734339120873d78affce1afc02667bb3a607191"), looks := false }, kinds := [], alts := [], laidByText := true, laidKinds := [.data, .data, .data], laidTests := true, laidLooks := .later }
def TreesCardSaid : Prop := Claim7.holds Tryz.pinned (.plain (OpenSpec.ofChange treesSpec)) treesCard

/-- THE TIED CARD OF 'hoistkeep.Again'. -/
def againCard : Claim7 := { stood := { row := againRow, standIns := [], harness := (true, "01bd52512ddeda93910ca64f7734339120873d78affce1afc02667bb3a607191"), looks := false }, kinds := [], alts := [], laidByText := true, laidKinds := [.data, .data, .data], laidTests := true, laidLooks := .later }
def AgainCardSaid : Prop := Claim7.holds Tryz.pinned (.plain (OpenSpec.ofChange againSpec)) againCard

/-- THE TIED CARD OF 'hoistkeep.Slimmed'. -/
def slimmedCard : Claim7 := { stood := { row := slimmedRow, standIns := [], harness := (true, "01bd52512ddeda93910ca64f7734339120873d78affce1afc02667bb3a607191"), looks := false }, kinds := [], alts := [], laidByText := true, laidKinds := [.data, .data, .data], laidTests := true, laidLooks := .later }
def SlimmedCardSaid : Prop := Claim7.holds Tryz.pinned (.plain (OpenSpec.ofChange slimmedSpec)) slimmedCard

/-- THE SECOND FORM's CARD OF 'hoistlaw.Sites'. -/
def sitesUptoCard : Claim7 := { stood := { row := sitesUptoRow, standIns := [], harness := (true, "01bd52512ddeda93910ca64f7734339120873d78affce1afc02667bb3a607191"), looks := false }, kinds := [], alts := [], laidByText := true, laidKinds := [.data, .data, .data], laidTests := true, laidLooks := .later }
def SitesUptoCardSaid : Prop := Claim7.holds Tryz.pinned (.plain (OpenSpec.upto sitesSpec)) sitesUptoCard

/-- THE SECOND FORM's CARD OF 'hoistlaw.Trees'. -/
def treesUptoCard : Claim7 := { stood := { row := treesUptoRow, standIns := [], harness := (true, "01bd52512ddeda93910ca64f7734339120873d78affce1afc02667bb3a607191"), looks := false }, kinds := [], alts := [], laidByText := true, laidKinds := [.data, .data, .data], laidTests := true, laidLooks := .later }
def TreesUptoCardSaid : Prop := Claim7.holds Tryz.pinned (.plain (OpenSpec.upto treesSpec)) treesUptoCard

/-- THE SECOND FORM's CARD OF 'hoistkeep.Again'. -/
def againUptoCard : Claim7 := { stood := { row := againUptoRow, standIns := [], harness := (true, "01bd52512ddeda93910ca64f7734339120873d78affce1afc02667bb3a607191"), looks := false }, kinds := [], alts := [], laidByText := true, laidKinds := [.data, .data, .data], laidTests := true, laidLooks := .later }
def AgainUptoCardSaid : Prop := Claim7.holds Tryz.pinned (.plain (OpenSpec.upto againSpec)) againUptoCard

/-- THE SECOND FORM's CARD OF 'hoistkeep.Slimmed'. -/
def slimmedUptoCard : Claim7 := { stood := { row := slimmedUptoRow, standIns := [], harness := (true, "01bd52512ddeda93910ca64f7734339120873d78affce1afc02667bb3a607191"), looks := false }, kinds := [], alts := [], laidByText := true, laidKinds := [.data, .data, .data], laidTests := true, laidLooks := .later }
def SlimmedUptoCardSaid : Prop := Claim7.holds Tryz.pinned (.plain (OpenSpec.upto slimmedSpec)) slimmedUptoCard
end Rows
end Go.Proofs.YtecocheolbkneaaGreatDoor
