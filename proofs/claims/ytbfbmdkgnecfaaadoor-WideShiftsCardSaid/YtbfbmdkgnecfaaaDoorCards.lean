/-
  DERIVED. GIVEN WITH THE SEED: THE CARDS: each row of YtbfbmdkgnecfaaaDoorRows.lean that lists a variable, with what it lists TIED to the program's text (the seventh form; the later family's looks); each row that meets fmt, with fmt's text TOLD by the authors' own Lean function (tested against real Go, not proved from fmt's source: count such statements apart). THE CARD IS WHAT COUNTS. Prove the row's statement (the work); the ties are given (YtbfbmdkgnecfaaaDoorTie.lean); close each card by the builder's one call (the guide's Derived/Test/ToyasCard.lean, 'card_holds'). Laid BY PROGRAM, IN A SANDBOX (cutbox-door.mjs). By AI agents, Wed Nov 11 2026. No macro, syntax, notation, axiom, sorry.
-/
import Derived.Test.YtbfbmdkgnecfaaaDoorRows
import GoSem.ClaimSeven
namespace Go.Proofs.YtbfbmdkgnecfaaaDoor
namespace Rows

/-- THE TIED CARD OF 'windowpanelaw02.WideShifts'. -/
def wideShiftsCard : Claim7 := { stood := { row := wideShiftsRow, standIns := [], harness := (true, "53ddad865ee54d998aeca6fab29d1576b341155cc018f2da8723864786515ad3"), looks := false }, kinds := [], alts := [], laidByText := true, laidKinds := [.data], laidTests := true, laidLooks := .later }
def WideShiftsCardSaid : Prop := Claim7.holds Tryd.pinned (.plain (OpenSpec.ofChange wideShiftsSpec)) wideShiftsCard

/-- THE TIED CARD OF 'windowpanelaw02.WideNormal'. -/
def wideNormalCard : Claim7 := { stood := { row := wideNormalRow, standIns := [], harness := (true, "53ddad865ee54d998aeca6fab29d1576b341155cc018f2da8723864786515ad3"), looks := false }, kinds := [], alts := [], laidByText := true, laidKinds := [.data], laidTests := true, laidLooks := .later }
def WideNormalCardSaid : Prop := Claim7.holds Tryd.pinned (.plain (OpenSpec.ofChange wideNormalSpec)) wideNormalCard

/-- THE SECOND FORM's CARD OF 'windowpanelaw02.WideShifts'. -/
def wideShiftsUptoCard : Claim7 := { stood := { row := wideShiftsUptoRow, standIns := [], harness := (true, "53ddad865ee54d998aeca6fab29d1576b341155cc018f2da8723864786515ad3"), looks := false }, kinds := [], alts := [], laidByText := true, laidKinds := [.data], laidTests := true, laidLooks := .later }
def WideShiftsUptoCardSaid : Prop := Claim7.holds Tryd.pinned (.plain (OpenSpec.upto wideShiftsSpec)) wideShiftsUptoCard

/-- THE SECOND FORM's CARD OF 'windowpanelaw02.WideNormal'. -/
def wideNormalUptoCard : Claim7 := { stood := { row := wideNormalUptoRow, standIns := [], harness := (true, "53ddad865ee54d998aeca6fab29d1576b341155cc018f2da8723864786515ad3"), looks := false }, kinds := [], alts := [], laidByText := true, laidKinds := [.data], laidTests := true, laidLooks := .later }
def WideNormalUptoCardSaid : Prop := Claim7.holds Tryd.pinned (.plain (OpenSpec.upto wideNormalSpec)) wideNormalUptoCard
end Rows
end Go.Proofs.YtbfbmdkgnecfaaaDoor
