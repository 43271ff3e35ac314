/-
  DERIVED. GIVEN WITH THE SEED: THE CARDS: each row of YtlfmdkmjfokgbaaGreatDoorRows.lean that lists a variable, with what it lists TIED to the program's text (the seventh form; the later family's looks); each row that meets fmt, with fmt's text TOLD by the authors' own Lean function (tested against real Go, not proved from fmt's source: count such statements apart). THE CARD IS WHAT COUNTS. Prove the row's statement (the work); the ties are given (YtlfmdkmjfokgbaaGreatDoorTie.lean); close each card by the builder's one call (the guide's Derived/Test/ToyasCard.lean, 'card_holds'). Laid BY PROGRAM, IN A SANDBOX (cutbox-door.mjs). By AI agents, Wed Nov 11 2026. No macro, syntax, notation, axiom, sorry.
-/
import Derived.Test.YtlfmdkmjfokgbaaGreatDoorRows
import GoSem.ClaimSeven
namespace Go.Proofs.YtlfmdkmjfokgbaaGreatDoor
namespace Rows

/-- THE TIED CARD OF 'moonpoollaw01.CableStrings'. -/
def cableStringsCard : Claim7 := { stood := { row := cableStringsRow, standIns := [], harness := (true, "1cc63bbb5824a66bbe0af12ebbeefb80857a24917655d1f3deb101e5f6c3179a"), looks := false }, kinds := [], alts := [], laidByText := true, laidKinds := [.data, .data, .data, .data, .pinned], laidTests := true, laidLooks := .later }
def CableStringsCardSaid : Prop := Claim7.holds Tryz.pinned (.plain (OpenSpec.ofChange cableStringsSpec)) cableStringsCard

/-- THE TIED CARD OF 'moonpoollaw02.WinchStrings'. -/
def winchStringsCard : Claim7 := { stood := { row := winchStringsRow, standIns := [], harness := (true, "1cc63bbb5824a66bbe0af12ebbeefb80857a24917655d1f3deb101e5f6c3179a"), looks := false }, kinds := [], alts := [], laidByText := true, laidKinds := [.data, .data, .data, .data, .pinned], laidTests := true, laidLooks := .later }
def WinchStringsCardSaid : Prop := Claim7.holds Tryz.pinned (.plain (OpenSpec.ofChange winchStringsSpec)) winchStringsCard

/-- THE TIED CARD OF 'moonpoollaw04.SonarStrings'. -/
def sonarStringsCard : Claim7 := { stood := { row := sonarStringsRow, standIns := [], harness := (true, "1cc63bbb5824a66bbe0af12ebbeefb80857a24917655d1f3deb101e5f6c3179a"), looks := false }, kinds := [], alts := [], laidByText := true, laidKinds := [.data, .data, .data, .data, .pinned], laidTests := true, laidLooks := .later }
def SonarStringsCardSaid : Prop := Claim7.holds Tryz.pinned (.plain (OpenSpec.ofChange sonarStringsSpec)) sonarStringsCard

/-- THE TIED CARD OF 'moonpoollaw05.FixStrings'. -/
def fixStringsCard : Claim7 := { stood := { row := fixStringsRow, standIns := [], harness := (true, "1cc63bbb5824a66bbe0af12ebbeefb80857a24917655d1f3deb101e5f6c3179a"), looks := false }, kinds := [], alts := [], laidByText := true, laidKinds := [.data, .data, .data, .data, .pinned], laidTests := true, laidLooks := .later }
def FixStringsCardSaid : Prop := Claim7.holds Tryz.pinned (.plain (OpenSpec.ofChange fixStringsSpec)) fixStringsCard

/-- THE TIED CARD OF 'moonpooltop.TopCableHolds'. -/
def topCableHoldsCard : Claim7 := { stood := { row := topCableHoldsRow, standIns := [], harness := (true, "1cc63bbb5824a66bbe0af12ebbeefb80857a24917655d1f3deb101e5f6c3179a"), looks := false }, kinds := [], alts := [], laidByText := true, laidKinds := [.data, .data, .data, .data, .pinned], laidTests := true, laidLooks := .later }
def TopCableHoldsCardSaid : Prop := Claim7.holds Tryz.pinned (.plain (OpenSpec.ofChange topCableHoldsSpec)) topCableHoldsCard

/-- THE SECOND FORM's CARD OF 'moonpoollaw01.CableStrings'. -/
def cableStringsUptoCard : Claim7 := { stood := { row := cableStringsUptoRow, standIns := [], harness := (true, "1cc63bbb5824a66bbe0af12ebbeefb80857a24917655d1f3deb101e5f6c3179a"), looks := false }, kinds := [], alts := [], laidByText := true, laidKinds := [.data, .data, .data, .data, .pinned], laidTests := true, laidLooks := .later }
def CableStringsUptoCardSaid : Prop := Claim7.holds Tryz.pinned (.plain (OpenSpec.upto cableStringsSpec)) cableStringsUptoCard

/-- THE SECOND FORM's CARD OF 'moonpoollaw02.WinchStrings'. -/
def winchStringsUptoCard : Claim7 := { stood := { row := winchStringsUptoRow, standIns := [], harness := (true, "1cc63bbb5824a66bbe0af12ebbeefb80857a24917655d1f3deb101e5f6c3179a"), looks := false }, kinds := [], alts := [], laidByText := true, laidKinds := [.data, .data, .data, .data, .pinned], laidTests := true, laidLooks := .later }
def WinchStringsUptoCardSaid : Prop := Claim7.holds Tryz.pinned (.plain (OpenSpec.upto winchStringsSpec)) winchStringsUptoCard

/-- THE SECOND FORM's CARD OF 'moonpoollaw04.SonarStrings'. -/
def sonarStringsUptoCard : Claim7 := { stood := { row := sonarStringsUptoRow, standIns := [], harness := (true, "1cc63bbb5824a66bbe0af12ebbeefb80857a24917655d1f3deb101e5f6c3179a"), looks := false }, kinds := [], alts := [], laidByText := true, laidKinds := [.data, .data, .data, .data, .pinned], laidTests := true, laidLooks := .later }
def SonarStringsUptoCardSaid : Prop := Claim7.holds Tryz.pinned (.plain (OpenSpec.upto sonarStringsSpec)) sonarStringsUptoCard

/-- THE SECOND FORM's CARD OF 'moonpoollaw05.FixStrings'. -/
def fixStringsUptoCard : Claim7 := { stood := { row := fixStringsUptoRow, standIns := [], harness := (true, "1cc63bbb5824a66bbe0af12ebbeefb80857a24917655d1f3deb101e5f6c3179a"), looks := false }, kinds := [], alts := [], laidByText := true, laidKinds := [.data, .data, .data, .data, .pinned], laidTests := true, laidLooks := .later }
def FixStringsUptoCardSaid : Prop := Claim7.holds Tryz.pinned (.plain (OpenSpec.upto fixStringsSpec)) fixStringsUptoCard

/-- THE SECOND FORM's CARD OF 'moonpooltop.TopCableHolds'. -/
def topCableHoldsUptoCard : Claim7 := { stood := { row := topCableHoldsUptoRow, standIns := [], harness := (true, "1cc63bbb5824a66bbe0af12ebbeefb80857a24917655d1f3deb101e5f6c3179a"), looks := false }, kinds := [], alts := [], laidByText := true, laidKinds := [.data, .data, .data, .data, .pinned], laidTests := true, laidLooks := .later }
def TopCableHoldsUptoCardSaid : Prop := Claim7.holds Tryz.pinned (.plain (OpenSpec.upto topCableHoldsSpec)) topCableHoldsUptoCard
end Rows
end Go.Proofs.YtlfmdkmjfokgbaaGreatDoor
