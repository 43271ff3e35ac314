/-
  DERIVED. GIVEN WITH THE SEED: THE CARDS: each row of YtidahkefillmeaaGreatDoorRows.lean that lists a variable, with what it lists TIED to the program's text (the seventh form; the later family's looks); each row that meets fmt, with fmt's text TOLD by the authors' own Lean function (tested against real Go, not proved from fmt's source: count such statements apart). THE CARD IS WHAT COUNTS. Prove the row's statement (the work); the ties are given (YtidahkefillmeaaGreatDoorTie.lean); close each card by the builder's one call (the guide's Derived/Test/ToyasCard.lean, 'card_holds'). Laid BY PROGRAM, IN A SANDBOX (cutbox-door.mjs). By AI agents, Wed Nov 11 2026. No macro, syntax, notation, axiom, sorry.
-/
import Derived.Test.YtidahkefillmeaaGreatDoorRows
import GoSem.ClaimSeven
namespace Go.Proofs.YtidahkefillmeaaGreatDoor
namespace Rows

/-- THE TIED CARD OF 'moonpoollaw09.SurveyStations'. -/
def surveyStationsCard : Claim7 := { stood := { row := surveyStationsRow, standIns := [], harness := (true, "0b8c1453ef3af0b4261a03a224acc2a1b634457886635c851bf9eae4cab80811"), looks := false }, kinds := [], alts := [], laidByText := true, laidKinds := [.data, .data, .data], laidTests := true, laidLooks := .later }
def SurveyStationsCardSaid : Prop := Claim7.holds Tryz.pinned (.plain (OpenSpec.ofChange surveyStationsSpec)) surveyStationsCard

/-- THE TIED CARD OF 'moonpoollaw09.SurveySpans'. -/
def surveySpansCard : Claim7 := { stood := { row := surveySpansRow, standIns := [], harness := (true, "0b8c1453ef3af0b4261a03a224acc2a1b634457886635c851bf9eae4cab80811"), looks := false }, kinds := [], alts := [], laidByText := true, laidKinds := [.data, .data, .data], laidTests := true, laidLooks := .later }
def SurveySpansCardSaid : Prop := Claim7.holds Tryz.pinned (.plain (OpenSpec.ofChange surveySpansSpec)) surveySpansCard

/-- THE TIED CARD OF 'moonpoollaw09.SurveyTrue'. -/
def surveyTrueCard : Claim7 := { stood := { row := surveyTrueRow, standIns := [], harness := (true, "0b8c1453ef3af0b4261a03a224acc2a1b634457886635c851bf9eae4cab80811"), looks := false }, kinds := [], alts := [], laidByText := true, laidKinds := [.data, .data, .data], laidTests := true, laidLooks := .later }
def SurveyTrueCardSaid : Prop := Claim7.holds Tryz.pinned (.plain (OpenSpec.ofChange surveyTrueSpec)) surveyTrueCard

/-- THE TIED CARD OF 'moonpoollaw09.SurveyBetween'. -/
def surveyBetweenCard : Claim7 := { stood := { row := surveyBetweenRow, standIns := [], harness := (true, "0b8c1453ef3af0b4261a03a224acc2a1b634457886635c851bf9eae4cab80811"), looks := false }, kinds := [], alts := [], laidByText := true, laidKinds := [.data, .data, .data], laidTests := true, laidLooks := .later }
def SurveyBetweenCardSaid : Prop := Claim7.holds Tryz.pinned (.plain (OpenSpec.ofChange surveyBetweenSpec)) surveyBetweenCard

/-- THE TIED CARD OF 'moonpoollaw09.SurveySwaths'. -/
def surveySwathsCard : Claim7 := { stood := { row := surveySwathsRow, standIns := [], harness := (true, "0b8c1453ef3af0b4261a03a224acc2a1b634457886635c851bf9eae4cab80811"), looks := false }, kinds := [], alts := [], laidByText := true, laidKinds := [.data, .data, .data], laidTests := true, laidLooks := .later }
def SurveySwathsCardSaid : Prop := Claim7.holds Tryz.pinned (.plain (OpenSpec.ofChange surveySwathsSpec)) surveySwathsCard

/-- THE TIED CARD OF 'moonpoollaw09.SurveyShifts'. -/
def surveyShiftsCard : Claim7 := { stood := { row := surveyShiftsRow, standIns := [], harness := (true, "0b8c1453ef3af0b4261a03a224acc2a1b634457886635c851bf9eae4cab80811"), looks := false }, kinds := [], alts := [], laidByText := true, laidKinds := [.data, .data, .data], laidTests := true, laidLooks := .later }
def SurveyShiftsCardSaid : Prop := Claim7.holds Tryz.pinned (.plain (OpenSpec.ofChange surveyShiftsSpec)) surveyShiftsCard

/-- THE SECOND FORM's CARD OF 'moonpoollaw09.SurveyStations'. -/
def surveyStationsUptoCard : Claim7 := { stood := { row := surveyStationsUptoRow, standIns := [], harness := (true, "0b8c1453ef3af0b4261a03a224acc2a1b634457886635c851bf9eae4cab80811"), looks := false }, kinds := [], alts := [], laidByText := true, laidKinds := [.data, .data, .data], laidTests := true, laidLooks := .later }
def SurveyStationsUptoCardSaid : Prop := Claim7.holds Tryz.pinned (.plain (OpenSpec.upto surveyStationsSpec)) surveyStationsUptoCard

/-- THE SECOND FORM's CARD OF 'moonpoollaw09.SurveySpans'. -/
def surveySpansUptoCard : Claim7 := { stood := { row := surveySpansUptoRow, standIns := [], harness := (true, "0b8c1453ef3af0b4261a03a224acc2a1b634457886635c851bf9eae4cab80811"), looks := false }, kinds := [], alts := [], laidByText := true, laidKinds := [.data, .data, .data], laidTests := true, laidLooks := .later }
def SurveySpansUptoCardSaid : Prop := Claim7.holds Tryz.pinned (.plain (OpenSpec.upto surveySpansSpec)) surveySpansUptoCard

/-- THE SECOND FORM's CARD OF 'moonpoollaw09.SurveyTrue'. -/
def surveyTrueUptoCard : Claim7 := { stood := { row := surveyTrueUptoRow, standIns := [], harness := (true, "0b8c1453ef3af0b4261a03a224acc2a1b634457886635c851bf9eae4cab80811"), looks := false }, kinds := [], alts := [], laidByText := true, laidKinds := [.data, .data, .data], laidTests := true, laidLooks := .later }
def SurveyTrueUptoCardSaid : Prop := Claim7.holds Tryz.pinned (.plain (OpenSpec.upto surveyTrueSpec)) surveyTrueUptoCard

/-- THE SECOND FORM's CARD OF 'moonpoollaw09.SurveyBetween'. -/
def surveyBetweenUptoCard : Claim7 := { stood := { row := surveyBetweenUptoRow, standIns := [], harness := (true, "0b8c1453ef3af0b4261a03a224acc2a1b634457886635c851bf9eae4cab80811"), looks := false }, kinds := [], alts := [], laidByText := true, laidKinds := [.data, .data, .data], laidTests := true, laidLooks := .later }
def SurveyBetweenUptoCardSaid : Prop := Claim7.holds Tryz.pinned (.plain (OpenSpec.upto surveyBetweenSpec)) surveyBetweenUptoCard

/-- THE SECOND FORM's CARD OF 'moonpoollaw09.SurveySwaths'. -/
def surveySwathsUptoCard : Claim7 := { stood := { row := surveySwathsUptoRow, standIns := [], harness := (true, "0b8c1453ef3af0b4261a03a224acc2a1b634457886635c851bf9eae4cab80811"), looks := false }, kinds := [], alts := [], laidByText := true, laidKinds := [.data, .data, .data], laidTests := true, laidLooks := .later }
def SurveySwathsUptoCardSaid : Prop := Claim7.holds Tryz.pinned (.plain (OpenSpec.upto surveySwathsSpec)) surveySwathsUptoCard

/-- THE SECOND FORM's CARD OF 'moonpoollaw09.SurveyShifts'. -/
def surveyShiftsUptoCard : Claim7 := { stood := { row := surveyShiftsUptoRow, standIns := [], harness := (true, "0b8c1453ef3af0b4261a03a224acc2a1b634457886635c851bf9eae4cab80811"), looks := false }, kinds := [], alts := [], laidByText := true, laidKinds := [.data, .data, .data], laidTests := true, laidLooks := .later }
def SurveyShiftsUptoCardSaid : Prop := Claim7.holds Tryz.pinned (.plain (OpenSpec.upto surveyShiftsSpec)) surveyShiftsUptoCard
end Rows
end Go.Proofs.YtidahkefillmeaaGreatDoor
