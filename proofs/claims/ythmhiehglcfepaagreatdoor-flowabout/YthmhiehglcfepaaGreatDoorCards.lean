/-
  DERIVED. GIVEN WITH THE SEED: THE CARDS: each row of YthmhiehglcfepaaGreatDoorRows.lean that lists a variable, with what it lists TIED to the program's text (the seventh form; the later family's looks); each row that meets fmt, with fmt's text TOLD by the authors' own Lean function (tested against real Go, not proved from fmt's source: count such statements apart). THE CARD IS WHAT COUNTS. Prove the row's statement (the work); the ties are given (YthmhiehglcfepaaGreatDoorTie.lean); close each card by the builder's one call (the guide's Derived/Test/ToyasCard.lean, 'card_holds'). Laid BY PROGRAM, IN A SANDBOX (cutbox-door.mjs). By AI agents, Wed Nov 11 2026. No macro, syntax, notation, axiom, sorry.
-/
import Derived.Test.YthmhiehglcfepaaGreatDoorRows
import GoSem.ClaimSeven
namespace Go.Proofs.YthmhiehglcfepaaGreatDoor
namespace Rows

/-- THE TIED CARD OF 'weftlaw21.FlowEnds'. -/
def flowEndsCard : Claim7 := { stood := { row := flowEndsRow, standIns := [], harness := (true, "7389c87948318d438acd40441a1688062e4e7ad19552459d4b9346f3f9cd2f55"), looks := true }, kinds := [], alts := [], laidByText := true, laidKinds := [.data, .data, .data], laidTests := true, laidLooks := .later }
def FlowEndsCardSaid : Prop := Claim7.holds Tryz.pinned (.plain (OpenSpec.ofChange flowEndsSpec)) flowEndsCard

/-- THE TIED CARD OF 'weftlaw21.FlowOnce'. -/
def flowOnceCard : Claim7 := { stood := { row := flowOnceRow, standIns := [], harness := (true, "7389c87948318d438acd40441a1688062e4e7ad19552459d4b9346f3f9cd2f55"), looks := true }, kinds := [], alts := [], laidByText := true, laidKinds := [.data, .data, .data], laidTests := true, laidLooks := .later }
def FlowOnceCardSaid : Prop := Claim7.holds Tryz.pinned (.plain (OpenSpec.ofChange flowOnceSpec)) flowOnceCard

/-- THE TIED CARD OF 'weftlaw21.FlowFresh'. -/
def flowFreshCard : Claim7 := { stood := { row := flowFreshRow, standIns := [], harness := (true, "7389c87948318d438acd40441a1688062e4e7ad19552459d4b9346f3f9cd2f55"), looks := true }, kinds := [], alts := [], laidByText := true, laidKinds := [.data, .data, .data], laidTests := true, laidLooks := .later }
def FlowFreshCardSaid : Prop := Claim7.holds Tryz.pinned (.plain (OpenSpec.ofChange flowFreshSpec)) flowFreshCard

/-- THE TIED CARD OF 'weftlaw21.FlowAbout'. -/
def flowAboutCard : Claim7 := { stood := { row := flowAboutRow, standIns := [], harness := (true, "7389c87948318d438acd40441a1688062e4e7ad19552459d4b9346f3f9cd2f55"), looks := true }, kinds := [], alts := [], laidByText := true, laidKinds := [.data, .data, .data, .data], laidTests := true, laidLooks := .later }
def FlowAboutCardSaid : Prop := Claim7.holds Tryz.pinned (.plain (OpenSpec.ofChange flowAboutSpec)) flowAboutCard

/-- THE TIED CARD OF 'weftlaw21.FlowAll'. -/
def flowAllCard : Claim7 := { stood := { row := flowAllRow, standIns := [], harness := (true, "7389c87948318d438acd40441a1688062e4e7ad19552459d4b9346f3f9cd2f55"), looks := true }, kinds := [], alts := [], laidByText := true, laidKinds := [.data, .data, .data], laidTests := true, laidLooks := .later }
def FlowAllCardSaid : Prop := Claim7.holds Tryz.pinned (.plain (OpenSpec.ofChange flowAllSpec)) flowAllCard

/-- THE SECOND FORM's CARD OF 'weftlaw21.FlowEnds'. -/
def flowEndsUptoCard : Claim7 := { stood := { row := flowEndsUptoRow, standIns := [], harness := (true, "7389c87948318d438acd40441a1688062e4e7ad19552459d4b9346f3f9cd2f55"), looks := true }, kinds := [], alts := [], laidByText := true, laidKinds := [.data, .data, .data], laidTests := true, laidLooks := .later }
def FlowEndsUptoCardSaid : Prop := Claim7.holds Tryz.pinned (.plain (OpenSpec.upto flowEndsSpec)) flowEndsUptoCard

/-- THE SECOND FORM's CARD OF 'weftlaw21.FlowOnce'. -/
def flowOnceUptoCard : Claim7 := { stood := { row := flowOnceUptoRow, standIns := [], harness := (true, "7389c87948318d438acd40441a1688062e4e7ad19552459d4b9346f3f9cd2f55"), looks := true }, kinds := [], alts := [], laidByText := true, laidKinds := [.data, .data, .data], laidTests := true, laidLooks := .later }
def FlowOnceUptoCardSaid : Prop := Claim7.holds Tryz.pinned (.plain (OpenSpec.upto flowOnceSpec)) flowOnceUptoCard

/-- THE SECOND FORM's CARD OF 'weftlaw21.FlowFresh'. -/
def flowFreshUptoCard : Claim7 := { stood := { row := flowFreshUptoRow, standIns := [], harness := (true, "7389c87948318d438acd40441a1688062e4e7ad19552459d4b9346f3f9cd2f55"), looks := true }, kinds := [], alts := [], laidByText := true, laidKinds := [.data, .data, .data], laidTests := true, laidLooks := .later }
def FlowFreshUptoCardSaid : Prop := Claim7.holds Tryz.pinned (.plain (OpenSpec.upto flowFreshSpec)) flowFreshUptoCard

/-- THE SECOND FORM's CARD OF 'weftlaw21.FlowAbout'. -/
def flowAboutUptoCard : Claim7 := { stood := { row := flowAboutUptoRow, standIns := [], harness := (true, "7389c87948318d438acd40441a1688062e4e7ad19552459d4b9346f3f9cd2f55"), looks := true }, kinds := [], alts := [], laidByText := true, laidKinds := [.data, .data, .data, .data], laidTests := true, laidLooks := .later }
def FlowAboutUptoCardSaid : Prop := Claim7.holds Tryz.pinned (.plain (OpenSpec.upto flowAboutSpec)) flowAboutUptoCard

/-- THE SECOND FORM's CARD OF 'weftlaw21.FlowAll'. -/
def flowAllUptoCard : Claim7 := { stood := { row := flowAllUptoRow, standIns := [], harness := (true, "7389c87948318d438acd40441a1688062e4e7ad19552459d4b9346f3f9cd2f55"), looks := true }, kinds := [], alts := [], laidByText := true, laidKinds := [.data, .data, .data], laidTests := true, laidLooks := .later }
def FlowAllUptoCardSaid : Prop := Claim7.holds Tryz.pinned (.plain (OpenSpec.upto flowAllSpec)) flowAllUptoCard
end Rows
end Go.Proofs.YthmhiehglcfepaaGreatDoor
