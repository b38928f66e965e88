/-
  DERIVED. GIVEN WITH THE SEED: THE CARDS: each row of YtkoinngpmkmocaaDoorRows.lean that lists a variable, with what it lists TIED to the program's text (the seventh form; the later family's looks); each row that meets fmt, with fmt's text TOLD by the authors' own Lean function (tested against real Go, not proved from fmt's source: count such statements apart). THE CARD IS WHAT COUNTS. Prove the row's statement (the work); the ties are given (YtkoinngpmkmocaaDoorTie.lean); close each card by the builder's one call (the guide's Derived/Test/ToyasCard.lean, 'card_holds'). Laid BY PROGRAM, IN A SANDBOX (cutbox-door.mjs). By AI agents, Wed Nov 11 2026. No macro, syntax, notation, axiom, sorry.
-/
import Derived.Test.YtkoinngpmkmocaaDoorRows
import GoSem.ClaimSeven
namespace Go.Proofs.YtkoinngpmkmocaaDoor
namespace Rows

/-- THE TIED CARD OF 'weftlaw2.ConfChecks'. -/
def confChecksCard : Claim7 := { stood := { row := confChecksRow, standIns := [], harness := (true, "cc3ef451b67dc5a5064d3a940416433ac6278f27d0bf73dc263ba01656c48be5"), looks := true }, kinds := [], alts := [], laidByText := true, laidKinds := [.data], laidTests := true, laidLooks := .later }
def ConfChecksCardSaid : Prop := Claim7.holds Tryd.pinned (.plain (OpenSpec.ofChange confChecksSpec)) confChecksCard

/-- THE TIED CARD OF 'weftlaw2.ConfLimits'. -/
def confLimitsCard : Claim7 := { stood := { row := confLimitsRow, standIns := [], harness := (true, "cc3ef451b67dc5a5064d3a940416433ac6278f27d0bf73dc263ba01656c48be5"), looks := true }, kinds := [], alts := [], laidByText := true, laidKinds := [.data, .pinned], laidTests := true, laidLooks := .later }
def ConfLimitsCardSaid : Prop := Claim7.holds Tryd.pinned (.plain (OpenSpec.ofChange confLimitsSpec)) confLimitsCard

/-- THE TIED CARD OF 'weftlaw2.ConfOnce'. -/
def confOnceCard : Claim7 := { stood := { row := confOnceRow, standIns := [], harness := (true, "cc3ef451b67dc5a5064d3a940416433ac6278f27d0bf73dc263ba01656c48be5"), looks := true }, kinds := [], alts := [], laidByText := true, laidKinds := [.data, .pinned], laidTests := true, laidLooks := .later }
def ConfOnceCardSaid : Prop := Claim7.holds Tryd.pinned (.plain (OpenSpec.ofChange confOnceSpec)) confOnceCard

/-- THE TIED CARD OF 'weftlaw2.ConfPrints'. -/
def confPrintsCard : Claim7 := { stood := { row := confPrintsRow, standIns := [], harness := (true, "cc3ef451b67dc5a5064d3a940416433ac6278f27d0bf73dc263ba01656c48be5"), looks := true }, kinds := [], alts := [], laidByText := true, laidKinds := [.data, .pinned], laidTests := true, laidLooks := .later }
def ConfPrintsCardSaid : Prop := Claim7.holds Tryd.pinned (.plain (OpenSpec.ofChange confPrintsSpec)) confPrintsCard

/-- THE TIED CARD OF 'weftlaw2.ConfCuts'. -/
def confCutsCard : Claim7 := { stood := { row := confCutsRow, standIns := [], harness := (true, "cc3ef451b67dc5a5064d3a940416433ac6278f27d0bf73dc263ba01656c48be5"), looks := true }, kinds := [], alts := [], laidByText := true, laidKinds := [.data, .pinned], laidTests := true, laidLooks := .later }
def ConfCutsCardSaid : Prop := Claim7.holds Tryd.pinned (.plain (OpenSpec.ofChange confCutsSpec)) confCutsCard

/-- THE TIED CARD OF 'weftlaw2.ConfParses'. -/
def confParsesCard : Claim7 := { stood := { row := confParsesRow, standIns := [], harness := (true, "cc3ef451b67dc5a5064d3a940416433ac6278f27d0bf73dc263ba01656c48be5"), looks := true }, kinds := [], alts := [], laidByText := true, laidKinds := [.data, .pinned], laidTests := true, laidLooks := .later }
def ConfParsesCardSaid : Prop := Claim7.holds Tryd.pinned (.plain (OpenSpec.ofChange confParsesSpec)) confParsesCard

/-- THE SECOND FORM's CARD OF 'weftlaw2.ConfChecks'. -/
def confChecksUptoCard : Claim7 := { stood := { row := confChecksUptoRow, standIns := [], harness := (true, "cc3ef451b67dc5a5064d3a940416433ac6278f27d0bf73dc263ba01656c48be5"), looks := true }, kinds := [], alts := [], laidByText := true, laidKinds := [.data], laidTests := true, laidLooks := .later }
def ConfChecksUptoCardSaid : Prop := Claim7.holds Tryd.pinned (.plain (OpenSpec.upto confChecksSpec)) confChecksUptoCard

/-- THE SECOND FORM's CARD OF 'weftlaw2.ConfLimits'. -/
def confLimitsUptoCard : Claim7 := { stood := { row := confLimitsUptoRow, standIns := [], harness := (true, "cc3ef451b67dc5a5064d3a940416433ac6278f27d0bf73dc263ba01656c48be5"), looks := true }, kinds := [], alts := [], laidByText := true, laidKinds := [.data, .pinned], laidTests := true, laidLooks := .later }
def ConfLimitsUptoCardSaid : Prop := Claim7.holds Tryd.pinned (.plain (OpenSpec.upto confLimitsSpec)) confLimitsUptoCard

/-- THE SECOND FORM's CARD OF 'weftlaw2.ConfOnce'. -/
def confOnceUptoCard : Claim7 := { stood := { row := confOnceUptoRow, standIns := [], harness := (true, "cc3ef451b67dc5a5064d3a940416433ac6278f27d0bf73dc263ba01656c48be5"), looks := true }, kinds := [], alts := [], laidByText := true, laidKinds := [.data, .pinned], laidTests := true, laidLooks := .later }
def ConfOnceUptoCardSaid : Prop := Claim7.holds Tryd.pinned (.plain (OpenSpec.upto confOnceSpec)) confOnceUptoCard

/-- THE SECOND FORM's CARD OF 'weftlaw2.ConfPrints'. -/
def confPrintsUptoCard : Claim7 := { stood := { row := confPrintsUptoRow, standIns := [], harness := (true, "cc3ef451b67dc5a5064d3a940416433ac6278f27d0bf73dc263ba01656c48be5"), looks := true }, kinds := [], alts := [], laidByText := true, laidKinds := [.data, .pinned], laidTests := true, laidLooks := .later }
def ConfPrintsUptoCardSaid : Prop := Claim7.holds Tryd.pinned (.plain (OpenSpec.upto confPrintsSpec)) confPrintsUptoCard

/-- THE SECOND FORM's CARD OF 'weftlaw2.ConfCuts'. -/
def confCutsUptoCard : Claim7 := { stood := { row := confCutsUptoRow, standIns := [], harness := (true, "cc3ef451b67dc5a5064d3a940416433ac6278f27d0bf73dc263ba01656c48be5"), looks := true }, kinds := [], alts := [], laidByText := true, laidKinds := [.data, .pinned], laidTests := true, laidLooks := .later }
def ConfCutsUptoCardSaid : Prop := Claim7.holds Tryd.pinned (.plain (OpenSpec.upto confCutsSpec)) confCutsUptoCard

/-- THE SECOND FORM's CARD OF 'weftlaw2.ConfParses'. -/
def confParsesUptoCard : Claim7 := { stood := { row := confParsesUptoRow, standIns := [], harness := (true, "cc3ef451b67dc5a5064d3a940416433ac6278f27d0bf73dc263ba01656c48be5"), looks := true }, kinds := [], alts := [], laidByText := true, laidKinds := [.data, .pinned], laidTests := true, laidLooks := .later }
def ConfParsesUptoCardSaid : Prop := Claim7.holds Tryd.pinned (.plain (OpenSpec.upto confParsesSpec)) confParsesUptoCard
end Rows
end Go.Proofs.YtkoinngpmkmocaaDoor
