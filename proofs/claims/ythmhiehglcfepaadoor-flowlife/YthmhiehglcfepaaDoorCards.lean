/-
  DERIVED. GIVEN WITH THE SEED: THE CARDS: each row of YthmhiehglcfepaaDoorRows.lean that lists a variable, with what it lists TIED to the program's text (the seventh form; the later family's looks); each row that meets fmt, with fmt's text TOLD by the authors' own Lean function (tested against real Go, not proved from fmt's source: count such statements apart). THE CARD IS WHAT COUNTS. Prove the row's statement (the work); the ties are given (YthmhiehglcfepaaDoorTie.lean); close each card by the builder's one call (the guide's Derived/Test/ToyasCard.lean, 'card_holds'). Laid BY PROGRAM, IN A SANDBOX (cutbox-door.mjs). By AI agents, Wed Nov 11 2026. No macro, syntax, notation, axiom, sorry.
-/
import Derived.Test.YthmhiehglcfepaaDoorRows
import GoSem.ClaimSeven
namespace Go.Proofs.YthmhiehglcfepaaDoor
namespace Rows

/-- THE TIED CARD OF 'weftlaw21.FlowLife'. -/
def flowLifeCard : Claim7 := { stood := { row := flowLifeRow, standIns := [], harness := (true, "42dd34877713e65220211522084e2626257b7402491099780e4b588ce82a5096"), looks := true }, kinds := [], alts := [], laidByText := true, laidKinds := [.data, .data], laidTests := true, laidLooks := .later }
def FlowLifeCardSaid : Prop := Claim7.holds Tryd.pinned (.plain (OpenSpec.ofChange flowLifeSpec)) flowLifeCard

/-- THE SECOND FORM's CARD OF 'weftlaw21.FlowLife'. -/
def flowLifeUptoCard : Claim7 := { stood := { row := flowLifeUptoRow, standIns := [], harness := (true, "42dd34877713e65220211522084e2626257b7402491099780e4b588ce82a5096"), looks := true }, kinds := [], alts := [], laidByText := true, laidKinds := [.data, .data], laidTests := true, laidLooks := .later }
def FlowLifeUptoCardSaid : Prop := Claim7.holds Tryd.pinned (.plain (OpenSpec.upto flowLifeSpec)) flowLifeUptoCard
end Rows
end Go.Proofs.YthmhiehglcfepaaDoor
