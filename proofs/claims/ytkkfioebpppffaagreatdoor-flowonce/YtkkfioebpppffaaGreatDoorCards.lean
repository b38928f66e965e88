/-
  DERIVED. GIVEN WITH THE SEED: THE CARDS: each row of YtkkfioebpppffaaGreatDoorRows.lean that lists a variable, with what it lists TIED to the program's text (the seventh form; the later family's looks); each row that meets fmt, with fmt's text TOLD by the authors' own Lean function (tested against real Go, not proved from fmt's source: count such statements apart). THE CARD IS WHAT COUNTS. Prove the row's statement (the work); the ties are given (YtkkfioebpppffaaGreatDoorTie.lean); close each card by the builder's one call (the guide's Derived/Test/ToyasCard.lean, 'card_holds'). Laid BY PROGRAM, IN A SANDBOX (cutbox-door.mjs). By AI agents, Wed Nov 11 2026. No macro, syntax, notation, axiom, sorry.
-/
import Derived.Test.YtkkfioebpppffaaGreatDoorRows
import GoSem.ClaimSeven
namespace Go.Proofs.YtkkfioebpppffaaGreatDoor
namespace Rows

/-- THE TIED CARD OF 'weftlaw21.FlowOnce'. -/
def flowOnceCard : Claim7 := { stood := { row := flowOnceRow, standIns := [], harness := (true, "0bb2faebd1c5b77fee5aaf04a4f214e1a611a968716cd7b55c6c1837f09e689d"), looks := true }, kinds := [], alts := [], laidByText := true, laidKinds := [.data, .data, .data], laidTests := true, laidLooks := .later }
def FlowOnceCardSaid : Prop := Claim7.holds Tryz.pinned (.plain (OpenSpec.ofChange flowOnceSpec)) flowOnceCard

/-- THE SECOND FORM's CARD OF 'weftlaw21.FlowOnce'. -/
def flowOnceUptoCard : Claim7 := { stood := { row := flowOnceUptoRow, standIns := [], harness := (true, "0bb2faebd1c5b77fee5aaf04a4f214e1a611a968716cd7b55c6c1837f09e689d"), looks := true }, kinds := [], alts := [], laidByText := true, laidKinds := [.data, .data, .data], laidTests := true, laidLooks := .later }
def FlowOnceUptoCardSaid : Prop := Claim7.holds Tryz.pinned (.plain (OpenSpec.upto flowOnceSpec)) flowOnceUptoCard
end Rows
end Go.Proofs.YtkkfioebpppffaaGreatDoor
