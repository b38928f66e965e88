/-
  DERIVED. GIVEN WITH THE SEED: THE CARDS: each row of YtenhofbhkchjoaaDoorRows.lean that lists a variable, with what it lists TIED to the program's text (the seventh form; the later family's looks); each row that meets fmt, with fmt's text TOLD by the authors' own Lean function (tested against real Go, not proved from fmt's source: count such statements apart). THE CARD IS WHAT COUNTS. Prove the row's statement (the work); the ties are given (YtenhofbhkchjoaaDoorTie.lean); close each card by the builder's one call (the guide's Derived/Test/ToyasCard.lean, 'card_holds'). Laid BY PROGRAM, IN A SANDBOX (cutbox-door.mjs). By AI agents, Wed Nov 11 2026. No macro, syntax, notation, axiom, sorry.
-/
import Derived.Test.YtenhofbhkchjoaaDoorRows
import GoSem.ClaimSeven
namespace Go.Proofs.YtenhofbhkchjoaaDoor
namespace Rows

/-- THE TIED CARD OF 'weftlaw1.AddrTwoWays'. -/
def addrTwoWaysCard : Claim7 := { stood := { row := addrTwoWaysRow, standIns := [], harness := (true, "579a5d2d0a195fdadd9abddd7c72cb7932249e929e6ba409ad9cb3a2a15e3a4c"), looks := false }, kinds := [], alts := [], laidByText := true, laidKinds := [.data, .data, .data], laidTests := true, laidLooks := .later }
def AddrTwoWaysCardSaid : Prop := Claim7.holds Tryd.pinned (.plain (OpenSpec.ofChange addrTwoWaysSpec)) addrTwoWaysCard

/-- THE SECOND FORM's CARD OF 'weftlaw1.AddrTwoWays'. -/
def addrTwoWaysUptoCard : Claim7 := { stood := { row := addrTwoWaysUptoRow, standIns := [], harness := (true, "579a5d2d0a195fdadd9abddd7c72cb7932249e929e6ba409ad9cb3a2a15e3a4c"), looks := false }, kinds := [], alts := [], laidByText := true, laidKinds := [.data, .data, .data], laidTests := true, laidLooks := .later }
def AddrTwoWaysUptoCardSaid : Prop := Claim7.holds Tryd.pinned (.plain (OpenSpec.upto addrTwoWaysSpec)) addrTwoWaysUptoCard
end Rows
end Go.Proofs.YtenhofbhkchjoaaDoor
