/-
  DERIVED. GIVEN WITH THE SEED: THE CARDS: each row of YteoebmpfdcbbmacDoorRows.lean that lists a variable, with what it lists TIED to the program's text (the seventh form; the later family's looks); each row that meets fmt, with fmt's text TOLD by the authors' own Lean function (tested against real Go, not proved from fmt's source: count such statements apart). THE CARD IS WHAT COUNTS. Prove the row's statement (the work); the ties are given (YteoebmpfdcbbmacDoorTie.lean); close each card by the builder's one call (the guide's Derived/Test/ToyasCard.lean, 'card_holds'). Laid BY PROGRAM, IN A SANDBOX (cutbox-door.mjs). By AI agents, Wed Nov 11 2026. No macro, syntax, notation, axiom, sorry.
-/
import Derived.Test.YteoebmpfdcbbmacDoorRows
import GoSem.ClaimSeven
namespace Go.Proofs.YteoebmpfdcbbmacDoor
namespace Rows

/-- THE TIED CARD OF 'weftlaw12.JournalAll'. -/
def journalAllCard : Claim7 := { stood := { row := journalAllRow, standIns := [], harness := (true, "89503de58daab3470305af48d29231bddc053d1b36bcd80ca4c1285a0922d040"), looks := false }, kinds := [], alts := [], laidByText := true, laidKinds := [.data], laidTests := true, laidLooks := .later }
def JournalAllCardSaid : Prop := Claim7.holds Tryd.pinned (.plain (OpenSpec.ofChange journalAllSpec)) journalAllCard

/-- THE TIED CARD OF 'weftlaw12.JournalTwo'. -/
def journalTwoCard : Claim7 := { stood := { row := journalTwoRow, standIns := [], harness := (true, "89503de58daab3470305af48d29231bddc053d1b36bcd80ca4c1285a0922d040"), looks := false }, kinds := [], alts := [], laidByText := true, laidKinds := [.data], laidTests := true, laidLooks := .later }
def JournalTwoCardSaid : Prop := Claim7.holds Tryd.pinned (.plain (OpenSpec.ofChange journalTwoSpec)) journalTwoCard

/-- THE TIED CARD OF 'weftlaw12.JournalFresh'. -/
def journalFreshCard : Claim7 := { stood := { row := journalFreshRow, standIns := [], harness := (true, "89503de58daab3470305af48d29231bddc053d1b36bcd80ca4c1285a0922d040"), looks := false }, kinds := [], alts := [], laidByText := true, laidKinds := [.data], laidTests := true, laidLooks := .later }
def JournalFreshCardSaid : Prop := Claim7.holds Tryd.pinned (.plain (OpenSpec.ofChange journalFreshSpec)) journalFreshCard

/-- THE SECOND FORM's CARD OF 'weftlaw12.JournalAll'. -/
def journalAllUptoCard : Claim7 := { stood := { row := journalAllUptoRow, standIns := [], harness := (true, "89503de58daab3470305af48d29231bddc053d1b36bcd80ca4c1285a0922d040"), looks := false }, kinds := [], alts := [], laidByText := true, laidKinds := [.data], laidTests := true, laidLooks := .later }
def JournalAllUptoCardSaid : Prop := Claim7.holds Tryd.pinned (.plain (OpenSpec.upto journalAllSpec)) journalAllUptoCard

/-- THE SECOND FORM's CARD OF 'weftlaw12.JournalTwo'. -/
def journalTwoUptoCard : Claim7 := { stood := { row := journalTwoUptoRow, standIns := [], harness := (true, "89503de58daab3470305af48d29231bddc053d1b36bcd80ca4c1285a0922d040"), looks := false }, kinds := [], alts := [], laidByText := true, laidKinds := [.data], laidTests := true, laidLooks := .later }
def JournalTwoUptoCardSaid : Prop := Claim7.holds Tryd.pinned (.plain (OpenSpec.upto journalTwoSpec)) journalTwoUptoCard

/-- THE SECOND FORM's CARD OF 'weftlaw12.JournalFresh'. -/
def journalFreshUptoCard : Claim7 := { stood := { row := journalFreshUptoRow, standIns := [], harness := (true, "89503de58daab3470305af48d29231bddc053d1b36bcd80ca4c1285a0922d040"), looks := false }, kinds := [], alts := [], laidByText := true, laidKinds := [.data], laidTests := true, laidLooks := .later }
def JournalFreshUptoCardSaid : Prop := Claim7.holds Tryd.pinned (.plain (OpenSpec.upto journalFreshSpec)) journalFreshUptoCard
end Rows
end Go.Proofs.YteoebmpfdcbbmacDoor
