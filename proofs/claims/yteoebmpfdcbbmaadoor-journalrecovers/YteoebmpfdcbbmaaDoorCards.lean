/-
  DERIVED. GIVEN WITH THE SEED: THE CARDS: each row of YteoebmpfdcbbmaaDoorRows.lean that lists a variable, with what it lists TIED to the program's text (the seventh form; the later family's looks); each row that meets fmt, with fmt's text TOLD by the authors' own Lean function (tested against real Go, not proved from fmt's source: count such statements apart). THE CARD IS WHAT COUNTS. Prove the row's statement (the work); the ties are given (YteoebmpfdcbbmaaDoorTie.lean); close each card by the builder's one call (the guide's Derived/Test/ToyasCard.lean, 'card_holds'). Laid BY PROGRAM, IN A SANDBOX (cutbox-door.mjs). By AI agents, Wed Nov 11 2026. No macro, syntax, notation, axiom, sorry.
-/
import Derived.Test.YteoebmpfdcbbmaaDoorRows
import GoSem.ClaimSeven
namespace Go.Proofs.YteoebmpfdcbbmaaDoor
namespace Rows

/-- THE TIED CARD OF 'weftlaw12.JournalOrdered'. -/
def journalOrderedCard : Claim7 := { stood := { row := journalOrderedRow, standIns := [], harness := (true, "65a847d75c681a033f9d8aea3166f827c030cfdb15cedbb5ddb86f7f98930cb2"), looks := false }, kinds := [], alts := [], laidByText := true, laidKinds := [.data], laidTests := true, laidLooks := .later }
def JournalOrderedCardSaid : Prop := Claim7.holds Tryd.pinned (.plain (OpenSpec.ofChange journalOrderedSpec)) journalOrderedCard

/-- THE TIED CARD OF 'weftlaw12.JournalFills'. -/
def journalFillsCard : Claim7 := { stood := { row := journalFillsRow, standIns := [], harness := (true, "65a847d75c681a033f9d8aea3166f827c030cfdb15cedbb5ddb86f7f98930cb2"), looks := false }, kinds := [], alts := [], laidByText := true, laidKinds := [.data], laidTests := true, laidLooks := .later }
def JournalFillsCardSaid : Prop := Claim7.holds Tryd.pinned (.plain (OpenSpec.ofChange journalFillsSpec)) journalFillsCard

/-- THE TIED CARD OF 'weftlaw12.JournalAtomic'. -/
def journalAtomicCard : Claim7 := { stood := { row := journalAtomicRow, standIns := [], harness := (true, "65a847d75c681a033f9d8aea3166f827c030cfdb15cedbb5ddb86f7f98930cb2"), looks := false }, kinds := [], alts := [], laidByText := true, laidKinds := [.data], laidTests := true, laidLooks := .later }
def JournalAtomicCardSaid : Prop := Claim7.holds Tryd.pinned (.plain (OpenSpec.ofChange journalAtomicSpec)) journalAtomicCard

/-- THE TIED CARD OF 'weftlaw12.JournalCut'. -/
def journalCutCard : Claim7 := { stood := { row := journalCutRow, standIns := [], harness := (true, "65a847d75c681a033f9d8aea3166f827c030cfdb15cedbb5ddb86f7f98930cb2"), looks := false }, kinds := [], alts := [], laidByText := true, laidKinds := [.data], laidTests := true, laidLooks := .later }
def JournalCutCardSaid : Prop := Claim7.holds Tryd.pinned (.plain (OpenSpec.ofChange journalCutSpec)) journalCutCard

/-- THE TIED CARD OF 'weftlaw12.JournalSerial'. -/
def journalSerialCard : Claim7 := { stood := { row := journalSerialRow, standIns := [], harness := (true, "65a847d75c681a033f9d8aea3166f827c030cfdb15cedbb5ddb86f7f98930cb2"), looks := false }, kinds := [], alts := [], laidByText := true, laidKinds := [.data], laidTests := true, laidLooks := .later }
def JournalSerialCardSaid : Prop := Claim7.holds Tryd.pinned (.plain (OpenSpec.ofChange journalSerialSpec)) journalSerialCard

/-- THE TIED CARD OF 'weftlaw12.JournalRecovers'. -/
def journalRecoversCard : Claim7 := { stood := { row := journalRecoversRow, standIns := [], harness := (true, "65a847d75c681a033f9d8aea3166f827c030cfdb15cedbb5ddb86f7f98930cb2"), looks := false }, kinds := [], alts := [], laidByText := true, laidKinds := [.data], laidTests := true, laidLooks := .later }
def JournalRecoversCardSaid : Prop := Claim7.holds Tryd.pinned (.plain (OpenSpec.ofChange journalRecoversSpec)) journalRecoversCard

/-- THE SECOND FORM's CARD OF 'weftlaw12.JournalOrdered'. -/
def journalOrderedUptoCard : Claim7 := { stood := { row := journalOrderedUptoRow, standIns := [], harness := (true, "65a847d75c681a033f9d8aea3166f827c030cfdb15cedbb5ddb86f7f98930cb2"), looks := false }, kinds := [], alts := [], laidByText := true, laidKinds := [.data], laidTests := true, laidLooks := .later }
def JournalOrderedUptoCardSaid : Prop := Claim7.holds Tryd.pinned (.plain (OpenSpec.upto journalOrderedSpec)) journalOrderedUptoCard

/-- THE SECOND FORM's CARD OF 'weftlaw12.JournalFills'. -/
def journalFillsUptoCard : Claim7 := { stood := { row := journalFillsUptoRow, standIns := [], harness := (true, "65a847d75c681a033f9d8aea3166f827c030cfdb15cedbb5ddb86f7f98930cb2"), looks := false }, kinds := [], alts := [], laidByText := true, laidKinds := [.data], laidTests := true, laidLooks := .later }
def JournalFillsUptoCardSaid : Prop := Claim7.holds Tryd.pinned (.plain (OpenSpec.upto journalFillsSpec)) journalFillsUptoCard

/-- THE SECOND FORM's CARD OF 'weftlaw12.JournalAtomic'. -/
def journalAtomicUptoCard : Claim7 := { stood := { row := journalAtomicUptoRow, standIns := [], harness := (true, "65a847d75c681a033f9d8aea3166f827c030cfdb15cedbb5ddb86f7f98930cb2"), looks := false }, kinds := [], alts := [], laidByText := true, laidKinds := [.data], laidTests := true, laidLooks := .later }
def JournalAtomicUptoCardSaid : Prop := Claim7.holds Tryd.pinned (.plain (OpenSpec.upto journalAtomicSpec)) journalAtomicUptoCard

/-- THE SECOND FORM's CARD OF 'weftlaw12.JournalCut'. -/
def journalCutUptoCard : Claim7 := { stood := { row := journalCutUptoRow, standIns := [], harness := (true, "65a847d75c681a033f9d8aea3166f827c030cfdb15cedbb5ddb86f7f98930cb2"), looks := false }, kinds := [], alts := [], laidByText := true, laidKinds := [.data], laidTests := true, laidLooks := .later }
def JournalCutUptoCardSaid : Prop := Claim7.holds Tryd.pinned (.plain (OpenSpec.upto journalCutSpec)) journalCutUptoCard

/-- THE SECOND FORM's CARD OF 'weftlaw12.JournalSerial'. -/
def journalSerialUptoCard : Claim7 := { stood := { row := journalSerialUptoRow, standIns := [], harness := (true, "65a847d75c681a033f9d8aea3166f827c030cfdb15cedbb5ddb86f7f98930cb2"), looks := false }, kinds := [], alts := [], laidByText := true, laidKinds := [.data], laidTests := true, laidLooks := .later }
def JournalSerialUptoCardSaid : Prop := Claim7.holds Tryd.pinned (.plain (OpenSpec.upto journalSerialSpec)) journalSerialUptoCard

/-- THE SECOND FORM's CARD OF 'weftlaw12.JournalRecovers'. -/
def journalRecoversUptoCard : Claim7 := { stood := { row := journalRecoversUptoRow, standIns := [], harness := (true, "65a847d75c681a033f9d8aea3166f827c030cfdb15cedbb5ddb86f7f98930cb2"), looks := false }, kinds := [], alts := [], laidByText := true, laidKinds := [.data], laidTests := true, laidLooks := .later }
def JournalRecoversUptoCardSaid : Prop := Claim7.holds Tryd.pinned (.plain (OpenSpec.upto journalRecoversSpec)) journalRecoversUptoCard
end Rows
end Go.Proofs.YteoebmpfdcbbmaaDoor
