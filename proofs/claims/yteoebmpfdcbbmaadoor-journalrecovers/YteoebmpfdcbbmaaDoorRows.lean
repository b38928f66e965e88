/-
  NARROWER THAN 'FOR EVERY INPUT', by the rows' own cells (each row's printed sentence says how): JournalOrdered: laid · JournalFills: laid · JournalAtomic: laid · JournalCut: laid · JournalSerial: laid · JournalRecovers: laid.
  DERIVED. THE GIVEN ROWS OF THIS SEAT. 6 by the template 'for every input the law returns true; each argument reads behind the call as it read before'; 0 by the template 'total and deterministic' (their statements: YteoebmpfdcbbmaaDoorTotals.lean).
  GIVEN WITH THE SEED: the statements are not yours to turn. If you find one false, say at which input.
  Laid BY PROGRAM, IN A SANDBOX (cutbox-rows.mjs): the forced cells as the released guide's own fill.sh prints them over the translation 20bbb53391e1ba57… (all of the seat's roots in one cut). By AI agents, Wed Nov 11 2026. No macro, syntax, notation, axiom, sorry.
-/
import Derived.Test.YteoebmpfdcbbmaaDoorChecked
import GoSem.Claim
import GoSem.ClaimJoined
import GoSem.ClaimMapViews
import Derived.JoinedTies
import Derived.KernelRfl
namespace Go.Proofs.YteoebmpfdcbbmaaDoor
/- THE CELL 'sum', in the pinned program and in every row, IS THE sha256 OF THE DUMP (.gsa) THAT YteoebmpfdcbbmaaDoorProg.lean LOADS. Nothing in Lean hashes anything: it is a label: what it is worth is what the hold of that sum in a sandbox is worth. -/
noncomputable def Tryd.pinned : Pinned := { name := "yteoebmpfdcbbmaadoor", sum := "20bbb53391e1ba57a5f221e2777e34f370ff26e91d95806d95954b4faed1f2cd", checked := Tryd.checked }
namespace Rows
def none {H : Type} : Left H := { results := [], args := [] }

/- WHAT THE LISTED PACKAGE-LEVEL VARIABLES READ AS WHEN THE CALL BEGINS. Each datum BY PROGRAM (the guide's laid-datum.mjs) off the statement by which the dump's own 'gosem.cut.vars' lays the variable. In a bare row this is a premise. The card (YteoebmpfdcbbmaaDoorCards.lean) ties it to the program's text. -/
def laid_weft_journal_nibbles {H : Type} : DataW H := .agg [.lit (.int .u32 0), .lit (.int .u32 498536548), .lit (.int .u32 997073096), .lit (.int .u32 651767980), .lit (.int .u32 1994146192), .lit (.int .u32 1802195444), .lit (.int .u32 1303535960), .lit (.int .u32 1342533948), .lit (.int .u32 3988292384), .lit (.int .u32 4027552580), .lit (.int .u32 3604390888), .lit (.int .u32 3412177804), .lit (.int .u32 2607071920), .lit (.int .u32 2262029012), .lit (.int .u32 2685067896), .lit (.int .u32 3183342108)]

/-- 'weftlaw12.JournalOrdered': WHATEVER THE INPUT: true; the input reads as it did. -/
def journalOrderedSpec : ChangeSpec := { name := "journalOrdered", fn := fun _ => fun
  | [d1, d2, d3] => { results := [.lit (.bool true)], args := [d1, d2, d3] }
  | _ => none }
def journalOrderedRow : OpenClaim := { program := "yteoebmpfdcbbmaadoor", sum := "20bbb53391e1ba57a5f221e2777e34f370ff26e91d95806d95954b4faed1f2cd", func := "weft/weftlaw12.JournalOrdered", spec := "journalOrdered", named := ["weft/journal.nibbles"], apart := false, laid := [("weft/journal.nibbles", laid_weft_journal_nibbles)] }
def JournalOrderedSaid : Prop := journalOrderedRow.holds Tryd.pinned (OpenSpec.ofChange journalOrderedSpec)

/-- ITS FALSE NEIGHBOUR: 'it returns false'. Refute it at one input. -/
def journalOrderedWrong : ChangeSpec := { name := "journalOrdered", fn := fun _ => fun
  | [d1, d2, d3] => { results := [.lit (.bool false)], args := [d1, d2, d3] }
  | _ => none }
def JournalOrderedWrongFalsely : Prop := journalOrderedRow.holds Tryd.pinned (OpenSpec.ofChange journalOrderedWrong)

/-- 'weftlaw12.JournalFills': WHATEVER THE INPUT: true; the input reads as it did. -/
def journalFillsSpec : ChangeSpec := { name := "journalFills", fn := fun _ => fun
  | [d] => { results := [.lit (.bool true)], args := [d] }
  | _ => none }
def journalFillsRow : OpenClaim := { program := "yteoebmpfdcbbmaadoor", sum := "20bbb53391e1ba57a5f221e2777e34f370ff26e91d95806d95954b4faed1f2cd", func := "weft/weftlaw12.JournalFills", spec := "journalFills", named := ["weft/journal.nibbles"], apart := false, laid := [("weft/journal.nibbles", laid_weft_journal_nibbles)] }
def JournalFillsSaid : Prop := journalFillsRow.holds Tryd.pinned (OpenSpec.ofChange journalFillsSpec)

/-- ITS FALSE NEIGHBOUR: 'it returns false'. Refute it at one input. -/
def journalFillsWrong : ChangeSpec := { name := "journalFills", fn := fun _ => fun
  | [d] => { results := [.lit (.bool false)], args := [d] }
  | _ => none }
def JournalFillsWrongFalsely : Prop := journalFillsRow.holds Tryd.pinned (OpenSpec.ofChange journalFillsWrong)

/-- 'weftlaw12.JournalAtomic': WHATEVER THE INPUT: true; the input reads as it did. -/
def journalAtomicSpec : ChangeSpec := { name := "journalAtomic", fn := fun _ => fun
  | [d1, d2, d3] => { results := [.lit (.bool true)], args := [d1, d2, d3] }
  | _ => none }
def journalAtomicRow : OpenClaim := { program := "yteoebmpfdcbbmaadoor", sum := "20bbb53391e1ba57a5f221e2777e34f370ff26e91d95806d95954b4faed1f2cd", func := "weft/weftlaw12.JournalAtomic", spec := "journalAtomic", named := ["weft/journal.nibbles"], apart := false, laid := [("weft/journal.nibbles", laid_weft_journal_nibbles)] }
def JournalAtomicSaid : Prop := journalAtomicRow.holds Tryd.pinned (OpenSpec.ofChange journalAtomicSpec)

/-- ITS FALSE NEIGHBOUR: 'it returns false'. Refute it at one input. -/
def journalAtomicWrong : ChangeSpec := { name := "journalAtomic", fn := fun _ => fun
  | [d1, d2, d3] => { results := [.lit (.bool false)], args := [d1, d2, d3] }
  | _ => none }
def JournalAtomicWrongFalsely : Prop := journalAtomicRow.holds Tryd.pinned (OpenSpec.ofChange journalAtomicWrong)

/-- 'weftlaw12.JournalCut': WHATEVER THE INPUT: true; the input reads as it did. -/
def journalCutSpec : ChangeSpec := { name := "journalCut", fn := fun _ => fun
  | [d1, d2, d3] => { results := [.lit (.bool true)], args := [d1, d2, d3] }
  | _ => none }
def journalCutRow : OpenClaim := { program := "yteoebmpfdcbbmaadoor", sum := "20bbb53391e1ba57a5f221e2777e34f370ff26e91d95806d95954b4faed1f2cd", func := "weft/weftlaw12.JournalCut", spec := "journalCut", named := ["weft/journal.nibbles"], apart := false, laid := [("weft/journal.nibbles", laid_weft_journal_nibbles)] }
def JournalCutSaid : Prop := journalCutRow.holds Tryd.pinned (OpenSpec.ofChange journalCutSpec)

/-- ITS FALSE NEIGHBOUR: 'it returns false'. Refute it at one input. -/
def journalCutWrong : ChangeSpec := { name := "journalCut", fn := fun _ => fun
  | [d1, d2, d3] => { results := [.lit (.bool false)], args := [d1, d2, d3] }
  | _ => none }
def JournalCutWrongFalsely : Prop := journalCutRow.holds Tryd.pinned (OpenSpec.ofChange journalCutWrong)

/-- 'weftlaw12.JournalSerial': WHATEVER THE INPUT: true; the input reads as it did. -/
def journalSerialSpec : ChangeSpec := { name := "journalSerial", fn := fun _ => fun
  | [d1, d2, d3] => { results := [.lit (.bool true)], args := [d1, d2, d3] }
  | _ => none }
def journalSerialRow : OpenClaim := { program := "yteoebmpfdcbbmaadoor", sum := "20bbb53391e1ba57a5f221e2777e34f370ff26e91d95806d95954b4faed1f2cd", func := "weft/weftlaw12.JournalSerial", spec := "journalSerial", named := ["weft/journal.nibbles"], apart := false, laid := [("weft/journal.nibbles", laid_weft_journal_nibbles)] }
def JournalSerialSaid : Prop := journalSerialRow.holds Tryd.pinned (OpenSpec.ofChange journalSerialSpec)

/-- ITS FALSE NEIGHBOUR: 'it returns false'. Refute it at one input. -/
def journalSerialWrong : ChangeSpec := { name := "journalSerial", fn := fun _ => fun
  | [d1, d2, d3] => { results := [.lit (.bool false)], args := [d1, d2, d3] }
  | _ => none }
def JournalSerialWrongFalsely : Prop := journalSerialRow.holds Tryd.pinned (OpenSpec.ofChange journalSerialWrong)

/-- 'weftlaw12.JournalRecovers': WHATEVER THE INPUT: true; the input reads as it did. -/
def journalRecoversSpec : ChangeSpec := { name := "journalRecovers", fn := fun _ => fun
  | [d] => { results := [.lit (.bool true)], args := [d] }
  | _ => none }
def journalRecoversRow : OpenClaim := { program := "yteoebmpfdcbbmaadoor", sum := "20bbb53391e1ba57a5f221e2777e34f370ff26e91d95806d95954b4faed1f2cd", func := "weft/weftlaw12.JournalRecovers", spec := "journalRecovers", named := ["weft/journal.nibbles"], apart := false, laid := [("weft/journal.nibbles", laid_weft_journal_nibbles)] }
def JournalRecoversSaid : Prop := journalRecoversRow.holds Tryd.pinned (OpenSpec.ofChange journalRecoversSpec)

/-- ITS FALSE NEIGHBOUR: 'it returns false'. Refute it at one input. -/
def journalRecoversWrong : ChangeSpec := { name := "journalRecovers", fn := fun _ => fun
  | [d] => { results := [.lit (.bool false)], args := [d] }
  | _ => none }
def JournalRecoversWrongFalsely : Prop := journalRecoversRow.holds Tryd.pinned (OpenSpec.ofChange journalRecoversWrong)

/- THE SECOND FORM. 'bulk': how many values and letters a reading holds, each counted each time it is reached (what is shared counts as often as it is met; a slice's spare places count too). A statement '..UptoSaid' is the law's where the arguments, and the package variables that the reading takes, are together of bulk at most 1048576: NARROWER than '..Said'. Prove '..Said' where nothing that the law and all that it calls make is longer than what came in: it says more and counts as full. Else prove '..UptoSaid'. A law counts once. -/
mutual
def uptoBulk {H : Type} : DataW H → Nat
  | .lit (.string bytes) => bytes.length + 1
  | .lit _ => 1
  | .nil => 1
  | .ptr d => uptoBulk d + 1
  | .slice elems spare => uptoBulkAll elems + uptoBulkAll spare + 1
  | .agg parts => uptoBulkAll parts + 1
  | .iface _ d => uptoBulk d + 1
  | .map entries => uptoBulkEntries entries + 1
  | .held _ => 1
def uptoBulkAll {H : Type} : List (DataW H) → Nat
  | [] => 0
  | d :: r => uptoBulk d + uptoBulkAll r
def uptoBulkEntries {H : Type} : List (Lit × DataW H) → Nat
  | [] => 0
  | x :: r => uptoBulkEntry x + uptoBulkEntries r
def uptoBulkEntry {H : Type} : Lit × DataW H → Nat
  | (.string bytes, d) => bytes.length + uptoBulk d + 1
  | (_, d) => uptoBulk d + 1
 end
def uptoSmall : (H : Type) → List (DataW H) → Bool := fun _ ds => decide (uptoBulkAll ds ≤ 1048576)
def OpenSpec.upto (s : _root_.Go.ChangeSpec) : _root_.Go.OpenSpec := { _root_.Go.OpenSpec.ofChange s with cond := some uptoSmall }

/-- 'weftlaw12.JournalOrdered', WHERE WHAT IT READS IS OF BULK AT MOST 1048576: true; the input reads as it did. -/
def journalOrderedUptoRow : OpenClaim := { program := "yteoebmpfdcbbmaadoor", sum := "20bbb53391e1ba57a5f221e2777e34f370ff26e91d95806d95954b4faed1f2cd", func := "weft/weftlaw12.JournalOrdered", spec := "journalOrdered", named := ["weft/journal.nibbles"], apart := false, laid := [("weft/journal.nibbles", laid_weft_journal_nibbles)], narrowed := true }
def JournalOrderedUptoSaid : Prop := journalOrderedUptoRow.holds Tryd.pinned (OpenSpec.upto journalOrderedSpec)

/-- 'weftlaw12.JournalFills', WHERE WHAT IT READS IS OF BULK AT MOST 1048576: true; the input reads as it did. -/
def journalFillsUptoRow : OpenClaim := { program := "yteoebmpfdcbbmaadoor", sum := "20bbb53391e1ba57a5f221e2777e34f370ff26e91d95806d95954b4faed1f2cd", func := "weft/weftlaw12.JournalFills", spec := "journalFills", named := ["weft/journal.nibbles"], apart := false, laid := [("weft/journal.nibbles", laid_weft_journal_nibbles)], narrowed := true }
def JournalFillsUptoSaid : Prop := journalFillsUptoRow.holds Tryd.pinned (OpenSpec.upto journalFillsSpec)

/-- 'weftlaw12.JournalAtomic', WHERE WHAT IT READS IS OF BULK AT MOST 1048576: true; the input reads as it did. -/
def journalAtomicUptoRow : OpenClaim := { program := "yteoebmpfdcbbmaadoor", sum := "20bbb53391e1ba57a5f221e2777e34f370ff26e91d95806d95954b4faed1f2cd", func := "weft/weftlaw12.JournalAtomic", spec := "journalAtomic", named := ["weft/journal.nibbles"], apart := false, laid := [("weft/journal.nibbles", laid_weft_journal_nibbles)], narrowed := true }
def JournalAtomicUptoSaid : Prop := journalAtomicUptoRow.holds Tryd.pinned (OpenSpec.upto journalAtomicSpec)

/-- 'weftlaw12.JournalCut', WHERE WHAT IT READS IS OF BULK AT MOST 1048576: true; the input reads as it did. -/
def journalCutUptoRow : OpenClaim := { program := "yteoebmpfdcbbmaadoor", sum := "20bbb53391e1ba57a5f221e2777e34f370ff26e91d95806d95954b4faed1f2cd", func := "weft/weftlaw12.JournalCut", spec := "journalCut", named := ["weft/journal.nibbles"], apart := false, laid := [("weft/journal.nibbles", laid_weft_journal_nibbles)], narrowed := true }
def JournalCutUptoSaid : Prop := journalCutUptoRow.holds Tryd.pinned (OpenSpec.upto journalCutSpec)

/-- 'weftlaw12.JournalSerial', WHERE WHAT IT READS IS OF BULK AT MOST 1048576: true; the input reads as it did. -/
def journalSerialUptoRow : OpenClaim := { program := "yteoebmpfdcbbmaadoor", sum := "20bbb53391e1ba57a5f221e2777e34f370ff26e91d95806d95954b4faed1f2cd", func := "weft/weftlaw12.JournalSerial", spec := "journalSerial", named := ["weft/journal.nibbles"], apart := false, laid := [("weft/journal.nibbles", laid_weft_journal_nibbles)], narrowed := true }
def JournalSerialUptoSaid : Prop := journalSerialUptoRow.holds Tryd.pinned (OpenSpec.upto journalSerialSpec)

/-- 'weftlaw12.JournalRecovers', WHERE WHAT IT READS IS OF BULK AT MOST 1048576: true; the input reads as it did. -/
def journalRecoversUptoRow : OpenClaim := { program := "yteoebmpfdcbbmaadoor", sum := "20bbb53391e1ba57a5f221e2777e34f370ff26e91d95806d95954b4faed1f2cd", func := "weft/weftlaw12.JournalRecovers", spec := "journalRecovers", named := ["weft/journal.nibbles"], apart := false, laid := [("weft/journal.nibbles", laid_weft_journal_nibbles)], narrowed := true }
def JournalRecoversUptoSaid : Prop := journalRecoversUptoRow.holds Tryd.pinned (OpenSpec.upto journalRecoversSpec)

end Rows
end Go.Proofs.YteoebmpfdcbbmaaDoor
