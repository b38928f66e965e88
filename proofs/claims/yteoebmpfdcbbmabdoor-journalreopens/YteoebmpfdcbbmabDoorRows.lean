/-
  NARROWER THAN 'FOR EVERY INPUT', by the rows' own cells (each row's printed sentence says how): JournalDamage: laid · JournalOpens: laid · JournalWrites: laid · JournalNumbers: laid · JournalCrashes: laid · JournalReopens: laid.
  DERIVED. THE GIVEN ROWS OF THIS SEAT. 6 by the template 'for every input the law returns true; each argument reads behind the call as it read before'; 0 by the template 'total and deterministic' (their statements: YteoebmpfdcbbmabDoorTotals.lean).
  GIVEN WITH THE SEED: the statements are not yours to turn. If you find one false, say at which input.
  Laid BY PROGRAM, IN A SANDBOX (cutbox-rows.mjs): the forced cells as the released guide's own fill.sh prints them over the translation 2503c4f2dc9d826e… (all of the seat's roots in one cut). By AI agents, Wed Nov 11 2026. No macro, syntax, notation, axiom, sorry.
-/
import Derived.Test.YteoebmpfdcbbmabDoorChecked
import GoSem.Claim
import GoSem.ClaimJoined
import GoSem.ClaimMapViews
import Derived.JoinedTies
import Derived.KernelRfl
namespace Go.Proofs.YteoebmpfdcbbmabDoor
/- THE CELL 'sum', in the pinned program and in every row, IS THE sha256 OF THE DUMP (.gsa) THAT YteoebmpfdcbbmabDoorProg.lean LOADS. Nothing in Lean hashes anything: it is a label: what it is worth is what the hold of that sum in a sandbox is worth. -/
noncomputable def Tryd.pinned : Pinned := { name := "yteoebmpfdcbbmabdoor", sum := "2503c4f2dc9d826e888622d80d94ed2f8ccdb1cf52113d5485e404aedee294a3", checked := Tryd.checked }
namespace Rows
def none {H : Type} : Left H := { results := [], args := [] }

/- WHAT THE LISTED PACKAGE-LEVEL VARIABLES READ AS WHEN THE CALL BEGINS. Each datum BY PROGRAM (the guide's laid-datum.mjs) off the statement by which the dump's own 'gosem.cut.vars' lays the variable. In a bare row this is a premise. The card (YteoebmpfdcbbmabDoorCards.lean) ties it to the program's text. -/
def laid_weft_journal_nibbles {H : Type} : DataW H := .agg [.lit (.int .u32 0), .lit (.int .u32 498536548), .lit (.int .u32 997073096), .lit (.int .u32 651767980), .lit (.int .u32 1994146192), .lit (.int .u32 1802195444), .lit (.int .u32 1303535960), .lit (.int .u32 1342533948), .lit (.int .u32 3988292384), .lit (.int .u32 4027552580), .lit (.int .u32 3604390888), .lit (.int .u32 3412177804), .lit (.int .u32 2607071920), .lit (.int .u32 2262029012), .lit (.int .u32 2685067896), .lit (.int .u32 3183342108)]

/-- 'weftlaw12.JournalDamage': WHATEVER THE INPUT: true; the input reads as it did. -/
def journalDamageSpec : ChangeSpec := { name := "journalDamage", fn := fun _ => fun
  | [d1, d2, d3, d4] => { results := [.lit (.bool true)], args := [d1, d2, d3, d4] }
  | _ => none }
def journalDamageRow : OpenClaim := { program := "yteoebmpfdcbbmabdoor", sum := "2503c4f2dc9d826e888622d80d94ed2f8ccdb1cf52113d5485e404aedee294a3", func := "weft/weftlaw12.JournalDamage", spec := "journalDamage", named := ["weft/journal.nibbles"], apart := false, laid := [("weft/journal.nibbles", laid_weft_journal_nibbles)] }
def JournalDamageSaid : Prop := journalDamageRow.holds Tryd.pinned (OpenSpec.ofChange journalDamageSpec)

/-- ITS FALSE NEIGHBOUR: 'it returns false'. Refute it at one input. -/
def journalDamageWrong : ChangeSpec := { name := "journalDamage", fn := fun _ => fun
  | [d1, d2, d3, d4] => { results := [.lit (.bool false)], args := [d1, d2, d3, d4] }
  | _ => none }
def JournalDamageWrongFalsely : Prop := journalDamageRow.holds Tryd.pinned (OpenSpec.ofChange journalDamageWrong)

/-- 'weftlaw12.JournalOpens': WHATEVER THE INPUT: true; the input reads as it did. -/
def journalOpensSpec : ChangeSpec := { name := "journalOpens", fn := fun _ => fun
  | [d] => { results := [.lit (.bool true)], args := [d] }
  | _ => none }
def journalOpensRow : OpenClaim := { program := "yteoebmpfdcbbmabdoor", sum := "2503c4f2dc9d826e888622d80d94ed2f8ccdb1cf52113d5485e404aedee294a3", func := "weft/weftlaw12.JournalOpens", spec := "journalOpens", named := ["weft/journal.nibbles"], apart := false, laid := [("weft/journal.nibbles", laid_weft_journal_nibbles)] }
def JournalOpensSaid : Prop := journalOpensRow.holds Tryd.pinned (OpenSpec.ofChange journalOpensSpec)

/-- ITS FALSE NEIGHBOUR: 'it returns false'. Refute it at one input. -/
def journalOpensWrong : ChangeSpec := { name := "journalOpens", fn := fun _ => fun
  | [d] => { results := [.lit (.bool false)], args := [d] }
  | _ => none }
def JournalOpensWrongFalsely : Prop := journalOpensRow.holds Tryd.pinned (OpenSpec.ofChange journalOpensWrong)

/-- 'weftlaw12.JournalWrites': WHATEVER THE INPUT: true; the input reads as it did. -/
def journalWritesSpec : ChangeSpec := { name := "journalWrites", fn := fun _ => fun
  | [d1, d2] => { results := [.lit (.bool true)], args := [d1, d2] }
  | _ => none }
def journalWritesRow : OpenClaim := { program := "yteoebmpfdcbbmabdoor", sum := "2503c4f2dc9d826e888622d80d94ed2f8ccdb1cf52113d5485e404aedee294a3", func := "weft/weftlaw12.JournalWrites", spec := "journalWrites", named := ["weft/journal.nibbles"], apart := false, laid := [("weft/journal.nibbles", laid_weft_journal_nibbles)] }
def JournalWritesSaid : Prop := journalWritesRow.holds Tryd.pinned (OpenSpec.ofChange journalWritesSpec)

/-- ITS FALSE NEIGHBOUR: 'it returns false'. Refute it at one input. -/
def journalWritesWrong : ChangeSpec := { name := "journalWrites", fn := fun _ => fun
  | [d1, d2] => { results := [.lit (.bool false)], args := [d1, d2] }
  | _ => none }
def JournalWritesWrongFalsely : Prop := journalWritesRow.holds Tryd.pinned (OpenSpec.ofChange journalWritesWrong)

/-- 'weftlaw12.JournalNumbers': WHATEVER THE INPUT: true; the input reads as it did. -/
def journalNumbersSpec : ChangeSpec := { name := "journalNumbers", fn := fun _ => fun
  | [d1, d2] => { results := [.lit (.bool true)], args := [d1, d2] }
  | _ => none }
def journalNumbersRow : OpenClaim := { program := "yteoebmpfdcbbmabdoor", sum := "2503c4f2dc9d826e888622d80d94ed2f8ccdb1cf52113d5485e404aedee294a3", func := "weft/weftlaw12.JournalNumbers", spec := "journalNumbers", named := ["weft/journal.nibbles"], apart := false, laid := [("weft/journal.nibbles", laid_weft_journal_nibbles)] }
def JournalNumbersSaid : Prop := journalNumbersRow.holds Tryd.pinned (OpenSpec.ofChange journalNumbersSpec)

/-- ITS FALSE NEIGHBOUR: 'it returns false'. Refute it at one input. -/
def journalNumbersWrong : ChangeSpec := { name := "journalNumbers", fn := fun _ => fun
  | [d1, d2] => { results := [.lit (.bool false)], args := [d1, d2] }
  | _ => none }
def JournalNumbersWrongFalsely : Prop := journalNumbersRow.holds Tryd.pinned (OpenSpec.ofChange journalNumbersWrong)

/-- 'weftlaw12.JournalCrashes': WHATEVER THE INPUT: true; the input reads as it did. -/
def journalCrashesSpec : ChangeSpec := { name := "journalCrashes", fn := fun _ => fun
  | [d1, d2] => { results := [.lit (.bool true)], args := [d1, d2] }
  | _ => none }
def journalCrashesRow : OpenClaim := { program := "yteoebmpfdcbbmabdoor", sum := "2503c4f2dc9d826e888622d80d94ed2f8ccdb1cf52113d5485e404aedee294a3", func := "weft/weftlaw12.JournalCrashes", spec := "journalCrashes", named := ["weft/journal.nibbles"], apart := false, laid := [("weft/journal.nibbles", laid_weft_journal_nibbles)] }
def JournalCrashesSaid : Prop := journalCrashesRow.holds Tryd.pinned (OpenSpec.ofChange journalCrashesSpec)

/-- ITS FALSE NEIGHBOUR: 'it returns false'. Refute it at one input. -/
def journalCrashesWrong : ChangeSpec := { name := "journalCrashes", fn := fun _ => fun
  | [d1, d2] => { results := [.lit (.bool false)], args := [d1, d2] }
  | _ => none }
def JournalCrashesWrongFalsely : Prop := journalCrashesRow.holds Tryd.pinned (OpenSpec.ofChange journalCrashesWrong)

/-- 'weftlaw12.JournalReopens': WHATEVER THE INPUT: true; the input reads as it did. -/
def journalReopensSpec : ChangeSpec := { name := "journalReopens", fn := fun _ => fun
  | [d1, d2] => { results := [.lit (.bool true)], args := [d1, d2] }
  | _ => none }
def journalReopensRow : OpenClaim := { program := "yteoebmpfdcbbmabdoor", sum := "2503c4f2dc9d826e888622d80d94ed2f8ccdb1cf52113d5485e404aedee294a3", func := "weft/weftlaw12.JournalReopens", spec := "journalReopens", named := ["weft/journal.nibbles"], apart := false, laid := [("weft/journal.nibbles", laid_weft_journal_nibbles)] }
def JournalReopensSaid : Prop := journalReopensRow.holds Tryd.pinned (OpenSpec.ofChange journalReopensSpec)

/-- ITS FALSE NEIGHBOUR: 'it returns false'. Refute it at one input. -/
def journalReopensWrong : ChangeSpec := { name := "journalReopens", fn := fun _ => fun
  | [d1, d2] => { results := [.lit (.bool false)], args := [d1, d2] }
  | _ => none }
def JournalReopensWrongFalsely : Prop := journalReopensRow.holds Tryd.pinned (OpenSpec.ofChange journalReopensWrong)

/- THE SECOND FORM. 'bulk': how many values and letters a reading holds, each counted each time it is reached (what is shared counts as often as it is met; a slice's spare places count too). A statement '..UptoSaid' is the law's where the arguments, and the package variables that the reading takes, are together of bulk at most 1048576: NARROWER than '..Said'. Prove '..Said' where nothing that the law and all that it calls make is longer than what came in: it says more and counts as full. Else prove '..UptoSaid'. A law counts once. -/
mutual
def uptoBulk {H : Type} : DataW H → Nat
  | .lit (.string bytes) => bytes.length + 1
  | .lit _ => 1
  | .nil => 1
  | .ptr d => uptoBulk d + 1
  | .slice elems spare => uptoBulkAll elems + uptoBulkAll spare + 1
  | .agg parts => uptoBulkAll parts + 1
  | .iface _ d => uptoBulk d + 1
  | .map entries => uptoBulkEntries entries + 1
  | .held _ => 1
def uptoBulkAll {H : Type} : List (DataW H) → Nat
  | [] => 0
  | d :: r => uptoBulk d + uptoBulkAll r
def uptoBulkEntries {H : Type} : List (Lit × DataW H) → Nat
  | [] => 0
  | x :: r => uptoBulkEntry x + uptoBulkEntries r
def uptoBulkEntry {H : Type} : Lit × DataW H → Nat
  | (.string bytes, d) => bytes.length + uptoBulk d + 1
  | (_, d) => uptoBulk d + 1
 end
def uptoSmall : (H : Type) → List (DataW H) → Bool := fun _ ds => decide (uptoBulkAll ds ≤ 1048576)
def OpenSpec.upto (s : _root_.Go.ChangeSpec) : _root_.Go.OpenSpec := { _root_.Go.OpenSpec.ofChange s with cond := some uptoSmall }

/-- 'weftlaw12.JournalDamage', WHERE WHAT IT READS IS OF BULK AT MOST 1048576: true; the input reads as it did. -/
def journalDamageUptoRow : OpenClaim := { program := "yteoebmpfdcbbmabdoor", sum := "2503c4f2dc9d826e888622d80d94ed2f8ccdb1cf52113d5485e404aedee294a3", func := "weft/weftlaw12.JournalDamage", spec := "journalDamage", named := ["weft/journal.nibbles"], apart := false, laid := [("weft/journal.nibbles", laid_weft_journal_nibbles)], narrowed := true }
def JournalDamageUptoSaid : Prop := journalDamageUptoRow.holds Tryd.pinned (OpenSpec.upto journalDamageSpec)

/-- 'weftlaw12.JournalOpens', WHERE WHAT IT READS IS OF BULK AT MOST 1048576: true; the input reads as it did. -/
def journalOpensUptoRow : OpenClaim := { program := "yteoebmpfdcbbmabdoor", sum := "2503c4f2dc9d826e888622d80d94ed2f8ccdb1cf52113d5485e404aedee294a3", func := "weft/weftlaw12.JournalOpens", spec := "journalOpens", named := ["weft/journal.nibbles"], apart := false, laid := [("weft/journal.nibbles", laid_weft_journal_nibbles)], narrowed := true }
def JournalOpensUptoSaid : Prop := journalOpensUptoRow.holds Tryd.pinned (OpenSpec.upto journalOpensSpec)

/-- 'weftlaw12.JournalWrites', WHERE WHAT IT READS IS OF BULK AT MOST 1048576: true; the input reads as it did. -/
def journalWritesUptoRow : OpenClaim := { program := "yteoebmpfdcbbmabdoor", sum := "2503c4f2dc9d826e888622d80d94ed2f8ccdb1cf52113d5485e404aedee294a3", func := "weft/weftlaw12.JournalWrites", spec := "journalWrites", named := ["weft/journal.nibbles"], apart := false, laid := [("weft/journal.nibbles", laid_weft_journal_nibbles)], narrowed := true }
def JournalWritesUptoSaid : Prop := journalWritesUptoRow.holds Tryd.pinned (OpenSpec.upto journalWritesSpec)

/-- 'weftlaw12.JournalNumbers', WHERE WHAT IT READS IS OF BULK AT MOST 1048576: true; the input reads as it did. -/
def journalNumbersUptoRow : OpenClaim := { program := "yteoebmpfdcbbmabdoor", sum := "2503c4f2dc9d826e888622d80d94ed2f8ccdb1cf52113d5485e404aedee294a3", func := "weft/weftlaw12.JournalNumbers", spec := "journalNumbers", named := ["weft/journal.nibbles"], apart := false, laid := [("weft/journal.nibbles", laid_weft_journal_nibbles)], narrowed := true }
def JournalNumbersUptoSaid : Prop := journalNumbersUptoRow.holds Tryd.pinned (OpenSpec.upto journalNumbersSpec)

/-- 'weftlaw12.JournalCrashes', WHERE WHAT IT READS IS OF BULK AT MOST 1048576: true; the input reads as it did. -/
def journalCrashesUptoRow : OpenClaim := { program := "yteoebmpfdcbbmabdoor", sum := "2503c4f2dc9d826e888622d80d94ed2f8ccdb1cf52113d5485e404aedee294a3", func := "weft/weftlaw12.JournalCrashes", spec := "journalCrashes", named := ["weft/journal.nibbles"], apart := false, laid := [("weft/journal.nibbles", laid_weft_journal_nibbles)], narrowed := true }
def JournalCrashesUptoSaid : Prop := journalCrashesUptoRow.holds Tryd.pinned (OpenSpec.upto journalCrashesSpec)

/-- 'weftlaw12.JournalReopens', WHERE WHAT IT READS IS OF BULK AT MOST 1048576: true; the input reads as it did. -/
def journalReopensUptoRow : OpenClaim := { program := "yteoebmpfdcbbmabdoor", sum := "2503c4f2dc9d826e888622d80d94ed2f8ccdb1cf52113d5485e404aedee294a3", func := "weft/weftlaw12.JournalReopens", spec := "journalReopens", named := ["weft/journal.nibbles"], apart := false, laid := [("weft/journal.nibbles", laid_weft_journal_nibbles)], narrowed := true }
def JournalReopensUptoSaid : Prop := journalReopensUptoRow.holds Tryd.pinned (OpenSpec.upto journalReopensSpec)

end Rows
end Go.Proofs.YteoebmpfdcbbmabDoor
