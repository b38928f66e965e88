/-
  NARROWER THAN 'FOR EVERY INPUT', by the rows' own cells (each row's printed sentence says how): ConfChecks: laid · ConfLimits: laid · ConfOnce: laid · ConfPrints: laid · ConfCuts: laid · ConfParses: laid.
  DERIVED. THE GIVEN ROWS OF THIS SEAT. 6 by the template 'for every input the law returns true; each argument reads behind the call as it read before'; 0 by the template 'total and deterministic' (their statements: YtkoinngpmkmocaaDoorTotals.lean).
  GIVEN WITH THE SEED: the statements are not yours to turn. If you find one false, say at which input.
  Laid BY PROGRAM, IN A SANDBOX (cutbox-rows.mjs): the forced cells as the released guide's own fill.sh prints them over the translation 350dc0f199a3b90a… (all of the seat's roots in one cut). By AI agents, Wed Nov 11 2026. No macro, syntax, notation, axiom, sorry.
-/
import Derived.Test.YtkoinngpmkmocaaDoorChecked
import GoSem.PinnedTables
import GoSem.Claim
import GoSem.ClaimJoined
import GoSem.ClaimMapViews
import Derived.JoinedTies
import Derived.KernelRfl
namespace Go.Proofs.YtkoinngpmkmocaaDoor
/- THE CELL 'sum', in the pinned program and in every row, IS THE sha256 OF THE DUMP (.gsa) THAT YtkoinngpmkmocaaDoorProg.lean LOADS. Nothing in Lean hashes anything: it is a label: what it is worth is what the hold of that sum in a sandbox is worth. -/
noncomputable def Tryd.pinned : Pinned := { name := "ytkoinngpmkmocaadoor", sum := "350dc0f199a3b90a8016f7b6fb84ee2a3bc3640a673a3fbc8a7dc43844bdc7e2", checked := Tryd.checked }
namespace Rows
def none {H : Type} : Left H := { results := [], args := [] }

/- WHAT THE LISTED PACKAGE-LEVEL VARIABLES READ AS WHEN THE CALL BEGINS. Each datum BY PROGRAM (the guide's laid-datum.mjs) off the statement by which the dump's own 'gosem.cut.vars' lays the variable. In a bare row this is a premise. The card (YtkoinngpmkmocaaDoorCards.lean) ties it to the program's text. -/
def laid_weft_addr_classRows {H : Type} : DataW H := .agg [.agg [.lit (.int .u32 0), .lit (.int .i64 8), .lit (.int .i64 1)], .agg [.lit (.int .u32 2130706432), .lit (.int .i64 8), .lit (.int .i64 2)], .agg [.lit (.int .u32 3758096384), .lit (.int .i64 4), .lit (.int .i64 3)], .agg [.lit (.int .u32 4026531840), .lit (.int .i64 4), .lit (.int .i64 4)]]
def laid_unicode_utf8_acceptRanges {H : Type} : DataW H := .agg [.agg [.lit (.int .u8 128), .lit (.int .u8 191)], .agg [.lit (.int .u8 160), .lit (.int .u8 191)], .agg [.lit (.int .u8 128), .lit (.int .u8 159)], .agg [.lit (.int .u8 144), .lit (.int .u8 191)], .agg [.lit (.int .u8 128), .lit (.int .u8 143)], .agg [.lit (.int .u8 0), .lit (.int .u8 0)], .agg [.lit (.int .u8 0), .lit (.int .u8 0)], .agg [.lit (.int .u8 0), .lit (.int .u8 0)], .agg [.lit (.int .u8 0), .lit (.int .u8 0)], .agg [.lit (.int .u8 0), .lit (.int .u8 0)], .agg [.lit (.int .u8 0), .lit (.int .u8 0)], .agg [.lit (.int .u8 0), .lit (.int .u8 0)], .agg [.lit (.int .u8 0), .lit (.int .u8 0)], .agg [.lit (.int .u8 0), .lit (.int .u8 0)], .agg [.lit (.int .u8 0), .lit (.int .u8 0)], .agg [.lit (.int .u8 0), .lit (.int .u8 0)]]
/-- One of Go's own tables, pinned by name: the form's constant. -/
def laid_unicode_utf8_first : DataW Unit := Go.Pinned.utf8First

/-- 'weftlaw2.ConfChecks': WHATEVER THE INPUT: true; the input reads as it did. -/
def confChecksSpec : ChangeSpec := { name := "confChecks", fn := fun _ => fun
  | [d] => { results := [.lit (.bool true)], args := [d] }
  | _ => none }
def confChecksRow : OpenClaim := { program := "ytkoinngpmkmocaadoor", sum := "350dc0f199a3b90a8016f7b6fb84ee2a3bc3640a673a3fbc8a7dc43844bdc7e2", func := "weft/weftlaw2.ConfChecks", spec := "confChecks", named := ["weft/addr.classRows"], apart := false, laid := [("weft/addr.classRows", laid_weft_addr_classRows)] }
def ConfChecksSaid : Prop := confChecksRow.holds Tryd.pinned (OpenSpec.ofChange confChecksSpec)

/-- ITS FALSE NEIGHBOUR: 'it returns false'. Refute it at one input. -/
def confChecksWrong : ChangeSpec := { name := "confChecks", fn := fun _ => fun
  | [d] => { results := [.lit (.bool false)], args := [d] }
  | _ => none }
def ConfChecksWrongFalsely : Prop := confChecksRow.holds Tryd.pinned (OpenSpec.ofChange confChecksWrong)

/-- 'weftlaw2.ConfLimits': WHATEVER THE INPUT: true; the input reads as it did. -/
def confLimitsSpec : ChangeSpec := { name := "confLimits", fn := fun _ => fun
  | [d1, d2, d3, d4] => { results := [.lit (.bool true)], args := [d1, d2, d3, d4] }
  | _ => none }
def confLimitsRow : OpenClaim := { program := "ytkoinngpmkmocaadoor", sum := "350dc0f199a3b90a8016f7b6fb84ee2a3bc3640a673a3fbc8a7dc43844bdc7e2", func := "weft/weftlaw2.ConfLimits", spec := "confLimits", inPlace := ["internal/abi.NoEscape"], unfollowed := true, recurses := true, named := ["unicode/utf8.first", "unicode/utf8.acceptRanges"], apart := false, laid := [("unicode/utf8.acceptRanges", laid_unicode_utf8_acceptRanges), ("unicode/utf8.first", laid_unicode_utf8_first)] }
def ConfLimitsSaid : Prop := confLimitsRow.holds Tryd.pinned (OpenSpec.ofChange confLimitsSpec)

/-- ITS FALSE NEIGHBOUR: 'it returns false'. Refute it at one input. -/
def confLimitsWrong : ChangeSpec := { name := "confLimits", fn := fun _ => fun
  | [d1, d2, d3, d4] => { results := [.lit (.bool false)], args := [d1, d2, d3, d4] }
  | _ => none }
def ConfLimitsWrongFalsely : Prop := confLimitsRow.holds Tryd.pinned (OpenSpec.ofChange confLimitsWrong)

/-- 'weftlaw2.ConfOnce': WHATEVER THE INPUT: true; the input reads as it did. -/
def confOnceSpec : ChangeSpec := { name := "confOnce", fn := fun _ => fun
  | [d1, d2, d3] => { results := [.lit (.bool true)], args := [d1, d2, d3] }
  | _ => none }
def confOnceRow : OpenClaim := { program := "ytkoinngpmkmocaadoor", sum := "350dc0f199a3b90a8016f7b6fb84ee2a3bc3640a673a3fbc8a7dc43844bdc7e2", func := "weft/weftlaw2.ConfOnce", spec := "confOnce", inPlace := ["internal/abi.NoEscape"], unfollowed := true, recurses := true, named := ["unicode/utf8.first", "unicode/utf8.acceptRanges"], apart := false, laid := [("unicode/utf8.acceptRanges", laid_unicode_utf8_acceptRanges), ("unicode/utf8.first", laid_unicode_utf8_first)] }
def ConfOnceSaid : Prop := confOnceRow.holds Tryd.pinned (OpenSpec.ofChange confOnceSpec)

/-- ITS FALSE NEIGHBOUR: 'it returns false'. Refute it at one input. -/
def confOnceWrong : ChangeSpec := { name := "confOnce", fn := fun _ => fun
  | [d1, d2, d3] => { results := [.lit (.bool false)], args := [d1, d2, d3] }
  | _ => none }
def ConfOnceWrongFalsely : Prop := confOnceRow.holds Tryd.pinned (OpenSpec.ofChange confOnceWrong)

/-- 'weftlaw2.ConfPrints': WHATEVER THE INPUT: true; the input reads as it did. -/
def confPrintsSpec : ChangeSpec := { name := "confPrints", fn := fun _ => fun
  | [d] => { results := [.lit (.bool true)], args := [d] }
  | _ => none }
def confPrintsRow : OpenClaim := { program := "ytkoinngpmkmocaadoor", sum := "350dc0f199a3b90a8016f7b6fb84ee2a3bc3640a673a3fbc8a7dc43844bdc7e2", func := "weft/weftlaw2.ConfPrints", spec := "confPrints", inPlace := ["internal/abi.NoEscape"], unfollowed := true, recurses := true, named := ["unicode/utf8.first", "unicode/utf8.acceptRanges"], apart := false, laid := [("unicode/utf8.acceptRanges", laid_unicode_utf8_acceptRanges), ("unicode/utf8.first", laid_unicode_utf8_first)] }
def ConfPrintsSaid : Prop := confPrintsRow.holds Tryd.pinned (OpenSpec.ofChange confPrintsSpec)

/-- ITS FALSE NEIGHBOUR: 'it returns false'. Refute it at one input. -/
def confPrintsWrong : ChangeSpec := { name := "confPrints", fn := fun _ => fun
  | [d] => { results := [.lit (.bool false)], args := [d] }
  | _ => none }
def ConfPrintsWrongFalsely : Prop := confPrintsRow.holds Tryd.pinned (OpenSpec.ofChange confPrintsWrong)

/-- 'weftlaw2.ConfCuts': WHATEVER THE INPUT: true; the input reads as it did. -/
def confCutsSpec : ChangeSpec := { name := "confCuts", fn := fun _ => fun
  | [d1, d2, d3, d4, d5] => { results := [.lit (.bool true)], args := [d1, d2, d3, d4, d5] }
  | _ => none }
def confCutsRow : OpenClaim := { program := "ytkoinngpmkmocaadoor", sum := "350dc0f199a3b90a8016f7b6fb84ee2a3bc3640a673a3fbc8a7dc43844bdc7e2", func := "weft/weftlaw2.ConfCuts", spec := "confCuts", inPlace := ["internal/abi.NoEscape"], unfollowed := true, recurses := true, named := ["unicode/utf8.first", "unicode/utf8.acceptRanges"], apart := false, laid := [("unicode/utf8.acceptRanges", laid_unicode_utf8_acceptRanges), ("unicode/utf8.first", laid_unicode_utf8_first)] }
def ConfCutsSaid : Prop := confCutsRow.holds Tryd.pinned (OpenSpec.ofChange confCutsSpec)

/-- ITS FALSE NEIGHBOUR: 'it returns false'. Refute it at one input. -/
def confCutsWrong : ChangeSpec := { name := "confCuts", fn := fun _ => fun
  | [d1, d2, d3, d4, d5] => { results := [.lit (.bool false)], args := [d1, d2, d3, d4, d5] }
  | _ => none }
def ConfCutsWrongFalsely : Prop := confCutsRow.holds Tryd.pinned (OpenSpec.ofChange confCutsWrong)

/-- 'weftlaw2.ConfParses': WHATEVER THE INPUT: true; the input reads as it did. -/
def confParsesSpec : ChangeSpec := { name := "confParses", fn := fun _ => fun
  | [d] => { results := [.lit (.bool true)], args := [d] }
  | _ => none }
def confParsesRow : OpenClaim := { program := "ytkoinngpmkmocaadoor", sum := "350dc0f199a3b90a8016f7b6fb84ee2a3bc3640a673a3fbc8a7dc43844bdc7e2", func := "weft/weftlaw2.ConfParses", spec := "confParses", inPlace := ["internal/abi.NoEscape"], unfollowed := true, recurses := true, named := ["unicode/utf8.first", "unicode/utf8.acceptRanges"], apart := false, laid := [("unicode/utf8.acceptRanges", laid_unicode_utf8_acceptRanges), ("unicode/utf8.first", laid_unicode_utf8_first)] }
def ConfParsesSaid : Prop := confParsesRow.holds Tryd.pinned (OpenSpec.ofChange confParsesSpec)

/-- ITS FALSE NEIGHBOUR: 'it returns false'. Refute it at one input. -/
def confParsesWrong : ChangeSpec := { name := "confParses", fn := fun _ => fun
  | [d] => { results := [.lit (.bool false)], args := [d] }
  | _ => none }
def ConfParsesWrongFalsely : Prop := confParsesRow.holds Tryd.pinned (OpenSpec.ofChange confParsesWrong)

/- THE SECOND FORM. 'bulk': how many values and letters a reading holds, each counted each time it is reached (what is shared counts as often as it is met; a slice's spare places count too). A statement '..UptoSaid' is the law's where the arguments, and the package variables that the reading takes, are together of bulk at most 1048576: NARROWER than '..Said'. Prove '..Said' where nothing that the law and all that it calls make is longer than what came in: it says more and counts as full. Else prove '..UptoSaid'. A law counts once. -/
mutual
def uptoBulk {H : Type} : DataW H → Nat
  | .lit (.string bytes) => bytes.length + 1
  | .lit _ => 1
  | .nil => 1
  | .ptr d => uptoBulk d + 1
  | .slice elems spare => uptoBulkAll elems + uptoBulkAll spare + 1
  | .agg parts => uptoBulkAll parts + 1
  | .iface _ d => uptoBulk d + 1
  | .map entries => uptoBulkEntries entries + 1
  | .held _ => 1
def uptoBulkAll {H : Type} : List (DataW H) → Nat
  | [] => 0
  | d :: r => uptoBulk d + uptoBulkAll r
def uptoBulkEntries {H : Type} : List (Lit × DataW H) → Nat
  | [] => 0
  | x :: r => uptoBulkEntry x + uptoBulkEntries r
def uptoBulkEntry {H : Type} : Lit × DataW H → Nat
  | (.string bytes, d) => bytes.length + uptoBulk d + 1
  | (_, d) => uptoBulk d + 1
 end
def uptoSmall : (H : Type) → List (DataW H) → Bool := fun _ ds => decide (uptoBulkAll ds ≤ 1048576)
def OpenSpec.upto (s : _root_.Go.ChangeSpec) : _root_.Go.OpenSpec := { _root_.Go.OpenSpec.ofChange s with cond := some uptoSmall }

/-- 'weftlaw2.ConfChecks', WHERE WHAT IT READS IS OF BULK AT MOST 1048576: true; the input reads as it did. -/
def confChecksUptoRow : OpenClaim := { program := "ytkoinngpmkmocaadoor", sum := "350dc0f199a3b90a8016f7b6fb84ee2a3bc3640a673a3fbc8a7dc43844bdc7e2", func := "weft/weftlaw2.ConfChecks", spec := "confChecks", named := ["weft/addr.classRows"], apart := false, laid := [("weft/addr.classRows", laid_weft_addr_classRows)], narrowed := true }
def ConfChecksUptoSaid : Prop := confChecksUptoRow.holds Tryd.pinned (OpenSpec.upto confChecksSpec)

/-- 'weftlaw2.ConfLimits', WHERE WHAT IT READS IS OF BULK AT MOST 1048576: true; the input reads as it did. -/
def confLimitsUptoRow : OpenClaim := { program := "ytkoinngpmkmocaadoor", sum := "350dc0f199a3b90a8016f7b6fb84ee2a3bc3640a673a3fbc8a7dc43844bdc7e2", func := "weft/weftlaw2.ConfLimits", spec := "confLimits", inPlace := ["internal/abi.NoEscape"], unfollowed := true, recurses := true, named := ["unicode/utf8.first", "unicode/utf8.acceptRanges"], apart := false, laid := [("unicode/utf8.acceptRanges", laid_unicode_utf8_acceptRanges), ("unicode/utf8.first", laid_unicode_utf8_first)], narrowed := true }
def ConfLimitsUptoSaid : Prop := confLimitsUptoRow.holds Tryd.pinned (OpenSpec.upto confLimitsSpec)

/-- 'weftlaw2.ConfOnce', WHERE WHAT IT READS IS OF BULK AT MOST 1048576: true; the input reads as it did. -/
def confOnceUptoRow : OpenClaim := { program := "ytkoinngpmkmocaadoor", sum := "350dc0f199a3b90a8016f7b6fb84ee2a3bc3640a673a3fbc8a7dc43844bdc7e2", func := "weft/weftlaw2.ConfOnce", spec := "confOnce", inPlace := ["internal/abi.NoEscape"], unfollowed := true, recurses := true, named := ["unicode/utf8.first", "unicode/utf8.acceptRanges"], apart := false, laid := [("unicode/utf8.acceptRanges", laid_unicode_utf8_acceptRanges), ("unicode/utf8.first", laid_unicode_utf8_first)], narrowed := true }
def ConfOnceUptoSaid : Prop := confOnceUptoRow.holds Tryd.pinned (OpenSpec.upto confOnceSpec)

/-- 'weftlaw2.ConfPrints', WHERE WHAT IT READS IS OF BULK AT MOST 1048576: true; the input reads as it did. -/
def confPrintsUptoRow : OpenClaim := { program := "ytkoinngpmkmocaadoor", sum := "350dc0f199a3b90a8016f7b6fb84ee2a3bc3640a673a3fbc8a7dc43844bdc7e2", func := "weft/weftlaw2.ConfPrints", spec := "confPrints", inPlace := ["internal/abi.NoEscape"], unfollowed := true, recurses := true, named := ["unicode/utf8.first", "unicode/utf8.acceptRanges"], apart := false, laid := [("unicode/utf8.acceptRanges", laid_unicode_utf8_acceptRanges), ("unicode/utf8.first", laid_unicode_utf8_first)], narrowed := true }
def ConfPrintsUptoSaid : Prop := confPrintsUptoRow.holds Tryd.pinned (OpenSpec.upto confPrintsSpec)

/-- 'weftlaw2.ConfCuts', WHERE WHAT IT READS IS OF BULK AT MOST 1048576: true; the input reads as it did. -/
def confCutsUptoRow : OpenClaim := { program := "ytkoinngpmkmocaadoor", sum := "350dc0f199a3b90a8016f7b6fb84ee2a3bc3640a673a3fbc8a7dc43844bdc7e2", func := "weft/weftlaw2.ConfCuts", spec := "confCuts", inPlace := ["internal/abi.NoEscape"], unfollowed := true, recurses := true, named := ["unicode/utf8.first", "unicode/utf8.acceptRanges"], apart := false, laid := [("unicode/utf8.acceptRanges", laid_unicode_utf8_acceptRanges), ("unicode/utf8.first", laid_unicode_utf8_first)], narrowed := true }
def ConfCutsUptoSaid : Prop := confCutsUptoRow.holds Tryd.pinned (OpenSpec.upto confCutsSpec)

/-- 'weftlaw2.ConfParses', WHERE WHAT IT READS IS OF BULK AT MOST 1048576: true; the input reads as it did. -/
def confParsesUptoRow : OpenClaim := { program := "ytkoinngpmkmocaadoor", sum := "350dc0f199a3b90a8016f7b6fb84ee2a3bc3640a673a3fbc8a7dc43844bdc7e2", func := "weft/weftlaw2.ConfParses", spec := "confParses", inPlace := ["internal/abi.NoEscape"], unfollowed := true, recurses := true, named := ["unicode/utf8.first", "unicode/utf8.acceptRanges"], apart := false, laid := [("unicode/utf8.acceptRanges", laid_unicode_utf8_acceptRanges), ("unicode/utf8.first", laid_unicode_utf8_first)], narrowed := true }
def ConfParsesUptoSaid : Prop := confParsesUptoRow.holds Tryd.pinned (OpenSpec.upto confParsesSpec)

end Rows
end Go.Proofs.YtkoinngpmkmocaaDoor
