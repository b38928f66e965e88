/-
  NARROWER THAN 'FOR EVERY INPUT', by the rows' own cells (each row's printed sentence says how): IcmpParses: laid · IcmpBuilds: laid · IcmpFaults: laid · IcmpEchoes: laid · IcmpAbouts: laid · IcmpAll: laid.
  DERIVED. THE GIVEN ROWS OF THIS SEAT. 6 by the template 'for every input the law returns true; each argument reads behind the call as it read before'; 0 by the template 'total and deterministic' (their statements: YtcboenmmkaochabDoorTotals.lean).
  GIVEN WITH THE SEED: the statements are not yours to turn. If you find one false, say at which input.
  Laid BY PROGRAM, IN A SANDBOX (cutbox-rows.mjs): the forced cells as the released guide's own fill.sh prints them over the translation 2e77888475b6d12f… (all of the seat's roots in one cut). By AI agents, Wed Nov 11 2026. No macro, syntax, notation, axiom, sorry.
-/
import Derived.Test.YtcboenmmkaochabDoorChecked
import GoSem.Claim
import GoSem.ClaimJoined
import GoSem.ClaimMapViews
import Derived.JoinedTies
import Derived.KernelRfl
namespace Go.Proofs.YtcboenmmkaochabDoor
/- THE CELL 'sum', in the pinned program and in every row, IS THE sha256 OF THE DUMP (.gsa) THAT YtcboenmmkaochabDoorProg.lean LOADS. Nothing in Lean hashes anything: it is a label: what it is worth is what the hold of that sum in a sandbox is worth. -/
noncomputable def Tryd.pinned : Pinned := { name := "ytcboenmmkaochabdoor", sum := "2e77888475b6d12f7bd2ca250f6ef35053862675088d81098655a20b05c6c18c", checked := Tryd.checked }
namespace Rows
def none {H : Type} : Left H := { results := [], args := [] }

/- WHAT THE LISTED PACKAGE-LEVEL VARIABLES READ AS WHEN THE CALL BEGINS. Each datum BY PROGRAM (the guide's laid-datum.mjs) off the statement by which the dump's own 'gosem.cut.vars' lays the variable. In a bare row this is a premise. The card (YtcboenmmkaochabDoorCards.lean) ties it to the program's text. -/
def laid_weft_addr_classRows {H : Type} : DataW H := .agg [.agg [.lit (.int .u32 0), .lit (.int .i64 8), .lit (.int .i64 1)], .agg [.lit (.int .u32 2130706432), .lit (.int .i64 8), .lit (.int .i64 2)], .agg [.lit (.int .u32 3758096384), .lit (.int .i64 4), .lit (.int .i64 3)], .agg [.lit (.int .u32 4026531840), .lit (.int .i64 4), .lit (.int .i64 4)]]
def laid_weft_icmp_kinds {H : Type} : DataW H := .agg [.agg [.lit (.bool false), .lit (.int .u8 0)], .agg [.lit (.bool false), .lit (.int .u8 0)], .agg [.lit (.bool false), .lit (.int .u8 0)], .agg [.lit (.bool true), .lit (.int .u8 16)], .agg [.lit (.bool true), .lit (.int .u8 0)], .agg [.lit (.bool true), .lit (.int .u8 0)], .agg [.lit (.bool false), .lit (.int .u8 0)], .agg [.lit (.bool false), .lit (.int .u8 0)], .agg [.lit (.bool false), .lit (.int .u8 0)], .agg [.lit (.bool false), .lit (.int .u8 0)], .agg [.lit (.bool false), .lit (.int .u8 0)], .agg [.lit (.bool true), .lit (.int .u8 2)], .agg [.lit (.bool true), .lit (.int .u8 3)]]

/-- 'weftlaw6.IcmpParses': WHATEVER THE INPUT: true; the input reads as it did. -/
def icmpParsesSpec : ChangeSpec := { name := "icmpParses", fn := fun _ => fun
  | [d] => { results := [.lit (.bool true)], args := [d] }
  | _ => none }
def icmpParsesRow : OpenClaim := { program := "ytcboenmmkaochabdoor", sum := "2e77888475b6d12f7bd2ca250f6ef35053862675088d81098655a20b05c6c18c", func := "weft/weftlaw6.IcmpParses", spec := "icmpParses", unfollowed := true, recurses := true, named := ["weft/icmp.kinds", "weft/addr.classRows"], apart := false, laid := [("weft/addr.classRows", laid_weft_addr_classRows), ("weft/icmp.kinds", laid_weft_icmp_kinds)] }
def IcmpParsesSaid : Prop := icmpParsesRow.holds Tryd.pinned (OpenSpec.ofChange icmpParsesSpec)

/-- ITS FALSE NEIGHBOUR: 'it returns false'. Refute it at one input. -/
def icmpParsesWrong : ChangeSpec := { name := "icmpParses", fn := fun _ => fun
  | [d] => { results := [.lit (.bool false)], args := [d] }
  | _ => none }
def IcmpParsesWrongFalsely : Prop := icmpParsesRow.holds Tryd.pinned (OpenSpec.ofChange icmpParsesWrong)

/-- 'weftlaw6.IcmpBuilds': WHATEVER THE INPUT: true; the input reads as it did. -/
def icmpBuildsSpec : ChangeSpec := { name := "icmpBuilds", fn := fun _ => fun
  | [d] => { results := [.lit (.bool true)], args := [d] }
  | _ => none }
def icmpBuildsRow : OpenClaim := { program := "ytcboenmmkaochabdoor", sum := "2e77888475b6d12f7bd2ca250f6ef35053862675088d81098655a20b05c6c18c", func := "weft/weftlaw6.IcmpBuilds", spec := "icmpBuilds", unfollowed := true, recurses := true, named := ["weft/icmp.kinds", "weft/addr.classRows"], apart := false, laid := [("weft/addr.classRows", laid_weft_addr_classRows), ("weft/icmp.kinds", laid_weft_icmp_kinds)] }
def IcmpBuildsSaid : Prop := icmpBuildsRow.holds Tryd.pinned (OpenSpec.ofChange icmpBuildsSpec)

/-- ITS FALSE NEIGHBOUR: 'it returns false'. Refute it at one input. -/
def icmpBuildsWrong : ChangeSpec := { name := "icmpBuilds", fn := fun _ => fun
  | [d] => { results := [.lit (.bool false)], args := [d] }
  | _ => none }
def IcmpBuildsWrongFalsely : Prop := icmpBuildsRow.holds Tryd.pinned (OpenSpec.ofChange icmpBuildsWrong)

/-- 'weftlaw6.IcmpFaults': WHATEVER THE INPUT: true; the input reads as it did. -/
def icmpFaultsSpec : ChangeSpec := { name := "icmpFaults", fn := fun _ => fun
  | [d] => { results := [.lit (.bool true)], args := [d] }
  | _ => none }
def icmpFaultsRow : OpenClaim := { program := "ytcboenmmkaochabdoor", sum := "2e77888475b6d12f7bd2ca250f6ef35053862675088d81098655a20b05c6c18c", func := "weft/weftlaw6.IcmpFaults", spec := "icmpFaults", unfollowed := true, recurses := true, named := ["weft/icmp.kinds", "weft/addr.classRows"], apart := false, laid := [("weft/addr.classRows", laid_weft_addr_classRows), ("weft/icmp.kinds", laid_weft_icmp_kinds)] }
def IcmpFaultsSaid : Prop := icmpFaultsRow.holds Tryd.pinned (OpenSpec.ofChange icmpFaultsSpec)

/-- ITS FALSE NEIGHBOUR: 'it returns false'. Refute it at one input. -/
def icmpFaultsWrong : ChangeSpec := { name := "icmpFaults", fn := fun _ => fun
  | [d] => { results := [.lit (.bool false)], args := [d] }
  | _ => none }
def IcmpFaultsWrongFalsely : Prop := icmpFaultsRow.holds Tryd.pinned (OpenSpec.ofChange icmpFaultsWrong)

/-- 'weftlaw6.IcmpEchoes': WHATEVER THE INPUT: true; the input reads as it did. -/
def icmpEchoesSpec : ChangeSpec := { name := "icmpEchoes", fn := fun _ => fun
  | [d] => { results := [.lit (.bool true)], args := [d] }
  | _ => none }
def icmpEchoesRow : OpenClaim := { program := "ytcboenmmkaochabdoor", sum := "2e77888475b6d12f7bd2ca250f6ef35053862675088d81098655a20b05c6c18c", func := "weft/weftlaw6.IcmpEchoes", spec := "icmpEchoes", unfollowed := true, recurses := true, named := ["weft/icmp.kinds", "weft/addr.classRows"], apart := false, laid := [("weft/addr.classRows", laid_weft_addr_classRows), ("weft/icmp.kinds", laid_weft_icmp_kinds)] }
def IcmpEchoesSaid : Prop := icmpEchoesRow.holds Tryd.pinned (OpenSpec.ofChange icmpEchoesSpec)

/-- ITS FALSE NEIGHBOUR: 'it returns false'. Refute it at one input. -/
def icmpEchoesWrong : ChangeSpec := { name := "icmpEchoes", fn := fun _ => fun
  | [d] => { results := [.lit (.bool false)], args := [d] }
  | _ => none }
def IcmpEchoesWrongFalsely : Prop := icmpEchoesRow.holds Tryd.pinned (OpenSpec.ofChange icmpEchoesWrong)

/-- 'weftlaw6.IcmpAbouts': WHATEVER THE INPUT: true; the input reads as it did. -/
def icmpAboutsSpec : ChangeSpec := { name := "icmpAbouts", fn := fun _ => fun
  | [d] => { results := [.lit (.bool true)], args := [d] }
  | _ => none }
def icmpAboutsRow : OpenClaim := { program := "ytcboenmmkaochabdoor", sum := "2e77888475b6d12f7bd2ca250f6ef35053862675088d81098655a20b05c6c18c", func := "weft/weftlaw6.IcmpAbouts", spec := "icmpAbouts", unfollowed := true, recurses := true, named := ["weft/icmp.kinds", "weft/addr.classRows"], apart := false, laid := [("weft/addr.classRows", laid_weft_addr_classRows), ("weft/icmp.kinds", laid_weft_icmp_kinds)] }
def IcmpAboutsSaid : Prop := icmpAboutsRow.holds Tryd.pinned (OpenSpec.ofChange icmpAboutsSpec)

/-- ITS FALSE NEIGHBOUR: 'it returns false'. Refute it at one input. -/
def icmpAboutsWrong : ChangeSpec := { name := "icmpAbouts", fn := fun _ => fun
  | [d] => { results := [.lit (.bool false)], args := [d] }
  | _ => none }
def IcmpAboutsWrongFalsely : Prop := icmpAboutsRow.holds Tryd.pinned (OpenSpec.ofChange icmpAboutsWrong)

/-- 'weftlaw6.IcmpAll': WHATEVER THE INPUT: true; the input reads as it did. -/
def icmpAllSpec : ChangeSpec := { name := "icmpAll", fn := fun _ => fun
  | [d] => { results := [.lit (.bool true)], args := [d] }
  | _ => none }
def icmpAllRow : OpenClaim := { program := "ytcboenmmkaochabdoor", sum := "2e77888475b6d12f7bd2ca250f6ef35053862675088d81098655a20b05c6c18c", func := "weft/weftlaw6.IcmpAll", spec := "icmpAll", unfollowed := true, recurses := true, named := ["weft/icmp.kinds", "weft/addr.classRows"], apart := false, laid := [("weft/addr.classRows", laid_weft_addr_classRows), ("weft/icmp.kinds", laid_weft_icmp_kinds)] }
def IcmpAllSaid : Prop := icmpAllRow.holds Tryd.pinned (OpenSpec.ofChange icmpAllSpec)

/-- ITS FALSE NEIGHBOUR: 'it returns false'. Refute it at one input. -/
def icmpAllWrong : ChangeSpec := { name := "icmpAll", fn := fun _ => fun
  | [d] => { results := [.lit (.bool false)], args := [d] }
  | _ => none }
def IcmpAllWrongFalsely : Prop := icmpAllRow.holds Tryd.pinned (OpenSpec.ofChange icmpAllWrong)

/- THE SECOND FORM. 'bulk': how many values and letters a reading holds, each counted each time it is reached (what is shared counts as often as it is met; a slice's spare places count too). A statement '..UptoSaid' is the law's where the arguments, and the package variables that the reading takes, are together of bulk at most 1048576: NARROWER than '..Said'. Prove '..Said' where nothing that the law and all that it calls make is longer than what came in: it says more and counts as full. Else prove '..UptoSaid'. A law counts once. -/
mutual
def uptoBulk {H : Type} : DataW H → Nat
  | .lit (.string bytes) => bytes.length + 1
  | .lit _ => 1
  | .nil => 1
  | .ptr d => uptoBulk d + 1
  | .slice elems spare => uptoBulkAll elems + uptoBulkAll spare + 1
  | .agg parts => uptoBulkAll parts + 1
  | .iface _ d => uptoBulk d + 1
  | .map entries => uptoBulkEntries entries + 1
  | .held _ => 1
def uptoBulkAll {H : Type} : List (DataW H) → Nat
  | [] => 0
  | d :: r => uptoBulk d + uptoBulkAll r
def uptoBulkEntries {H : Type} : List (Lit × DataW H) → Nat
  | [] => 0
  | x :: r => uptoBulkEntry x + uptoBulkEntries r
def uptoBulkEntry {H : Type} : Lit × DataW H → Nat
  | (.string bytes, d) => bytes.length + uptoBulk d + 1
  | (_, d) => uptoBulk d + 1
 end
def uptoSmall : (H : Type) → List (DataW H) → Bool := fun _ ds => decide (uptoBulkAll ds ≤ 1048576)
def OpenSpec.upto (s : _root_.Go.ChangeSpec) : _root_.Go.OpenSpec := { _root_.Go.OpenSpec.ofChange s with cond := some uptoSmall }

/-- 'weftlaw6.IcmpParses', WHERE WHAT IT READS IS OF BULK AT MOST 1048576: true; the input reads as it did. -/
def icmpParsesUptoRow : OpenClaim := { program := "ytcboenmmkaochabdoor", sum := "2e77888475b6d12f7bd2ca250f6ef35053862675088d81098655a20b05c6c18c", func := "weft/weftlaw6.IcmpParses", spec := "icmpParses", unfollowed := true, recurses := true, named := ["weft/icmp.kinds", "weft/addr.classRows"], apart := false, laid := [("weft/addr.classRows", laid_weft_addr_classRows), ("weft/icmp.kinds", laid_weft_icmp_kinds)], narrowed := true }
def IcmpParsesUptoSaid : Prop := icmpParsesUptoRow.holds Tryd.pinned (OpenSpec.upto icmpParsesSpec)

/-- 'weftlaw6.IcmpBuilds', WHERE WHAT IT READS IS OF BULK AT MOST 1048576: true; the input reads as it did. -/
def icmpBuildsUptoRow : OpenClaim := { program := "ytcboenmmkaochabdoor", sum := "2e77888475b6d12f7bd2ca250f6ef35053862675088d81098655a20b05c6c18c", func := "weft/weftlaw6.IcmpBuilds", spec := "icmpBuilds", unfollowed := true, recurses := true, named := ["weft/icmp.kinds", "weft/addr.classRows"], apart := false, laid := [("weft/addr.classRows", laid_weft_addr_classRows), ("weft/icmp.kinds", laid_weft_icmp_kinds)], narrowed := true }
def IcmpBuildsUptoSaid : Prop := icmpBuildsUptoRow.holds Tryd.pinned (OpenSpec.upto icmpBuildsSpec)

/-- 'weftlaw6.IcmpFaults', WHERE WHAT IT READS IS OF BULK AT MOST 1048576: true; the input reads as it did. -/
def icmpFaultsUptoRow : OpenClaim := { program := "ytcboenmmkaochabdoor", sum := "2e77888475b6d12f7bd2ca250f6ef35053862675088d81098655a20b05c6c18c", func := "weft/weftlaw6.IcmpFaults", spec := "icmpFaults", unfollowed := true, recurses := true, named := ["weft/icmp.kinds", "weft/addr.classRows"], apart := false, laid := [("weft/addr.classRows", laid_weft_addr_classRows), ("weft/icmp.kinds", laid_weft_icmp_kinds)], narrowed := true }
def IcmpFaultsUptoSaid : Prop := icmpFaultsUptoRow.holds Tryd.pinned (OpenSpec.upto icmpFaultsSpec)

/-- 'weftlaw6.IcmpEchoes', WHERE WHAT IT READS IS OF BULK AT MOST 1048576: true; the input reads as it did. -/
def icmpEchoesUptoRow : OpenClaim := { program := "ytcboenmmkaochabdoor", sum := "2e77888475b6d12f7bd2ca250f6ef35053862675088d81098655a20b05c6c18c", func := "weft/weftlaw6.IcmpEchoes", spec := "icmpEchoes", unfollowed := true, recurses := true, named := ["weft/icmp.kinds", "weft/addr.classRows"], apart := false, laid := [("weft/addr.classRows", laid_weft_addr_classRows), ("weft/icmp.kinds", laid_weft_icmp_kinds)], narrowed := true }
def IcmpEchoesUptoSaid : Prop := icmpEchoesUptoRow.holds Tryd.pinned (OpenSpec.upto icmpEchoesSpec)

/-- 'weftlaw6.IcmpAbouts', WHERE WHAT IT READS IS OF BULK AT MOST 1048576: true; the input reads as it did. -/
def icmpAboutsUptoRow : OpenClaim := { program := "ytcboenmmkaochabdoor", sum := "2e77888475b6d12f7bd2ca250f6ef35053862675088d81098655a20b05c6c18c", func := "weft/weftlaw6.IcmpAbouts", spec := "icmpAbouts", unfollowed := true, recurses := true, named := ["weft/icmp.kinds", "weft/addr.classRows"], apart := false, laid := [("weft/addr.classRows", laid_weft_addr_classRows), ("weft/icmp.kinds", laid_weft_icmp_kinds)], narrowed := true }
def IcmpAboutsUptoSaid : Prop := icmpAboutsUptoRow.holds Tryd.pinned (OpenSpec.upto icmpAboutsSpec)

/-- 'weftlaw6.IcmpAll', WHERE WHAT IT READS IS OF BULK AT MOST 1048576: true; the input reads as it did. -/
def icmpAllUptoRow : OpenClaim := { program := "ytcboenmmkaochabdoor", sum := "2e77888475b6d12f7bd2ca250f6ef35053862675088d81098655a20b05c6c18c", func := "weft/weftlaw6.IcmpAll", spec := "icmpAll", unfollowed := true, recurses := true, named := ["weft/icmp.kinds", "weft/addr.classRows"], apart := false, laid := [("weft/addr.classRows", laid_weft_addr_classRows), ("weft/icmp.kinds", laid_weft_icmp_kinds)], narrowed := true }
def IcmpAllUptoSaid : Prop := icmpAllUptoRow.holds Tryd.pinned (OpenSpec.upto icmpAllSpec)

end Rows
end Go.Proofs.YtcboenmmkaochabDoor
