/-
  NARROWER THAN 'FOR EVERY INPUT', by the rows' own cells (each row's printed sentence says how): FlowEnds: laid · FlowOnce: laid · FlowFresh: laid · FlowAbout: laid · FlowAll: laid.
  DERIVED. THE GIVEN ROWS OF THIS SEAT. 5 by the template 'for every input the law returns true; each argument reads behind the call as it read before'; 0 by the template 'total and deterministic' (their statements: YthmhiehglcfepaaGreatDoorTotals.lean).
  GIVEN WITH THE SEED: the statements are not yours to turn. If you find one false, say at which input.
  Laid BY PROGRAM, IN A SANDBOX (cutbox-rows.mjs): the forced cells as the released guide's own fill.sh prints them over the translation 3fdacc6bfb4a92b6… (all of the seat's roots in one cut). By AI agents, Wed Nov 11 2026. No macro, syntax, notation, axiom, sorry.
-/
import Derived.Test.YthmhiehglcfepaaGreatDoorChecked
import GoSem.Claim
import GoSem.ClaimJoined
import GoSem.ClaimMapViews
import Derived.JoinedTies
import Derived.KernelRfl
namespace Go.Proofs.YthmhiehglcfepaaGreatDoor
/- THE CELL 'sum', in the pinned program and in every row, IS THE sha256 OF THE DUMP (.gsa) THAT YthmhiehglcfepaaGreatDoorProg.lean LOADS. Nothing in Lean hashes anything: it is a label: what it is worth is what the hold of that sum in a sandbox is worth. -/
noncomputable def Tryz.pinned : Pinned := { name := "ythmhiehglcfepaagreatdoor", sum := "3fdacc6bfb4a92b668cee3bca69d1107dfba9879f93b6cfb01a4c748f591bb68", checked := Tryz.checked }
namespace Rows
def none {H : Type} : Left H := { results := [], args := [] }

/- WHAT THE LISTED PACKAGE-LEVEL VARIABLES READ AS WHEN THE CALL BEGINS. Each datum BY PROGRAM (the guide's laid-datum.mjs) off the statement by which the dump's own 'gosem.cut.vars' lays the variable. In a bare row this is a premise. The card (YthmhiehglcfepaaGreatDoorCards.lean) ties it to the program's text. -/
def laid_weft_icmp_kinds {H : Type} : DataW H := .agg [.agg [.lit (.bool false), .lit (.int .u8 0)], .agg [.lit (.bool false), .lit (.int .u8 0)], .agg [.lit (.bool false), .lit (.int .u8 0)], .agg [.lit (.bool true), .lit (.int .u8 16)], .agg [.lit (.bool true), .lit (.int .u8 0)], .agg [.lit (.bool true), .lit (.int .u8 0)], .agg [.lit (.bool false), .lit (.int .u8 0)], .agg [.lit (.bool false), .lit (.int .u8 0)], .agg [.lit (.bool false), .lit (.int .u8 0)], .agg [.lit (.bool false), .lit (.int .u8 0)], .agg [.lit (.bool false), .lit (.int .u8 0)], .agg [.lit (.bool true), .lit (.int .u8 2)], .agg [.lit (.bool true), .lit (.int .u8 3)]]
def laid_weft_flow_spans {H : Type} : DataW H := .agg [.lit (.int .i64 0), .lit (.int .i64 30), .lit (.int .i64 180), .lit (.int .i64 120), .lit (.int .i64 60), .lit (.int .i64 432000), .lit (.int .i64 120), .lit (.int .i64 60), .lit (.int .i64 10), .lit (.int .i64 120)]
def laid_weft_flow_turns {H : Type} : DataW H := .agg [.agg [.agg [.lit (.int .u8 0), .lit (.int .u8 0), .lit (.int .u8 0), .lit (.int .u8 0), .lit (.int .u8 0), .lit (.int .u8 0)], .agg [.lit (.int .u8 0), .lit (.int .u8 0), .lit (.int .u8 0), .lit (.int .u8 0), .lit (.int .u8 0), .lit (.int .u8 0)]], .agg [.agg [.lit (.int .u8 0), .lit (.int .u8 0), .lit (.int .u8 0), .lit (.int .u8 0), .lit (.int .u8 0), .lit (.int .u8 0)], .agg [.lit (.int .u8 0), .lit (.int .u8 0), .lit (.int .u8 0), .lit (.int .u8 0), .lit (.int .u8 0), .lit (.int .u8 0)]], .agg [.agg [.lit (.int .u8 0), .lit (.int .u8 0), .lit (.int .u8 0), .lit (.int .u8 0), .lit (.int .u8 0), .lit (.int .u8 0)], .agg [.lit (.int .u8 0), .lit (.int .u8 0), .lit (.int .u8 0), .lit (.int .u8 0), .lit (.int .u8 0), .lit (.int .u8 0)]], .agg [.agg [.lit (.int .u8 0), .lit (.int .u8 0), .lit (.int .u8 3), .lit (.int .u8 0), .lit (.int .u8 0), .lit (.int .u8 0)], .agg [.lit (.int .u8 0), .lit (.int .u8 0), .lit (.int .u8 0), .lit (.int .u8 4), .lit (.int .u8 0), .lit (.int .u8 0)]], .agg [.agg [.lit (.int .u8 0), .lit (.int .u8 0), .lit (.int .u8 0), .lit (.int .u8 0), .lit (.int .u8 6), .lit (.int .u8 5)], .agg [.lit (.int .u8 0), .lit (.int .u8 0), .lit (.int .u8 0), .lit (.int .u8 4), .lit (.int .u8 9), .lit (.int .u8 0)]], .agg [.agg [.lit (.int .u8 0), .lit (.int .u8 0), .lit (.int .u8 0), .lit (.int .u8 0), .lit (.int .u8 6), .lit (.int .u8 5)], .agg [.lit (.int .u8 0), .lit (.int .u8 0), .lit (.int .u8 0), .lit (.int .u8 0), .lit (.int .u8 9), .lit (.int .u8 5)]], .agg [.agg [.lit (.int .u8 0), .lit (.int .u8 0), .lit (.int .u8 0), .lit (.int .u8 0), .lit (.int .u8 6), .lit (.int .u8 6)], .agg [.lit (.int .u8 0), .lit (.int .u8 0), .lit (.int .u8 0), .lit (.int .u8 0), .lit (.int .u8 7), .lit (.int .u8 6)]], .agg [.agg [.lit (.int .u8 0), .lit (.int .u8 0), .lit (.int .u8 3), .lit (.int .u8 0), .lit (.int .u8 7), .lit (.int .u8 7)], .agg [.lit (.int .u8 0), .lit (.int .u8 0), .lit (.int .u8 0), .lit (.int .u8 0), .lit (.int .u8 7), .lit (.int .u8 7)]], .agg [.agg [.lit (.int .u8 0), .lit (.int .u8 0), .lit (.int .u8 3), .lit (.int .u8 0), .lit (.int .u8 0), .lit (.int .u8 0)], .agg [.lit (.int .u8 0), .lit (.int .u8 0), .lit (.int .u8 0), .lit (.int .u8 0), .lit (.int .u8 0), .lit (.int .u8 0)]], .agg [.agg [.lit (.int .u8 0), .lit (.int .u8 0), .lit (.int .u8 0), .lit (.int .u8 0), .lit (.int .u8 7), .lit (.int .u8 9)], .agg [.lit (.int .u8 0), .lit (.int .u8 0), .lit (.int .u8 0), .lit (.int .u8 0), .lit (.int .u8 9), .lit (.int .u8 9)]]]
def laid_weft_addr_classRows {H : Type} : DataW H := .agg [.agg [.lit (.int .u32 0), .lit (.int .i64 8), .lit (.int .i64 1)], .agg [.lit (.int .u32 2130706432), .lit (.int .i64 8), .lit (.int .i64 2)], .agg [.lit (.int .u32 3758096384), .lit (.int .i64 4), .lit (.int .i64 3)], .agg [.lit (.int .u32 4026531840), .lit (.int .i64 4), .lit (.int .i64 4)]]

/-- 'weftlaw21.FlowEnds': WHATEVER THE INPUT: true; the input reads as it did. -/
def flowEndsSpec : ChangeSpec := { name := "flowEnds", fn := fun _ => fun
  | [d1, d2, d3] => { results := [.lit (.bool true)], args := [d1, d2, d3] }
  | _ => none }
def flowEndsRow : OpenClaim := { program := "ythmhiehglcfepaagreatdoor", sum := "3fdacc6bfb4a92b668cee3bca69d1107dfba9879f93b6cfb01a4c748f591bb68", func := "weft/weftlaw21.FlowEnds", spec := "flowEnds", unfollowed := true, recurses := true, named := ["weft/flow.spans", "weft/flow.turns", "weft/icmp.kinds"], plainKeys := false, apart := false, laid := [("weft/icmp.kinds", laid_weft_icmp_kinds), ("weft/flow.spans", laid_weft_flow_spans), ("weft/flow.turns", laid_weft_flow_turns)] }
def FlowEndsSaid : Prop := flowEndsRow.holds Tryz.pinned (OpenSpec.ofChange flowEndsSpec)

/-- ITS FALSE NEIGHBOUR: 'it returns false'. Refute it at one input. -/
def flowEndsWrong : ChangeSpec := { name := "flowEnds", fn := fun _ => fun
  | [d1, d2, d3] => { results := [.lit (.bool false)], args := [d1, d2, d3] }
  | _ => none }
def FlowEndsWrongFalsely : Prop := flowEndsRow.holds Tryz.pinned (OpenSpec.ofChange flowEndsWrong)

/-- 'weftlaw21.FlowOnce': WHATEVER THE INPUT: true; the input reads as it did. -/
def flowOnceSpec : ChangeSpec := { name := "flowOnce", fn := fun _ => fun
  | [d1, d2] => { results := [.lit (.bool true)], args := [d1, d2] }
  | _ => none }
def flowOnceRow : OpenClaim := { program := "ythmhiehglcfepaagreatdoor", sum := "3fdacc6bfb4a92b668cee3bca69d1107dfba9879f93b6cfb01a4c748f591bb68", func := "weft/weftlaw21.FlowOnce", spec := "flowOnce", unfollowed := true, recurses := true, named := ["weft/flow.spans", "weft/flow.turns", "weft/icmp.kinds"], plainKeys := false, apart := false, laid := [("weft/icmp.kinds", laid_weft_icmp_kinds), ("weft/flow.spans", laid_weft_flow_spans), ("weft/flow.turns", laid_weft_flow_turns)] }
def FlowOnceSaid : Prop := flowOnceRow.holds Tryz.pinned (OpenSpec.ofChange flowOnceSpec)

/-- ITS FALSE NEIGHBOUR: 'it returns false'. Refute it at one input. -/
def flowOnceWrong : ChangeSpec := { name := "flowOnce", fn := fun _ => fun
  | [d1, d2] => { results := [.lit (.bool false)], args := [d1, d2] }
  | _ => none }
def FlowOnceWrongFalsely : Prop := flowOnceRow.holds Tryz.pinned (OpenSpec.ofChange flowOnceWrong)

/-- 'weftlaw21.FlowFresh': WHATEVER THE INPUT: true; the input reads as it did. -/
def flowFreshSpec : ChangeSpec := { name := "flowFresh", fn := fun _ => fun
  | [d1, d2] => { results := [.lit (.bool true)], args := [d1, d2] }
  | _ => none }
def flowFreshRow : OpenClaim := { program := "ythmhiehglcfepaagreatdoor", sum := "3fdacc6bfb4a92b668cee3bca69d1107dfba9879f93b6cfb01a4c748f591bb68", func := "weft/weftlaw21.FlowFresh", spec := "flowFresh", unfollowed := true, recurses := true, named := ["weft/flow.spans", "weft/flow.turns", "weft/icmp.kinds"], plainKeys := false, apart := false, laid := [("weft/icmp.kinds", laid_weft_icmp_kinds), ("weft/flow.spans", laid_weft_flow_spans), ("weft/flow.turns", laid_weft_flow_turns)] }
def FlowFreshSaid : Prop := flowFreshRow.holds Tryz.pinned (OpenSpec.ofChange flowFreshSpec)

/-- ITS FALSE NEIGHBOUR: 'it returns false'. Refute it at one input. -/
def flowFreshWrong : ChangeSpec := { name := "flowFresh", fn := fun _ => fun
  | [d1, d2] => { results := [.lit (.bool false)], args := [d1, d2] }
  | _ => none }
def FlowFreshWrongFalsely : Prop := flowFreshRow.holds Tryz.pinned (OpenSpec.ofChange flowFreshWrong)

/-- 'weftlaw21.FlowAbout': WHATEVER THE INPUT: true; the input reads as it did. -/
def flowAboutSpec : ChangeSpec := { name := "flowAbout", fn := fun _ => fun
  | [d1, d2, d3, d4, d5, d6, d7] => { results := [.lit (.bool true)], args := [d1, d2, d3, d4, d5, d6, d7] }
  | _ => none }
def flowAboutRow : OpenClaim := { program := "ythmhiehglcfepaagreatdoor", sum := "3fdacc6bfb4a92b668cee3bca69d1107dfba9879f93b6cfb01a4c748f591bb68", func := "weft/weftlaw21.FlowAbout", spec := "flowAbout", unfollowed := true, recurses := true, named := ["weft/flow.spans", "weft/flow.turns", "weft/icmp.kinds", "weft/addr.classRows"], plainKeys := false, apart := false, laid := [("weft/addr.classRows", laid_weft_addr_classRows), ("weft/icmp.kinds", laid_weft_icmp_kinds), ("weft/flow.spans", laid_weft_flow_spans), ("weft/flow.turns", laid_weft_flow_turns)] }
def FlowAboutSaid : Prop := flowAboutRow.holds Tryz.pinned (OpenSpec.ofChange flowAboutSpec)

/-- ITS FALSE NEIGHBOUR: 'it returns false'. Refute it at one input. -/
def flowAboutWrong : ChangeSpec := { name := "flowAbout", fn := fun _ => fun
  | [d1, d2, d3, d4, d5, d6, d7] => { results := [.lit (.bool false)], args := [d1, d2, d3, d4, d5, d6, d7] }
  | _ => none }
def FlowAboutWrongFalsely : Prop := flowAboutRow.holds Tryz.pinned (OpenSpec.ofChange flowAboutWrong)

/-- 'weftlaw21.FlowAll': WHATEVER THE INPUT: true; the input reads as it did. -/
def flowAllSpec : ChangeSpec := { name := "flowAll", fn := fun _ => fun
  | [d1, d2, d3] => { results := [.lit (.bool true)], args := [d1, d2, d3] }
  | _ => none }
def flowAllRow : OpenClaim := { program := "ythmhiehglcfepaagreatdoor", sum := "3fdacc6bfb4a92b668cee3bca69d1107dfba9879f93b6cfb01a4c748f591bb68", func := "weft/weftlaw21.FlowAll", spec := "flowAll", unfollowed := true, recurses := true, named := ["weft/flow.spans", "weft/flow.turns", "weft/icmp.kinds"], plainKeys := false, apart := false, laid := [("weft/icmp.kinds", laid_weft_icmp_kinds), ("weft/flow.spans", laid_weft_flow_spans), ("weft/flow.turns", laid_weft_flow_turns)] }
def FlowAllSaid : Prop := flowAllRow.holds Tryz.pinned (OpenSpec.ofChange flowAllSpec)

/-- ITS FALSE NEIGHBOUR: 'it returns false'. Refute it at one input. -/
def flowAllWrong : ChangeSpec := { name := "flowAll", fn := fun _ => fun
  | [d1, d2, d3] => { results := [.lit (.bool false)], args := [d1, d2, d3] }
  | _ => none }
def FlowAllWrongFalsely : Prop := flowAllRow.holds Tryz.pinned (OpenSpec.ofChange flowAllWrong)

/- THE SECOND FORM. 'bulk': how many values and letters a reading holds, each counted each time it is reached (what is shared counts as often as it is met; a slice's spare places count too). A statement '..UptoSaid' is the law's where the arguments, and the package variables that the reading takes, are together of bulk at most 1048576: NARROWER than '..Said'. Prove '..Said' where nothing that the law and all that it calls make is longer than what came in: it says more and counts as full. Else prove '..UptoSaid'. A law counts once. -/
mutual
def uptoBulk {H : Type} : DataW H → Nat
  | .lit (.string bytes) => bytes.length + 1
  | .lit _ => 1
  | .nil => 1
  | .ptr d => uptoBulk d + 1
  | .slice elems spare => uptoBulkAll elems + uptoBulkAll spare + 1
  | .agg parts => uptoBulkAll parts + 1
  | .iface _ d => uptoBulk d + 1
  | .map entries => uptoBulkEntries entries + 1
  | .held _ => 1
def uptoBulkAll {H : Type} : List (DataW H) → Nat
  | [] => 0
  | d :: r => uptoBulk d + uptoBulkAll r
def uptoBulkEntries {H : Type} : List (Lit × DataW H) → Nat
  | [] => 0
  | x :: r => uptoBulkEntry x + uptoBulkEntries r
def uptoBulkEntry {H : Type} : Lit × DataW H → Nat
  | (.string bytes, d) => bytes.length + uptoBulk d + 1
  | (_, d) => uptoBulk d + 1
 end
def uptoSmall : (H : Type) → List (DataW H) → Bool := fun _ ds => decide (uptoBulkAll ds ≤ 1048576)
def OpenSpec.upto (s : _root_.Go.ChangeSpec) : _root_.Go.OpenSpec := { _root_.Go.OpenSpec.ofChange s with cond := some uptoSmall }

/-- 'weftlaw21.FlowEnds', WHERE WHAT IT READS IS OF BULK AT MOST 1048576: true; the input reads as it did. -/
def flowEndsUptoRow : OpenClaim := { program := "ythmhiehglcfepaagreatdoor", sum := "3fdacc6bfb4a92b668cee3bca69d1107dfba9879f93b6cfb01a4c748f591bb68", func := "weft/weftlaw21.FlowEnds", spec := "flowEnds", unfollowed := true, recurses := true, named := ["weft/flow.spans", "weft/flow.turns", "weft/icmp.kinds"], plainKeys := false, apart := false, laid := [("weft/icmp.kinds", laid_weft_icmp_kinds), ("weft/flow.spans", laid_weft_flow_spans), ("weft/flow.turns", laid_weft_flow_turns)], narrowed := true }
def FlowEndsUptoSaid : Prop := flowEndsUptoRow.holds Tryz.pinned (OpenSpec.upto flowEndsSpec)

/-- 'weftlaw21.FlowOnce', WHERE WHAT IT READS IS OF BULK AT MOST 1048576: true; the input reads as it did. -/
def flowOnceUptoRow : OpenClaim := { program := "ythmhiehglcfepaagreatdoor", sum := "3fdacc6bfb4a92b668cee3bca69d1107dfba9879f93b6cfb01a4c748f591bb68", func := "weft/weftlaw21.FlowOnce", spec := "flowOnce", unfollowed := true, recurses := true, named := ["weft/flow.spans", "weft/flow.turns", "weft/icmp.kinds"], plainKeys := false, apart := false, laid := [("weft/icmp.kinds", laid_weft_icmp_kinds), ("weft/flow.spans", laid_weft_flow_spans), ("weft/flow.turns", laid_weft_flow_turns)], narrowed := true }
def FlowOnceUptoSaid : Prop := flowOnceUptoRow.holds Tryz.pinned (OpenSpec.upto flowOnceSpec)

/-- 'weftlaw21.FlowFresh', WHERE WHAT IT READS IS OF BULK AT MOST 1048576: true; the input reads as it did. -/
def flowFreshUptoRow : OpenClaim := { program := "ythmhiehglcfepaagreatdoor", sum := "3fdacc6bfb4a92b668cee3bca69d1107dfba9879f93b6cfb01a4c748f591bb68", func := "weft/weftlaw21.FlowFresh", spec := "flowFresh", unfollowed := true, recurses := true, named := ["weft/flow.spans", "weft/flow.turns", "weft/icmp.kinds"], plainKeys := false, apart := false, laid := [("weft/icmp.kinds", laid_weft_icmp_kinds), ("weft/flow.spans", laid_weft_flow_spans), ("weft/flow.turns", laid_weft_flow_turns)], narrowed := true }
def FlowFreshUptoSaid : Prop := flowFreshUptoRow.holds Tryz.pinned (OpenSpec.upto flowFreshSpec)

/-- 'weftlaw21.FlowAbout', WHERE WHAT IT READS IS OF BULK AT MOST 1048576: true; the input reads as it did. -/
def flowAboutUptoRow : OpenClaim := { program := "ythmhiehglcfepaagreatdoor", sum := "3fdacc6bfb4a92b668cee3bca69d1107dfba9879f93b6cfb01a4c748f591bb68", func := "weft/weftlaw21.FlowAbout", spec := "flowAbout", unfollowed := true, recurses := true, named := ["weft/flow.spans", "weft/flow.turns", "weft/icmp.kinds", "weft/addr.classRows"], plainKeys := false, apart := false, laid := [("weft/addr.classRows", laid_weft_addr_classRows), ("weft/icmp.kinds", laid_weft_icmp_kinds), ("weft/flow.spans", laid_weft_flow_spans), ("weft/flow.turns", laid_weft_flow_turns)], narrowed := true }
def FlowAboutUptoSaid : Prop := flowAboutUptoRow.holds Tryz.pinned (OpenSpec.upto flowAboutSpec)

/-- 'weftlaw21.FlowAll', WHERE WHAT IT READS IS OF BULK AT MOST 1048576: true; the input reads as it did. -/
def flowAllUptoRow : OpenClaim := { program := "ythmhiehglcfepaagreatdoor", sum := "3fdacc6bfb4a92b668cee3bca69d1107dfba9879f93b6cfb01a4c748f591bb68", func := "weft/weftlaw21.FlowAll", spec := "flowAll", unfollowed := true, recurses := true, named := ["weft/flow.spans", "weft/flow.turns", "weft/icmp.kinds"], plainKeys := false, apart := false, laid := [("weft/icmp.kinds", laid_weft_icmp_kinds), ("weft/flow.spans", laid_weft_flow_spans), ("weft/flow.turns", laid_weft_flow_turns)], narrowed := true }
def FlowAllUptoSaid : Prop := flowAllUptoRow.holds Tryz.pinned (OpenSpec.upto flowAllSpec)

end Rows
end Go.Proofs.YthmhiehglcfepaaGreatDoor
