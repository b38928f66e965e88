/-
  NARROWER THAN 'FOR EVERY INPUT', by the rows' own cells (each row's printed sentence says how): IcmpHush: laid · IcmpNoStorm: laid · IcmpAboutFault: laid · IcmpEchoBack: laid.
  DERIVED. THE GIVEN ROWS OF THIS SEAT. 4 by the template 'for every input the law returns true; each argument reads behind the call as it read before'; 0 by the template 'total and deterministic' (their statements: YtcboenmmkaochaaDoorTotals.lean).
  GIVEN WITH THE SEED: the statements are not yours to turn. If you find one false, say at which input.
  Laid BY PROGRAM, IN A SANDBOX (cutbox-rows.mjs): the forced cells as the released guide's own fill.sh prints them over the translation 4b451ad6a037407f… (all of the seat's roots in one cut). By AI agents, Wed Nov 11 2026. No macro, syntax, notation, axiom, sorry.
-/
import Derived.Test.YtcboenmmkaochaaDoorChecked
import GoSem.Claim
import GoSem.ClaimJoined
import GoSem.ClaimMapViews
import Derived.JoinedTies
import Derived.KernelRfl
namespace Go.Proofs.YtcboenmmkaochaaDoor
/- THE CELL 'sum', in the pinned program and in every row, IS THE sha256 OF THE DUMP (.gsa) THAT YtcboenmmkaochaaDoorProg.lean LOADS. Nothing in Lean hashes anything: it is a label: what it is worth is what the hold of that sum in a sandbox is worth. -/
noncomputable def Tryd.pinned : Pinned := { name := "ytcboenmmkaochaadoor", sum := "4b451ad6a037407f4919b8ec118e00aedae44440a525e1e6af1d1a7680551fb8", checked := Tryd.checked }
namespace Rows
def none {H : Type} : Left H := { results := [], args := [] }

/- WHAT THE LISTED PACKAGE-LEVEL VARIABLES READ AS WHEN THE CALL BEGINS. Each datum BY PROGRAM (the guide's laid-datum.mjs) off the statement by which the dump's own 'gosem.cut.vars' lays the variable. In a bare row this is a premise. The card (YtcboenmmkaochaaDoorCards.lean) ties it to the program's text. -/
def laid_weft_addr_classRows {H : Type} : DataW H := .agg [.agg [.lit (.int .u32 0), .lit (.int .i64 8), .lit (.int .i64 1)], .agg [.lit (.int .u32 2130706432), .lit (.int .i64 8), .lit (.int .i64 2)], .agg [.lit (.int .u32 3758096384), .lit (.int .i64 4), .lit (.int .i64 3)], .agg [.lit (.int .u32 4026531840), .lit (.int .i64 4), .lit (.int .i64 4)]]
def laid_weft_icmp_kinds {H : Type} : DataW H := .agg [.agg [.lit (.bool false), .lit (.int .u8 0)], .agg [.lit (.bool false), .lit (.int .u8 0)], .agg [.lit (.bool false), .lit (.int .u8 0)], .agg [.lit (.bool true), .lit (.int .u8 16)], .agg [.lit (.bool true), .lit (.int .u8 0)], .agg [.lit (.bool true), .lit (.int .u8 0)], .agg [.lit (.bool false), .lit (.int .u8 0)], .agg [.lit (.bool false), .lit (.int .u8 0)], .agg [.lit (.bool false), .lit (.int .u8 0)], .agg [.lit (.bool false), .lit (.int .u8 0)], .agg [.lit (.bool false), .lit (.int .u8 0)], .agg [.lit (.bool true), .lit (.int .u8 2)], .agg [.lit (.bool true), .lit (.int .u8 3)]]

/-- 'weftlaw6.IcmpHush': WHATEVER THE INPUT: true; the input reads as it did. -/
def icmpHushSpec : ChangeSpec := { name := "icmpHush", fn := fun _ => fun
  | [d] => { results := [.lit (.bool true)], args := [d] }
  | _ => none }
def icmpHushRow : OpenClaim := { program := "ytcboenmmkaochaadoor", sum := "4b451ad6a037407f4919b8ec118e00aedae44440a525e1e6af1d1a7680551fb8", func := "weft/weftlaw6.IcmpHush", spec := "icmpHush", unfollowed := true, recurses := true, named := ["weft/icmp.kinds", "weft/addr.classRows"], apart := false, laid := [("weft/addr.classRows", laid_weft_addr_classRows), ("weft/icmp.kinds", laid_weft_icmp_kinds)] }
def IcmpHushSaid : Prop := icmpHushRow.holds Tryd.pinned (OpenSpec.ofChange icmpHushSpec)

/-- ITS FALSE NEIGHBOUR: 'it returns false'. Refute it at one input. -/
def icmpHushWrong : ChangeSpec := { name := "icmpHush", fn := fun _ => fun
  | [d] => { results := [.lit (.bool false)], args := [d] }
  | _ => none }
def IcmpHushWrongFalsely : Prop := icmpHushRow.holds Tryd.pinned (OpenSpec.ofChange icmpHushWrong)

/-- 'weftlaw6.IcmpNoStorm': WHATEVER THE INPUT: true; the input reads as it did. -/
def icmpNoStormSpec : ChangeSpec := { name := "icmpNoStorm", fn := fun _ => fun
  | [d1, d2, d3, d4, d5] => { results := [.lit (.bool true)], args := [d1, d2, d3, d4, d5] }
  | _ => none }
def icmpNoStormRow : OpenClaim := { program := "ytcboenmmkaochaadoor", sum := "4b451ad6a037407f4919b8ec118e00aedae44440a525e1e6af1d1a7680551fb8", func := "weft/weftlaw6.IcmpNoStorm", spec := "icmpNoStorm", unfollowed := true, recurses := true, named := ["weft/icmp.kinds", "weft/addr.classRows"], apart := false, laid := [("weft/addr.classRows", laid_weft_addr_classRows), ("weft/icmp.kinds", laid_weft_icmp_kinds)] }
def IcmpNoStormSaid : Prop := icmpNoStormRow.holds Tryd.pinned (OpenSpec.ofChange icmpNoStormSpec)

/-- ITS FALSE NEIGHBOUR: 'it returns false'. Refute it at one input. -/
def icmpNoStormWrong : ChangeSpec := { name := "icmpNoStorm", fn := fun _ => fun
  | [d1, d2, d3, d4, d5] => { results := [.lit (.bool false)], args := [d1, d2, d3, d4, d5] }
  | _ => none }
def IcmpNoStormWrongFalsely : Prop := icmpNoStormRow.holds Tryd.pinned (OpenSpec.ofChange icmpNoStormWrong)

/-- 'weftlaw6.IcmpAboutFault': WHATEVER THE INPUT: true; the input reads as it did. -/
def icmpAboutFaultSpec : ChangeSpec := { name := "icmpAboutFault", fn := fun _ => fun
  | [d1, d2, d3, d4, d5] => { results := [.lit (.bool true)], args := [d1, d2, d3, d4, d5] }
  | _ => none }
def icmpAboutFaultRow : OpenClaim := { program := "ytcboenmmkaochaadoor", sum := "4b451ad6a037407f4919b8ec118e00aedae44440a525e1e6af1d1a7680551fb8", func := "weft/weftlaw6.IcmpAboutFault", spec := "icmpAboutFault", unfollowed := true, recurses := true, named := ["weft/icmp.kinds", "weft/addr.classRows"], apart := false, laid := [("weft/addr.classRows", laid_weft_addr_classRows), ("weft/icmp.kinds", laid_weft_icmp_kinds)] }
def IcmpAboutFaultSaid : Prop := icmpAboutFaultRow.holds Tryd.pinned (OpenSpec.ofChange icmpAboutFaultSpec)

/-- ITS FALSE NEIGHBOUR: 'it returns false'. Refute it at one input. -/
def icmpAboutFaultWrong : ChangeSpec := { name := "icmpAboutFault", fn := fun _ => fun
  | [d1, d2, d3, d4, d5] => { results := [.lit (.bool false)], args := [d1, d2, d3, d4, d5] }
  | _ => none }
def IcmpAboutFaultWrongFalsely : Prop := icmpAboutFaultRow.holds Tryd.pinned (OpenSpec.ofChange icmpAboutFaultWrong)

/-- 'weftlaw6.IcmpEchoBack': WHATEVER THE INPUT: true; the input reads as it did. -/
def icmpEchoBackSpec : ChangeSpec := { name := "icmpEchoBack", fn := fun _ => fun
  | [d1, d2] => { results := [.lit (.bool true)], args := [d1, d2] }
  | _ => none }
def icmpEchoBackRow : OpenClaim := { program := "ytcboenmmkaochaadoor", sum := "4b451ad6a037407f4919b8ec118e00aedae44440a525e1e6af1d1a7680551fb8", func := "weft/weftlaw6.IcmpEchoBack", spec := "icmpEchoBack", unfollowed := true, recurses := true, named := ["weft/addr.classRows", "weft/icmp.kinds"], apart := false, laid := [("weft/addr.classRows", laid_weft_addr_classRows), ("weft/icmp.kinds", laid_weft_icmp_kinds)] }
def IcmpEchoBackSaid : Prop := icmpEchoBackRow.holds Tryd.pinned (OpenSpec.ofChange icmpEchoBackSpec)

/-- ITS FALSE NEIGHBOUR: 'it returns false'. Refute it at one input. -/
def icmpEchoBackWrong : ChangeSpec := { name := "icmpEchoBack", fn := fun _ => fun
  | [d1, d2] => { results := [.lit (.bool false)], args := [d1, d2] }
  | _ => none }
def IcmpEchoBackWrongFalsely : Prop := icmpEchoBackRow.holds Tryd.pinned (OpenSpec.ofChange icmpEchoBackWrong)

/- THE SECOND FORM. 'bulk': how many values and letters a reading holds, each counted each time it is reached (what is shared counts as often as it is met; a slice's spare places count too). A statement '..UptoSaid' is the law's where the arguments, and the package variables that the reading takes, are together of bulk at most 1048576: NARROWER than '..Said'. Prove '..Said' where nothing that the law and all that it calls make is longer than what came in: it says more and counts as full. Else prove '..UptoSaid'. A law counts once. -/
mutual
def uptoBulk {H : Type} : DataW H → Nat
  | .lit (.string bytes) => bytes.length + 1
  | .lit _ => 1
  | .nil => 1
  | .ptr d => uptoBulk d + 1
  | .slice elems spare => uptoBulkAll elems + uptoBulkAll spare + 1
  | .agg parts => uptoBulkAll parts + 1
  | .iface _ d => uptoBulk d + 1
  | .map entries => uptoBulkEntries entries + 1
  | .held _ => 1
def uptoBulkAll {H : Type} : List (DataW H) → Nat
  | [] => 0
  | d :: r => uptoBulk d + uptoBulkAll r
def uptoBulkEntries {H : Type} : List (Lit × DataW H) → Nat
  | [] => 0
  | x :: r => uptoBulkEntry x + uptoBulkEntries r
def uptoBulkEntry {H : Type} : Lit × DataW H → Nat
  | (.string bytes, d) => bytes.length + uptoBulk d + 1
  | (_, d) => uptoBulk d + 1
 end
def uptoSmall : (H : Type) → List (DataW H) → Bool := fun _ ds => decide (uptoBulkAll ds ≤ 1048576)
def OpenSpec.upto (s : _root_.Go.ChangeSpec) : _root_.Go.OpenSpec := { _root_.Go.OpenSpec.ofChange s with cond := some uptoSmall }

/-- 'weftlaw6.IcmpHush', WHERE WHAT IT READS IS OF BULK AT MOST 1048576: true; the input reads as it did. -/
def icmpHushUptoRow : OpenClaim := { program := "ytcboenmmkaochaadoor", sum := "4b451ad6a037407f4919b8ec118e00aedae44440a525e1e6af1d1a7680551fb8", func := "weft/weftlaw6.IcmpHush", spec := "icmpHush", unfollowed := true, recurses := true, named := ["weft/icmp.kinds", "weft/addr.classRows"], apart := false, laid := [("weft/addr.classRows", laid_weft_addr_classRows), ("weft/icmp.kinds", laid_weft_icmp_kinds)], narrowed := true }
def IcmpHushUptoSaid : Prop := icmpHushUptoRow.holds Tryd.pinned (OpenSpec.upto icmpHushSpec)

/-- 'weftlaw6.IcmpNoStorm', WHERE WHAT IT READS IS OF BULK AT MOST 1048576: true; the input reads as it did. -/
def icmpNoStormUptoRow : OpenClaim := { program := "ytcboenmmkaochaadoor", sum := "4b451ad6a037407f4919b8ec118e00aedae44440a525e1e6af1d1a7680551fb8", func := "weft/weftlaw6.IcmpNoStorm", spec := "icmpNoStorm", unfollowed := true, recurses := true, named := ["weft/icmp.kinds", "weft/addr.classRows"], apart := false, laid := [("weft/addr.classRows", laid_weft_addr_classRows), ("weft/icmp.kinds", laid_weft_icmp_kinds)], narrowed := true }
def IcmpNoStormUptoSaid : Prop := icmpNoStormUptoRow.holds Tryd.pinned (OpenSpec.upto icmpNoStormSpec)

/-- 'weftlaw6.IcmpAboutFault', WHERE WHAT IT READS IS OF BULK AT MOST 1048576: true; the input reads as it did. -/
def icmpAboutFaultUptoRow : OpenClaim := { program := "ytcboenmmkaochaadoor", sum := "4b451ad6a037407f4919b8ec118e00aedae44440a525e1e6af1d1a7680551fb8", func := "weft/weftlaw6.IcmpAboutFault", spec := "icmpAboutFault", unfollowed := true, recurses := true, named := ["weft/icmp.kinds", "weft/addr.classRows"], apart := false, laid := [("weft/addr.classRows", laid_weft_addr_classRows), ("weft/icmp.kinds", laid_weft_icmp_kinds)], narrowed := true }
def IcmpAboutFaultUptoSaid : Prop := icmpAboutFaultUptoRow.holds Tryd.pinned (OpenSpec.upto icmpAboutFaultSpec)

/-- 'weftlaw6.IcmpEchoBack', WHERE WHAT IT READS IS OF BULK AT MOST 1048576: true; the input reads as it did. -/
def icmpEchoBackUptoRow : OpenClaim := { program := "ytcboenmmkaochaadoor", sum := "4b451ad6a037407f4919b8ec118e00aedae44440a525e1e6af1d1a7680551fb8", func := "weft/weftlaw6.IcmpEchoBack", spec := "icmpEchoBack", unfollowed := true, recurses := true, named := ["weft/addr.classRows", "weft/icmp.kinds"], apart := false, laid := [("weft/addr.classRows", laid_weft_addr_classRows), ("weft/icmp.kinds", laid_weft_icmp_kinds)], narrowed := true }
def IcmpEchoBackUptoSaid : Prop := icmpEchoBackUptoRow.holds Tryd.pinned (OpenSpec.upto icmpEchoBackSpec)

end Rows
end Go.Proofs.YtcboenmmkaochaaDoor
