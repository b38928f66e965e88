/-
  No cell of these rows narrows 'for every input' (looked for: loops, veiled, ifaces, maps, wideKeys, modest, calm, conditions, laid).
  DERIVED. THE GIVEN ROWS OF THIS SEAT. 6 by the template 'for every input the law returns true; each argument reads behind the call as it read before'; 0 by the template 'total and deterministic' (their statements: YtcelcnafcfefhaaTotals.lean).
  GIVEN WITH THE SEED: the statements are not yours to turn. If you find one false, say at which input.
  Laid BY PROGRAM, IN A SANDBOX (cutbox-rows.mjs): the forced cells as the released guide's own fill.sh prints them over the translation d366b160a3fb8cc1… (all of the seat's roots in one cut). By AI agents, Wed Nov 11 2026. No macro, syntax, notation, axiom, sorry.
-/
import Derived.Test.YtcelcnafcfefhaaChecked
import GoSem.Claim
import GoSem.ClaimJoined
import GoSem.ClaimMapViews
import Derived.JoinedTies
import Derived.KernelRfl
namespace Go.Proofs.Ytcelcnafcfefhaa
/- THE CELL 'sum', in the pinned program and in every row, IS THE sha256 OF THE DUMP (.gsa) THAT YtcelcnafcfefhaaProg.lean LOADS. Nothing in Lean hashes anything: it is a label: what it is worth is what the hold of that sum in a sandbox is worth. -/
noncomputable def Try.pinned : Pinned := { name := "ytcelcnafcfefhaa", sum := "d366b160a3fb8cc12421713947b73a8acd75b74b1abfb8e85c6f00ef5cacbba1", checked := Try.checked }
namespace Rows
def none {H : Type} : Left H := { results := [], args := [] }

/-- 'weftlaw7.TunnelSums': WHATEVER THE INPUT: true; the input reads as it did. -/
def tunnelSumsSpec : ChangeSpec := { name := "tunnelSums", fn := fun _ => fun
  | [d1, d2, d3, d4, d5] => { results := [.lit (.bool true)], args := [d1, d2, d3, d4, d5] }
  | _ => none }
def tunnelSumsRow : OpenClaim := { program := "ytcelcnafcfefhaa", sum := "d366b160a3fb8cc12421713947b73a8acd75b74b1abfb8e85c6f00ef5cacbba1", func := "weft/weftlaw7.TunnelSums", spec := "tunnelSums", apart := false }
def TunnelSumsSaid : Prop := tunnelSumsRow.holds Try.pinned (OpenSpec.ofChange tunnelSumsSpec)

/-- ITS FALSE NEIGHBOUR: 'it returns false'. Refute it at one input. -/
def tunnelSumsWrong : ChangeSpec := { name := "tunnelSums", fn := fun _ => fun
  | [d1, d2, d3, d4, d5] => { results := [.lit (.bool false)], args := [d1, d2, d3, d4, d5] }
  | _ => none }
def TunnelSumsWrongFalsely : Prop := tunnelSumsRow.holds Try.pinned (OpenSpec.ofChange tunnelSumsWrong)

/-- 'weftlaw7.TunnelFrames': WHATEVER THE INPUT: true; the input reads as it did. -/
def tunnelFramesSpec : ChangeSpec := { name := "tunnelFrames", fn := fun _ => fun
  | [d1, d2] => { results := [.lit (.bool true)], args := [d1, d2] }
  | _ => none }
def tunnelFramesRow : OpenClaim := { program := "ytcelcnafcfefhaa", sum := "d366b160a3fb8cc12421713947b73a8acd75b74b1abfb8e85c6f00ef5cacbba1", func := "weft/weftlaw7.TunnelFrames", spec := "tunnelFrames", apart := false }
def TunnelFramesSaid : Prop := tunnelFramesRow.holds Try.pinned (OpenSpec.ofChange tunnelFramesSpec)

/-- ITS FALSE NEIGHBOUR: 'it returns false'. Refute it at one input. -/
def tunnelFramesWrong : ChangeSpec := { name := "tunnelFrames", fn := fun _ => fun
  | [d1, d2] => { results := [.lit (.bool false)], args := [d1, d2] }
  | _ => none }
def TunnelFramesWrongFalsely : Prop := tunnelFramesRow.holds Try.pinned (OpenSpec.ofChange tunnelFramesWrong)

/-- 'weftlaw7.TunnelDatagrams': WHATEVER THE INPUT: true; the input reads as it did. -/
def tunnelDatagramsSpec : ChangeSpec := { name := "tunnelDatagrams", fn := fun _ => fun
  | [d] => { results := [.lit (.bool true)], args := [d] }
  | _ => none }
def tunnelDatagramsRow : OpenClaim := { program := "ytcelcnafcfefhaa", sum := "d366b160a3fb8cc12421713947b73a8acd75b74b1abfb8e85c6f00ef5cacbba1", func := "weft/weftlaw7.TunnelDatagrams", spec := "tunnelDatagrams", apart := false }
def TunnelDatagramsSaid : Prop := tunnelDatagramsRow.holds Try.pinned (OpenSpec.ofChange tunnelDatagramsSpec)

/-- ITS FALSE NEIGHBOUR: 'it returns false'. Refute it at one input. -/
def tunnelDatagramsWrong : ChangeSpec := { name := "tunnelDatagrams", fn := fun _ => fun
  | [d] => { results := [.lit (.bool false)], args := [d] }
  | _ => none }
def TunnelDatagramsWrongFalsely : Prop := tunnelDatagramsRow.holds Try.pinned (OpenSpec.ofChange tunnelDatagramsWrong)

/-- 'weftlaw7.TunnelOneFlow': WHATEVER THE INPUT: true; the input reads as it did. -/
def tunnelOneFlowSpec : ChangeSpec := { name := "tunnelOneFlow", fn := fun _ => fun
  | [d1, d2, d3, d4] => { results := [.lit (.bool true)], args := [d1, d2, d3, d4] }
  | _ => none }
def tunnelOneFlowRow : OpenClaim := { program := "ytcelcnafcfefhaa", sum := "d366b160a3fb8cc12421713947b73a8acd75b74b1abfb8e85c6f00ef5cacbba1", func := "weft/weftlaw7.TunnelOneFlow", spec := "tunnelOneFlow", unfollowed := true, recurses := true, apart := false }
def TunnelOneFlowSaid : Prop := tunnelOneFlowRow.holds Try.pinned (OpenSpec.ofChange tunnelOneFlowSpec)

/-- ITS FALSE NEIGHBOUR: 'it returns false'. Refute it at one input. -/
def tunnelOneFlowWrong : ChangeSpec := { name := "tunnelOneFlow", fn := fun _ => fun
  | [d1, d2, d3, d4] => { results := [.lit (.bool false)], args := [d1, d2, d3, d4] }
  | _ => none }
def TunnelOneFlowWrongFalsely : Prop := tunnelOneFlowRow.holds Try.pinned (OpenSpec.ofChange tunnelOneFlowWrong)

/-- 'weftlaw7.TunnelThere': WHATEVER THE INPUT: true; the input reads as it did. -/
def tunnelThereSpec : ChangeSpec := { name := "tunnelThere", fn := fun _ => fun
  | [d1, d2, d3] => { results := [.lit (.bool true)], args := [d1, d2, d3] }
  | _ => none }
def tunnelThereRow : OpenClaim := { program := "ytcelcnafcfefhaa", sum := "d366b160a3fb8cc12421713947b73a8acd75b74b1abfb8e85c6f00ef5cacbba1", func := "weft/weftlaw7.TunnelThere", spec := "tunnelThere", unfollowed := true, recurses := true, apart := false }
def TunnelThereSaid : Prop := tunnelThereRow.holds Try.pinned (OpenSpec.ofChange tunnelThereSpec)

/-- ITS FALSE NEIGHBOUR: 'it returns false'. Refute it at one input. -/
def tunnelThereWrong : ChangeSpec := { name := "tunnelThere", fn := fun _ => fun
  | [d1, d2, d3] => { results := [.lit (.bool false)], args := [d1, d2, d3] }
  | _ => none }
def TunnelThereWrongFalsely : Prop := tunnelThereRow.holds Try.pinned (OpenSpec.ofChange tunnelThereWrong)

/-- 'weftlaw7.TunnelReserved': WHATEVER THE INPUT: true; the input reads as it did. -/
def tunnelReservedSpec : ChangeSpec := { name := "tunnelReserved", fn := fun _ => fun
  | [d1, d2, d3, d4] => { results := [.lit (.bool true)], args := [d1, d2, d3, d4] }
  | _ => none }
def tunnelReservedRow : OpenClaim := { program := "ytcelcnafcfefhaa", sum := "d366b160a3fb8cc12421713947b73a8acd75b74b1abfb8e85c6f00ef5cacbba1", func := "weft/weftlaw7.TunnelReserved", spec := "tunnelReserved", unfollowed := true, recurses := true, apart := false }
def TunnelReservedSaid : Prop := tunnelReservedRow.holds Try.pinned (OpenSpec.ofChange tunnelReservedSpec)

/-- ITS FALSE NEIGHBOUR: 'it returns false'. Refute it at one input. -/
def tunnelReservedWrong : ChangeSpec := { name := "tunnelReserved", fn := fun _ => fun
  | [d1, d2, d3, d4] => { results := [.lit (.bool false)], args := [d1, d2, d3, d4] }
  | _ => none }
def TunnelReservedWrongFalsely : Prop := tunnelReservedRow.holds Try.pinned (OpenSpec.ofChange tunnelReservedWrong)

/- THE SECOND FORM. 'bulk': how many values and letters a reading holds, each counted each time it is reached (what is shared counts as often as it is met; a slice's spare places count too). A statement '..UptoSaid' is the law's where the arguments, and the package variables that the reading takes, are together of bulk at most 1048576: NARROWER than '..Said'. Prove '..Said' where nothing that the law and all that it calls make is longer than what came in: it says more and counts as full. Else prove '..UptoSaid'. A law counts once. -/
mutual
def uptoBulk {H : Type} : DataW H → Nat
  | .lit (.string bytes) => bytes.length + 1
  | .lit _ => 1
  | .nil => 1
  | .ptr d => uptoBulk d + 1
  | .slice elems spare => uptoBulkAll elems + uptoBulkAll spare + 1
  | .agg parts => uptoBulkAll parts + 1
  | .iface _ d => uptoBulk d + 1
  | .map entries => uptoBulkEntries entries + 1
  | .held _ => 1
def uptoBulkAll {H : Type} : List (DataW H) → Nat
  | [] => 0
  | d :: r => uptoBulk d + uptoBulkAll r
def uptoBulkEntries {H : Type} : List (Lit × DataW H) → Nat
  | [] => 0
  | x :: r => uptoBulkEntry x + uptoBulkEntries r
def uptoBulkEntry {H : Type} : Lit × DataW H → Nat
  | (.string bytes, d) => bytes.length + uptoBulk d + 1
  | (_, d) => uptoBulk d + 1
 end
def uptoSmall : (H : Type) → List (DataW H) → Bool := fun _ ds => decide (uptoBulkAll ds ≤ 1048576)
def OpenSpec.upto (s : _root_.Go.ChangeSpec) : _root_.Go.OpenSpec := { _root_.Go.OpenSpec.ofChange s with cond := some uptoSmall }

/-- 'weftlaw7.TunnelSums', WHERE WHAT IT READS IS OF BULK AT MOST 1048576: true; the input reads as it did. -/
def tunnelSumsUptoRow : OpenClaim := { program := "ytcelcnafcfefhaa", sum := "d366b160a3fb8cc12421713947b73a8acd75b74b1abfb8e85c6f00ef5cacbba1", func := "weft/weftlaw7.TunnelSums", spec := "tunnelSums", apart := false, narrowed := true }
def TunnelSumsUptoSaid : Prop := tunnelSumsUptoRow.holds Try.pinned (OpenSpec.upto tunnelSumsSpec)

/-- 'weftlaw7.TunnelFrames', WHERE WHAT IT READS IS OF BULK AT MOST 1048576: true; the input reads as it did. -/
def tunnelFramesUptoRow : OpenClaim := { program := "ytcelcnafcfefhaa", sum := "d366b160a3fb8cc12421713947b73a8acd75b74b1abfb8e85c6f00ef5cacbba1", func := "weft/weftlaw7.TunnelFrames", spec := "tunnelFrames", apart := false, narrowed := true }
def TunnelFramesUptoSaid : Prop := tunnelFramesUptoRow.holds Try.pinned (OpenSpec.upto tunnelFramesSpec)

/-- 'weftlaw7.TunnelDatagrams', WHERE WHAT IT READS IS OF BULK AT MOST 1048576: true; the input reads as it did. -/
def tunnelDatagramsUptoRow : OpenClaim := { program := "ytcelcnafcfefhaa", sum := "d366b160a3fb8cc12421713947b73a8acd75b74b1abfb8e85c6f00ef5cacbba1", func := "weft/weftlaw7.TunnelDatagrams", spec := "tunnelDatagrams", apart := false, narrowed := true }
def TunnelDatagramsUptoSaid : Prop := tunnelDatagramsUptoRow.holds Try.pinned (OpenSpec.upto tunnelDatagramsSpec)

/-- 'weftlaw7.TunnelOneFlow', WHERE WHAT IT READS IS OF BULK AT MOST 1048576: true; the input reads as it did. -/
def tunnelOneFlowUptoRow : OpenClaim := { program := "ytcelcnafcfefhaa", sum := "d366b160a3fb8cc12421713947b73a8acd75b74b1abfb8e85c6f00ef5cacbba1", func := "weft/weftlaw7.TunnelOneFlow", spec := "tunnelOneFlow", unfollowed := true, recurses := true, apart := false, narrowed := true }
def TunnelOneFlowUptoSaid : Prop := tunnelOneFlowUptoRow.holds Try.pinned (OpenSpec.upto tunnelOneFlowSpec)

/-- 'weftlaw7.TunnelThere', WHERE WHAT IT READS IS OF BULK AT MOST 1048576: true; the input reads as it did. -/
def tunnelThereUptoRow : OpenClaim := { program := "ytcelcnafcfefhaa", sum := "d366b160a3fb8cc12421713947b73a8acd75b74b1abfb8e85c6f00ef5cacbba1", func := "weft/weftlaw7.TunnelThere", spec := "tunnelThere", unfollowed := true, recurses := true, apart := false, narrowed := true }
def TunnelThereUptoSaid : Prop := tunnelThereUptoRow.holds Try.pinned (OpenSpec.upto tunnelThereSpec)

/-- 'weftlaw7.TunnelReserved', WHERE WHAT IT READS IS OF BULK AT MOST 1048576: true; the input reads as it did. -/
def tunnelReservedUptoRow : OpenClaim := { program := "ytcelcnafcfefhaa", sum := "d366b160a3fb8cc12421713947b73a8acd75b74b1abfb8e85c6f00ef5cacbba1", func := "weft/weftlaw7.TunnelReserved", spec := "tunnelReserved", unfollowed := true, recurses := true, apart := false, narrowed := true }
def TunnelReservedUptoSaid : Prop := tunnelReservedUptoRow.holds Try.pinned (OpenSpec.upto tunnelReservedSpec)

end Rows
end Go.Proofs.Ytcelcnafcfefhaa
