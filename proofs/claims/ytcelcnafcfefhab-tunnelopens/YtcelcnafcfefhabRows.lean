/-
  No cell of these rows narrows 'for every input' (looked for: loops, veiled, ifaces, maps, wideKeys, modest, calm, conditions, laid).
  DERIVED. THE GIVEN ROWS OF THIS SEAT. 5 by the template 'for every input the law returns true; each argument reads behind the call as it read before'; 0 by the template 'total and deterministic' (their statements: YtcelcnafcfefhabTotals.lean).
  GIVEN WITH THE SEED: the statements are not yours to turn. If you find one false, say at which input.
  Laid BY PROGRAM, IN A SANDBOX (cutbox-rows.mjs): the forced cells as the released guide's own fill.sh prints them over the translation 366e3630cabf8a37… (all of the seat's roots in one cut). By AI agents, Wed Nov 11 2026. No macro, syntax, notation, axiom, sorry.
-/
import Derived.Test.YtcelcnafcfefhabChecked
import GoSem.Claim
import GoSem.ClaimJoined
import GoSem.ClaimMapViews
import Derived.JoinedTies
import Derived.KernelRfl
namespace Go.Proofs.Ytcelcnafcfefhab
/- THE CELL 'sum', in the pinned program and in every row, IS THE sha256 OF THE DUMP (.gsa) THAT YtcelcnafcfefhabProg.lean LOADS. Nothing in Lean hashes anything: it is a label: what it is worth is what the hold of that sum in a sandbox is worth. -/
noncomputable def Try.pinned : Pinned := { name := "ytcelcnafcfefhab", sum := "366e3630cabf8a375adc1e403f315a6c7f9948e0b94a7bd78e663ae3ed29db2d", checked := Try.checked }
namespace Rows
def none {H : Type} : Left H := { results := [], args := [] }

/-- 'weftlaw7.TunnelMemory': WHATEVER THE INPUT: true; the input reads as it did. -/
def tunnelMemorySpec : ChangeSpec := { name := "tunnelMemory", fn := fun _ => fun
  | [d1, d2, d3, d4] => { results := [.lit (.bool true)], args := [d1, d2, d3, d4] }
  | _ => none }
def tunnelMemoryRow : OpenClaim := { program := "ytcelcnafcfefhab", sum := "366e3630cabf8a375adc1e403f315a6c7f9948e0b94a7bd78e663ae3ed29db2d", func := "weft/weftlaw7.TunnelMemory", spec := "tunnelMemory", unfollowed := true, recurses := true, apart := false }
def TunnelMemorySaid : Prop := tunnelMemoryRow.holds Try.pinned (OpenSpec.ofChange tunnelMemorySpec)

/-- ITS FALSE NEIGHBOUR: 'it returns false'. Refute it at one input. -/
def tunnelMemoryWrong : ChangeSpec := { name := "tunnelMemory", fn := fun _ => fun
  | [d1, d2, d3, d4] => { results := [.lit (.bool false)], args := [d1, d2, d3, d4] }
  | _ => none }
def TunnelMemoryWrongFalsely : Prop := tunnelMemoryRow.holds Try.pinned (OpenSpec.ofChange tunnelMemoryWrong)

/-- 'weftlaw7.TunnelSeals': WHATEVER THE INPUT: true; the input reads as it did. -/
def tunnelSealsSpec : ChangeSpec := { name := "tunnelSeals", fn := fun _ => fun
  | [d1, d2] => { results := [.lit (.bool true)], args := [d1, d2] }
  | _ => none }
def tunnelSealsRow : OpenClaim := { program := "ytcelcnafcfefhab", sum := "366e3630cabf8a375adc1e403f315a6c7f9948e0b94a7bd78e663ae3ed29db2d", func := "weft/weftlaw7.TunnelSeals", spec := "tunnelSeals", unfollowed := true, recurses := true, apart := false }
def TunnelSealsSaid : Prop := tunnelSealsRow.holds Try.pinned (OpenSpec.ofChange tunnelSealsSpec)

/-- ITS FALSE NEIGHBOUR: 'it returns false'. Refute it at one input. -/
def tunnelSealsWrong : ChangeSpec := { name := "tunnelSeals", fn := fun _ => fun
  | [d1, d2] => { results := [.lit (.bool false)], args := [d1, d2] }
  | _ => none }
def TunnelSealsWrongFalsely : Prop := tunnelSealsRow.holds Try.pinned (OpenSpec.ofChange tunnelSealsWrong)

/-- 'weftlaw7.TunnelFlows': WHATEVER THE INPUT: true; the input reads as it did. -/
def tunnelFlowsSpec : ChangeSpec := { name := "tunnelFlows", fn := fun _ => fun
  | [d] => { results := [.lit (.bool true)], args := [d] }
  | _ => none }
def tunnelFlowsRow : OpenClaim := { program := "ytcelcnafcfefhab", sum := "366e3630cabf8a375adc1e403f315a6c7f9948e0b94a7bd78e663ae3ed29db2d", func := "weft/weftlaw7.TunnelFlows", spec := "tunnelFlows", unfollowed := true, recurses := true, apart := false }
def TunnelFlowsSaid : Prop := tunnelFlowsRow.holds Try.pinned (OpenSpec.ofChange tunnelFlowsSpec)

/-- ITS FALSE NEIGHBOUR: 'it returns false'. Refute it at one input. -/
def tunnelFlowsWrong : ChangeSpec := { name := "tunnelFlows", fn := fun _ => fun
  | [d] => { results := [.lit (.bool false)], args := [d] }
  | _ => none }
def TunnelFlowsWrongFalsely : Prop := tunnelFlowsRow.holds Try.pinned (OpenSpec.ofChange tunnelFlowsWrong)

/-- 'weftlaw7.TunnelOpens': WHATEVER THE INPUT: true; the input reads as it did. -/
def tunnelOpensSpec : ChangeSpec := { name := "tunnelOpens", fn := fun _ => fun
  | [d] => { results := [.lit (.bool true)], args := [d] }
  | _ => none }
def tunnelOpensRow : OpenClaim := { program := "ytcelcnafcfefhab", sum := "366e3630cabf8a375adc1e403f315a6c7f9948e0b94a7bd78e663ae3ed29db2d", func := "weft/weftlaw7.TunnelOpens", spec := "tunnelOpens", unfollowed := true, recurses := true, apart := false }
def TunnelOpensSaid : Prop := tunnelOpensRow.holds Try.pinned (OpenSpec.ofChange tunnelOpensSpec)

/-- ITS FALSE NEIGHBOUR: 'it returns false'. Refute it at one input. -/
def tunnelOpensWrong : ChangeSpec := { name := "tunnelOpens", fn := fun _ => fun
  | [d] => { results := [.lit (.bool false)], args := [d] }
  | _ => none }
def TunnelOpensWrongFalsely : Prop := tunnelOpensRow.holds Try.pinned (OpenSpec.ofChange tunnelOpensWrong)

/-- 'weftlaw7.TunnelScript': WHATEVER THE INPUT: true; the input reads as it did. -/
def tunnelScriptSpec : ChangeSpec := { name := "tunnelScript", fn := fun _ => fun
  | [d] => { results := [.lit (.bool true)], args := [d] }
  | _ => none }
def tunnelScriptRow : OpenClaim := { program := "ytcelcnafcfefhab", sum := "366e3630cabf8a375adc1e403f315a6c7f9948e0b94a7bd78e663ae3ed29db2d", func := "weft/weftlaw7.TunnelScript", spec := "tunnelScript", unfollowed := true, recurses := true, apart := false }
def TunnelScriptSaid : Prop := tunnelScriptRow.holds Try.pinned (OpenSpec.ofChange tunnelScriptSpec)

/-- ITS FALSE NEIGHBOUR: 'it returns false'. Refute it at one input. -/
def tunnelScriptWrong : ChangeSpec := { name := "tunnelScript", fn := fun _ => fun
  | [d] => { results := [.lit (.bool false)], args := [d] }
  | _ => none }
def TunnelScriptWrongFalsely : Prop := tunnelScriptRow.holds Try.pinned (OpenSpec.ofChange tunnelScriptWrong)

/- THE SECOND FORM. 'bulk': how many values and letters a reading holds, each counted each time it is reached (what is shared counts as often as it is met; a slice's spare places count too). A statement '..UptoSaid' is the law's where the arguments, and the package variables that the reading takes, are together of bulk at most 1048576: NARROWER than '..Said'. Prove '..Said' where nothing that the law and all that it calls make is longer than what came in: it says more and counts as full. Else prove '..UptoSaid'. A law counts once. -/
mutual
def uptoBulk {H : Type} : DataW H → Nat
  | .lit (.string bytes) => bytes.length + 1
  | .lit _ => 1
  | .nil => 1
  | .ptr d => uptoBulk d + 1
  | .slice elems spare => uptoBulkAll elems + uptoBulkAll spare + 1
  | .agg parts => uptoBulkAll parts + 1
  | .iface _ d => uptoBulk d + 1
  | .map entries => uptoBulkEntries entries + 1
  | .held _ => 1
def uptoBulkAll {H : Type} : List (DataW H) → Nat
  | [] => 0
  | d :: r => uptoBulk d + uptoBulkAll r
def uptoBulkEntries {H : Type} : List (Lit × DataW H) → Nat
  | [] => 0
  | x :: r => uptoBulkEntry x + uptoBulkEntries r
def uptoBulkEntry {H : Type} : Lit × DataW H → Nat
  | (.string bytes, d) => bytes.length + uptoBulk d + 1
  | (_, d) => uptoBulk d + 1
 end
def uptoSmall : (H : Type) → List (DataW H) → Bool := fun _ ds => decide (uptoBulkAll ds ≤ 1048576)
def OpenSpec.upto (s : _root_.Go.ChangeSpec) : _root_.Go.OpenSpec := { _root_.Go.OpenSpec.ofChange s with cond := some uptoSmall }

/-- 'weftlaw7.TunnelMemory', WHERE WHAT IT READS IS OF BULK AT MOST 1048576: true; the input reads as it did. -/
def tunnelMemoryUptoRow : OpenClaim := { program := "ytcelcnafcfefhab", sum := "366e3630cabf8a375adc1e403f315a6c7f9948e0b94a7bd78e663ae3ed29db2d", func := "weft/weftlaw7.TunnelMemory", spec := "tunnelMemory", unfollowed := true, recurses := true, apart := false, narrowed := true }
def TunnelMemoryUptoSaid : Prop := tunnelMemoryUptoRow.holds Try.pinned (OpenSpec.upto tunnelMemorySpec)

/-- 'weftlaw7.TunnelSeals', WHERE WHAT IT READS IS OF BULK AT MOST 1048576: true; the input reads as it did. -/
def tunnelSealsUptoRow : OpenClaim := { program := "ytcelcnafcfefhab", sum := "366e3630cabf8a375adc1e403f315a6c7f9948e0b94a7bd78e663ae3ed29db2d", func := "weft/weftlaw7.TunnelSeals", spec := "tunnelSeals", unfollowed := true, recurses := true, apart := false, narrowed := true }
def TunnelSealsUptoSaid : Prop := tunnelSealsUptoRow.holds Try.pinned (OpenSpec.upto tunnelSealsSpec)

/-- 'weftlaw7.TunnelFlows', WHERE WHAT IT READS IS OF BULK AT MOST 1048576: true; the input reads as it did. -/
def tunnelFlowsUptoRow : OpenClaim := { program := "ytcelcnafcfefhab", sum := "366e3630cabf8a375adc1e403f315a6c7f9948e0b94a7bd78e663ae3ed29db2d", func := "weft/weftlaw7.TunnelFlows", spec := "tunnelFlows", unfollowed := true, recurses := true, apart := false, narrowed := true }
def TunnelFlowsUptoSaid : Prop := tunnelFlowsUptoRow.holds Try.pinned (OpenSpec.upto tunnelFlowsSpec)

/-- 'weftlaw7.TunnelOpens', WHERE WHAT IT READS IS OF BULK AT MOST 1048576: true; the input reads as it did. -/
def tunnelOpensUptoRow : OpenClaim := { program := "ytcelcnafcfefhab", sum := "366e3630cabf8a375adc1e403f315a6c7f9948e0b94a7bd78e663ae3ed29db2d", func := "weft/weftlaw7.TunnelOpens", spec := "tunnelOpens", unfollowed := true, recurses := true, apart := false, narrowed := true }
def TunnelOpensUptoSaid : Prop := tunnelOpensUptoRow.holds Try.pinned (OpenSpec.upto tunnelOpensSpec)

/-- 'weftlaw7.TunnelScript', WHERE WHAT IT READS IS OF BULK AT MOST 1048576: true; the input reads as it did. -/
def tunnelScriptUptoRow : OpenClaim := { program := "ytcelcnafcfefhab", sum := "366e3630cabf8a375adc1e403f315a6c7f9948e0b94a7bd78e663ae3ed29db2d", func := "weft/weftlaw7.TunnelScript", spec := "tunnelScript", unfollowed := true, recurses := true, apart := false, narrowed := true }
def TunnelScriptUptoSaid : Prop := tunnelScriptUptoRow.holds Try.pinned (OpenSpec.upto tunnelScriptSpec)

end Rows
end Go.Proofs.Ytcelcnafcfefhab
