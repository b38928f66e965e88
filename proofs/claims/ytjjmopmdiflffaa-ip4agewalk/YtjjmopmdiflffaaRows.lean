/-
  No cell of these rows narrows 'for every input' (looked for: loops, veiled, ifaces, maps, wideKeys, modest, calm, conditions, laid).
  DERIVED. THE GIVEN ROWS OF THIS SEAT. 6 by the template 'for every input the law returns true; each argument reads behind the call as it read before'; 0 by the template 'total and deterministic' (their statements: YtjjmopmdiflffaaTotals.lean).
  GIVEN WITH THE SEED: the statements are not yours to turn. If you find one false, say at which input.
  Laid BY PROGRAM, IN A SANDBOX (cutbox-rows.mjs): the forced cells as the released guide's own fill.sh prints them over the translation c4106988a26fb4bc… (all of the seat's roots in one cut). By AI agents, Wed Nov 11 2026. No macro, syntax, notation, axiom, sorry.
-/
import Derived.Test.YtjjmopmdiflffaaChecked
import GoSem.Claim
import GoSem.ClaimJoined
import GoSem.ClaimMapViews
import Derived.JoinedTies
import Derived.KernelRfl
namespace Go.Proofs.Ytjjmopmdiflffaa
/- THE CELL 'sum', in the pinned program and in every row, IS THE sha256 OF THE DUMP (.gsa) THAT YtjjmopmdiflffaaProg.lean LOADS. Nothing in Lean hashes anything: it is a label: what it is worth is what the hold of that sum in a sandbox is worth. -/
noncomputable def Try.pinned : Pinned := { name := "ytjjmopmdiflffaa", sum := "c4106988a26fb4bc2335a93b9c3f8aa94dca589cdc74e6a004b2cdb9e036b9af", checked := Try.checked }
namespace Rows
def none {H : Type} : Left H := { results := [], args := [] }

/-- 'weftlaw3.Ip4SumJoins': WHATEVER THE INPUT: true; the input reads as it did. -/
def ip4SumJoinsSpec : ChangeSpec := { name := "ip4SumJoins", fn := fun _ => fun
  | [d1, d2] => { results := [.lit (.bool true)], args := [d1, d2] }
  | _ => none }
def ip4SumJoinsRow : OpenClaim := { program := "ytjjmopmdiflffaa", sum := "c4106988a26fb4bc2335a93b9c3f8aa94dca589cdc74e6a004b2cdb9e036b9af", func := "weft/weftlaw3.Ip4SumJoins", spec := "ip4SumJoins", apart := false }
def Ip4SumJoinsSaid : Prop := ip4SumJoinsRow.holds Try.pinned (OpenSpec.ofChange ip4SumJoinsSpec)

/-- ITS FALSE NEIGHBOUR: 'it returns false'. Refute it at one input. -/
def ip4SumJoinsWrong : ChangeSpec := { name := "ip4SumJoins", fn := fun _ => fun
  | [d1, d2] => { results := [.lit (.bool false)], args := [d1, d2] }
  | _ => none }
def Ip4SumJoinsWrongFalsely : Prop := ip4SumJoinsRow.holds Try.pinned (OpenSpec.ofChange ip4SumJoinsWrong)

/-- 'weftlaw3.Ip4AdjustSum': WHATEVER THE INPUT: true; the input reads as it did. -/
def ip4AdjustSumSpec : ChangeSpec := { name := "ip4AdjustSum", fn := fun _ => fun
  | [d1, d2, d3] => { results := [.lit (.bool true)], args := [d1, d2, d3] }
  | _ => none }
def ip4AdjustSumRow : OpenClaim := { program := "ytjjmopmdiflffaa", sum := "c4106988a26fb4bc2335a93b9c3f8aa94dca589cdc74e6a004b2cdb9e036b9af", func := "weft/weftlaw3.Ip4AdjustSum", spec := "ip4AdjustSum", apart := false }
def Ip4AdjustSumSaid : Prop := ip4AdjustSumRow.holds Try.pinned (OpenSpec.ofChange ip4AdjustSumSpec)

/-- ITS FALSE NEIGHBOUR: 'it returns false'. Refute it at one input. -/
def ip4AdjustSumWrong : ChangeSpec := { name := "ip4AdjustSum", fn := fun _ => fun
  | [d1, d2, d3] => { results := [.lit (.bool false)], args := [d1, d2, d3] }
  | _ => none }
def Ip4AdjustSumWrongFalsely : Prop := ip4AdjustSumRow.holds Try.pinned (OpenSpec.ofChange ip4AdjustSumWrong)

/-- 'weftlaw3.Ip4CopiedOnce': WHATEVER THE INPUT: true; the input reads as it did. -/
def ip4CopiedOnceSpec : ChangeSpec := { name := "ip4CopiedOnce", fn := fun _ => fun
  | [d] => { results := [.lit (.bool true)], args := [d] }
  | _ => none }
def ip4CopiedOnceRow : OpenClaim := { program := "ytjjmopmdiflffaa", sum := "c4106988a26fb4bc2335a93b9c3f8aa94dca589cdc74e6a004b2cdb9e036b9af", func := "weft/weftlaw3.Ip4CopiedOnce", spec := "ip4CopiedOnce", unfollowed := true, recurses := true, apart := false }
def Ip4CopiedOnceSaid : Prop := ip4CopiedOnceRow.holds Try.pinned (OpenSpec.ofChange ip4CopiedOnceSpec)

/-- ITS FALSE NEIGHBOUR: 'it returns false'. Refute it at one input. -/
def ip4CopiedOnceWrong : ChangeSpec := { name := "ip4CopiedOnce", fn := fun _ => fun
  | [d] => { results := [.lit (.bool false)], args := [d] }
  | _ => none }
def Ip4CopiedOnceWrongFalsely : Prop := ip4CopiedOnceRow.holds Try.pinned (OpenSpec.ofChange ip4CopiedOnceWrong)

/-- 'weftlaw3.Ip4ParsesBack': WHATEVER THE INPUT: true; the input reads as it did. -/
def ip4ParsesBackSpec : ChangeSpec := { name := "ip4ParsesBack", fn := fun _ => fun
  | [d] => { results := [.lit (.bool true)], args := [d] }
  | _ => none }
def ip4ParsesBackRow : OpenClaim := { program := "ytjjmopmdiflffaa", sum := "c4106988a26fb4bc2335a93b9c3f8aa94dca589cdc74e6a004b2cdb9e036b9af", func := "weft/weftlaw3.Ip4ParsesBack", spec := "ip4ParsesBack", unfollowed := true, recurses := true, apart := false }
def Ip4ParsesBackSaid : Prop := ip4ParsesBackRow.holds Try.pinned (OpenSpec.ofChange ip4ParsesBackSpec)

/-- ITS FALSE NEIGHBOUR: 'it returns false'. Refute it at one input. -/
def ip4ParsesBackWrong : ChangeSpec := { name := "ip4ParsesBack", fn := fun _ => fun
  | [d] => { results := [.lit (.bool false)], args := [d] }
  | _ => none }
def Ip4ParsesBackWrongFalsely : Prop := ip4ParsesBackRow.holds Try.pinned (OpenSpec.ofChange ip4ParsesBackWrong)

/-- 'weftlaw3.Ip4FlipTold': WHATEVER THE INPUT: true; the input reads as it did. -/
def ip4FlipToldSpec : ChangeSpec := { name := "ip4FlipTold", fn := fun _ => fun
  | [d1, d2] => { results := [.lit (.bool true)], args := [d1, d2] }
  | _ => none }
def ip4FlipToldRow : OpenClaim := { program := "ytjjmopmdiflffaa", sum := "c4106988a26fb4bc2335a93b9c3f8aa94dca589cdc74e6a004b2cdb9e036b9af", func := "weft/weftlaw3.Ip4FlipTold", spec := "ip4FlipTold", unfollowed := true, recurses := true, apart := false }
def Ip4FlipToldSaid : Prop := ip4FlipToldRow.holds Try.pinned (OpenSpec.ofChange ip4FlipToldSpec)

/-- ITS FALSE NEIGHBOUR: 'it returns false'. Refute it at one input. -/
def ip4FlipToldWrong : ChangeSpec := { name := "ip4FlipTold", fn := fun _ => fun
  | [d1, d2] => { results := [.lit (.bool false)], args := [d1, d2] }
  | _ => none }
def Ip4FlipToldWrongFalsely : Prop := ip4FlipToldRow.holds Try.pinned (OpenSpec.ofChange ip4FlipToldWrong)

/-- 'weftlaw3.Ip4AgeWalk': WHATEVER THE INPUT: true; the input reads as it did. -/
def ip4AgeWalkSpec : ChangeSpec := { name := "ip4AgeWalk", fn := fun _ => fun
  | [d1, d2] => { results := [.lit (.bool true)], args := [d1, d2] }
  | _ => none }
def ip4AgeWalkRow : OpenClaim := { program := "ytjjmopmdiflffaa", sum := "c4106988a26fb4bc2335a93b9c3f8aa94dca589cdc74e6a004b2cdb9e036b9af", func := "weft/weftlaw3.Ip4AgeWalk", spec := "ip4AgeWalk", unfollowed := true, recurses := true, apart := false }
def Ip4AgeWalkSaid : Prop := ip4AgeWalkRow.holds Try.pinned (OpenSpec.ofChange ip4AgeWalkSpec)

/-- ITS FALSE NEIGHBOUR: 'it returns false'. Refute it at one input. -/
def ip4AgeWalkWrong : ChangeSpec := { name := "ip4AgeWalk", fn := fun _ => fun
  | [d1, d2] => { results := [.lit (.bool false)], args := [d1, d2] }
  | _ => none }
def Ip4AgeWalkWrongFalsely : Prop := ip4AgeWalkRow.holds Try.pinned (OpenSpec.ofChange ip4AgeWalkWrong)

/- THE SECOND FORM. 'bulk': how many values and letters a reading holds, each counted each time it is reached (what is shared counts as often as it is met; a slice's spare places count too). A statement '..UptoSaid' is the law's where the arguments, and the package variables that the reading takes, are together of bulk at most 1048576: NARROWER than '..Said'. Prove '..Said' where nothing that the law and all that it calls make is longer than what came in: it says more and counts as full. Else prove '..UptoSaid'. A law counts once. -/
mutual
def uptoBulk {H : Type} : DataW H → Nat
  | .lit (.string bytes) => bytes.length + 1
  | .lit _ => 1
  | .nil => 1
  | .ptr d => uptoBulk d + 1
  | .slice elems spare => uptoBulkAll elems + uptoBulkAll spare + 1
  | .agg parts => uptoBulkAll parts + 1
  | .iface _ d => uptoBulk d + 1
  | .map entries => uptoBulkEntries entries + 1
  | .held _ => 1
def uptoBulkAll {H : Type} : List (DataW H) → Nat
  | [] => 0
  | d :: r => uptoBulk d + uptoBulkAll r
def uptoBulkEntries {H : Type} : List (Lit × DataW H) → Nat
  | [] => 0
  | x :: r => uptoBulkEntry x + uptoBulkEntries r
def uptoBulkEntry {H : Type} : Lit × DataW H → Nat
  | (.string bytes, d) => bytes.length + uptoBulk d + 1
  | (_, d) => uptoBulk d + 1
 end
def uptoSmall : (H : Type) → List (DataW H) → Bool := fun _ ds => decide (uptoBulkAll ds ≤ 1048576)
def OpenSpec.upto (s : _root_.Go.ChangeSpec) : _root_.Go.OpenSpec := { _root_.Go.OpenSpec.ofChange s with cond := some uptoSmall }

/-- 'weftlaw3.Ip4SumJoins', WHERE WHAT IT READS IS OF BULK AT MOST 1048576: true; the input reads as it did. -/
def ip4SumJoinsUptoRow : OpenClaim := { program := "ytjjmopmdiflffaa", sum := "c4106988a26fb4bc2335a93b9c3f8aa94dca589cdc74e6a004b2cdb9e036b9af", func := "weft/weftlaw3.Ip4SumJoins", spec := "ip4SumJoins", apart := false, narrowed := true }
def Ip4SumJoinsUptoSaid : Prop := ip4SumJoinsUptoRow.holds Try.pinned (OpenSpec.upto ip4SumJoinsSpec)

/-- 'weftlaw3.Ip4AdjustSum', WHERE WHAT IT READS IS OF BULK AT MOST 1048576: true; the input reads as it did. -/
def ip4AdjustSumUptoRow : OpenClaim := { program := "ytjjmopmdiflffaa", sum := "c4106988a26fb4bc2335a93b9c3f8aa94dca589cdc74e6a004b2cdb9e036b9af", func := "weft/weftlaw3.Ip4AdjustSum", spec := "ip4AdjustSum", apart := false, narrowed := true }
def Ip4AdjustSumUptoSaid : Prop := ip4AdjustSumUptoRow.holds Try.pinned (OpenSpec.upto ip4AdjustSumSpec)

/-- 'weftlaw3.Ip4CopiedOnce', WHERE WHAT IT READS IS OF BULK AT MOST 1048576: true; the input reads as it did. -/
def ip4CopiedOnceUptoRow : OpenClaim := { program := "ytjjmopmdiflffaa", sum := "c4106988a26fb4bc2335a93b9c3f8aa94dca589cdc74e6a004b2cdb9e036b9af", func := "weft/weftlaw3.Ip4CopiedOnce", spec := "ip4CopiedOnce", unfollowed := true, recurses := true, apart := false, narrowed := true }
def Ip4CopiedOnceUptoSaid : Prop := ip4CopiedOnceUptoRow.holds Try.pinned (OpenSpec.upto ip4CopiedOnceSpec)

/-- 'weftlaw3.Ip4ParsesBack', WHERE WHAT IT READS IS OF BULK AT MOST 1048576: true; the input reads as it did. -/
def ip4ParsesBackUptoRow : OpenClaim := { program := "ytjjmopmdiflffaa", sum := "c4106988a26fb4bc2335a93b9c3f8aa94dca589cdc74e6a004b2cdb9e036b9af", func := "weft/weftlaw3.Ip4ParsesBack", spec := "ip4ParsesBack", unfollowed := true, recurses := true, apart := false, narrowed := true }
def Ip4ParsesBackUptoSaid : Prop := ip4ParsesBackUptoRow.holds Try.pinned (OpenSpec.upto ip4ParsesBackSpec)

/-- 'weftlaw3.Ip4FlipTold', WHERE WHAT IT READS IS OF BULK AT MOST 1048576: true; the input reads as it did. -/
def ip4FlipToldUptoRow : OpenClaim := { program := "ytjjmopmdiflffaa", sum := "c4106988a26fb4bc2335a93b9c3f8aa94dca589cdc74e6a004b2cdb9e036b9af", func := "weft/weftlaw3.Ip4FlipTold", spec := "ip4FlipTold", unfollowed := true, recurses := true, apart := false, narrowed := true }
def Ip4FlipToldUptoSaid : Prop := ip4FlipToldUptoRow.holds Try.pinned (OpenSpec.upto ip4FlipToldSpec)

/-- 'weftlaw3.Ip4AgeWalk', WHERE WHAT IT READS IS OF BULK AT MOST 1048576: true; the input reads as it did. -/
def ip4AgeWalkUptoRow : OpenClaim := { program := "ytjjmopmdiflffaa", sum := "c4106988a26fb4bc2335a93b9c3f8aa94dca589cdc74e6a004b2cdb9e036b9af", func := "weft/weftlaw3.Ip4AgeWalk", spec := "ip4AgeWalk", unfollowed := true, recurses := true, apart := false, narrowed := true }
def Ip4AgeWalkUptoSaid : Prop := ip4AgeWalkUptoRow.holds Try.pinned (OpenSpec.upto ip4AgeWalkSpec)

end Rows
end Go.Proofs.Ytjjmopmdiflffaa
