/-
  No cell of these rows narrows 'for every input' (looked for: loops, veiled, ifaces, maps, wideKeys, modest, calm, conditions, laid).
  DERIVED. THE GIVEN ROWS OF THIS SEAT. 6 by the template 'for every input the law returns true; each argument reads behind the call as it read before'; 0 by the template 'total and deterministic' (their statements: YtjjmopmdiflffabTotals.lean).
  GIVEN WITH THE SEED: the statements are not yours to turn. If you find one false, say at which input.
  Laid BY PROGRAM, IN A SANDBOX (cutbox-rows.mjs): the forced cells as the released guide's own fill.sh prints them over the translation 1575b72e9a426301… (all of the seat's roots in one cut). By AI agents, Wed Nov 11 2026. No macro, syntax, notation, axiom, sorry.
-/
import Derived.Test.YtjjmopmdiflffabChecked
import GoSem.Claim
import GoSem.ClaimJoined
import GoSem.ClaimMapViews
import Derived.JoinedTies
import Derived.KernelRfl
namespace Go.Proofs.Ytjjmopmdiflffab
/- THE CELL 'sum', in the pinned program and in every row, IS THE sha256 OF THE DUMP (.gsa) THAT YtjjmopmdiflffabProg.lean LOADS. Nothing in Lean hashes anything: it is a label: what it is worth is what the hold of that sum in a sandbox is worth. -/
noncomputable def Try.pinned : Pinned := { name := "ytjjmopmdiflffab", sum := "1575b72e9a4263016586357eff0a2985e17e4cbe6d4d8d7bb465689fd02c3338", checked := Try.checked }
namespace Rows
def none {H : Type} : Left H := { results := [], args := [] }

/-- 'weftlaw3.Ip4PeeksFront': WHATEVER THE INPUT: true; the input reads as it did. -/
def ip4PeeksFrontSpec : ChangeSpec := { name := "ip4PeeksFront", fn := fun _ => fun
  | [d1, d2] => { results := [.lit (.bool true)], args := [d1, d2] }
  | _ => none }
def ip4PeeksFrontRow : OpenClaim := { program := "ytjjmopmdiflffab", sum := "1575b72e9a4263016586357eff0a2985e17e4cbe6d4d8d7bb465689fd02c3338", func := "weft/weftlaw3.Ip4PeeksFront", spec := "ip4PeeksFront", unfollowed := true, recurses := true, apart := false }
def Ip4PeeksFrontSaid : Prop := ip4PeeksFrontRow.holds Try.pinned (OpenSpec.ofChange ip4PeeksFrontSpec)

/-- ITS FALSE NEIGHBOUR: 'it returns false'. Refute it at one input. -/
def ip4PeeksFrontWrong : ChangeSpec := { name := "ip4PeeksFront", fn := fun _ => fun
  | [d1, d2] => { results := [.lit (.bool false)], args := [d1, d2] }
  | _ => none }
def Ip4PeeksFrontWrongFalsely : Prop := ip4PeeksFrontRow.holds Try.pinned (OpenSpec.ofChange ip4PeeksFrontWrong)

/-- 'weftlaw3.Ip4BuildsBack': WHATEVER THE INPUT: true; the input reads as it did. -/
def ip4BuildsBackSpec : ChangeSpec := { name := "ip4BuildsBack", fn := fun _ => fun
  | [d1, d2] => { results := [.lit (.bool true)], args := [d1, d2] }
  | _ => none }
def ip4BuildsBackRow : OpenClaim := { program := "ytjjmopmdiflffab", sum := "1575b72e9a4263016586357eff0a2985e17e4cbe6d4d8d7bb465689fd02c3338", func := "weft/weftlaw3.Ip4BuildsBack", spec := "ip4BuildsBack", unfollowed := true, recurses := true, apart := false }
def Ip4BuildsBackSaid : Prop := ip4BuildsBackRow.holds Try.pinned (OpenSpec.ofChange ip4BuildsBackSpec)

/-- ITS FALSE NEIGHBOUR: 'it returns false'. Refute it at one input. -/
def ip4BuildsBackWrong : ChangeSpec := { name := "ip4BuildsBack", fn := fun _ => fun
  | [d1, d2] => { results := [.lit (.bool false)], args := [d1, d2] }
  | _ => none }
def Ip4BuildsBackWrongFalsely : Prop := ip4BuildsBackRow.holds Try.pinned (OpenSpec.ofChange ip4BuildsBackWrong)

/-- 'weftlaw3.Ip4TwoZeros': WHATEVER THE INPUT: true; the input reads as it did. -/
def ip4TwoZerosSpec : ChangeSpec := { name := "ip4TwoZeros", fn := fun _ => fun
  | [d] => { results := [.lit (.bool true)], args := [d] }
  | _ => none }
def ip4TwoZerosRow : OpenClaim := { program := "ytjjmopmdiflffab", sum := "1575b72e9a4263016586357eff0a2985e17e4cbe6d4d8d7bb465689fd02c3338", func := "weft/weftlaw3.Ip4TwoZeros", spec := "ip4TwoZeros", unfollowed := true, recurses := true, apart := false }
def Ip4TwoZerosSaid : Prop := ip4TwoZerosRow.holds Try.pinned (OpenSpec.ofChange ip4TwoZerosSpec)

/-- ITS FALSE NEIGHBOUR: 'it returns false'. Refute it at one input. -/
def ip4TwoZerosWrong : ChangeSpec := { name := "ip4TwoZeros", fn := fun _ => fun
  | [d] => { results := [.lit (.bool false)], args := [d] }
  | _ => none }
def Ip4TwoZerosWrongFalsely : Prop := ip4TwoZerosRow.holds Try.pinned (OpenSpec.ofChange ip4TwoZerosWrong)

/-- 'weftlaw3.Ip4Sums': WHATEVER THE INPUT: true; the input reads as it did. -/
def ip4SumsSpec : ChangeSpec := { name := "ip4Sums", fn := fun _ => fun
  | [d] => { results := [.lit (.bool true)], args := [d] }
  | _ => none }
def ip4SumsRow : OpenClaim := { program := "ytjjmopmdiflffab", sum := "1575b72e9a4263016586357eff0a2985e17e4cbe6d4d8d7bb465689fd02c3338", func := "weft/weftlaw3.Ip4Sums", spec := "ip4Sums", unfollowed := true, recurses := true, apart := false }
def Ip4SumsSaid : Prop := ip4SumsRow.holds Try.pinned (OpenSpec.ofChange ip4SumsSpec)

/-- ITS FALSE NEIGHBOUR: 'it returns false'. Refute it at one input. -/
def ip4SumsWrong : ChangeSpec := { name := "ip4Sums", fn := fun _ => fun
  | [d] => { results := [.lit (.bool false)], args := [d] }
  | _ => none }
def Ip4SumsWrongFalsely : Prop := ip4SumsRow.holds Try.pinned (OpenSpec.ofChange ip4SumsWrong)

/-- 'weftlaw3.Ip4Adjusts': WHATEVER THE INPUT: true; the input reads as it did. -/
def ip4AdjustsSpec : ChangeSpec := { name := "ip4Adjusts", fn := fun _ => fun
  | [d] => { results := [.lit (.bool true)], args := [d] }
  | _ => none }
def ip4AdjustsRow : OpenClaim := { program := "ytjjmopmdiflffab", sum := "1575b72e9a4263016586357eff0a2985e17e4cbe6d4d8d7bb465689fd02c3338", func := "weft/weftlaw3.Ip4Adjusts", spec := "ip4Adjusts", unfollowed := true, recurses := true, apart := false }
def Ip4AdjustsSaid : Prop := ip4AdjustsRow.holds Try.pinned (OpenSpec.ofChange ip4AdjustsSpec)

/-- ITS FALSE NEIGHBOUR: 'it returns false'. Refute it at one input. -/
def ip4AdjustsWrong : ChangeSpec := { name := "ip4Adjusts", fn := fun _ => fun
  | [d] => { results := [.lit (.bool false)], args := [d] }
  | _ => none }
def Ip4AdjustsWrongFalsely : Prop := ip4AdjustsRow.holds Try.pinned (OpenSpec.ofChange ip4AdjustsWrong)

/-- 'weftlaw3.Ip4Parses': WHATEVER THE INPUT: true; the input reads as it did. -/
def ip4ParsesSpec : ChangeSpec := { name := "ip4Parses", fn := fun _ => fun
  | [d] => { results := [.lit (.bool true)], args := [d] }
  | _ => none }
def ip4ParsesRow : OpenClaim := { program := "ytjjmopmdiflffab", sum := "1575b72e9a4263016586357eff0a2985e17e4cbe6d4d8d7bb465689fd02c3338", func := "weft/weftlaw3.Ip4Parses", spec := "ip4Parses", unfollowed := true, recurses := true, apart := false }
def Ip4ParsesSaid : Prop := ip4ParsesRow.holds Try.pinned (OpenSpec.ofChange ip4ParsesSpec)

/-- ITS FALSE NEIGHBOUR: 'it returns false'. Refute it at one input. -/
def ip4ParsesWrong : ChangeSpec := { name := "ip4Parses", fn := fun _ => fun
  | [d] => { results := [.lit (.bool false)], args := [d] }
  | _ => none }
def Ip4ParsesWrongFalsely : Prop := ip4ParsesRow.holds Try.pinned (OpenSpec.ofChange ip4ParsesWrong)

/- THE SECOND FORM. 'bulk': how many values and letters a reading holds, each counted each time it is reached (what is shared counts as often as it is met; a slice's spare places count too). A statement '..UptoSaid' is the law's where the arguments, and the package variables that the reading takes, are together of bulk at most 1048576: NARROWER than '..Said'. Prove '..Said' where nothing that the law and all that it calls make is longer than what came in: it says more and counts as full. Else prove '..UptoSaid'. A law counts once. -/
mutual
def uptoBulk {H : Type} : DataW H → Nat
  | .lit (.string bytes) => bytes.length + 1
  | .lit _ => 1
  | .nil => 1
  | .ptr d => uptoBulk d + 1
  | .slice elems spare => uptoBulkAll elems + uptoBulkAll spare + 1
  | .agg parts => uptoBulkAll parts + 1
  | .iface _ d => uptoBulk d + 1
  | .map entries => uptoBulkEntries entries + 1
  | .held _ => 1
def uptoBulkAll {H : Type} : List (DataW H) → Nat
  | [] => 0
  | d :: r => uptoBulk d + uptoBulkAll r
def uptoBulkEntries {H : Type} : List (Lit × DataW H) → Nat
  | [] => 0
  | x :: r => uptoBulkEntry x + uptoBulkEntries r
def uptoBulkEntry {H : Type} : Lit × DataW H → Nat
  | (.string bytes, d) => bytes.length + uptoBulk d + 1
  | (_, d) => uptoBulk d + 1
 end
def uptoSmall : (H : Type) → List (DataW H) → Bool := fun _ ds => decide (uptoBulkAll ds ≤ 1048576)
def OpenSpec.upto (s : _root_.Go.ChangeSpec) : _root_.Go.OpenSpec := { _root_.Go.OpenSpec.ofChange s with cond := some uptoSmall }

/-- 'weftlaw3.Ip4PeeksFront', WHERE WHAT IT READS IS OF BULK AT MOST 1048576: true; the input reads as it did. -/
def ip4PeeksFrontUptoRow : OpenClaim := { program := "ytjjmopmdiflffab", sum := "1575b72e9a4263016586357eff0a2985e17e4cbe6d4d8d7bb465689fd02c3338", func := "weft/weftlaw3.Ip4PeeksFront", spec := "ip4PeeksFront", unfollowed := true, recurses := true, apart := false, narrowed := true }
def Ip4PeeksFrontUptoSaid : Prop := ip4PeeksFrontUptoRow.holds Try.pinned (OpenSpec.upto ip4PeeksFrontSpec)

/-- 'weftlaw3.Ip4BuildsBack', WHERE WHAT IT READS IS OF BULK AT MOST 1048576: true; the input reads as it did. -/
def ip4BuildsBackUptoRow : OpenClaim := { program := "ytjjmopmdiflffab", sum := "1575b72e9a4263016586357eff0a2985e17e4cbe6d4d8d7bb465689fd02c3338", func := "weft/weftlaw3.Ip4BuildsBack", spec := "ip4BuildsBack", unfollowed := true, recurses := true, apart := false, narrowed := true }
def Ip4BuildsBackUptoSaid : Prop := ip4BuildsBackUptoRow.holds Try.pinned (OpenSpec.upto ip4BuildsBackSpec)

/-- 'weftlaw3.Ip4TwoZeros', WHERE WHAT IT READS IS OF BULK AT MOST 1048576: true; the input reads as it did. -/
def ip4TwoZerosUptoRow : OpenClaim := { program := "ytjjmopmdiflffab", sum := "1575b72e9a4263016586357eff0a2985e17e4cbe6d4d8d7bb465689fd02c3338", func := "weft/weftlaw3.Ip4TwoZeros", spec := "ip4TwoZeros", unfollowed := true, recurses := true, apart := false, narrowed := true }
def Ip4TwoZerosUptoSaid : Prop := ip4TwoZerosUptoRow.holds Try.pinned (OpenSpec.upto ip4TwoZerosSpec)

/-- 'weftlaw3.Ip4Sums', WHERE WHAT IT READS IS OF BULK AT MOST 1048576: true; the input reads as it did. -/
def ip4SumsUptoRow : OpenClaim := { program := "ytjjmopmdiflffab", sum := "1575b72e9a4263016586357eff0a2985e17e4cbe6d4d8d7bb465689fd02c3338", func := "weft/weftlaw3.Ip4Sums", spec := "ip4Sums", unfollowed := true, recurses := true, apart := false, narrowed := true }
def Ip4SumsUptoSaid : Prop := ip4SumsUptoRow.holds Try.pinned (OpenSpec.upto ip4SumsSpec)

/-- 'weftlaw3.Ip4Adjusts', WHERE WHAT IT READS IS OF BULK AT MOST 1048576: true; the input reads as it did. -/
def ip4AdjustsUptoRow : OpenClaim := { program := "ytjjmopmdiflffab", sum := "1575b72e9a4263016586357eff0a2985e17e4cbe6d4d8d7bb465689fd02c3338", func := "weft/weftlaw3.Ip4Adjusts", spec := "ip4Adjusts", unfollowed := true, recurses := true, apart := false, narrowed := true }
def Ip4AdjustsUptoSaid : Prop := ip4AdjustsUptoRow.holds Try.pinned (OpenSpec.upto ip4AdjustsSpec)

/-- 'weftlaw3.Ip4Parses', WHERE WHAT IT READS IS OF BULK AT MOST 1048576: true; the input reads as it did. -/
def ip4ParsesUptoRow : OpenClaim := { program := "ytjjmopmdiflffab", sum := "1575b72e9a4263016586357eff0a2985e17e4cbe6d4d8d7bb465689fd02c3338", func := "weft/weftlaw3.Ip4Parses", spec := "ip4Parses", unfollowed := true, recurses := true, apart := false, narrowed := true }
def Ip4ParsesUptoSaid : Prop := ip4ParsesUptoRow.holds Try.pinned (OpenSpec.upto ip4ParsesSpec)

end Rows
end Go.Proofs.Ytjjmopmdiflffab
