/-
  No cell of these rows narrows 'for every input' (looked for: loops, veiled, ifaces, maps, wideKeys, modest, calm, conditions, laid).
  DERIVED. THE GIVEN ROWS OF THIS SEAT. 6 by the template 'for every input the law returns true; each argument reads behind the call as it read before'; 0 by the template 'total and deterministic' (their statements: YtjjmopmdiflffacTotals.lean).
  GIVEN WITH THE SEED: the statements are not yours to turn. If you find one false, say at which input.
  Laid BY PROGRAM, IN A SANDBOX (cutbox-rows.mjs): the forced cells as the released guide's own fill.sh prints them over the translation 8f7d46378b6077b1… (all of the seat's roots in one cut). By AI agents, Wed Nov 11 2026. No macro, syntax, notation, axiom, sorry.
-/
import Derived.Test.YtjjmopmdiflffacChecked
import GoSem.Claim
import GoSem.ClaimJoined
import GoSem.ClaimMapViews
import Derived.JoinedTies
import Derived.KernelRfl
namespace Go.Proofs.Ytjjmopmdiflffac
/- THE CELL 'sum', in the pinned program and in every row, IS THE sha256 OF THE DUMP (.gsa) THAT YtjjmopmdiflffacProg.lean LOADS. Nothing in Lean hashes anything: it is a label: what it is worth is what the hold of that sum in a sandbox is worth. -/
noncomputable def Try.pinned : Pinned := { name := "ytjjmopmdiflffac", sum := "8f7d46378b6077b1f087dd5520abce58dddffb7864e613d85e5e247056b57338", checked := Try.checked }
namespace Rows
def none {H : Type} : Left H := { results := [], args := [] }

/-- 'weftlaw3.Ip4Peeks': WHATEVER THE INPUT: true; the input reads as it did. -/
def ip4PeeksSpec : ChangeSpec := { name := "ip4Peeks", fn := fun _ => fun
  | [d] => { results := [.lit (.bool true)], args := [d] }
  | _ => none }
def ip4PeeksRow : OpenClaim := { program := "ytjjmopmdiflffac", sum := "8f7d46378b6077b1f087dd5520abce58dddffb7864e613d85e5e247056b57338", func := "weft/weftlaw3.Ip4Peeks", spec := "ip4Peeks", unfollowed := true, recurses := true, apart := false }
def Ip4PeeksSaid : Prop := ip4PeeksRow.holds Try.pinned (OpenSpec.ofChange ip4PeeksSpec)

/-- ITS FALSE NEIGHBOUR: 'it returns false'. Refute it at one input. -/
def ip4PeeksWrong : ChangeSpec := { name := "ip4Peeks", fn := fun _ => fun
  | [d] => { results := [.lit (.bool false)], args := [d] }
  | _ => none }
def Ip4PeeksWrongFalsely : Prop := ip4PeeksRow.holds Try.pinned (OpenSpec.ofChange ip4PeeksWrong)

/-- 'weftlaw3.Ip4Builds': WHATEVER THE INPUT: true; the input reads as it did. -/
def ip4BuildsSpec : ChangeSpec := { name := "ip4Builds", fn := fun _ => fun
  | [d] => { results := [.lit (.bool true)], args := [d] }
  | _ => none }
def ip4BuildsRow : OpenClaim := { program := "ytjjmopmdiflffac", sum := "8f7d46378b6077b1f087dd5520abce58dddffb7864e613d85e5e247056b57338", func := "weft/weftlaw3.Ip4Builds", spec := "ip4Builds", unfollowed := true, recurses := true, apart := false }
def Ip4BuildsSaid : Prop := ip4BuildsRow.holds Try.pinned (OpenSpec.ofChange ip4BuildsSpec)

/-- ITS FALSE NEIGHBOUR: 'it returns false'. Refute it at one input. -/
def ip4BuildsWrong : ChangeSpec := { name := "ip4Builds", fn := fun _ => fun
  | [d] => { results := [.lit (.bool false)], args := [d] }
  | _ => none }
def Ip4BuildsWrongFalsely : Prop := ip4BuildsRow.holds Try.pinned (OpenSpec.ofChange ip4BuildsWrong)

/-- 'weftlaw3.Ip4Ages': WHATEVER THE INPUT: true; the input reads as it did. -/
def ip4AgesSpec : ChangeSpec := { name := "ip4Ages", fn := fun _ => fun
  | [d] => { results := [.lit (.bool true)], args := [d] }
  | _ => none }
def ip4AgesRow : OpenClaim := { program := "ytjjmopmdiflffac", sum := "8f7d46378b6077b1f087dd5520abce58dddffb7864e613d85e5e247056b57338", func := "weft/weftlaw3.Ip4Ages", spec := "ip4Ages", unfollowed := true, recurses := true, apart := false }
def Ip4AgesSaid : Prop := ip4AgesRow.holds Try.pinned (OpenSpec.ofChange ip4AgesSpec)

/-- ITS FALSE NEIGHBOUR: 'it returns false'. Refute it at one input. -/
def ip4AgesWrong : ChangeSpec := { name := "ip4Ages", fn := fun _ => fun
  | [d] => { results := [.lit (.bool false)], args := [d] }
  | _ => none }
def Ip4AgesWrongFalsely : Prop := ip4AgesRow.holds Try.pinned (OpenSpec.ofChange ip4AgesWrong)

/-- 'weftlaw3.Ip4Copies': WHATEVER THE INPUT: true; the input reads as it did. -/
def ip4CopiesSpec : ChangeSpec := { name := "ip4Copies", fn := fun _ => fun
  | [d] => { results := [.lit (.bool true)], args := [d] }
  | _ => none }
def ip4CopiesRow : OpenClaim := { program := "ytjjmopmdiflffac", sum := "8f7d46378b6077b1f087dd5520abce58dddffb7864e613d85e5e247056b57338", func := "weft/weftlaw3.Ip4Copies", spec := "ip4Copies", unfollowed := true, recurses := true, apart := false }
def Ip4CopiesSaid : Prop := ip4CopiesRow.holds Try.pinned (OpenSpec.ofChange ip4CopiesSpec)

/-- ITS FALSE NEIGHBOUR: 'it returns false'. Refute it at one input. -/
def ip4CopiesWrong : ChangeSpec := { name := "ip4Copies", fn := fun _ => fun
  | [d] => { results := [.lit (.bool false)], args := [d] }
  | _ => none }
def Ip4CopiesWrongFalsely : Prop := ip4CopiesRow.holds Try.pinned (OpenSpec.ofChange ip4CopiesWrong)

/-- 'weftlaw3.Ip4All': WHATEVER THE INPUT: true; the input reads as it did. -/
def ip4AllSpec : ChangeSpec := { name := "ip4All", fn := fun _ => fun
  | [d] => { results := [.lit (.bool true)], args := [d] }
  | _ => none }
def ip4AllRow : OpenClaim := { program := "ytjjmopmdiflffac", sum := "8f7d46378b6077b1f087dd5520abce58dddffb7864e613d85e5e247056b57338", func := "weft/weftlaw3.Ip4All", spec := "ip4All", unfollowed := true, recurses := true, apart := false }
def Ip4AllSaid : Prop := ip4AllRow.holds Try.pinned (OpenSpec.ofChange ip4AllSpec)

/-- ITS FALSE NEIGHBOUR: 'it returns false'. Refute it at one input. -/
def ip4AllWrong : ChangeSpec := { name := "ip4All", fn := fun _ => fun
  | [d] => { results := [.lit (.bool false)], args := [d] }
  | _ => none }
def Ip4AllWrongFalsely : Prop := ip4AllRow.holds Try.pinned (OpenSpec.ofChange ip4AllWrong)

/-- 'weftlaw3.Ip4Apart': WHATEVER THE INPUT: true; the input reads as it did. -/
def ip4ApartSpec : ChangeSpec := { name := "ip4Apart", fn := fun _ => fun
  | [d] => { results := [.lit (.bool true)], args := [d] }
  | _ => none }
def ip4ApartRow : OpenClaim := { program := "ytjjmopmdiflffac", sum := "8f7d46378b6077b1f087dd5520abce58dddffb7864e613d85e5e247056b57338", func := "weft/weftlaw3.Ip4Apart", spec := "ip4Apart", unfollowed := true, recurses := true, apart := false }
def Ip4ApartSaid : Prop := ip4ApartRow.holds Try.pinned (OpenSpec.ofChange ip4ApartSpec)

/-- ITS FALSE NEIGHBOUR: 'it returns false'. Refute it at one input. -/
def ip4ApartWrong : ChangeSpec := { name := "ip4Apart", fn := fun _ => fun
  | [d] => { results := [.lit (.bool false)], args := [d] }
  | _ => none }
def Ip4ApartWrongFalsely : Prop := ip4ApartRow.holds Try.pinned (OpenSpec.ofChange ip4ApartWrong)

/- THE SECOND FORM. 'bulk': how many values and letters a reading holds, each counted each time it is reached (what is shared counts as often as it is met; a slice's spare places count too). A statement '..UptoSaid' is the law's where the arguments, and the package variables that the reading takes, are together of bulk at most 1048576: NARROWER than '..Said'. Prove '..Said' where nothing that the law and all that it calls make is longer than what came in: it says more and counts as full. Else prove '..UptoSaid'. A law counts once. -/
mutual
def uptoBulk {H : Type} : DataW H → Nat
  | .lit (.string bytes) => bytes.length + 1
  | .lit _ => 1
  | .nil => 1
  | .ptr d => uptoBulk d + 1
  | .slice elems spare => uptoBulkAll elems + uptoBulkAll spare + 1
  | .agg parts => uptoBulkAll parts + 1
  | .iface _ d => uptoBulk d + 1
  | .map entries => uptoBulkEntries entries + 1
  | .held _ => 1
def uptoBulkAll {H : Type} : List (DataW H) → Nat
  | [] => 0
  | d :: r => uptoBulk d + uptoBulkAll r
def uptoBulkEntries {H : Type} : List (Lit × DataW H) → Nat
  | [] => 0
  | x :: r => uptoBulkEntry x + uptoBulkEntries r
def uptoBulkEntry {H : Type} : Lit × DataW H → Nat
  | (.string bytes, d) => bytes.length + uptoBulk d + 1
  | (_, d) => uptoBulk d + 1
 end
def uptoSmall : (H : Type) → List (DataW H) → Bool := fun _ ds => decide (uptoBulkAll ds ≤ 1048576)
def OpenSpec.upto (s : _root_.Go.ChangeSpec) : _root_.Go.OpenSpec := { _root_.Go.OpenSpec.ofChange s with cond := some uptoSmall }

/-- 'weftlaw3.Ip4Peeks', WHERE WHAT IT READS IS OF BULK AT MOST 1048576: true; the input reads as it did. -/
def ip4PeeksUptoRow : OpenClaim := { program := "ytjjmopmdiflffac", sum := "8f7d46378b6077b1f087dd5520abce58dddffb7864e613d85e5e247056b57338", func := "weft/weftlaw3.Ip4Peeks", spec := "ip4Peeks", unfollowed := true, recurses := true, apart := false, narrowed := true }
def Ip4PeeksUptoSaid : Prop := ip4PeeksUptoRow.holds Try.pinned (OpenSpec.upto ip4PeeksSpec)

/-- 'weftlaw3.Ip4Builds', WHERE WHAT IT READS IS OF BULK AT MOST 1048576: true; the input reads as it did. -/
def ip4BuildsUptoRow : OpenClaim := { program := "ytjjmopmdiflffac", sum := "8f7d46378b6077b1f087dd5520abce58dddffb7864e613d85e5e247056b57338", func := "weft/weftlaw3.Ip4Builds", spec := "ip4Builds", unfollowed := true, recurses := true, apart := false, narrowed := true }
def Ip4BuildsUptoSaid : Prop := ip4BuildsUptoRow.holds Try.pinned (OpenSpec.upto ip4BuildsSpec)

/-- 'weftlaw3.Ip4Ages', WHERE WHAT IT READS IS OF BULK AT MOST 1048576: true; the input reads as it did. -/
def ip4AgesUptoRow : OpenClaim := { program := "ytjjmopmdiflffac", sum := "8f7d46378b6077b1f087dd5520abce58dddffb7864e613d85e5e247056b57338", func := "weft/weftlaw3.Ip4Ages", spec := "ip4Ages", unfollowed := true, recurses := true, apart := false, narrowed := true }
def Ip4AgesUptoSaid : Prop := ip4AgesUptoRow.holds Try.pinned (OpenSpec.upto ip4AgesSpec)

/-- 'weftlaw3.Ip4Copies', WHERE WHAT IT READS IS OF BULK AT MOST 1048576: true; the input reads as it did. -/
def ip4CopiesUptoRow : OpenClaim := { program := "ytjjmopmdiflffac", sum := "8f7d46378b6077b1f087dd5520abce58dddffb7864e613d85e5e247056b57338", func := "weft/weftlaw3.Ip4Copies", spec := "ip4Copies", unfollowed := true, recurses := true, apart := false, narrowed := true }
def Ip4CopiesUptoSaid : Prop := ip4CopiesUptoRow.holds Try.pinned (OpenSpec.upto ip4CopiesSpec)

/-- 'weftlaw3.Ip4All', WHERE WHAT IT READS IS OF BULK AT MOST 1048576: true; the input reads as it did. -/
def ip4AllUptoRow : OpenClaim := { program := "ytjjmopmdiflffac", sum := "8f7d46378b6077b1f087dd5520abce58dddffb7864e613d85e5e247056b57338", func := "weft/weftlaw3.Ip4All", spec := "ip4All", unfollowed := true, recurses := true, apart := false, narrowed := true }
def Ip4AllUptoSaid : Prop := ip4AllUptoRow.holds Try.pinned (OpenSpec.upto ip4AllSpec)

/-- 'weftlaw3.Ip4Apart', WHERE WHAT IT READS IS OF BULK AT MOST 1048576: true; the input reads as it did. -/
def ip4ApartUptoRow : OpenClaim := { program := "ytjjmopmdiflffac", sum := "8f7d46378b6077b1f087dd5520abce58dddffb7864e613d85e5e247056b57338", func := "weft/weftlaw3.Ip4Apart", spec := "ip4Apart", unfollowed := true, recurses := true, apart := false, narrowed := true }
def Ip4ApartUptoSaid : Prop := ip4ApartUptoRow.holds Try.pinned (OpenSpec.upto ip4ApartSpec)

end Rows
end Go.Proofs.Ytjjmopmdiflffac
