/-
  No cell of these rows narrows 'for every input' (looked for: loops, veiled, ifaces, maps, wideKeys, modest, calm, conditions, laid).
  DERIVED. THE GIVEN ROWS OF THIS SEAT. 6 by the template 'for every input the law returns true; each argument reads behind the call as it read before'; 0 by the template 'total and deterministic' (their statements: YtmnafocmbcgdiaaTotals.lean).
  GIVEN WITH THE SEED: the statements are not yours to turn. If you find one false, say at which input.
  Laid BY PROGRAM, IN A SANDBOX (cutbox-rows.mjs): the forced cells as the released guide's own fill.sh prints them over the translation 331c8c8faa176b6a… (all of the seat's roots in one cut). By AI agents, Wed Nov 11 2026. No macro, syntax, notation, axiom, sorry.
-/
import Derived.Test.YtmnafocmbcgdiaaChecked
import GoSem.Claim
import GoSem.ClaimJoined
import GoSem.ClaimMapViews
import Derived.JoinedTies
import Derived.KernelRfl
namespace Go.Proofs.Ytmnafocmbcgdiaa
/- THE CELL 'sum', in the pinned program and in every row, IS THE sha256 OF THE DUMP (.gsa) THAT YtmnafocmbcgdiaaProg.lean LOADS. Nothing in Lean hashes anything: it is a label: what it is worth is what the hold of that sum in a sandbox is worth. -/
noncomputable def Try.pinned : Pinned := { name := "ytmnafocmbcgdiaa", sum := "331c8c8faa176b6af8e43315c9879e170f2a68c8a980a0e33a557abb1c45e7a7", checked := Try.checked }
namespace Rows
def none {H : Type} : Left H := { results := [], args := [] }

/-- 'weftlaw8.TrieLongest': WHATEVER THE INPUT: true; the input reads as it did. -/
def trieLongestSpec : ChangeSpec := { name := "trieLongest", fn := fun _ => fun
  | [d1, d2] => { results := [.lit (.bool true)], args := [d1, d2] }
  | _ => none }
def trieLongestRow : OpenClaim := { program := "ytmnafocmbcgdiaa", sum := "331c8c8faa176b6af8e43315c9879e170f2a68c8a980a0e33a557abb1c45e7a7", func := "weft/weftlaw8.TrieLongest", spec := "trieLongest", unfollowed := true, recurses := true, apart := false }
def TrieLongestSaid : Prop := trieLongestRow.holds Try.pinned (OpenSpec.ofChange trieLongestSpec)

/-- ITS FALSE NEIGHBOUR: 'it returns false'. Refute it at one input. -/
def trieLongestWrong : ChangeSpec := { name := "trieLongest", fn := fun _ => fun
  | [d1, d2] => { results := [.lit (.bool false)], args := [d1, d2] }
  | _ => none }
def TrieLongestWrongFalsely : Prop := trieLongestRow.holds Try.pinned (OpenSpec.ofChange trieLongestWrong)

/-- 'weftlaw8.TrieAny': WHATEVER THE INPUT: true; the input reads as it did. -/
def trieAnySpec : ChangeSpec := { name := "trieAny", fn := fun _ => fun
  | [d1, d2] => { results := [.lit (.bool true)], args := [d1, d2] }
  | _ => none }
def trieAnyRow : OpenClaim := { program := "ytmnafocmbcgdiaa", sum := "331c8c8faa176b6af8e43315c9879e170f2a68c8a980a0e33a557abb1c45e7a7", func := "weft/weftlaw8.TrieAny", spec := "trieAny", unfollowed := true, recurses := true, apart := false }
def TrieAnySaid : Prop := trieAnyRow.holds Try.pinned (OpenSpec.ofChange trieAnySpec)

/-- ITS FALSE NEIGHBOUR: 'it returns false'. Refute it at one input. -/
def trieAnyWrong : ChangeSpec := { name := "trieAny", fn := fun _ => fun
  | [d1, d2] => { results := [.lit (.bool false)], args := [d1, d2] }
  | _ => none }
def TrieAnyWrongFalsely : Prop := trieAnyRow.holds Try.pinned (OpenSpec.ofChange trieAnyWrong)

/-- 'weftlaw8.TrieLeft': WHATEVER THE INPUT: true; the input reads as it did. -/
def trieLeftSpec : ChangeSpec := { name := "trieLeft", fn := fun _ => fun
  | [d1, d2] => { results := [.lit (.bool true)], args := [d1, d2] }
  | _ => none }
def trieLeftRow : OpenClaim := { program := "ytmnafocmbcgdiaa", sum := "331c8c8faa176b6af8e43315c9879e170f2a68c8a980a0e33a557abb1c45e7a7", func := "weft/weftlaw8.TrieLeft", spec := "trieLeft", unfollowed := true, recurses := true, apart := false }
def TrieLeftSaid : Prop := trieLeftRow.holds Try.pinned (OpenSpec.ofChange trieLeftSpec)

/-- ITS FALSE NEIGHBOUR: 'it returns false'. Refute it at one input. -/
def trieLeftWrong : ChangeSpec := { name := "trieLeft", fn := fun _ => fun
  | [d1, d2] => { results := [.lit (.bool false)], args := [d1, d2] }
  | _ => none }
def TrieLeftWrongFalsely : Prop := trieLeftRow.holds Try.pinned (OpenSpec.ofChange trieLeftWrong)

/-- 'weftlaw8.TrieNested': WHATEVER THE INPUT: true; the input reads as it did. -/
def trieNestedSpec : ChangeSpec := { name := "trieNested", fn := fun _ => fun
  | [d1, d2, d3] => { results := [.lit (.bool true)], args := [d1, d2, d3] }
  | _ => none }
def trieNestedRow : OpenClaim := { program := "ytmnafocmbcgdiaa", sum := "331c8c8faa176b6af8e43315c9879e170f2a68c8a980a0e33a557abb1c45e7a7", func := "weft/weftlaw8.TrieNested", spec := "trieNested", unfollowed := true, recurses := true, apart := false }
def TrieNestedSaid : Prop := trieNestedRow.holds Try.pinned (OpenSpec.ofChange trieNestedSpec)

/-- ITS FALSE NEIGHBOUR: 'it returns false'. Refute it at one input. -/
def trieNestedWrong : ChangeSpec := { name := "trieNested", fn := fun _ => fun
  | [d1, d2, d3] => { results := [.lit (.bool false)], args := [d1, d2, d3] }
  | _ => none }
def TrieNestedWrongFalsely : Prop := trieNestedRow.holds Try.pinned (OpenSpec.ofChange trieNestedWrong)

/-- 'weftlaw8.TrieInside': WHATEVER THE INPUT: true; the input reads as it did. -/
def trieInsideSpec : ChangeSpec := { name := "trieInside", fn := fun _ => fun
  | [d1, d2] => { results := [.lit (.bool true)], args := [d1, d2] }
  | _ => none }
def trieInsideRow : OpenClaim := { program := "ytmnafocmbcgdiaa", sum := "331c8c8faa176b6af8e43315c9879e170f2a68c8a980a0e33a557abb1c45e7a7", func := "weft/weftlaw8.TrieInside", spec := "trieInside", unfollowed := true, recurses := true, apart := false }
def TrieInsideSaid : Prop := trieInsideRow.holds Try.pinned (OpenSpec.ofChange trieInsideSpec)

/-- ITS FALSE NEIGHBOUR: 'it returns false'. Refute it at one input. -/
def trieInsideWrong : ChangeSpec := { name := "trieInside", fn := fun _ => fun
  | [d1, d2] => { results := [.lit (.bool false)], args := [d1, d2] }
  | _ => none }
def TrieInsideWrongFalsely : Prop := trieInsideRow.holds Try.pinned (OpenSpec.ofChange trieInsideWrong)

/-- 'weftlaw8.TrieOrderless': WHATEVER THE INPUT: true; the input reads as it did. -/
def trieOrderlessSpec : ChangeSpec := { name := "trieOrderless", fn := fun _ => fun
  | [d1, d2, d3] => { results := [.lit (.bool true)], args := [d1, d2, d3] }
  | _ => none }
def trieOrderlessRow : OpenClaim := { program := "ytmnafocmbcgdiaa", sum := "331c8c8faa176b6af8e43315c9879e170f2a68c8a980a0e33a557abb1c45e7a7", func := "weft/weftlaw8.TrieOrderless", spec := "trieOrderless", unfollowed := true, recurses := true, apart := false }
def TrieOrderlessSaid : Prop := trieOrderlessRow.holds Try.pinned (OpenSpec.ofChange trieOrderlessSpec)

/-- ITS FALSE NEIGHBOUR: 'it returns false'. Refute it at one input. -/
def trieOrderlessWrong : ChangeSpec := { name := "trieOrderless", fn := fun _ => fun
  | [d1, d2, d3] => { results := [.lit (.bool false)], args := [d1, d2, d3] }
  | _ => none }
def TrieOrderlessWrongFalsely : Prop := trieOrderlessRow.holds Try.pinned (OpenSpec.ofChange trieOrderlessWrong)

/- THE SECOND FORM. 'bulk': how many values and letters a reading holds, each counted each time it is reached (what is shared counts as often as it is met; a slice's spare places count too). A statement '..UptoSaid' is the law's where the arguments, and the package variables that the reading takes, are together of bulk at most 1048576: NARROWER than '..Said'. Prove '..Said' where nothing that the law and all that it calls make is longer than what came in: it says more and counts as full. Else prove '..UptoSaid'. A law counts once. -/
mutual
def uptoBulk {H : Type} : DataW H → Nat
  | .lit (.string bytes) => bytes.length + 1
  | .lit _ => 1
  | .nil => 1
  | .ptr d => uptoBulk d + 1
  | .slice elems spare => uptoBulkAll elems + uptoBulkAll spare + 1
  | .agg parts => uptoBulkAll parts + 1
  | .iface _ d => uptoBulk d + 1
  | .map entries => uptoBulkEntries entries + 1
  | .held _ => 1
def uptoBulkAll {H : Type} : List (DataW H) → Nat
  | [] => 0
  | d :: r => uptoBulk d + uptoBulkAll r
def uptoBulkEntries {H : Type} : List (Lit × DataW H) → Nat
  | [] => 0
  | x :: r => uptoBulkEntry x + uptoBulkEntries r
def uptoBulkEntry {H : Type} : Lit × DataW H → Nat
  | (.string bytes, d) => bytes.length + uptoBulk d + 1
  | (_, d) => uptoBulk d + 1
 end
def uptoSmall : (H : Type) → List (DataW H) → Bool := fun _ ds => decide (uptoBulkAll ds ≤ 1048576)
def OpenSpec.upto (s : _root_.Go.ChangeSpec) : _root_.Go.OpenSpec := { _root_.Go.OpenSpec.ofChange s with cond := some uptoSmall }

/-- 'weftlaw8.TrieLongest', WHERE WHAT IT READS IS OF BULK AT MOST 1048576: true; the input reads as it did. -/
def trieLongestUptoRow : OpenClaim := { program := "ytmnafocmbcgdiaa", sum := "331c8c8faa176b6af8e43315c9879e170f2a68c8a980a0e33a557abb1c45e7a7", func := "weft/weftlaw8.TrieLongest", spec := "trieLongest", unfollowed := true, recurses := true, apart := false, narrowed := true }
def TrieLongestUptoSaid : Prop := trieLongestUptoRow.holds Try.pinned (OpenSpec.upto trieLongestSpec)

/-- 'weftlaw8.TrieAny', WHERE WHAT IT READS IS OF BULK AT MOST 1048576: true; the input reads as it did. -/
def trieAnyUptoRow : OpenClaim := { program := "ytmnafocmbcgdiaa", sum := "331c8c8faa176b6af8e43315c9879e170f2a68c8a980a0e33a557abb1c45e7a7", func := "weft/weftlaw8.TrieAny", spec := "trieAny", unfollowed := true, recurses := true, apart := false, narrowed := true }
def TrieAnyUptoSaid : Prop := trieAnyUptoRow.holds Try.pinned (OpenSpec.upto trieAnySpec)

/-- 'weftlaw8.TrieLeft', WHERE WHAT IT READS IS OF BULK AT MOST 1048576: true; the input reads as it did. -/
def trieLeftUptoRow : OpenClaim := { program := "ytmnafocmbcgdiaa", sum := "331c8c8faa176b6af8e43315c9879e170f2a68c8a980a0e33a557abb1c45e7a7", func := "weft/weftlaw8.TrieLeft", spec := "trieLeft", unfollowed := true, recurses := true, apart := false, narrowed := true }
def TrieLeftUptoSaid : Prop := trieLeftUptoRow.holds Try.pinned (OpenSpec.upto trieLeftSpec)

/-- 'weftlaw8.TrieNested', WHERE WHAT IT READS IS OF BULK AT MOST 1048576: true; the input reads as it did. -/
def trieNestedUptoRow : OpenClaim := { program := "ytmnafocmbcgdiaa", sum := "331c8c8faa176b6af8e43315c9879e170f2a68c8a980a0e33a557abb1c45e7a7", func := "weft/weftlaw8.TrieNested", spec := "trieNested", unfollowed := true, recurses := true, apart := false, narrowed := true }
def TrieNestedUptoSaid : Prop := trieNestedUptoRow.holds Try.pinned (OpenSpec.upto trieNestedSpec)

/-- 'weftlaw8.TrieInside', WHERE WHAT IT READS IS OF BULK AT MOST 1048576: true; the input reads as it did. -/
def trieInsideUptoRow : OpenClaim := { program := "ytmnafocmbcgdiaa", sum := "331c8c8faa176b6af8e43315c9879e170f2a68c8a980a0e33a557abb1c45e7a7", func := "weft/weftlaw8.TrieInside", spec := "trieInside", unfollowed := true, recurses := true, apart := false, narrowed := true }
def TrieInsideUptoSaid : Prop := trieInsideUptoRow.holds Try.pinned (OpenSpec.upto trieInsideSpec)

/-- 'weftlaw8.TrieOrderless', WHERE WHAT IT READS IS OF BULK AT MOST 1048576: true; the input reads as it did. -/
def trieOrderlessUptoRow : OpenClaim := { program := "ytmnafocmbcgdiaa", sum := "331c8c8faa176b6af8e43315c9879e170f2a68c8a980a0e33a557abb1c45e7a7", func := "weft/weftlaw8.TrieOrderless", spec := "trieOrderless", unfollowed := true, recurses := true, apart := false, narrowed := true }
def TrieOrderlessUptoSaid : Prop := trieOrderlessUptoRow.holds Try.pinned (OpenSpec.upto trieOrderlessSpec)

end Rows
end Go.Proofs.Ytmnafocmbcgdiaa
