/-
  No cell of these rows narrows 'for every input' (looked for: loops, veiled, ifaces, maps, wideKeys, modest, calm, conditions, laid).
  DERIVED. THE GIVEN ROWS OF THIS SEAT. 6 by the template 'for every input the law returns true; each argument reads behind the call as it read before'; 0 by the template 'total and deterministic' (their statements: YtpdokaoholifkabGreatTotals.lean).
  GIVEN WITH THE SEED: the statements are not yours to turn. If you find one false, say at which input.
  Laid BY PROGRAM, IN A SANDBOX (cutbox-rows.mjs): the forced cells as the released guide's own fill.sh prints them over the translation 4dce6b475e926011… (all of the seat's roots in one cut). By AI agents, Wed Nov 11 2026. No macro, syntax, notation, axiom, sorry.
-/
import Derived.Test.YtpdokaoholifkabGreatChecked
import GoSem.Claim
import GoSem.ClaimJoined
import GoSem.ClaimMapViews
import Derived.JoinedTies
import Derived.KernelRfl
namespace Go.Proofs.YtpdokaoholifkabGreat
/- THE CELL 'sum', in the pinned program and in every row, IS THE sha256 OF THE DUMP (.gsa) THAT YtpdokaoholifkabGreatProg.lean LOADS. Nothing in Lean hashes anything: it is a label: what it is worth is what the hold of that sum in a sandbox is worth. -/
noncomputable def Tryz.pinned : Pinned := { name := "ytpdokaoholifkabgreat", sum := "4dce6b475e92601193478323e0e68936f5fa5a2289bda758a0f0a79ded909eeb", checked := Tryz.checked }
namespace Rows
def none {H : Type} : Left H := { results := [], args := [] }

/-- 'weftlaw9.TablesAll': WHATEVER THE INPUT: true; the input reads as it did. -/
def tablesAllSpec : ChangeSpec := { name := "tablesAll", fn := fun _ => fun
  | [d1, d2] => { results := [.lit (.bool true)], args := [d1, d2] }
  | _ => none }
def tablesAllRow : OpenClaim := { program := "ytpdokaoholifkabgreat", sum := "4dce6b475e92601193478323e0e68936f5fa5a2289bda758a0f0a79ded909eeb", func := "weft/weftlaw9.TablesAll", spec := "tablesAll", inPlace := ["internal/bytealg.Compare"], unfollowed := true, recurses := true, plainKeys := false, apart := false }
def TablesAllSaid : Prop := tablesAllRow.holds Tryz.pinned (OpenSpec.ofChange tablesAllSpec)

/-- ITS FALSE NEIGHBOUR: 'it returns false'. Refute it at one input. -/
def tablesAllWrong : ChangeSpec := { name := "tablesAll", fn := fun _ => fun
  | [d1, d2] => { results := [.lit (.bool false)], args := [d1, d2] }
  | _ => none }
def TablesAllWrongFalsely : Prop := tablesAllRow.holds Tryz.pinned (OpenSpec.ofChange tablesAllWrong)

/-- 'weftlaw9.TablesTwo': WHATEVER THE INPUT: true; the input reads as it did. -/
def tablesTwoSpec : ChangeSpec := { name := "tablesTwo", fn := fun _ => fun
  | [d1, d2, d3, d4] => { results := [.lit (.bool true)], args := [d1, d2, d3, d4] }
  | _ => none }
def tablesTwoRow : OpenClaim := { program := "ytpdokaoholifkabgreat", sum := "4dce6b475e92601193478323e0e68936f5fa5a2289bda758a0f0a79ded909eeb", func := "weft/weftlaw9.TablesTwo", spec := "tablesTwo", inPlace := ["internal/bytealg.Compare"], unfollowed := true, recurses := true, plainKeys := false, apart := false }
def TablesTwoSaid : Prop := tablesTwoRow.holds Tryz.pinned (OpenSpec.ofChange tablesTwoSpec)

/-- ITS FALSE NEIGHBOUR: 'it returns false'. Refute it at one input. -/
def tablesTwoWrong : ChangeSpec := { name := "tablesTwo", fn := fun _ => fun
  | [d1, d2, d3, d4] => { results := [.lit (.bool false)], args := [d1, d2, d3, d4] }
  | _ => none }
def TablesTwoWrongFalsely : Prop := tablesTwoRow.holds Tryz.pinned (OpenSpec.ofChange tablesTwoWrong)

/-- 'weftlaw9.TablesRoom': WHATEVER THE INPUT: true; the input reads as it did. -/
def tablesRoomSpec : ChangeSpec := { name := "tablesRoom", fn := fun _ => fun
  | [d] => { results := [.lit (.bool true)], args := [d] }
  | _ => none }
def tablesRoomRow : OpenClaim := { program := "ytpdokaoholifkabgreat", sum := "4dce6b475e92601193478323e0e68936f5fa5a2289bda758a0f0a79ded909eeb", func := "weft/weftlaw9.TablesRoom", spec := "tablesRoom", inPlace := ["internal/bytealg.Compare"], unfollowed := true, recurses := true, plainKeys := false, apart := false }
def TablesRoomSaid : Prop := tablesRoomRow.holds Tryz.pinned (OpenSpec.ofChange tablesRoomSpec)

/-- ITS FALSE NEIGHBOUR: 'it returns false'. Refute it at one input. -/
def tablesRoomWrong : ChangeSpec := { name := "tablesRoom", fn := fun _ => fun
  | [d] => { results := [.lit (.bool false)], args := [d] }
  | _ => none }
def TablesRoomWrongFalsely : Prop := tablesRoomRow.holds Tryz.pinned (OpenSpec.ofChange tablesRoomWrong)

/-- 'weftlaw9.TablesRebuilt': WHATEVER THE INPUT: true; the input reads as it did. -/
def tablesRebuiltSpec : ChangeSpec := { name := "tablesRebuilt", fn := fun _ => fun
  | [d1, d2, d3] => { results := [.lit (.bool true)], args := [d1, d2, d3] }
  | _ => none }
def tablesRebuiltRow : OpenClaim := { program := "ytpdokaoholifkabgreat", sum := "4dce6b475e92601193478323e0e68936f5fa5a2289bda758a0f0a79ded909eeb", func := "weft/weftlaw9.TablesRebuilt", spec := "tablesRebuilt", inPlace := ["internal/bytealg.Compare"], unfollowed := true, recurses := true, plainKeys := false, apart := false }
def TablesRebuiltSaid : Prop := tablesRebuiltRow.holds Tryz.pinned (OpenSpec.ofChange tablesRebuiltSpec)

/-- ITS FALSE NEIGHBOUR: 'it returns false'. Refute it at one input. -/
def tablesRebuiltWrong : ChangeSpec := { name := "tablesRebuilt", fn := fun _ => fun
  | [d1, d2, d3] => { results := [.lit (.bool false)], args := [d1, d2, d3] }
  | _ => none }
def TablesRebuiltWrongFalsely : Prop := tablesRebuiltRow.holds Tryz.pinned (OpenSpec.ofChange tablesRebuiltWrong)

/-- 'weftlaw9.TablesHops': WHATEVER THE INPUT: true; the input reads as it did. -/
def tablesHopsSpec : ChangeSpec := { name := "tablesHops", fn := fun _ => fun
  | [d1, d2, d3] => { results := [.lit (.bool true)], args := [d1, d2, d3] }
  | _ => none }
def tablesHopsRow : OpenClaim := { program := "ytpdokaoholifkabgreat", sum := "4dce6b475e92601193478323e0e68936f5fa5a2289bda758a0f0a79ded909eeb", func := "weft/weftlaw9.TablesHops", spec := "tablesHops", inPlace := ["internal/bytealg.Compare"], unfollowed := true, recurses := true, plainKeys := false, apart := false }
def TablesHopsSaid : Prop := tablesHopsRow.holds Tryz.pinned (OpenSpec.ofChange tablesHopsSpec)

/-- ITS FALSE NEIGHBOUR: 'it returns false'. Refute it at one input. -/
def tablesHopsWrong : ChangeSpec := { name := "tablesHops", fn := fun _ => fun
  | [d1, d2, d3] => { results := [.lit (.bool false)], args := [d1, d2, d3] }
  | _ => none }
def TablesHopsWrongFalsely : Prop := tablesHopsRow.holds Tryz.pinned (OpenSpec.ofChange tablesHopsWrong)

/-- 'weftlaw9.TablesFresh': WHATEVER THE INPUT: true; the input reads as it did. -/
def tablesFreshSpec : ChangeSpec := { name := "tablesFresh", fn := fun _ => fun
  | [d1, d2] => { results := [.lit (.bool true)], args := [d1, d2] }
  | _ => none }
def tablesFreshRow : OpenClaim := { program := "ytpdokaoholifkabgreat", sum := "4dce6b475e92601193478323e0e68936f5fa5a2289bda758a0f0a79ded909eeb", func := "weft/weftlaw9.TablesFresh", spec := "tablesFresh", inPlace := ["internal/bytealg.Compare"], unfollowed := true, recurses := true, plainKeys := false, apart := false }
def TablesFreshSaid : Prop := tablesFreshRow.holds Tryz.pinned (OpenSpec.ofChange tablesFreshSpec)

/-- ITS FALSE NEIGHBOUR: 'it returns false'. Refute it at one input. -/
def tablesFreshWrong : ChangeSpec := { name := "tablesFresh", fn := fun _ => fun
  | [d1, d2] => { results := [.lit (.bool false)], args := [d1, d2] }
  | _ => none }
def TablesFreshWrongFalsely : Prop := tablesFreshRow.holds Tryz.pinned (OpenSpec.ofChange tablesFreshWrong)

/- THE SECOND FORM. 'bulk': how many values and letters a reading holds, each counted each time it is reached (what is shared counts as often as it is met; a slice's spare places count too). A statement '..UptoSaid' is the law's where the arguments, and the package variables that the reading takes, are together of bulk at most 1048576: NARROWER than '..Said'. Prove '..Said' where nothing that the law and all that it calls make is longer than what came in: it says more and counts as full. Else prove '..UptoSaid'. A law counts once. -/
mutual
def uptoBulk {H : Type} : DataW H → Nat
  | .lit (.string bytes) => bytes.length + 1
  | .lit _ => 1
  | .nil => 1
  | .ptr d => uptoBulk d + 1
  | .slice elems spare => uptoBulkAll elems + uptoBulkAll spare + 1
  | .agg parts => uptoBulkAll parts + 1
  | .iface _ d => uptoBulk d + 1
  | .map entries => uptoBulkEntries entries + 1
  | .held _ => 1
def uptoBulkAll {H : Type} : List (DataW H) → Nat
  | [] => 0
  | d :: r => uptoBulk d + uptoBulkAll r
def uptoBulkEntries {H : Type} : List (Lit × DataW H) → Nat
  | [] => 0
  | x :: r => uptoBulkEntry x + uptoBulkEntries r
def uptoBulkEntry {H : Type} : Lit × DataW H → Nat
  | (.string bytes, d) => bytes.length + uptoBulk d + 1
  | (_, d) => uptoBulk d + 1
 end
def uptoSmall : (H : Type) → List (DataW H) → Bool := fun _ ds => decide (uptoBulkAll ds ≤ 1048576)
def OpenSpec.upto (s : _root_.Go.ChangeSpec) : _root_.Go.OpenSpec := { _root_.Go.OpenSpec.ofChange s with cond := some uptoSmall }

/-- 'weftlaw9.TablesAll', WHERE WHAT IT READS IS OF BULK AT MOST 1048576: true; the input reads as it did. -/
def tablesAllUptoRow : OpenClaim := { program := "ytpdokaoholifkabgreat", sum := "4dce6b475e92601193478323e0e68936f5fa5a2289bda758a0f0a79ded909eeb", func := "weft/weftlaw9.TablesAll", spec := "tablesAll", inPlace := ["internal/bytealg.Compare"], unfollowed := true, recurses := true, plainKeys := false, apart := false, narrowed := true }
def TablesAllUptoSaid : Prop := tablesAllUptoRow.holds Tryz.pinned (OpenSpec.upto tablesAllSpec)

/-- 'weftlaw9.TablesTwo', WHERE WHAT IT READS IS OF BULK AT MOST 1048576: true; the input reads as it did. -/
def tablesTwoUptoRow : OpenClaim := { program := "ytpdokaoholifkabgreat", sum := "4dce6b475e92601193478323e0e68936f5fa5a2289bda758a0f0a79ded909eeb", func := "weft/weftlaw9.TablesTwo", spec := "tablesTwo", inPlace := ["internal/bytealg.Compare"], unfollowed := true, recurses := true, plainKeys := false, apart := false, narrowed := true }
def TablesTwoUptoSaid : Prop := tablesTwoUptoRow.holds Tryz.pinned (OpenSpec.upto tablesTwoSpec)

/-- 'weftlaw9.TablesRoom', WHERE WHAT IT READS IS OF BULK AT MOST 1048576: true; the input reads as it did. -/
def tablesRoomUptoRow : OpenClaim := { program := "ytpdokaoholifkabgreat", sum := "4dce6b475e92601193478323e0e68936f5fa5a2289bda758a0f0a79ded909eeb", func := "weft/weftlaw9.TablesRoom", spec := "tablesRoom", inPlace := ["internal/bytealg.Compare"], unfollowed := true, recurses := true, plainKeys := false, apart := false, narrowed := true }
def TablesRoomUptoSaid : Prop := tablesRoomUptoRow.holds Tryz.pinned (OpenSpec.upto tablesRoomSpec)

/-- 'weftlaw9.TablesRebuilt', WHERE WHAT IT READS IS OF BULK AT MOST 1048576: true; the input reads as it did. -/
def tablesRebuiltUptoRow : OpenClaim := { program := "ytpdokaoholifkabgreat", sum := "4dce6b475e92601193478323e0e68936f5fa5a2289bda758a0f0a79ded909eeb", func := "weft/weftlaw9.TablesRebuilt", spec := "tablesRebuilt", inPlace := ["internal/bytealg.Compare"], unfollowed := true, recurses := true, plainKeys := false, apart := false, narrowed := true }
def TablesRebuiltUptoSaid : Prop := tablesRebuiltUptoRow.holds Tryz.pinned (OpenSpec.upto tablesRebuiltSpec)

/-- 'weftlaw9.TablesHops', WHERE WHAT IT READS IS OF BULK AT MOST 1048576: true; the input reads as it did. -/
def tablesHopsUptoRow : OpenClaim := { program := "ytpdokaoholifkabgreat", sum := "4dce6b475e92601193478323e0e68936f5fa5a2289bda758a0f0a79ded909eeb", func := "weft/weftlaw9.TablesHops", spec := "tablesHops", inPlace := ["internal/bytealg.Compare"], unfollowed := true, recurses := true, plainKeys := false, apart := false, narrowed := true }
def TablesHopsUptoSaid : Prop := tablesHopsUptoRow.holds Tryz.pinned (OpenSpec.upto tablesHopsSpec)

/-- 'weftlaw9.TablesFresh', WHERE WHAT IT READS IS OF BULK AT MOST 1048576: true; the input reads as it did. -/
def tablesFreshUptoRow : OpenClaim := { program := "ytpdokaoholifkabgreat", sum := "4dce6b475e92601193478323e0e68936f5fa5a2289bda758a0f0a79ded909eeb", func := "weft/weftlaw9.TablesFresh", spec := "tablesFresh", inPlace := ["internal/bytealg.Compare"], unfollowed := true, recurses := true, plainKeys := false, apart := false, narrowed := true }
def TablesFreshUptoSaid : Prop := tablesFreshUptoRow.holds Tryz.pinned (OpenSpec.upto tablesFreshSpec)

end Rows
end Go.Proofs.YtpdokaoholifkabGreat
