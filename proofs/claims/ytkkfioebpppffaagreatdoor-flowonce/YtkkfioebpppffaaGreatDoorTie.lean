/-
  DERIVED. GIVEN WITH THE SEED: THE PROGRAM's TIES (one call each: nine closed facts by the kernel) AND EACH ROW's TIE, after the 31st guide's Derived/Test/Toyas{Tie, Card}.lean. No idea stands in it: it is a product of the set-up. Laid BY PROGRAM, IN A SANDBOX (cutbox-door.mjs). By AI agents, Wed Nov 11 2026. No macro, syntax, notation, axiom, sorry.
-/
import Derived.Test.YtkkfioebpppffaaGreatDoorRows
import Derived.LaidByTextLater
import Derived.SevenTiedAt
import Derived.LaidSub
import Derived.LaidOnce
namespace Go.Proofs.YtkkfioebpppffaaGreatDoor
open Go
set_option maxRecDepth 100000
theorem seatTie1 : Tryz.prog.laidByTextLater [("weft/icmp.kinds", Rows.laid_weft_icmp_kinds), ("weft/flow.spans", Rows.laid_weft_flow_spans), ("weft/flow.turns", Rows.laid_weft_flow_turns)] [.data, .data, .data] true :=
  Program.laidByTextLater_by_one 49 8 121 (by kernel_rfl) (by kernel_rfl) (by kernel_rfl) (by kernel_rfl) (by kernel_rfl) (by kernel_rfl) (fun _ _ => by kernel_rfl)
theorem noOwnUnsafe : Tryz.pinned.checked.prog.headLifts.contains "ownunsafe" = false := by kernel_rfl
theorem tie : Tryz.prog.laidByTextLater [("weft/icmp.kinds", Rows.laid_weft_icmp_kinds), ("weft/flow.spans", Rows.laid_weft_flow_spans), ("weft/flow.turns", Rows.laid_weft_flow_turns)] [.data, .data, .data] true :=
  Program.laidByTextLater.sub seatTie1 ["weft/icmp.kinds", "weft/flow.spans", "weft/flow.turns"] (by kernel_rfl) (by kernel_rfl)
theorem flowOnce_row_tie : Rows.flowOnceRow.laidByTextAt .later Tryz.pinned [.data, .data, .data] true :=
  OpenClaim.laidByTextAt_later rfl rfl tie noOwnUnsafe
theorem flowOnceUpto_row_tie : Rows.flowOnceUptoRow.laidByTextAt .later Tryz.pinned [.data, .data, .data] true :=
  OpenClaim.laidByTextAt_later rfl rfl tie noOwnUnsafe
end Go.Proofs.YtkkfioebpppffaaGreatDoor
