/-
  DERIVED. GIVEN WITH THE SEED: THE CARDS: each row of YtcboenmmkaochaaDoorRows.lean that lists a variable, with what it lists TIED to the program's text (the seventh form; the later family's looks); each row that meets fmt, with fmt's text TOLD by the authors' own Lean function (tested against real Go, not proved from fmt's source: count such statements apart). THE CARD IS WHAT COUNTS. Prove the row's statement (the work); the ties are given (YtcboenmmkaochaaDoorTie.lean); close each card by the builder's one call (the guide's Derived/Test/ToyasCard.lean, 'card_holds'). Laid BY PROGRAM, IN A SANDBOX (cutbox-door.mjs). By AI agents, Wed Nov 11 2026. No macro, syntax, notation, axiom, sorry.
-/
import Derived.Test.YtcboenmmkaochaaDoorRows
import GoSem.ClaimSeven
namespace Go.Proofs.YtcboenmmkaochaaDoor
namespace Rows

/-- THE TIED CARD OF 'weftlaw6.IcmpHush'. -/
def icmpHushCard : Claim7 := { stood := { row := icmpHushRow, standIns := [], harness := (true, "747acb87de004e15b23c5f309b9eb07509a46975330e4cd7c89ca4e3a115499d"), looks := false }, kinds := [], alts := [], laidByText := true, laidKinds := [.data, .data], laidTests := true, laidLooks := .later }
def IcmpHushCardSaid : Prop := Claim7.holds Tryd.pinned (.plain (OpenSpec.ofChange icmpHushSpec)) icmpHushCard

/-- THE TIED CARD OF 'weftlaw6.IcmpNoStorm'. -/
def icmpNoStormCard : Claim7 := { stood := { row := icmpNoStormRow, standIns := [], harness := (true, "747acb87de004e15b23c5f309b9eb07509a46975330e4cd7c89ca4e3a115499d"), looks := false }, kinds := [], alts := [], laidByText := true, laidKinds := [.data, .data], laidTests := true, laidLooks := .later }
def IcmpNoStormCardSaid : Prop := Claim7.holds Tryd.pinned (.plain (OpenSpec.ofChange icmpNoStormSpec)) icmpNoStormCard

/-- THE TIED CARD OF 'weftlaw6.IcmpAboutFault'. -/
def icmpAboutFaultCard : Claim7 := { stood := { row := icmpAboutFaultRow, standIns := [], harness := (true, "747acb87de004e15b23c5f309b9eb07509a46975330e4cd7c89ca4e3a115499d"), looks := false }, kinds := [], alts := [], laidByText := true, laidKinds := [.data, .data], laidTests := true, laidLooks := .later }
def IcmpAboutFaultCardSaid : Prop := Claim7.holds Tryd.pinned (.plain (OpenSpec.ofChange icmpAboutFaultSpec)) icmpAboutFaultCard

/-- THE TIED CARD OF 'weftlaw6.IcmpEchoBack'. -/
def icmpEchoBackCard : Claim7 := { stood := { row := icmpEchoBackRow, standIns := [], harness := (true, "747acb87de004e15b23c5f309b9eb07509a46975330e4cd7c89ca4e3a115499d"), looks := false }, kinds := [], alts := [], laidByText := true, laidKinds := [.data, .data], laidTests := true, laidLooks := .later }
def IcmpEchoBackCardSaid : Prop := Claim7.holds Tryd.pinned (.plain (OpenSpec.ofChange icmpEchoBackSpec)) icmpEchoBackCard

/-- THE SECOND FORM's CARD OF 'weftlaw6.IcmpHush'. -/
def icmpHushUptoCard : Claim7 := { stood := { row := icmpHushUptoRow, standIns := [], harness := (true, "747acb87de004e15b23c5f309b9eb07509a46975330e4cd7c89ca4e3a115499d"), looks := false }, kinds := [], alts := [], laidByText := true, laidKinds := [.data, .data], laidTests := true, laidLooks := .later }
def IcmpHushUptoCardSaid : Prop := Claim7.holds Tryd.pinned (.plain (OpenSpec.upto icmpHushSpec)) icmpHushUptoCard

/-- THE SECOND FORM's CARD OF 'weftlaw6.IcmpNoStorm'. -/
def icmpNoStormUptoCard : Claim7 := { stood := { row := icmpNoStormUptoRow, standIns := [], harness := (true, "747acb87de004e15b23c5f309b9eb07509a46975330e4cd7c89ca4e3a115499d"), looks := false }, kinds := [], alts := [], laidByText := true, laidKinds := [.data, .data], laidTests := true, laidLooks := .later }
def IcmpNoStormUptoCardSaid : Prop := Claim7.holds Tryd.pinned (.plain (OpenSpec.upto icmpNoStormSpec)) icmpNoStormUptoCard

/-- THE SECOND FORM's CARD OF 'weftlaw6.IcmpAboutFault'. -/
def icmpAboutFaultUptoCard : Claim7 := { stood := { row := icmpAboutFaultUptoRow, standIns := [], harness := (true, "747acb87de004e15b23c5f309b9eb07509a46975330e4cd7c89ca4e3a115499d"), looks := false }, kinds := [], alts := [], laidByText := true, laidKinds := [.data, .data], laidTests := true, laidLooks := .later }
def IcmpAboutFaultUptoCardSaid : Prop := Claim7.holds Tryd.pinned (.plain (OpenSpec.upto icmpAboutFaultSpec)) icmpAboutFaultUptoCard

/-- THE SECOND FORM's CARD OF 'weftlaw6.IcmpEchoBack'. -/
def icmpEchoBackUptoCard : Claim7 := { stood := { row := icmpEchoBackUptoRow, standIns := [], harness := (true, "747acb87de004e15b23c5f309b9eb07509a46975330e4cd7c89ca4e3a115499d"), looks := false }, kinds := [], alts := [], laidByText := true, laidKinds := [.data, .data], laidTests := true, laidLooks := .later }
def IcmpEchoBackUptoCardSaid : Prop := Claim7.holds Tryd.pinned (.plain (OpenSpec.upto icmpEchoBackSpec)) icmpEchoBackUptoCard
end Rows
end Go.Proofs.YtcboenmmkaochaaDoor
