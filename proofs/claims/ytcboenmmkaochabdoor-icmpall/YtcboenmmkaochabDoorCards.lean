/-
  DERIVED. GIVEN WITH THE SEED: THE CARDS: each row of YtcboenmmkaochabDoorRows.lean that lists a variable, with what it lists TIED to the program's text (the seventh form; the later family's looks); each row that meets fmt, with fmt's text TOLD by the authors' own Lean function (tested against real Go, not proved from fmt's source: count such statements apart). THE CARD IS WHAT COUNTS. Prove the row's statement (the work); the ties are given (YtcboenmmkaochabDoorTie.lean); close each card by the builder's one call (the guide's Derived/Test/ToyasCard.lean, 'card_holds'). Laid BY PROGRAM, IN A SANDBOX (cutbox-door.mjs). By AI agents, Wed Nov 11 2026. No macro, syntax, notation, axiom, sorry.
-/
import Derived.Test.YtcboenmmkaochabDoorRows
import GoSem.ClaimSeven
namespace Go.Proofs.YtcboenmmkaochabDoor
namespace Rows

/-- THE TIED CARD OF 'weftlaw6.IcmpParses'. -/
def icmpParsesCard : Claim7 := { stood := { row := icmpParsesRow, standIns := [], harness := (true, "c416e8a92452d1129d1ea972a9423785b761c83f98486c7ba6130f41a9f4dc22"), looks := false }, kinds := [], alts := [], laidByText := true, laidKinds := [.data, .data], laidTests := true, laidLooks := .later }
def IcmpParsesCardSaid : Prop := Claim7.holds Tryd.pinned (.plain (OpenSpec.ofChange icmpParsesSpec)) icmpParsesCard

/-- THE TIED CARD OF 'weftlaw6.IcmpBuilds'. -/
def icmpBuildsCard : Claim7 := { stood := { row := icmpBuildsRow, standIns := [], harness := (true, "c416e8a92452d1129d1ea972a9423785b761c83f98486c7ba6130f41a9f4dc22"), looks := false }, kinds := [], alts := [], laidByText := true, laidKinds := [.data, .data], laidTests := true, laidLooks := .later }
def IcmpBuildsCardSaid : Prop := Claim7.holds Tryd.pinned (.plain (OpenSpec.ofChange icmpBuildsSpec)) icmpBuildsCard

/-- THE TIED CARD OF 'weftlaw6.IcmpFaults'. -/
def icmpFaultsCard : Claim7 := { stood := { row := icmpFaultsRow, standIns := [], harness := (true, "c416e8a92452d1129d1ea972a9423785b761c83f98486c7ba6130f41a9f4dc22"), looks := false }, kinds := [], alts := [], laidByText := true, laidKinds := [.data, .data], laidTests := true, laidLooks := .later }
def IcmpFaultsCardSaid : Prop := Claim7.holds Tryd.pinned (.plain (OpenSpec.ofChange icmpFaultsSpec)) icmpFaultsCard

/-- THE TIED CARD OF 'weftlaw6.IcmpEchoes'. -/
def icmpEchoesCard : Claim7 := { stood := { row := icmpEchoesRow, standIns := [], harness := (true, "c416e8a92452d1129d1ea972a9423785b761c83f98486c7ba6130f41a9f4dc22"), looks := false }, kinds := [], alts := [], laidByText := true, laidKinds := [.data, .data], laidTests := true, laidLooks := .later }
def IcmpEchoesCardSaid : Prop := Claim7.holds Tryd.pinned (.plain (OpenSpec.ofChange icmpEchoesSpec)) icmpEchoesCard

/-- THE TIED CARD OF 'weftlaw6.IcmpAbouts'. -/
def icmpAboutsCard : Claim7 := { stood := { row := icmpAboutsRow, standIns := [], harness := (true, "c416e8a92452d1129d1ea972a9423785b761c83f98486c7ba6130f41a9f4dc22"), looks := false }, kinds := [], alts := [], laidByText := true, laidKinds := [.data, .data], laidTests := true, laidLooks := .later }
def IcmpAboutsCardSaid : Prop := Claim7.holds Tryd.pinned (.plain (OpenSpec.ofChange icmpAboutsSpec)) icmpAboutsCard

/-- THE TIED CARD OF 'weftlaw6.IcmpAll'. -/
def icmpAllCard : Claim7 := { stood := { row := icmpAllRow, standIns := [], harness := (true, "c416e8a92452d1129d1ea972a9423785b761c83f98486c7ba6130f41a9f4dc22"), looks := false }, kinds := [], alts := [], laidByText := true, laidKinds := [.data, .data], laidTests := true, laidLooks := .later }
def IcmpAllCardSaid : Prop := Claim7.holds Tryd.pinned (.plain (OpenSpec.ofChange icmpAllSpec)) icmpAllCard

/-- THE SECOND FORM's CARD OF 'weftlaw6.IcmpParses'. -/
def icmpParsesUptoCard : Claim7 := { stood := { row := icmpParsesUptoRow, standIns := [], harness := (true, "c416e8a92452d1129d1ea972a9423785b761c83f98486c7ba6130f41a9f4dc22"), looks := false }, kinds := [], alts := [], laidByText := true, laidKinds := [.data, .data], laidTests := true, laidLooks := .later }
def IcmpParsesUptoCardSaid : Prop := Claim7.holds Tryd.pinned (.plain (OpenSpec.upto icmpParsesSpec)) icmpParsesUptoCard

/-- THE SECOND FORM's CARD OF 'weftlaw6.IcmpBuilds'. -/
def icmpBuildsUptoCard : Claim7 := { stood := { row := icmpBuildsUptoRow, standIns := [], harness := (true, "c416e8a92452d1129d1ea972a9423785b761c83f98486c7ba6130f41a9f4dc22"), looks := false }, kinds := [], alts := [], laidByText := true, laidKinds := [.data, .data], laidTests := true, laidLooks := .later }
def IcmpBuildsUptoCardSaid : Prop := Claim7.holds Tryd.pinned (.plain (OpenSpec.upto icmpBuildsSpec)) icmpBuildsUptoCard

/-- THE SECOND FORM's CARD OF 'weftlaw6.IcmpFaults'. -/
def icmpFaultsUptoCard : Claim7 := { stood := { row := icmpFaultsUptoRow, standIns := [], harness := (true, "c416e8a92452d1129d1ea972a9423785b761c83f98486c7ba6130f41a9f4dc22"), looks := false }, kinds := [], alts := [], laidByText := true, laidKinds := [.data, .data], laidTests := true, laidLooks := .later }
def IcmpFaultsUptoCardSaid : Prop := Claim7.holds Tryd.pinned (.plain (OpenSpec.upto icmpFaultsSpec)) icmpFaultsUptoCard

/-- THE SECOND FORM's CARD OF 'weftlaw6.IcmpEchoes'. -/
def icmpEchoesUptoCard : Claim7 := { stood := { row := icmpEchoesUptoRow, standIns := [], harness := (true, "c416e8a92452d1129d1ea972a9423785b761c83f98486c7ba6130f41a9f4dc22"), looks := false }, kinds := [], alts := [], laidByText := true, laidKinds := [.data, .data], laidTests := true, laidLooks := .later }
def IcmpEchoesUptoCardSaid : Prop := Claim7.holds Tryd.pinned (.plain (OpenSpec.upto icmpEchoesSpec)) icmpEchoesUptoCard

/-- THE SECOND FORM's CARD OF 'weftlaw6.IcmpAbouts'. -/
def icmpAboutsUptoCard : Claim7 := { stood := { row := icmpAboutsUptoRow, standIns := [], harness := (true, "c416e8a92452d1129d1ea972a9423785b761c83f98486c7ba6130f41a9f4dc22"), looks := false }, kinds := [], alts := [], laidByText := true, laidKinds := [.data, .data], laidTests := true, laidLooks := .later }
def IcmpAboutsUptoCardSaid : Prop := Claim7.holds Tryd.pinned (.plain (OpenSpec.upto icmpAboutsSpec)) icmpAboutsUptoCard

/-- THE SECOND FORM's CARD OF 'weftlaw6.IcmpAll'. -/
def icmpAllUptoCard : Claim7 := { stood := { row := icmpAllUptoRow, standIns := [], harness := (true, "c416e8a92452d1129d1ea972a9423785b761c83f98486c7ba6130f41a9f4dc22"), looks := false }, kinds := [], alts := [], laidByText := true, laidKinds := [.data, .data], laidTests := true, laidLooks := .later }
def IcmpAllUptoCardSaid : Prop := Claim7.holds Tryd.pinned (.plain (OpenSpec.upto icmpAllSpec)) icmpAllUptoCard
end Rows
end Go.Proofs.YtcboenmmkaochabDoor
