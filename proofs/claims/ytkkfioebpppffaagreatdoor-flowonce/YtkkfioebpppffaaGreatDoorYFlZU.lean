import Derived.Test.YtkkfioebpppffaaGreatDoorYFlZT
import Derived.Test.YtkkfioebpppffaaGreatDoorCards
import Derived.Test.YtkkfioebpppffaaGreatDoorTie
namespace Go.Proofs.YtkkfioebpppffaaGreatDoor.Fl
open Go.Proofs.YtkkfioebpppffaaGreatDoor Go.ChangeShapes Go.WideShapes Go.ChangeAt Go.RowKit N
set_option maxRecDepth 100000

theorem own : ownKnob Tryz.prog.godebug = none := by kernel_rfl
theorem laidOut : laidOutB Tryz.prog = true := by kernel_rfl
theorem gS : Tryz.prog.globalNamed "weft/flow.spans" = some 0 := by kernel_rfl
theorem gN : Tryz.prog.globalNamed "weft/flow.turns" = some 1 := by kernel_rfl
theorem gSType : (Tryz.prog.globals[0]?).map (·.type) = some 134 := by kernel_rfl
theorem gNType : (Tryz.prog.globals[1]?).map (·.type) = some 139 := by kernel_rfl
def rowA (i : Nat) : List Int := (List.range 6).map fun k => ((rowsN.getD (i * 12 + k) 0 : Nat) : Int)
def rowB (i : Nat) : List Int := (List.range 6).map fun k => ((rowsN.getD (i * 12 + (6 + k)) 0 : Nat) : Int)
theorem rowAB (i : Nat) : rowA i ++ rowB i = (List.range 12).map fun k => ((rowsN.getD (i * 12 + k) 0 : Nat) : Int) := by
  simp [rowA, rowB, List.range, List.range.loop]

theorem tabF {W : World} (h : laidMet Tryz.prog [("weft/flow.spans", Rows.laid_weft_flow_spans), ("weft/flow.turns", Rows.laid_weft_flow_turns)] W) : TabF W := by
  have h2 : laidMet Tryz.prog [("weft/flow.turns", Rows.laid_weft_flow_turns)] W := h.tail
  have hs : ∀ j, j < 10 → W.cell? ⟨0, j, none⟩ = some (.int .i64 (spN j)) := by
    obtain ⟨ps, ⟨g, t, cs, fuel, p, q, hg, ht, hvar, hd, _, _⟩, _⟩ := h
    obtain rfl := Option.some.inj (gS.symm.trans hg)
    obtain rfl := Option.some.inj (gSType.symm.trans ht)
    have hcs := ints_of (L := spansN) undSp i64q (by kernel_rfl) (by kernel_rfl) rfl hd
    intro j hj
    rw [World.var?_cell gS hvar j, ← Array.getElem?_toList, hcs, List.getElem?_map]
    unfold spN
    rw [List.getD_eq_getElem?_getD, List.getElem?_eq_getElem (by show j < 10; omega)]
    rfl
  have hn : ∀ j, j < 120 → W.cell? ⟨1, j, none⟩ = some (.int .u8 ((rowsN.getD j 0 : Nat) : Int)) := by
    obtain ⟨ps, ⟨g, t, cs, fuel, p, q, hg, ht, hvar, hd, _, _⟩, _⟩ := h2
    obtain rfl := Option.some.inj (gN.symm.trans hg)
    obtain rfl := Option.some.inj (gNType.symm.trans ht)
    obtain ⟨xs, m, _, hx, hl, hxl, hall⟩ := DataW.trod_array undTn hd
    rw [show Tryz.prog.cellsOf 138 = 12 from by kernel_rfl] at hall
    have hxs : xs.map (·.1) = (List.range 10).map fun i => .agg [.agg ((rowA i).map fun x => .lit (.int .u8 x)), .agg ((rowB i).map fun x => .lit (.int .u8 x))] := by
      have := congrArg Prod.fst hx
      simp only at this
      injection this with this
      rw [← this]; rfl
    intro j hj
    have hi : j / 12 < 10 := by omega
    have hg := hall (j / 12) hi
    obtain ⟨y, hy⟩ : ∃ y, xs[j / 12]? = some y := ⟨_, List.getElem?_eq_getElem (by omega)⟩
    have h1 : y.1 = .agg [.agg ((rowA (j / 12)).map fun x => .lit (.int .u8 x)), .agg ((rowB (j / 12)).map fun x => .lit (.int .u8 x))] := by
      have := congrArg (·[j / 12]?) hxs
      simp only [List.getElem?_map, hy, List.getElem?_range hi, Option.map_some, Option.some.injEq] at this
      exact this
    obtain ⟨d, q⟩ := y
    simp only at h1
    subst h1
    rw [hy] at hg
    have hr := row12 (by simp [rowA]) (by simp [rowB]) hg
    rw [rowAB] at hr
    have hk : j % 12 < 12 := by omega
    have hj2 : j / 12 * 12 + j % 12 = j := by omega
    have := congrArg (·[j % 12]?) hr
    simp only [List.getElem?_take_of_lt hk, List.getElem?_drop, hj2, List.getElem?_map, List.getElem?_range hk, Option.map_some] at this
    rw [World.var?_cell gN hvar j, ← Array.getElem?_toList, this]
  exact ⟨hs, hn, World.block_lt_of_cell? W _ (hs 0 (by omega)), World.block_lt_of_cell? W _ (hn 0 (by omega))⟩
end Go.Proofs.YtkkfioebpppffaaGreatDoor.Fl
