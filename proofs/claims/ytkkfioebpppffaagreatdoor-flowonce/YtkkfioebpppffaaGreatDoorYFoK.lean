import Derived.Test.YtkkfioebpppffaaGreatDoorYFlZV
import Derived.Test.YtkkfioebpppffaaGreatDoorES
import Derived.Deep.Strs
import Derived.Deep.DeepHandedRow
import Derived.Lib.LaidTab
import Derived.Stop.LaidErr
namespace Go.Proofs.YtkkfioebpppffaaGreatDoor.N.La
open Go.Proofs.YtkkfioebpppffaaGreatDoor.N
open Go.ChangeShapes Go.WideShapes Go.ChangeAt Go.RowKit
set_option maxRecDepth 100000

theorem u4 : Tryz.prog.underlying 4 = some .bool := by kernel_rfl
theorem u5 : Tryz.prog.underlying 5 = some (.int .u8) := by kernel_rfl
theorem cell1_4 : Tryz.prog.cellsOf 4 = 1 := by kernel_rfl
theorem cell1_5 : Tryz.prog.cellsOf 5 = 1 := by kernel_rfl
theorem gK : Tryz.prog.globalNamed "weft/icmp.kinds" = some 2 := by kernel_rfl
theorem gKType : (Tryz.prog.globals[2]?).map (·.type) = some 188 := by kernel_rfl
theorem uK : Tryz.prog.underlying 188 = some (.array 13 172) := by kernel_rfl
theorem cellsK : Tryz.prog.cellsOf 188 = 26 := by kernel_rfl
theorem cellsQ : Tryz.prog.cellsOf 172 = 2 := by kernel_rfl
theorem undQ : ∃ f0 f1, Tryz.prog.underlying 172 = some (.struct #[f0, f1]) ∧ f0.type = 4 ∧ f0.offset = 0 ∧ f1.type = 5 ∧ f1.offset = 1 := ⟨_, _, Tryz.underlying172, rfl, rfl, rfl, rfl⟩

section
variable {H : Type} {enc : TypeId × Value → H} {W : World} {sp : Nat → Bool} {held : Bool}
theorem row2 {fuel : Nat} {cs : List Value} {a : Bool} {b : Int} {p : List MemPlace} (h : DataW.trod enc Tryz.prog W 0 sp held fuel 172 cs = some (.agg [.lit (.bool a), .lit (.int .u8 b)], p)) :
    cs = [.bool a, .int .u8 b] := by
  obtain ⟨f0, f1, hu, t0, o0, t1, o1⟩ := undQ
  obtain ⟨y0, y1, n, hx, hl, g0, g1⟩ := trod_struct2 hu h
  rw [t0, o0, cell1_4] at g0
  rw [t1, o1, cell1_5] at g1
  rw [cellsQ] at hl
  obtain ⟨z0, e0, rfl⟩ := DataW.trod_bool u4 g0
  obtain ⟨z1, e1, rfl, _⟩ := DataW.trod_int u5 g1
  simp at hx
  obtain ⟨⟨rfl, rfl⟩, _⟩ := hx
  match cs, hl with
  | [c0, c1], _ => simp at e0 e1; rw [e0, e1]
end

theorem tabK3 {W : World} (h2 : laidMet Tryz.prog [("weft/icmp.kinds", Rows.laid_weft_icmp_kinds), ("weft/flow.spans", Rows.laid_weft_flow_spans), ("weft/flow.turns", Rows.laid_weft_flow_turns)] W) : TabK W := by
  obtain ⟨ps, ⟨g, t, cs, fuel, p, q, hg, ht, hvar, hd, _, _⟩, _⟩ := h2
  obtain rfl := Option.some.inj (gK.symm.trans hg)
  obtain rfl := Option.some.inj (gKType.symm.trans ht)
  obtain ⟨xs, m, _, hx, hl, hxl, hall⟩ := DataW.trod_array uK hd
  rw [cellsK] at hl
  rw [cellsQ] at hall
  unfold Rows.laid_weft_icmp_kinds at hx
  match xs, hxl with
  | [(d0, q0), (d1, q1), (d2, q2), (d3, q3), (d4, q4), (d5, q5), (d6, q6), (d7, q7), (d8, q8), (d9, q9), (d10, q10), (d11, q11), (d12, q12)], _ =>
    simp at hx
    obtain ⟨⟨rfl, rfl, rfl, rfl, rfl, rfl, rfl, rfl, rfl, rfl, rfl, rfl, rfl⟩, _⟩ := hx
    have r0 := row2 (hall 0 (by omega))
    have r1 := row2 (hall 1 (by omega))
    have r2 := row2 (hall 2 (by omega))
    have r3 := row2 (hall 3 (by omega))
    have r4 := row2 (hall 4 (by omega))
    have r5 := row2 (hall 5 (by omega))
    have r6 := row2 (hall 6 (by omega))
    have r7 := row2 (hall 7 (by omega))
    have r8 := row2 (hall 8 (by omega))
    have r9 := row2 (hall 9 (by omega))
    have r10 := row2 (hall 10 (by omega))
    have r11 := row2 (hall 11 (by omega))
    have r12 := row2 (hall 12 (by omega))
    have hcs : cs.toList = rowsK := by
      match hc : cs.toList, hl with
      | [c0, c1, c2, c3, c4, c5, c6, c7, c8, c9, c10, c11, c12, c13, c14, c15, c16, c17, c18, c19, c20, c21, c22, c23, c24, c25], _ =>
        rw [hc] at r0 r1 r2 r3 r4 r5 r6 r7 r8 r9 r10 r11 r12
        simp at r0 r1 r2 r3 r4 r5 r6 r7 r8 r9 r10 r11 r12
        obtain ⟨rfl, rfl⟩ := r0
        obtain ⟨rfl, rfl⟩ := r1
        obtain ⟨rfl, rfl⟩ := r2
        obtain ⟨rfl, rfl⟩ := r3
        obtain ⟨rfl, rfl⟩ := r4
        obtain ⟨rfl, rfl⟩ := r5
        obtain ⟨rfl, rfl⟩ := r6
        obtain ⟨rfl, rfl⟩ := r7
        obtain ⟨rfl, rfl⟩ := r8
        obtain ⟨rfl, rfl⟩ := r9
        obtain ⟨rfl, rfl⟩ := r10
        obtain ⟨rfl, rfl⟩ := r11
        obtain ⟨rfl, rfl⟩ := r12
        rfl
    have hcell : ∀ j (hj : j < 26), W.cell? ⟨2, j, none⟩ = some rowsK[j] := by
      intro j hj
      have h3 := World.var?_cell gK hvar j
      rw [h3, ← Array.getElem?_toList, hcs]
      exact List.getElem?_eq_getElem hj
    exact ⟨hcell, World.block_lt_of_cell? W _ (hcell 0 (by omega))⟩

end Go.Proofs.YtkkfioebpppffaaGreatDoor.N.La
