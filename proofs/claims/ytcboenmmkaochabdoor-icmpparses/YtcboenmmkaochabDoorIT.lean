/-
  The laid tables.
-/
import Derived.Test.YtcboenmmkaochabDoorIO
import Derived.Test.YtcboenmmkaochabDoorCards
import Derived.Test.YtcboenmmkaochabDoorTie
import Derived.Deep.DeepHandedRow
import Derived.Lib.LaidTab
import Derived.Stop.LaidErr
namespace Go.Proofs.YtcboenmmkaochabDoor.N
open Go.ChangeShapes Go.WideShapes Go.ChangeAt Go.RowKit
set_option maxRecDepth 100000

/-- The table of classes. -/
def rowsC : List Value := [.int .u32 0, .int .i64 8, .int .i64 1, .int .u32 2130706432, .int .i64 8, .int .i64 2, .int .u32 3758096384, .int .i64 4, .int .i64 3, .int .u32 4026531840, .int .i64 4, .int .i64 4]

/-- The table of kinds. -/
def rowsK : List Value := [.bool false, .int .u8 0, .bool false, .int .u8 0, .bool false, .int .u8 0, .bool true, .int .u8 16, .bool true, .int .u8 0, .bool true, .int .u8 0, .bool false, .int .u8 0, .bool false, .int .u8 0, .bool false, .int .u8 0, .bool false, .int .u8 0, .bool false, .int .u8 0, .bool true, .int .u8 2, .bool true, .int .u8 3]

/-- They lie in the world. -/
def TabC (w : World) : Prop := (∀ j (h : j < 12), w.cell? ⟨1, j, none⟩ = some rowsC[j]) ∧ 1 < w.heap.size
def TabK (w : World) : Prop := (∀ j (h : j < 26), w.cell? ⟨0, j, none⟩ = some rowsK[j]) ∧ 0 < w.heap.size

theorem TabC.below {w w' : World} (h : TabC w) (hb : Below w.heap.size w w') : TabC w' :=
  ⟨fun j hj => (hb.cell (p := ⟨1, j, none⟩) h.2).trans (h.1 j hj), Nat.lt_of_lt_of_le h.2 hb.size⟩
theorem TabK.below {w w' : World} (h : TabK w) (hb : Below w.heap.size w w') : TabK w' :=
  ⟨fun j hj => (hb.cell (p := ⟨0, j, none⟩) h.2).trans (h.1 j hj), Nat.lt_of_lt_of_le h.2 hb.size⟩

theorem own : ownKnob Tryd.prog.godebug = none := by kernel_rfl
theorem laidOut : laidOutB Tryd.prog = true := by kernel_rfl
theorem gK : Tryd.prog.globalNamed "weft/icmp.kinds" = some 0 := by kernel_rfl
theorem gC : Tryd.prog.globalNamed "weft/addr.classRows" = some 1 := by kernel_rfl
theorem gKType : (Tryd.prog.globals[0]?).map (·.type) = some 96 := by kernel_rfl
theorem gCType : (Tryd.prog.globals[1]?).map (·.type) = some 99 := by kernel_rfl
theorem uC : Tryd.prog.underlying 99 = some (.array 4 98) := by kernel_rfl
theorem uK : Tryd.prog.underlying 96 = some (.array 13 82) := by kernel_rfl
theorem cellsC : Tryd.prog.cellsOf 99 = 12 := by kernel_rfl
theorem cellsR : Tryd.prog.cellsOf 98 = 3 := by kernel_rfl
theorem cellsK : Tryd.prog.cellsOf 96 = 26 := by kernel_rfl
theorem cellsQ : Tryd.prog.cellsOf 82 = 2 := by kernel_rfl
theorem undR : ∃ f0 f1 f2, Tryd.prog.underlying 98 = some (.struct #[f0, f1, f2]) ∧ f0.type = 31 ∧ f0.offset = 0 ∧ f1.type = 3 ∧ f1.offset = 1 ∧ f2.type = 3 ∧ f2.offset = 2 := ⟨_, _, _, Tryd.underlying98, rfl, rfl, rfl, rfl, rfl, rfl⟩
theorem undQ : ∃ f0 f1, Tryd.prog.underlying 82 = some (.struct #[f0, f1]) ∧ f0.type = 4 ∧ f0.offset = 0 ∧ f1.type = 5 ∧ f1.offset = 1 := ⟨_, _, Tryd.underlying82, rfl, rfl, rfl, rfl⟩

section
variable {H : Type} {enc : TypeId × Value → H} {W : World} {sp : Nat → Bool} {held : Bool}

theorem row3 {fuel : Nat} {cs : List Value} {a b c : Int} {p : List MemPlace} (h : DataW.trod enc Tryd.prog W 0 sp held fuel 98 cs = some (.agg [.lit (.int .u32 a), .lit (.int .i64 b), .lit (.int .i64 c)], p)) :
    cs = [.int .u32 a, .int .i64 b, .int .i64 c] := by
  obtain ⟨f0, f1, f2, hu, t0, o0, t1, o1, t2, o2⟩ := undR
  obtain ⟨y0, y1, y2, n, hx, hl, g0, g1, g2⟩ := Go.Deep.trod_struct3 hu h
  rw [t0, o0, cell1_ad] at g0
  rw [t1, o1, cell1_3] at g1
  rw [t2, o2, cell1_3] at g2
  rw [cellsR] at hl
  obtain ⟨z0, e0, rfl, _⟩ := DataW.trod_int und_ad g0
  obtain ⟨z1, e1, rfl, _⟩ := DataW.trod_int u3 g1
  obtain ⟨z2, e2, rfl, _⟩ := DataW.trod_int u3 g2
  simp at hx
  obtain ⟨⟨rfl, rfl, rfl⟩, _⟩ := hx
  match cs, hl with
  | [c0, c1, c2], _ => simp at e0 e1 e2; rw [e0, e1, e2]

theorem row2 {fuel : Nat} {cs : List Value} {a : Bool} {b : Int} {p : List MemPlace} (h : DataW.trod enc Tryd.prog W 0 sp held fuel 82 cs = some (.agg [.lit (.bool a), .lit (.int .u8 b)], p)) :
    cs = [.bool a, .int .u8 b] := by
  obtain ⟨f0, f1, hu, t0, o0, t1, o1⟩ := undQ
  obtain ⟨y0, y1, n, hx, hl, g0, g1⟩ := trod_struct2 hu h
  rw [t0, o0, cell1_4] at g0
  rw [t1, o1, cell1_5] at g1
  rw [cellsQ] at hl
  obtain ⟨z0, e0, rfl⟩ := DataW.trod_bool u4 g0
  obtain ⟨z1, e1, rfl, _⟩ := DataW.trod_int u5 g1
  simp at hx
  obtain ⟨⟨rfl, rfl⟩, _⟩ := hx
  match cs, hl with
  | [c0, c1], _ => simp at e0 e1; rw [e0, e1]
end

theorem tabC {W : World} (h : laidMet Tryd.prog [("weft/addr.classRows", Rows.laid_weft_addr_classRows), ("weft/icmp.kinds", Rows.laid_weft_icmp_kinds)] W) : TabC W := by
  obtain ⟨ps, ⟨g, t, cs, fuel, p, q, hg, ht, hvar, hd, _, _⟩, _⟩ := h
  obtain rfl := Option.some.inj (gC.symm.trans hg)
  obtain rfl := Option.some.inj (gCType.symm.trans ht)
  obtain ⟨xs, m, _, hx, hl, hxl, hall⟩ := DataW.trod_array uC hd
  rw [cellsC] at hl
  rw [cellsR] at hall
  unfold Rows.laid_weft_addr_classRows at hx
  match xs, hxl with
  | [y0, y1, y2, y3], _ =>
    simp at hx
    obtain ⟨⟨e0, e1, e2, e3⟩, _⟩ := hx
    obtain ⟨d0, q0⟩ := y0
    obtain ⟨d1, q1⟩ := y1
    obtain ⟨d2, q2⟩ := y2
    obtain ⟨d3, q3⟩ := y3
    simp only at e0 e1 e2 e3
    subst e0 e1 e2 e3
    have r0 := row3 (hall 0 (by omega))
    have r1 := row3 (hall 1 (by omega))
    have r2 := row3 (hall 2 (by omega))
    have r3 := row3 (hall 3 (by omega))
    have hcs : cs.toList = rowsC := by
      match hc : cs.toList, hl with
      | [c0, c1, c2, c3, c4, c5, c6, c7, c8, c9, c10, c11], _ =>
        rw [hc] at r0 r1 r2 r3
        simp at r0 r1 r2 r3
        obtain ⟨rfl, rfl, rfl⟩ := r0
        obtain ⟨rfl, rfl, rfl⟩ := r1
        obtain ⟨rfl, rfl, rfl⟩ := r2
        obtain ⟨rfl, rfl, rfl⟩ := r3
        rfl
    have hcell : ∀ j (hj : j < 12), W.cell? ⟨1, j, none⟩ = some rowsC[j] := by
      intro j hj
      have h3 := World.var?_cell gC hvar j
      rw [h3, ← Array.getElem?_toList, hcs]
      exact List.getElem?_eq_getElem hj
    exact ⟨hcell, World.block_lt_of_cell? W _ (hcell 0 (by omega))⟩

theorem tabK {W : World} (h : laidMet Tryd.prog [("weft/addr.classRows", Rows.laid_weft_addr_classRows), ("weft/icmp.kinds", Rows.laid_weft_icmp_kinds)] W) : TabK W := by
  have h2 : laidMet Tryd.prog [("weft/icmp.kinds", Rows.laid_weft_icmp_kinds)] W := h.tail
  obtain ⟨ps, ⟨g, t, cs, fuel, p, q, hg, ht, hvar, hd, _, _⟩, _⟩ := h2
  obtain rfl := Option.some.inj (gK.symm.trans hg)
  obtain rfl := Option.some.inj (gKType.symm.trans ht)
  obtain ⟨xs, m, _, hx, hl, hxl, hall⟩ := DataW.trod_array uK hd
  rw [cellsK] at hl
  rw [cellsQ] at hall
  unfold Rows.laid_weft_icmp_kinds at hx
  match xs, hxl with
  | [(d0, q0), (d1, q1), (d2, q2), (d3, q3), (d4, q4), (d5, q5), (d6, q6), (d7, q7), (d8, q8), (d9, q9), (d10, q10), (d11, q11), (d12, q12)], _ =>
    simp at hx
    obtain ⟨⟨rfl, rfl, rfl, rfl, rfl, rfl, rfl, rfl, rfl, rfl, rfl, rfl, rfl⟩, _⟩ := hx
    have r0 := row2 (hall 0 (by omega))
    have r1 := row2 (hall 1 (by omega))
    have r2 := row2 (hall 2 (by omega))
    have r3 := row2 (hall 3 (by omega))
    have r4 := row2 (hall 4 (by omega))
    have r5 := row2 (hall 5 (by omega))
    have r6 := row2 (hall 6 (by omega))
    have r7 := row2 (hall 7 (by omega))
    have r8 := row2 (hall 8 (by omega))
    have r9 := row2 (hall 9 (by omega))
    have r10 := row2 (hall 10 (by omega))
    have r11 := row2 (hall 11 (by omega))
    have r12 := row2 (hall 12 (by omega))
    have hcs : cs.toList = rowsK := by
      match hc : cs.toList, hl with
      | [c0, c1, c2, c3, c4, c5, c6, c7, c8, c9, c10, c11, c12, c13, c14, c15, c16, c17, c18, c19, c20, c21, c22, c23, c24, c25], _ =>
        rw [hc] at r0 r1 r2 r3 r4 r5 r6 r7 r8 r9 r10 r11 r12
        simp at r0 r1 r2 r3 r4 r5 r6 r7 r8 r9 r10 r11 r12
        obtain ⟨rfl, rfl⟩ := r0
        obtain ⟨rfl, rfl⟩ := r1
        obtain ⟨rfl, rfl⟩ := r2
        obtain ⟨rfl, rfl⟩ := r3
        obtain ⟨rfl, rfl⟩ := r4
        obtain ⟨rfl, rfl⟩ := r5
        obtain ⟨rfl, rfl⟩ := r6
        obtain ⟨rfl, rfl⟩ := r7
        obtain ⟨rfl, rfl⟩ := r8
        obtain ⟨rfl, rfl⟩ := r9
        obtain ⟨rfl, rfl⟩ := r10
        obtain ⟨rfl, rfl⟩ := r11
        obtain ⟨rfl, rfl⟩ := r12
        rfl
    have hcell : ∀ j (hj : j < 26), W.cell? ⟨0, j, none⟩ = some rowsK[j] := by
      intro j hj
      have h3 := World.var?_cell gK hvar j
      rw [h3, ← Array.getElem?_toList, hcs]
      exact List.getElem?_eq_getElem hj
    exact ⟨hcell, World.block_lt_of_cell? W _ (hcell 0 (by omega))⟩

/-- The cells of a table of rows of numbers and bools. -/
def aggCells : DataW Unit → Array Value
  | .agg ds => (ds.flatMap fun d => match d with
    | .agg es => es.map fun e => match e with | .lit (.int k z) => Value.int k z | .lit (.bool b) => Value.bool b | _ => .bool false
    | _ => [.bool false]).toArray
  | _ => #[]

def put (d : DataW Unit) : Obj → Obj
  | .cells _ t frozen => .cells (aggCells d) t frozen
  | o => o

/-- A world for the witness: the settled one, the tables holding what their initialisers lay. -/
noncomputable def laidWorld (os : Os) : World :=
  { World.holding Tryd.prog os ⟨#[], #[], []⟩ with heap := ((World.holding Tryd.prog os ⟨#[], #[], []⟩).heap.modify 1 (put Rows.laid_weft_addr_classRows)).modify 0 (put Rows.laid_weft_icmp_kinds) }
end Go.Proofs.YtcboenmmkaochabDoor.N
