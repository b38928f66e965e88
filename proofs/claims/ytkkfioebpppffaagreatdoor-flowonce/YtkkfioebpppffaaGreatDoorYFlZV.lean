import Derived.Test.YtkkfioebpppffaaGreatDoorYFlZU
namespace Go.Proofs.YtkkfioebpppffaaGreatDoor.Fl
open Go.Proofs.YtkkfioebpppffaaGreatDoor Go.ChangeShapes Go.WideShapes Go.ChangeAt Go.RowKit N
set_option maxRecDepth 100000

theorem q8 {a : Int} (h : (Lit.int .u8 a).wf = true) : ∃ n : Nat, a = (n : Int) ∧ n < 256 := by
  have h' : (decide (IntKind.u8.min ≤ a) && decide (a ≤ IntKind.u8.max)) = true := h
  rw [show IntKind.u8.min = 0 from by decide +kernel, show IntKind.u8.max = 255 from by decide +kernel] at h'
  simp at h'
  exact ⟨a.toNat, by omega, by omega⟩
theorem q16 {a : Int} (h : (Lit.int .u16 a).wf = true) : ∃ n : Nat, a = (n : Int) ∧ n < 65536 := by
  have h' : (decide (IntKind.u16.min ≤ a) && decide (a ≤ IntKind.u16.max)) = true := h
  rw [show IntKind.u16.min = 0 from by decide +kernel, show IntKind.u16.max = 65535 from by decide +kernel] at h'
  simp at h'
  exact ⟨a.toNat, by omega, by omega⟩
theorem q32 {a : Int} (h : (Lit.int .u32 a).wf = true) : ∃ n : Nat, a = (n : Int) ∧ n < 4294967296 := by
  have h' : (decide (IntKind.u32.min ≤ a) && decide (a ≤ IntKind.u32.max)) = true := h
  rw [show IntKind.u32.min = 0 from by decide +kernel, show IntKind.u32.max = 4294967295 from by decide +kernel] at h'
  simp at h'
  exact ⟨a.toNat, by omega, by omega⟩
theorem q64 {a : Int} (h : (Lit.int .i64 a).wf = true) : Tm.In64 a := by
  have h' : (decide (IntKind.i64.min ≤ a) && decide (a ≤ IntKind.i64.max)) = true := h
  rw [show IntKind.i64.min = -9223372036854775808 from by decide +kernel, show IntKind.i64.max = 9223372036854775807 from by decide +kernel] at h'
  simp at h'
  exact ⟨by omega, by omega⟩
theorem uAdr : Tryz.prog.underlying 30 = some (.int .u32) := by kernel_rfl
theorem u16q : Tryz.prog.underlying 28 = some (.int .u16) := by kernel_rfl
theorem undTu : ∃ f0 f1 f2 f3 f4, Tryz.prog.underlying 37 = some (.struct #[f0, f1, f2, f3, f4]) ∧ (f0.type = 30 ∧ f0.offset = 0 ∧ f1.type = 30 ∧ f1.offset = 1) ∧ f2.type = 5 ∧ f2.offset = 2 ∧ f3.type = 28 ∧ f3.offset = 3 ∧ f4.type = 28 ∧ f4.offset = 4 := ⟨_, _, _, _, _, Tryz.underlying37, ⟨rfl, rfl, rfl, rfl⟩, rfl, rfl, rfl, rfl, rfl, rfl⟩
section
variable {H : Type} {enc : TypeId × Value → H} {W : World} {sp : Nat → Bool} {held : Bool}
theorem open_tu {fuel : Nat} {cs : List Value} {x : DataW H × List MemPlace} (h : DataW.trod enc Tryz.prog W 0 sp held fuel 37 cs = some x) : ∃ t : Tu, cs = t.cells.toList ∧ t.Ok := by
  obtain ⟨f0, f1, f2, f3, f4, hu, ⟨t0, o0, t1, o1⟩, t2, o2, t3, o3, t4, o4⟩ := undTu
  obtain ⟨xs, n, _, rfl, hl, hxl, hf⟩ := DataW.trod_struct hu h
  match xs, hxl with
  | [y0, y1, y2, y3, y4], _ =>
    have g0 := hf 0 f0 rfl
    have g1 := hf 1 f1 rfl
    have g2 := hf 2 f2 rfl
    have g3 := hf 3 f3 rfl
    have g4 := hf 4 f4 rfl
    have cA : Tryz.prog.cellsOf 30 = 1 := by kernel_rfl
    have c8 : Tryz.prog.cellsOf 5 = 1 := by kernel_rfl
    have c6 : Tryz.prog.cellsOf 28 = 1 := by kernel_rfl
    rw [t0, o0, cA] at g0
    rw [t1, o1, cA] at g1
    rw [t2, o2, c8] at g2
    rw [t3, o3, c6] at g3
    rw [t4, o4, c6] at g4
    rw [show Tryz.prog.cellsOf 37 = 5 from by kernel_rfl] at hl
    obtain ⟨z0, e0, _, w0⟩ := DataW.trod_int uAdr g0
    obtain ⟨a0, rfl, h0⟩ := q32 w0
    obtain ⟨z1, e1, _, w1⟩ := DataW.trod_int uAdr g1
    obtain ⟨a1, rfl, h1⟩ := q32 w1
    obtain ⟨z2, e2, _, w2⟩ := DataW.trod_int u8q g2
    obtain ⟨a2, rfl, h2⟩ := q8 w2
    obtain ⟨z3, e3, _, w3⟩ := DataW.trod_int u16q g3
    obtain ⟨a3, rfl, h3⟩ := q16 w3
    obtain ⟨z4, e4, _, w4⟩ := DataW.trod_int u16q g4
    obtain ⟨a4, rfl, h4⟩ := q16 w4
    refine ⟨⟨a0, a1, a2, a3, a4⟩, ?_, ⟨h0, h1, h2, h3, h4⟩⟩
    match cs, hl with
    | [c0, c1, c2, c3, c4], _ =>
      simp at e0 e1 e2 e3 e4
      simp [Tu.cells, e0, e1, e2, e3, e4]
end
end Go.Proofs.YtkkfioebpppffaaGreatDoor.Fl
