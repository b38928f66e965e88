import Derived.Test.YthmhiehglcfepaaDoorFlZU
namespace Go.Proofs.YthmhiehglcfepaaDoor.Fl
open Go.Proofs.YthmhiehglcfepaaDoor Go.ChangeShapes Go.WideShapes Go.ChangeAt Go.RowKit N
set_option maxRecDepth 100000

theorem q8 {a : Int} (h : (Lit.int .u8 a).wf = true) : ∃ n : Nat, a = (n : Int) ∧ n < 256 := by
  have h' : (decide (IntKind.u8.min ≤ a) && decide (a ≤ IntKind.u8.max)) = true := h
  rw [show IntKind.u8.min = 0 from by decide +kernel, show IntKind.u8.max = 255 from by decide +kernel] at h'
  simp at h'
  exact ⟨a.toNat, by omega, by omega⟩
theorem q16 {a : Int} (h : (Lit.int .u16 a).wf = true) : ∃ n : Nat, a = (n : Int) ∧ n < 65536 := by
  have h' : (decide (IntKind.u16.min ≤ a) && decide (a ≤ IntKind.u16.max)) = true := h
  rw [show IntKind.u16.min = 0 from by decide +kernel, show IntKind.u16.max = 65535 from by decide +kernel] at h'
  simp at h'
  exact ⟨a.toNat, by omega, by omega⟩
theorem q32 {a : Int} (h : (Lit.int .u32 a).wf = true) : ∃ n : Nat, a = (n : Int) ∧ n < 4294967296 := by
  have h' : (decide (IntKind.u32.min ≤ a) && decide (a ≤ IntKind.u32.max)) = true := h
  rw [show IntKind.u32.min = 0 from by decide +kernel, show IntKind.u32.max = 4294967295 from by decide +kernel] at h'
  simp at h'
  exact ⟨a.toNat, by omega, by omega⟩
theorem q64 {a : Int} (h : (Lit.int .i64 a).wf = true) : Tm.In64 a := by
  have h' : (decide (IntKind.i64.min ≤ a) && decide (a ≤ IntKind.i64.max)) = true := h
  rw [show IntKind.i64.min = -9223372036854775808 from by decide +kernel, show IntKind.i64.max = 9223372036854775807 from by decide +kernel] at h'
  simp at h'
  exact ⟨by omega, by omega⟩
theorem uAdr : Tryd.prog.underlying 23 = some (.int .u32) := by kernel_rfl
theorem u16q : Tryd.prog.underlying 24 = some (.int .u16) := by kernel_rfl
theorem undTu : ∃ f0 f1 f2 f3 f4, Tryd.prog.underlying 26 = some (.struct #[f0, f1, f2, f3, f4]) ∧ (f0.type = 23 ∧ f0.offset = 0 ∧ f1.type = 23 ∧ f1.offset = 1) ∧ f2.type = 5 ∧ f2.offset = 2 ∧ f3.type = 24 ∧ f3.offset = 3 ∧ f4.type = 24 ∧ f4.offset = 4 := ⟨_, _, _, _, _, Tryd.underlying26, ⟨rfl, rfl, rfl, rfl⟩, rfl, rfl, rfl, rfl, rfl, rfl⟩
theorem und8 : Tryd.prog.underlying 27 = some (.array 8 2) := by kernel_rfl

section
variable {H : Type} {enc : TypeId × Value → H} {W : World} {sp : Nat → Bool} {held : Bool}
theorem open_tu {fuel : Nat} {cs : List Value} {x : DataW H × List MemPlace} (h : DataW.trod enc Tryd.prog W 0 sp held fuel 26 cs = some x) : ∃ t : Tu, cs = t.cells.toList ∧ t.Ok := by
  obtain ⟨f0, f1, f2, f3, f4, hu, ⟨t0, o0, t1, o1⟩, t2, o2, t3, o3, t4, o4⟩ := undTu
  obtain ⟨xs, n, _, rfl, hl, hxl, hf⟩ := DataW.trod_struct hu h
  match xs, hxl with
  | [y0, y1, y2, y3, y4], _ =>
    have g0 := hf 0 f0 rfl
    have g1 := hf 1 f1 rfl
    have g2 := hf 2 f2 rfl
    have g3 := hf 3 f3 rfl
    have g4 := hf 4 f4 rfl
    have cA : Tryd.prog.cellsOf 23 = 1 := by kernel_rfl
    have c8 : Tryd.prog.cellsOf 5 = 1 := by kernel_rfl
    have c6 : Tryd.prog.cellsOf 24 = 1 := by kernel_rfl
    rw [t0, o0, cA] at g0
    rw [t1, o1, cA] at g1
    rw [t2, o2, c8] at g2
    rw [t3, o3, c6] at g3
    rw [t4, o4, c6] at g4
    rw [show Tryd.prog.cellsOf 26 = 5 from by kernel_rfl] at hl
    obtain ⟨z0, e0, _, w0⟩ := DataW.trod_int uAdr g0
    obtain ⟨a0, rfl, h0⟩ := q32 w0
    obtain ⟨z1, e1, _, w1⟩ := DataW.trod_int uAdr g1
    obtain ⟨a1, rfl, h1⟩ := q32 w1
    obtain ⟨z2, e2, _, w2⟩ := DataW.trod_int u8q g2
    obtain ⟨a2, rfl, h2⟩ := q8 w2
    obtain ⟨z3, e3, _, w3⟩ := DataW.trod_int u16q g3
    obtain ⟨a3, rfl, h3⟩ := q16 w3
    obtain ⟨z4, e4, _, w4⟩ := DataW.trod_int u16q g4
    obtain ⟨a4, rfl, h4⟩ := q16 w4
    refine ⟨⟨a0, a1, a2, a3, a4⟩, ?_, ⟨h0, h1, h2, h3, h4⟩⟩
    match cs, hl with
    | [c0, c1, c2, c3, c4], _ =>
      simp at e0 e1 e2 e3 e4
      simp [Tu.cells, e0, e1, e2, e3, e4]
/-- An array of integers that is read: some integers. -/
theorem ints_in {fuel : Nat} {cs : List Value} {x : DataW H × List MemPlace} (h : DataW.trod enc Tryd.prog W 0 sp held fuel 27 cs = some x) : ∃ L : List Int, cs = (i64C L).toList ∧ L.length = 8 ∧ ∀ y ∈ L, Tm.In64 y := by
  obtain ⟨xs, m, _, rfl, hl, hxl, hall⟩ := DataW.trod_array und8 h
  rw [show Tryd.prog.cellsOf 2 = 1 from by kernel_rfl] at hall
  rw [show Tryd.prog.cellsOf 27 = 8 from by kernel_rfl] at hl
  have hone : ∀ i, i < 8 → ∃ n : Int, cs[i]? = some (.int .i64 n) ∧ Tm.In64 n := fun i hi => by
    have hg := hall i hi
    obtain ⟨y, hy⟩ : ∃ y, xs[i]? = some y := ⟨_, List.getElem?_eq_getElem (by omega)⟩
    obtain ⟨c, hcx⟩ : ∃ c, cs[i]? = some c := ⟨_, List.getElem?_eq_getElem (by omega)⟩
    have hd : (cs.drop (i * 1)).take 1 = [c] := by
      obtain ⟨hlt, hce⟩ := List.getElem?_eq_some_iff.1 hcx
      rw [Nat.mul_one, List.drop_eq_getElem_cons hlt, hce]
      rfl
    rw [hd, hy] at hg
    obtain ⟨z, e1, _, w1⟩ := DataW.trod_int i64q hg
    simp at e1
    exact ⟨z, by rw [hcx, e1], q64 w1⟩
  clear hall
  match cs, hl, hone with
  | [c0, c1, c2, c3, c4, c5, c6, c7], _, hone =>
    obtain ⟨n0, e0, b0⟩ := hone 0 (by omega)
    obtain ⟨n1, e1, b1⟩ := hone 1 (by omega)
    obtain ⟨n2, e2, b2⟩ := hone 2 (by omega)
    obtain ⟨n3, e3, b3⟩ := hone 3 (by omega)
    obtain ⟨n4, e4, b4⟩ := hone 4 (by omega)
    obtain ⟨n5, e5, b5⟩ := hone 5 (by omega)
    obtain ⟨n6, e6, b6⟩ := hone 6 (by omega)
    obtain ⟨n7, e7, b7⟩ := hone 7 (by omega)
    simp at e0 e1 e2 e3 e4 e5 e6 e7
    subst e0 e1 e2 e3 e4 e5 e6 e7
    refine ⟨[n0, n1, n2, n3, n4, n5, n6, n7], rfl, rfl, fun y hy => ?_⟩
    simp at hy
    rcases hy with rfl | rfl | rfl | rfl | rfl | rfl | rfl | rfl <;> assumption
end
end Go.Proofs.YthmhiehglcfepaaDoor.Fl
