/-
  Datagrams that came in, opened.
-/
import Derived.Test.YtcelcnafcfefhabNO
import Derived.Test.YtcelcnafcfefhabTC
namespace Go.Proofs.Ytcelcnafcfefhab.N
open Go.ChangeShapes Go.WideShapes Go.ChangeAt Go.RowKit
set_option maxRecDepth 100000

theorem cells_dg : Try.prog.cellsOf 33 = 3 := by kernel_rfl
theorem und_ad : Try.prog.underlying 23 = some (.int .u32) := by kernel_rfl
theorem cell1_ad : Try.prog.cellsOf 23 = 1 := by kernel_rfl
theorem und_u16 : Try.prog.underlying 24 = some (.int .u16) := by kernel_rfl
theorem cell1_u16 : Try.prog.cellsOf 24 = 1 := by kernel_rfl
theorem und_dg : ∃ f0 f1 f2, Try.prog.underlying 33 = some (.struct #[f0, f1, f2]) ∧ f0.type = 24 ∧ f0.offset = 0 ∧ f1.type = 24 ∧ f1.offset = 1 ∧ f2.type = 29 ∧ f2.offset = 2 := ⟨_, _, _, Try.underlying33, rfl, rfl, rfl, rfl, rfl, rfl⟩

section
variable {H : Type} {enc : TypeId × Value → H} {W : World}

/-- A datagram that reads. -/
theorem open_dg {fuel : Nat} {cs : List Value} {x : DataW H × List MemPlace} (h : DataW.trod enc Try.prog W 0 (fun _ => true) true fuel 33 cs = some x) :
    ∃ (m : Tn.Dg) (vm : Value), cs = (dgCells m vm).toList ∧ m.Ok ∧ SeesB W vm m.B ∧ Fits x.1 33 m.B.length ∧ vm.oneCell' = true := by
  obtain ⟨f0, f1, f2, hu, t0, o0, t1, o1, t2, o2⟩ := und_dg
  obtain ⟨xs, n, _, rfl, hl, hxl, hf⟩ := DataW.trod_struct hu h
  match xs, hxl with
  | [y0, y1, y2], _ =>
    have g0 := hf 0 f0 rfl
    have g1 := hf 1 f1 rfl
    have g2 := hf 2 f2 rfl
    rw [t0, o0, cell1_u16] at g0
    rw [t1, o1, cell1_u16] at g1
    rw [t2, o2, cell1_25] at g2
    rw [cells_dg] at hl
    obtain ⟨z0, e0, _, w0⟩ := DataW.trod_int und_u16 g0
    obtain ⟨T, rfl, hT⟩ := wf_u16 w0
    obtain ⟨z1, e1, _, w1⟩ := DataW.trod_int und_u16 g1
    obtain ⟨C, rfl, hC⟩ := wf_u16 w1
    obtain ⟨vm, B, e2, hs, hfit, ho⟩ := open_bytes g2
    refine ⟨⟨T, C, B⟩, vm, ?_, ⟨hT, hC⟩, hs, ⟨?_, fun hw => ?_⟩, ho⟩
    · match cs, hl with
      | [c0, c1, c2], _ =>
        simp at e0 e1 e2
        simp [dgCells, e0, e1, e2]
    · simp only [List.map_cons, List.map_nil, Rows.uptoBulk, Rows.uptoBulkAll]
      have := hfit.bulk
      omega
    · refine hfit.room fun k hk => hw k ?_
      simp only [DataW.weights, hu]
      exact DataW.weights_mem_each (j := 2) (t := 29) (d := y2.1) (by simp [t2]) rfl _ hk
end
end Go.Proofs.Ytcelcnafcfefhab.N
