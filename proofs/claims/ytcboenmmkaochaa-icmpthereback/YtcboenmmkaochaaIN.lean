/-
  Messages that came in, opened.
-/
import Derived.Test.YtcboenmmkaochaaNO
import Derived.Test.YtcboenmmkaochaaIE
import Derived.Deep.Slices
import Derived.Deep.Strs
import Derived.SizedLaws
namespace Go.Proofs.Ytcboenmmkaochaa.N
open Go.ChangeShapes Go.WideShapes Go.ChangeAt Go.RowKit
set_option maxRecDepth 100000

theorem cells_ct : Try.prog.cellsOf 25 = 4 := by kernel_rfl
theorem und_ad : Try.prog.underlying 30 = some (.int .u32) := by kernel_rfl
theorem cell1_ad : Try.prog.cellsOf 30 = 1 := by kernel_rfl
theorem und_w : Try.prog.underlying 22 = some (.int .u32) := by kernel_rfl
theorem cell1_w : Try.prog.cellsOf 22 = 1 := by kernel_rfl
theorem und_ct : ∃ f0 f1 f2 f3, Try.prog.underlying 25 = some (.struct #[f0, f1, f2, f3]) ∧ f0.type = 5 ∧ f0.offset = 0 ∧ f1.type = 5 ∧ f1.offset = 1 ∧ f2.type = 22 ∧ f2.offset = 2 ∧ f3.type = 23 ∧ f3.offset = 3 := ⟨_, _, _, _, Try.underlying25, rfl, rfl, rfl, rfl, rfl, rfl, rfl, rfl⟩

section
variable {H : Type} {enc : TypeId × Value → H} {W : World}

/-- A message that reads. -/
theorem open_ct {fuel : Nat} {cs : List Value} {x : DataW H × List MemPlace} (h : DataW.trod enc Try.prog W 0 (fun _ => true) true fuel 25 cs = some x) :
    ∃ (m : Im.Ct) (vm : Value), cs = (ctCells m vm).toList ∧ m.Ok ∧ SeesB W vm m.B ∧ Fits x.1 25 m.B.length ∧ vm.oneCell' = true := by
  obtain ⟨f0, f1, f2, f3, hu, t0, o0, t1, o1, t2, o2, t3, o3⟩ := und_ct
  obtain ⟨xs, n, _, rfl, hl, hxl, hf⟩ := DataW.trod_struct hu h
  match xs, hxl with
  | [y0, y1, y2, y3], _ =>
    have g0 := hf 0 f0 rfl
    have g1 := hf 1 f1 rfl
    have g2 := hf 2 f2 rfl
    have g3 := hf 3 f3 rfl
    rw [t0, o0, cell1_5] at g0
    rw [t1, o1, cell1_5] at g1
    rw [t2, o2, cell1_w] at g2
    rw [t3, o3, cell1_25] at g3
    rw [cells_ct] at hl
    obtain ⟨z0, e0, _, w0⟩ := DataW.trod_int u5 g0
    obtain ⟨T, rfl, hT⟩ := wf_u8 w0
    obtain ⟨z1, e1, _, w1⟩ := DataW.trod_int u5 g1
    obtain ⟨C, rfl, hC⟩ := wf_u8 w1
    obtain ⟨z2, e2, _, w2⟩ := DataW.trod_int und_w g2
    obtain ⟨R, rfl, hR⟩ := wf_u32 w2
    obtain ⟨vm, B, e3, hs, hfit, ho⟩ := open_bytes g3
    refine ⟨⟨T, C, R, B⟩, vm, ?_, ⟨hT, hC, hR⟩, hs, ⟨?_, fun hw => ?_⟩, ho⟩
    · match cs, hl with
      | [c0, c1, c2, c3], _ =>
        simp at e0 e1 e2 e3
        simp [ctCells, e0, e1, e2, e3]
    · simp only [List.map_cons, List.map_nil, Rows.uptoBulk, Rows.uptoBulkAll]
      have := hfit.bulk
      omega
    · refine hfit.room fun k hk => hw k ?_
      simp only [DataW.weights, hu]
      exact DataW.weights_mem_each (j := 3) (t := 23) (d := y3.1) (by simp [t3]) rfl _ hk
end
end Go.Proofs.Ytcboenmmkaochaa.N
