/-
  The reference: number.
-/
import Derived.Test.YteoebmpfdcbbmacDoorJF
namespace Go.Proofs.YteoebmpfdcbbmacDoor
open Go.ChangeShapes Go.WideShapes Go.ChangeAt Go.RowKit Jn N
set_option maxHeartbeats 4000000
set_option maxRecDepth 100000

theorem numberR_any (v : Value) (L : List Nat) (i : Nat) (w : World) (hv : SeesB w v L) (hi : i + 4 ≤ L.length) :
    Calls Tryd.prog 64 #[v, .int .i64 (i : Int)] w fun e w' => e = .returned (.int .i64 ((num L i : Nat) : Int)) ∧ Below w.heap.size w w' := by
  obtain ⟨ao, n, cap, rfl, HN, hn1, hn2⟩ := hv.shape
  unfold maxLen at hn2
  have hin : i + 4 ≤ n := by have := HN.out; omega
  obtain ⟨g, off, x0, rfl, hg, c0, hx0, HX0⟩ := hv.at i (by omega)
  obtain ⟨g1, o1, x1, e1, hg1, c1, hx1, HX1⟩ := hv.at (i + 1) (by omega)
  simp at e1
  obtain ⟨rfl, rfl⟩ := e1
  obtain ⟨g1, o1, x2, e1, -, c2, hx2, HX2⟩ := hv.at (i + 2) (by omega)
  simp at e1
  obtain ⟨rfl, rfl⟩ := e1
  obtain ⟨g1, o1, x3, e1, -, c3, hx3, HX3⟩ := hv.at (i + 3) (by omega)
  simp at e1
  obtain ⟨rfl, rfl⟩ := e1
  have HNUM : Hid ((((x0 : Int) * 256 + (x1 : Int)) * 256 + (x2 : Int)) * 256 + (x3 : Int) = ((num L i : Nat) : Int)) := by
    unfold Hid num
    simp only [List.getD_eq_getElem?_getD, HX0.out, HX1.out, HX2.out, HX3.out, Option.getD_some]
    omega
  have k0 : ∀ u : Beh w, u.wd.cell? ⟨g, off + i, none⟩ = some (.int .u8 (x0 : Int)) := fun u => (u.ok.cell (p := ⟨g, off + i, none⟩) hg).trans c0
  have k1 : ∀ u : Beh w, u.wd.cell? ⟨g, off + (i + 1), none⟩ = some (.int .u8 (x1 : Int)) := fun u => (u.ok.cell (p := ⟨g, off + (i + 1), none⟩) hg).trans c1
  have k2 : ∀ u : Beh w, u.wd.cell? ⟨g, off + (i + 2), none⟩ = some (.int .u8 (x2 : Int)) := fun u => (u.ok.cell (p := ⟨g, off + (i + 2), none⟩) hg).trans c2
  have k3 : ∀ u : Beh w, u.wd.cell? ⟨g, off + (i + 3), none⟩ = some (.int .u8 (x3 : Int)) := fun u => (u.ok.cell (p := ⟨g, off + (i + 3), none⟩) hg).trans c3
  clear hv c0 c1 c2 c3 HX0 HX1 HX2 HX3
  go_enter Tryd.func64, Tryd.ntmps64
  go_upto_region 1 with fail
  refine wp_region_beh (by kernel_rfl) (by kernel_rfl) ?_
  repeat (go_big_quiet_step (fail))
  refine wpQuiet_nil ?_
  rintro _ ⟨t, rfl⟩
  have HB := hid t.ok
  go_wp2_with fail
  go_ret
  exact ⟨ret_int HNUM.out, HB.out⟩
end Go.Proofs.YteoebmpfdcbbmacDoor
