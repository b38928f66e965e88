import Derived.Test.YthbjfbalgejndaaTO
import Derived.Test.YthbjfbalgejndaaUA
import Derived.Test.YthbjfbalgejndaaUB
import Derived.Test.YthbjfbalgejndaaUC
import Derived.Test.YthbjfbalgejndaaUD
namespace Go.Proofs.Ythbjfbalgejndaa
open Go.ChangeShapes Go.WideShapes Go.ChangeAt Go.RowKit H
set_option maxRecDepth 100000

theorem cells57 : Try.prog.cellsOf 57 = 4 := by kernel_rfl

/-- A list of steps that came in. -/
theorem open_steps {H : Type} {enc : TypeId × Value → H} {W : World} {base : Nat} {v : Value} {d : DataW H} {ps : List MemPlace} (hval : Value.okWide Try.prog W .any base 52 v) (h : DataW.Trod enc Try.prog W 0 (fun _ => true) true 52 v d ps) :
    ∃ L, SeesS W v L := by
  obtain ⟨a0, len, cap, rfl⟩ := okWide_slice Try.underlying52 hval
  obtain ⟨fuel, hf⟩ := h
  rcases Go.Deep.open_slice Try.underlying52 hf with ⟨h1, _⟩ | ⟨a, len', cap', m, n, D, Pl, h1, _, hlc, hcm, hm, _, hx⟩
  · simp [Value.cells] at h1
    obtain ⟨rfl, rfl, rfl⟩ := h1
    exact ⟨[], none, 0, rfl, by simp, by unfold maxLen; omega, fun j hj => absurd hj (by simp)⟩
  · simp [Value.cells] at h1
    obtain ⟨rfl, rfl, rfl⟩ := h1
    simp at hm
    subst hm
    have key : ∀ i, i < len → ∃ q : Op4, (In64 q.2.2.1 ∧ In64 q.2.2.2) ∧ W.cell? ((a.add (i * 4)).add 0) = some (.int .i64 q.1) ∧ W.cell? ((a.add (i * 4)).add 1) = some (.int .i64 q.2.1) ∧ W.cell? ((a.add (i * 4)).add 2) = some (.int .i64 q.2.2.1) ∧ W.cell? ((a.add (i * 4)).add 3) = some (.int .i64 q.2.2.2) := by
      intro i hi
      obtain ⟨cs', k1, k2⟩ := hx i (by omega)
      rw [cells57] at k1
      obtain ⟨_, hlen, hc⟩ := World.cells?_some k1
      obtain ⟨xs, k, _, _, _, hxl, hff⟩ := DataW.trod_struct Try.underlying57 k2
      match xs, hxl, cs', hlen with
      | [y0, y1, y2, y3], _, [v0, v1, v2, v3], _ =>
        have g0 := hff 0 _ rfl
        have g1 := hff 1 _ rfl
        have g2 := hff 2 _ rfl
        have g3 := hff 3 _ rfl
        simp [cells3, cells2] at g0 g1 g2 g3
        obtain ⟨n0, e0, _, w0⟩ := DataW.trod_int Try.underlying3 g0
        obtain ⟨n1, e1, _, w1⟩ := DataW.trod_int Try.underlying3 g1
        obtain ⟨n2, e2, _, w2⟩ := DataW.trod_int Try.underlying3 g2
        obtain ⟨n3, e3, _, w3⟩ := DataW.trod_int Try.underlying2 g3
        simp at e0 e1 e2 e3
        subst e0 e1 e2 e3
        exact ⟨(n0, n1, n2, n3), ⟨wf64 w2, wf64 w3⟩, hc 0 (by omega), hc 1 (by omega), hc 2 (by omega), hc 3 (by omega)⟩
    have hch : ∃ F : Nat → Op4, ∀ i, i < len → (In64 (F i).2.2.1 ∧ In64 (F i).2.2.2) ∧ W.cell? ((a.add (i * 4)).add 0) = some (.int .i64 (F i).1) ∧ W.cell? ((a.add (i * 4)).add 1) = some (.int .i64 (F i).2.1) ∧ W.cell? ((a.add (i * 4)).add 2) = some (.int .i64 (F i).2.2.1) ∧ W.cell? ((a.add (i * 4)).add 3) = some (.int .i64 (F i).2.2.2) := by
      refine ⟨fun i => if h : i < len then (key i h).choose else (0, 0, 0, 0), fun i hi => ?_⟩
      simp only [dif_pos hi]
      exact (key i hi).choose_spec
    obtain ⟨F, hF⟩ := hch
    refine ⟨(List.range len).map F, some a, m, by simp, by simpa using hlc, hcm, fun j hj => ?_⟩
    have hj' : j < len := by simpa using hj
    have hsp : ∃ g off, a = ⟨g, off, none⟩ ∧ g < W.heap.size := by
      obtain ⟨_, z0, _⟩ := hF 0 (by omega)
      have e : (a.add (0 * 4)).add 0 = a := by simp [Addr.add]
      rw [e] at z0
      have hlt := World.block_lt_of_cell? W a z0
      obtain ⟨g, off, sp⟩ := a
      cases sp with
      | none => exact ⟨g, off, rfl, hlt⟩
      | some s =>
        exfalso
        simp only [World.cell?] at z0
        split at z0 <;> simp at z0
    obtain ⟨g, off, rfl, hg⟩ := hsp
    obtain ⟨⟨i1, i2⟩, k0, k1, k2, k3⟩ := hF j hj'
    simp only [add_plain] at k0 k1 k2 k3
    refine ⟨g, off, rfl, hg, ?_, ?_, ?_, ?_, ?_, ?_⟩
    · simpa using k0
    · simpa using k1
    · simpa using k2
    · simpa using k3
    · simpa using i1
    · simpa using i2

theorem plays_walk (l1 l2 : Int) (vs : Value) (L : List Op4) (w : World) (hv : SeesS w vs L) :
    Calls Try.prog 7 #[.int .i64 l1, .int .i64 l2, vs] w fun e w' => e = .returned (.bool true) ∧ Below w.heap.size w w' := by
  by_cases h1 : 1 ≤ l1 ∧ l1 ≤ 65536 <;> by_cases h2 : 1 ≤ l2 ∧ l2 ≤ 65536
  · exact plays_gg l1 l2 vs L w hv h1.1 h1.2 h2.1 h2.2
  · exact plays_gb l1 l2 vs L w hv h1.1 h1.2 (by omega)
  · exact plays_bg l1 l2 vs L w hv (by omega) h2.1 h2.2
  · exact plays_bb l1 l2 vs L w hv (by omega) (by omega)
end Go.Proofs.Ythbjfbalgejndaa
