/-
  TunnelFrames: frames that came in, opened; the walk.
-/
import Derived.Test.YtcelcnafcfefhaaTV
import Derived.Test.YtcelcnafcfefhaaTQ
import Derived.OpenShut
namespace Go.Proofs.Ytcelcnafcfefhaa.N
open Go.ChangeShapes Go.WideShapes Go.ChangeAt Go.RowKit
set_option maxHeartbeats 4000000
set_option maxRecDepth 100000

theorem cells_mac : Try.prog.cellsOf 39 = 6 := by kernel_rfl
theorem und_mac : Try.prog.underlying 39 = some (.array 6 5) := by kernel_rfl
theorem cells_fr : Try.prog.cellsOf 41 = 14 := by kernel_rfl
theorem und_frs : Try.prog.underlying 37 = some (.slice 41) := by kernel_rfl
theorem und_raws : Try.prog.underlying 36 = some (.slice 25) := by kernel_rfl
theorem und_fr : ∃ f0 f1 f2 f3, Try.prog.underlying 41 = some (.struct #[f0, f1, f2, f3]) ∧ f0.type = 39 ∧ f0.offset = 0 ∧ f1.type = 39 ∧ f1.offset = 6 ∧ f2.type = 24 ∧ f2.offset = 12 ∧ f3.type = 25 ∧ f3.offset = 13 := ⟨_, _, _, _, Try.underlying41, rfl, rfl, rfl, rfl, rfl, rfl, rfl, rfl⟩

structure FrD where
  f : Tn.Fr
  vb : Value

def FrD.cells (o : FrD) : List Value := (frCells o.f o.vb).toList

structure FrD.Ok (o : FrD) (W : World) : Prop where
  f : FrB o.f
  vb : SeesB W o.vb o.f.B
  lb : o.f.B.length ≤ reachBytes

section
variable {H : Type} {enc : TypeId × Value → H} {W : World}

theorem open_mac {fuel : Nat} {cs : List Value} {x : DataW H × List MemPlace} (h : DataW.trod enc Try.prog W 0 (fun _ => true) true fuel 39 cs = some x) :
    ∃ D : List Nat, cs = bs D ∧ D.length = 6 ∧ ∀ y ∈ D, y < 256 := by
  obtain ⟨xs, m, _, _, hl, hxl, hf⟩ := DataW.trod_array und_mac h
  rw [cells_mac] at hl
  match xs, hxl with
  | [y0, y1, y2, y3, y4, y5], _ =>
    match cs, hl with
    | [c0, c1, c2, c3, c4, c5], _ =>
      have g0 := hf 0 (by omega)
      have g1 := hf 1 (by omega)
      have g2 := hf 2 (by omega)
      have g3 := hf 3 (by omega)
      have g4 := hf 4 (by omega)
      have g5 := hf 5 (by omega)
      rw [cell1_5] at g0 g1 g2 g3 g4 g5
      obtain ⟨z0, e0, _, w0⟩ := DataW.trod_int u5 g0
      obtain ⟨z1, e1, _, w1⟩ := DataW.trod_int u5 g1
      obtain ⟨z2, e2, _, w2⟩ := DataW.trod_int u5 g2
      obtain ⟨z3, e3, _, w3⟩ := DataW.trod_int u5 g3
      obtain ⟨z4, e4, _, w4⟩ := DataW.trod_int u5 g4
      obtain ⟨z5, e5, _, w5⟩ := DataW.trod_int u5 g5
      obtain ⟨a0, rfl, h0⟩ := wf_u8 w0
      obtain ⟨a1, rfl, h1⟩ := wf_u8 w1
      obtain ⟨a2, rfl, h2⟩ := wf_u8 w2
      obtain ⟨a3, rfl, h3⟩ := wf_u8 w3
      obtain ⟨a4, rfl, h4⟩ := wf_u8 w4
      obtain ⟨a5, rfl, h5⟩ := wf_u8 w5
      simp at e0 e1 e2 e3 e4 e5
      refine ⟨[a0, a1, a2, a3, a4, a5], by simp [bs, e0, e1, e2, e3, e4, e5], rfl, fun y hy => ?_⟩
      simp at hy
      omega

theorem open_fr {fuel : Nat} {cs : List Value} {x : DataW H × List MemPlace} (h : DataW.trod enc Try.prog W 0 (fun _ => true) true fuel 41 cs = some x) (hw : ∀ k ∈ x.1.weights Try.prog 41, k ≤ reachBytes) :
    ∃ o : FrD, cs = o.cells ∧ o.Ok W := by
  obtain ⟨f0, f1, f2, f3, hu, t0, o0, t1, o1, t2, o2, t3, o3⟩ := und_fr
  obtain ⟨xs, n, _, rfl, hl, hxl, hf⟩ := DataW.trod_struct hu h
  match xs, hxl with
  | [y0, y1, y2, y3], _ =>
    have g0 := hf 0 f0 rfl
    have g1 := hf 1 f1 rfl
    have g2 := hf 2 f2 rfl
    have g3 := hf 3 f3 rfl
    rw [t0, o0, cells_mac] at g0
    rw [t1, o1, cells_mac] at g1
    rw [t2, o2, cell1_u16] at g2
    rw [t3, o3, cell1_25] at g3
    rw [cells_fr] at hl
    obtain ⟨D, e0, hD, hDb⟩ := open_mac g0
    obtain ⟨S, e1, hS, hSb⟩ := open_mac g1
    obtain ⟨z2, e2, _, w2⟩ := DataW.trod_int und_u16 g2
    obtain ⟨ty, rfl, hty⟩ := wf_u16 w2
    obtain ⟨vm, B, e3, hs, hfit, _⟩ := open_bytes g3
    have w3 : B.length ≤ reachBytes := hfit.room fun k hk => hw k (by
      simp only [DataW.weights, hu]
      exact DataW.weights_mem_each (j := 3) (t := 25) (d := y3.1) (by simp [t3]) rfl _ hk)
    refine ⟨⟨⟨D, S, ty, B⟩, vm⟩, ?_, ⟨⟨⟨hD, hS, hty⟩, hDb, hSb⟩, hs, w3⟩⟩
    show cs = frc D S ty vm
    unfold frc
    rw [← e0, ← e1]
    match cs, hl with
    | [c0, c1, c2, c3, c4, c5, c6, c7, c8, c9, c10, c11, c12, c13], _ =>
      simp at e2 e3
      simp [e2, e3]

theorem open_frs {base : Nat} {v : Value} {d : DataW H} {ps : List MemPlace} (hval : Value.okWide Try.prog W .any base 37 v) (h : DataW.Trod enc Try.prog W 0 (fun _ => true) true 37 v d ps) (hw : ∀ x ∈ d.weights Try.prog 37, x ≤ reachBytes) :
    ∃ Os : List FrD, SeesR W v 14 (Os.map FrD.cells) ∧ ∀ o ∈ Os, o.Ok W := by
  obtain ⟨a0, len, cap, rfl⟩ := okWide_slice und_frs hval
  obtain ⟨fuel, hf⟩ := h
  rcases Go.Deep.open_slice und_frs hf with ⟨h1, _⟩ | ⟨a, len', cap', m, n, D, Pl, h1, _, hlc, hcm, hm, hxx, hx⟩
  · simp [Value.cells] at h1
    obtain ⟨rfl, rfl, rfl⟩ := h1
    exact ⟨[], ⟨none, 0, rfl, by simp, by unfold maxLen; omega, fun j hj => absurd hj (by simp)⟩, fun o ho => by cases ho⟩
  · simp [Value.cells] at h1
    obtain ⟨rfl, rfl, rfl⟩ := h1
    simp at hm
    subst hm
    simp only [Prod.mk.injEq] at hxx
    obtain ⟨rfl, _⟩ := hxx
    have key : ∀ i, i < len → ∃ o : FrD, o.Ok W ∧ ∀ j (hj : j < 14), W.cell? ((a.add (i * 14)).add j) = o.cells[j]? := by
      intro i hi
      obtain ⟨cs', k1, k2⟩ := hx i (by omega)
      rw [cells_fr] at k1
      obtain ⟨_, _, hc⟩ := World.cells?_some k1
      obtain ⟨o, ho, hok⟩ := open_fr k2 fun x hx' => hw x (by
        simp only [DataW.weights, und_frs, List.mem_cons, List.mem_append]
        exact .inr (.inl (weights_all (d := D i) (List.mem_map.2 ⟨i, by simpa using hi, rfl⟩) x hx')))
      refine ⟨o, hok, fun j hj => ?_⟩
      rw [hc j hj, ho]
    by_cases h0 : len = 0
    · subst h0
      exact ⟨[], ⟨some a, m, rfl, by simp, hcm, fun j hj => absurd hj (by simp)⟩, fun o ho => by cases ho⟩
    obtain ⟨c0, hc0, _⟩ := key 0 (by omega)
    obtain ⟨F, hF⟩ : ∃ F : Nat → FrD, ∀ i, i < len → (F i).Ok W ∧ ∀ j (hj : j < 14), W.cell? ((a.add (i * 14)).add j) = (F i).cells[j]? := by
      refine ⟨fun i => if h : i < len then (key i h).choose else c0, fun i hi => ?_⟩
      simp only [dif_pos hi]
      exact (key i hi).choose_spec
    have hsz : ∀ i, i < len → (F i).cells.length = 14 := fun i hi => by
      have := frCells_size (hF i hi).1.f.ok (F i).vb
      simpa [FrD.cells] using this
    obtain ⟨g, off, rfl, hg⟩ : ∃ g off, a = ⟨g, off, none⟩ ∧ g < W.heap.size := by
      have z0 := (hF 0 (by omega)).2 0 (by omega)
      have e : (a.add (0 * 14)).add 0 = a := by simp [Addr.add]
      rw [e, List.getElem?_eq_getElem (by rw [hsz 0 (by omega)]; omega)] at z0
      exact spot_none z0
    refine ⟨(List.range len).map F, ⟨some ⟨g, off, none⟩, m, by simp, by simpa using hlc, hcm, fun j hj => ?_⟩, fun o ho => ?_⟩
    · have hj' : j < len := by simpa using hj
      simp only [List.getElem_map, List.getElem_range]
      refine ⟨hsz j hj', g, off, rfl, hg, fun i v hv => ?_⟩
      have hi : i < 14 := by rw [← hsz j hj']; exact (List.getElem?_eq_some_iff.1 hv).1
      have hh := (hF j hj').2 i hi
      rw [Addr.add_mid, Addr.add_mid] at hh
      rw [hh, hv]
    · obtain ⟨i, hi, rfl⟩ := List.mem_map.1 ho
      exact (hF i (by simpa using hi)).1

theorem open_raws {base : Nat} {v : Value} {d : DataW H} {ps : List MemPlace} (hval : Value.okWide Try.prog W .any base 36 v) (h : DataW.Trod enc Try.prog W 0 (fun _ => true) true 36 v d ps) (hw : ∀ x ∈ d.weights Try.prog 36, x ≤ reachBytes) :
    ∃ Ls, SeesBB W v Ls ∧ ∀ l ∈ Ls, l.length ≤ reachBytes := by
  obtain ⟨a0, len, cap, rfl⟩ := okWide_slice und_raws hval
  obtain ⟨fuel, hf⟩ := h
  rcases Go.Deep.open_slice und_raws hf with ⟨h1, _⟩ | ⟨a, len', cap', m, n, D, Pl, h1, _, hlc, hcm, hm, hxx, hx⟩
  · simp [Value.cells] at h1
    obtain ⟨rfl, rfl, rfl⟩ := h1
    exact ⟨[], ⟨none, 0, rfl, by simp, by unfold maxLen; omega, fun j h => absurd h (by simp)⟩, fun l hl => by cases hl⟩
  · simp [Value.cells] at h1
    obtain ⟨rfl, rfl, rfl⟩ := h1
    simp at hm
    subst hm
    simp only [Prod.mk.injEq] at hxx
    obtain ⟨rfl, _⟩ := hxx
    have key : ∀ i, i < len → ∃ vl : Value × List Nat, vl.2.length ≤ reachBytes ∧ SeesB W vl.1 vl.2 ∧ W.cell? (a.add i) = some vl.1 := by
      intro i hi
      obtain ⟨cs', k1, k2⟩ := hx i (by omega)
      rw [cell1_25, Nat.mul_one] at k1
      obtain ⟨_, _, hc⟩ := World.cells?_some k1
      obtain ⟨v, L, e1, hs, hfit, _⟩ := open_bytes k2
      refine ⟨(v, L), hfit.room fun x hx' => hw x (by
        simp only [DataW.weights, und_raws, List.mem_cons, List.mem_append]
        exact .inr (.inl (weights_all (d := D i) (List.mem_map.2 ⟨i, by simpa using hi, rfl⟩) x hx'))), hs, ?_⟩
      have := hc 0 (by omega)
      rw [e1] at this
      simpa [Addr.add] using this
    obtain ⟨F, hF⟩ : ∃ F : Nat → Value × List Nat, ∀ i, i < len → (F i).2.length ≤ reachBytes ∧ SeesB W (F i).1 (F i).2 ∧ W.cell? (a.add i) = some (F i).1 := by
      refine ⟨fun i => if h : i < len then (key i h).choose else (undef, []), fun i hi => ?_⟩
      simp only [dif_pos hi]
      exact (key i hi).choose_spec
    refine ⟨(List.range len).map (fun i => (F i).2), ⟨some a, m, by simp, by simpa using hlc, hcm, fun j hj => ?_⟩, fun l hl => ?_⟩
    · have hj' : j < len := by simpa using hj
      obtain ⟨g, off, rfl, hg⟩ : ∃ g off, a = ⟨g, off, none⟩ ∧ g < W.heap.size := by
        have z0 := (hF 0 (by omega)).2.2
        have e : a.add 0 = a := by simp [Addr.add]
        rw [e] at z0
        exact spot_none z0
      have y0 := (hF j hj').2.2
      rw [Addr.add_mid] at y0
      exact ⟨g, off, (F j).1, rfl, hg, y0, by simpa using (hF j hj').2.1⟩
    · obtain ⟨i, hi, rfl⟩ := List.mem_map.1 hl
      exact (hF i (by simpa using hi)).1
end
end Go.Proofs.Ytcelcnafcfefhaa.N
