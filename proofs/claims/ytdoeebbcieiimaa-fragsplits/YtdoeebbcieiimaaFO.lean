/-
  The cuts that came in, opened.
-/
import Derived.Test.YtdoeebbcieiimaaO
import Derived.Test.YtdoeebbcieiimaaFD
namespace Go.Proofs.Ytdoeebbcieiimaa
open Go.ChangeShapes Go.WideShapes Go.ChangeAt Go.RowKit
set_option maxRecDepth 100000

structure CutD where
  h : Hd
  vo : Value
  vb : Value
  B : List Nat
  m : Int

def CutD.cells (o : CutD) : List Value := (pkCells o.h o.vo o.vb).toList ++ [.int .i64 o.m]

structure CutD.Ok (o : CutD) (W : World) : Prop where
  h : o.h.Ok
  vo : SeesB W o.vo o.h.opts
  vb : SeesB W o.vb o.B
  mlo : -9223372036854775808 ≤ o.m
  mhi : o.m ≤ 9223372036854775807
  lo : o.h.opts.length ≤ reachBytes
  lb : o.B.length ≤ reachBytes

/-- The slice value v shows, in the world w, these cuts. -/
def SeesCt (w : World) (v : Value) (Cs : List CutD) : Prop :=
  ∃ ao cap, v = .slice ao Cs.length cap ∧ Cs.length ≤ cap ∧ cap ≤ maxLen ∧
    ∀ j (h : j < Cs.length), ∃ g off, ao = some ⟨g, off, none⟩ ∧ g < w.heap.size ∧ ∀ i v, Cs[j].cells[i]? = some v → w.cell? ⟨g, off + j * 12 + i, none⟩ = some v

theorem cells51 : Try.prog.cellsOf 51 = 12 := by kernel_rfl
theorem u49 : Try.prog.underlying 49 = some (.slice 51) := by kernel_rfl
theorem u51 : ∃ f0 f1, Try.prog.underlying 51 = some (.struct #[f0, f1]) ∧ f0.type = 29 ∧ f0.offset = 0 ∧ f1.type = 3 ∧ f1.offset = 11 := ⟨_, _, Try.underlying51, rfl, rfl, rfl, rfl⟩

section
variable {H : Type} {enc : TypeId × Value → H} {W : World}

theorem open_cut {fuel : Nat} {cs : List Value} {x : DataW H × List MemPlace} (h : DataW.trod enc Try.prog W 0 (fun _ => true) true fuel 51 cs = some x) (hw : ∀ n ∈ x.1.weights Try.prog 51, n ≤ reachBytes) :
    ∃ o : CutD, cs = o.cells ∧ o.Ok W := by
  obtain ⟨f0, f1, hu, t0, o0, t1, o1⟩ := u51
  obtain ⟨xs, n, _, rfl, hl, hxl, hf⟩ := DataW.trod_struct hu h
  match xs, hxl with
  | [y0, y1], _ =>
    have g0 := hf 0 f0 rfl
    have g1 := hf 1 f1 rfl
    rw [t0, o0, cells29] at g0
    rw [t1, o1, cell1_3] at g1
    rw [cells51] at hl
    obtain ⟨hd, vo, vb, B, e0, hok, hs6, hs7, hf6, hf7, q6, q7⟩ := open_pk g0
    obtain ⟨m, e1, _, w1⟩ := DataW.trod_int u3 g1
    have hw0 : ∀ k ∈ y0.1.weights Try.prog 29, k ≤ reachBytes := fun k hk => hw k (by
      simp only [DataW.weights, hu]
      exact DataW.weights_mem_each (j := 0) (t := 29) (d := y0.1) (by simp [t0]) rfl _ hk)
    refine ⟨⟨hd, vo, vb, B, m⟩, ?_, ⟨hok, hs6, hs7, (wf_i64 w1).1, (wf_i64 w1).2, hf6.room hw0, hf7.room hw0⟩⟩
    match cs, hl with
    | [c0, c1, c2, c3, c4, c5, c6, c7, c8, c9, c10, c11], _ =>
      simp [pkCells] at e0 e1
      obtain ⟨rfl, rfl, rfl, rfl, rfl, rfl, rfl, rfl, rfl, rfl, rfl⟩ := e0
      simp [CutD.cells, pkCells, e1]

theorem open_cuts {base : Nat} {v : Value} {d : DataW H} {ps : List MemPlace} (hval : Value.okWide Try.prog W .any base 49 v) (h : DataW.Trod enc Try.prog W 0 (fun _ => true) true 49 v d ps) (hw : ∀ x ∈ d.weights Try.prog 49, x ≤ reachBytes) :
    ∃ Os : List CutD, SeesCt W v Os ∧ ∀ o ∈ Os, o.Ok W := by
  obtain ⟨a0, len, cap, rfl⟩ := okWide_slice u49 hval
  obtain ⟨fuel, hf⟩ := h
  rcases Go.Deep.open_slice u49 hf with ⟨h1, _⟩ | ⟨a, len', cap', m, n, D, Pl, h1, _, hlc, hcm, hm, hxx, hx⟩
  · simp [Value.cells] at h1
    obtain ⟨rfl, rfl, rfl⟩ := h1
    exact ⟨[], ⟨none, 0, rfl, by simp, by unfold maxLen; omega, fun j hj => absurd hj (by simp)⟩, fun o ho => by cases ho⟩
  · simp [Value.cells] at h1
    obtain ⟨rfl, rfl, rfl⟩ := h1
    simp at hm
    subst hm
    simp only [Prod.mk.injEq] at hxx
    obtain ⟨rfl, _⟩ := hxx
    have key : ∀ i, i < len → ∃ o : CutD, o.Ok W ∧ ∀ j (hj : j < 12), W.cell? ((a.add (i * 12)).add j) = o.cells[j]? := by
      intro i hi
      obtain ⟨cs', k1, k2⟩ := hx i (by omega)
      rw [cells51] at k1
      obtain ⟨_, _, hc⟩ := World.cells?_some k1
      obtain ⟨o, ho, hok⟩ := open_cut k2 fun x hx' => hw x (by
        simp only [DataW.weights, u49, List.mem_cons, List.mem_append]
        exact .inr (.inl (weights_all (d := D i) (List.mem_map.2 ⟨i, by simpa using hi, rfl⟩) x hx')))
      refine ⟨o, hok, fun j hj => ?_⟩
      rw [hc j hj, ho]
    by_cases h0 : len = 0
    · subst h0
      exact ⟨[], ⟨some a, m, rfl, by simp, hcm, fun j hj => absurd hj (by simp)⟩, fun o ho => by cases ho⟩
    obtain ⟨c0, _⟩ := key 0 (by omega)
    obtain ⟨F, hF⟩ : ∃ F : Nat → CutD, ∀ i, i < len → (F i).Ok W ∧ ∀ j (hj : j < 12), W.cell? ((a.add (i * 12)).add j) = (F i).cells[j]? := by
      refine ⟨fun i => if h : i < len then (key i h).choose else c0, fun i hi => ?_⟩
      simp only [dif_pos hi]
      exact (key i hi).choose_spec
    obtain ⟨g, off, rfl, hg⟩ : ∃ g off, a = ⟨g, off, none⟩ ∧ g < W.heap.size := by
      have z0 := (hF 0 (by omega)).2 0 (by omega)
      have e : (a.add (0 * 12)).add 0 = a := by simp [Addr.add]
      rw [e] at z0
      exact spot_none z0
    refine ⟨(List.range len).map F, ⟨some ⟨g, off, none⟩, m, by simp, by simpa using hlc, hcm, fun j hj => ?_⟩, fun o ho => ?_⟩
    · have hj' : j < len := by simpa using hj
      simp only [List.getElem_map, List.getElem_range]
      refine ⟨g, off, rfl, hg, fun i v hv => ?_⟩
      have hi : i < 12 := (List.getElem?_eq_some_iff.1 hv).1
      have hh := (hF j hj').2 i hi
      rw [Addr.add_mid, Addr.add_mid] at hh
      rw [hh, hv]
    · obtain ⟨i, hi, rfl⟩ := List.mem_map.1 ho
      exact (hF i (by simpa using hi)).1
end
end Go.Proofs.Ytdoeebbcieiimaa
