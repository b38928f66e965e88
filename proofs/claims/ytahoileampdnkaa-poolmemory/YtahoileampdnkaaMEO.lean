/-
  A Spec, a list of prefixes, a script, coming in.
-/
import Derived.Test.YtahoileampdnkaaME
namespace Go.Proofs.Ytahoileampdnkaa
open Go.ChangeShapes Go.WideShapes Go.ChangeAt Go.RowKit Tri N
set_option maxHeartbeats 1000000
set_option maxRecDepth 100000

/-- A step. -/
structure Stp where
  k : Int
  o : Int
  a : Nat
  l : Int

def Stp.cells (q : Stp) : Array Value := #[.int .i64 q.k, .int .i64 q.o, .int .u32 (q.a : Int), .int .i64 q.l]

def SeesO (w : World) (v : Value) (S : List Stp) : Prop :=
  ∃ ao cap, v = .slice ao S.length cap ∧ S.length ≤ cap ∧ cap ≤ maxLen ∧
    ∀ j (h : j < S.length), ∃ g off, ao = some ⟨g, off, none⟩ ∧ g < w.heap.size ∧ w.cell? ⟨g, off + j * 4, none⟩ = some (.int .i64 S[j].k) ∧ w.cell? ⟨g, off + j * 4 + 1, none⟩ = some (.int .i64 S[j].o) ∧ w.cell? ⟨g, off + j * 4 + 2, none⟩ = some (.int .u32 (S[j].a : Int)) ∧ w.cell? ⟨g, off + j * 4 + 3, none⟩ = some (.int .i64 S[j].l)

theorem cellsOp : Try.prog.cellsOf 46 = 4 := by kernel_rfl
theorem bytesOp : Try.prog.bytesOf 46 = 32 := by kernel_rfl

section
variable {H : Type} {enc : TypeId × Value → H} {W : World}

theorem open_s {base : Nat} {v : Value} {d : DataW H} {ps : List MemPlace} (hval : Value.okWide Try.prog W .any base 28 v) (h : DataW.Trod enc Try.prog W 0 (fun _ => true) true 28 v d ps) (hw : ∀ x ∈ d.weights Try.prog 28, x ≤ reachBytes) :
    ∃ q : Sp, q.Ok W ∧ v = .agg q.cells := by
  obtain ⟨cs, rfl, _⟩ := okWide_struct Try.underlying28 hval
  obtain ⟨fuel, hf⟩ := h
  obtain ⟨q, hq, e⟩ := open_sp hf hw
  obtain ⟨cl⟩ := cs
  simp only [Value.cells] at e
  exact ⟨q, hq, by rw [e]⟩

theorem open_ks {base : Nat} {v : Value} {d : DataW H} {ps : List MemPlace} (hval : Value.okWide Try.prog W .any base 26 v) (h : DataW.Trod enc Try.prog W 0 (fun _ => true) true 26 v d ps) (hw : ∀ x ∈ d.weights Try.prog 26, x ≤ reachBytes) :
    ∃ L, Sees W v L ∧ (∀ p ∈ L, p.1 < 4294967296) ∧ L.length * 16 ≤ 140737488351232 := by
  obtain ⟨a0, len, cap, rfl⟩ := okWide_slice Try.underlying26 hval
  obtain ⟨fuel, hf⟩ := h
  obtain ⟨v, L, e, h1, h2, h3⟩ := open_pk hf hw
  simp [Value.cells] at e
  subst e
  exact ⟨L, h1, h2, h3⟩

theorem open_op {fuel : Nat} {cs : List Value} {x : DataW H × List MemPlace} (h : DataW.trod enc Try.prog W 0 (fun _ => true) true fuel 46 cs = some x) :
    ∃ q : Stp, q.a < 4294967296 ∧ cs = q.cells.toList := by
  obtain ⟨xs, n, _, rfl, hl, hxl, hff⟩ := DataW.trod_struct Try.underlying46 h
  rw [cellsOp] at hl
  match xs, hxl, cs, hl with
  | [y0, y1, y2], _, [v0, v1, v2, v3], _ =>
    have g0 := hff 0 _ rfl
    have g1 := hff 1 _ rfl
    have g2 := hff 2 _ rfl
    simp [cellsInt, cellsPre] at g0 g1 g2
    obtain ⟨xs2, k2, _, _, _, hxl2, hff2⟩ := DataW.trod_struct Try.underlying25 g2
    obtain ⟨n0, e0, _, w0⟩ := DataW.trod_int Try.underlying3 g0
    obtain ⟨n1, e1, _, w1⟩ := DataW.trod_int Try.underlying3 g1
    match xs2, hxl2 with
    | [z0, z1], _ =>
      have f0 := hff2 0 _ rfl
      have f1 := hff2 1 _ rfl
      simp [cellsInt, cellsAdr] at f0 f1
      obtain ⟨m0, d0, _, u0⟩ := DataW.trod_int Try.underlying23 f0
      obtain ⟨m1, d1, _, u1⟩ := DataW.trod_int Try.underlying3 f1
      simp at d0 d1 e0 e1
      subst d0 d1 e0 e1
      obtain ⟨a0, rfl, h0⟩ := u32_wf u0
      exact ⟨⟨n0, n1, a0, m1⟩, h0, rfl⟩

theorem open_os {base : Nat} {v : Value} {d : DataW H} {ps : List MemPlace} (hval : Value.okWide Try.prog W .any base 44 v) (h : DataW.Trod enc Try.prog W 0 (fun _ => true) true 44 v d ps) (hw : ∀ x ∈ d.weights Try.prog 44, x ≤ reachBytes) :
    ∃ S : List Stp, SeesO W v S ∧ (∀ q ∈ S, q.a < 4294967296) ∧ S.length * 32 ≤ 140737488351232 := by
  obtain ⟨a0, len, cap, rfl⟩ := okWide_slice Try.underlying44 hval
  obtain ⟨fuel, hf⟩ := h
  rcases Go.Deep.open_slice Try.underlying44 hf with ⟨h1, _⟩ | ⟨a, len', cap', m, n, D, Pl, h1, _, hlc, hcm, hm, hxx, hx⟩
  · simp [Value.cells] at h1
    obtain ⟨rfl, rfl, rfl⟩ := h1
    exact ⟨[], ⟨none, 0, rfl, by simp, by unfold maxLen; omega, fun j hj => absurd hj (by simp)⟩, (fun o ho => by cases ho), by simp⟩
  · simp [Value.cells] at h1
    obtain ⟨rfl, rfl, rfl⟩ := h1
    simp at hm
    subst hm
    simp only [Prod.mk.injEq] at hxx
    obtain ⟨rfl, _⟩ := hxx
    have hbig : len * 32 ≤ 140737488351232 := by
      have := hw ((((List.range len).map D).length + ((List.range (m - len)).map fun j => D (len + j)).length) * Try.prog.bytesOf 46) (by simp [DataW.weights, Try.underlying44])
      rw [bytesOp] at this
      simp only [List.length_map, List.length_range] at this
      unfold reachBytes at this
      omega
    have key : ∀ i, i < len → ∃ q : Stp, q.a < 4294967296 ∧ ∀ j (hj : j < 4), W.cell? ((a.add (i * 4)).add j) = q.cells[j]? := by
      intro i hi
      obtain ⟨cs', k1, k2⟩ := hx i (by omega)
      rw [cellsOp] at k1
      obtain ⟨_, hlen, hc⟩ := World.cells?_some k1
      obtain ⟨q, hq, hcs⟩ := open_op k2
      refine ⟨q, hq, fun j hj => ?_⟩
      rw [hc j (by omega), hcs]
      simp
    by_cases h0 : len = 0
    · subst h0
      exact ⟨[], ⟨some a, m, rfl, by simp, hcm, fun j hj => absurd hj (by simp)⟩, (fun o ho => by cases ho), by simp⟩
    obtain ⟨c0, _⟩ := key 0 (by omega)
    obtain ⟨F, hF⟩ : ∃ F : Nat → Stp, ∀ i, i < len → (F i).a < 4294967296 ∧ ∀ j (hj : j < 4), W.cell? ((a.add (i * 4)).add j) = (F i).cells[j]? := by
      refine ⟨fun i => if h : i < len then (key i h).choose else c0, fun i hi => ?_⟩
      simp only [dif_pos hi]
      exact (key i hi).choose_spec
    obtain ⟨g, off, rfl, hg⟩ : ∃ g off, a = ⟨g, off, none⟩ ∧ g < W.heap.size := by
      have z0 := (hF 0 (by omega)).2 0 (by omega)
      have e : (a.add (0 * 4)).add 0 = a := by simp [Addr.add]
      rw [e] at z0
      exact spot_none (z0.trans (by rfl))
    refine ⟨(List.range len).map F, ⟨some ⟨g, off, none⟩, m, by simp, by simpa using hlc, hcm, fun j hj => ?_⟩, fun o ho => ?_, by simpa using hbig⟩
    · have hj' : j < len := by simpa using hj
      simp only [List.getElem_map, List.getElem_range]
      have hh := (hF j hj').2
      simp only [add_plain] at hh
      exact ⟨g, off, rfl, hg, hh 0 (by omega), hh 1 (by omega), hh 2 (by omega), hh 3 (by omega)⟩
    · obtain ⟨i, hi, rfl⟩ := List.mem_map.1 ho
      exact (hF i (by simpa using hi)).1
end
end Go.Proofs.Ytahoileampdnkaa
