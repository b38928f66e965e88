/-
  The steps that came in, opened.
-/
import Derived.Test.YtcboenmmkaochabDoorNO
import Derived.Test.YtcboenmmkaochabDoorIJ
import Derived.Deep.Slices
import Derived.Deep.Strs
import Derived.SizedLaws
namespace Go.Proofs.YtcboenmmkaochabDoor.N
open Go.ChangeShapes Go.WideShapes Go.ChangeAt Go.RowKit
set_option maxRecDepth 100000

theorem cells_op : Tryd.prog.cellsOf 37 = 21 := by kernel_rfl
theorem cells_ct : Tryd.prog.cellsOf 29 = 4 := by kernel_rfl
theorem und_ops : Tryd.prog.underlying 22 = some (.slice 37) := by kernel_rfl
theorem und_ad : Tryd.prog.underlying 31 = some (.int .u32) := by kernel_rfl
theorem cell1_ad : Tryd.prog.cellsOf 31 = 1 := by kernel_rfl
theorem und_w : Tryd.prog.underlying 27 = some (.int .u32) := by kernel_rfl
theorem cell1_w : Tryd.prog.cellsOf 27 = 1 := by kernel_rfl
theorem und_ct : ∃ f0 f1 f2 f3, Tryd.prog.underlying 29 = some (.struct #[f0, f1, f2, f3]) ∧ f0.type = 5 ∧ f0.offset = 0 ∧ f1.type = 5 ∧ f1.offset = 1 ∧ f2.type = 27 ∧ f2.offset = 2 ∧ f3.type = 26 ∧ f3.offset = 3 := ⟨_, _, _, _, Tryd.underlying29, rfl, rfl, rfl, rfl, rfl, rfl, rfl, rfl⟩
theorem und_op : ∃ f0 f1 f2 f3 f4 f5 f6 f7, Tryd.prog.underlying 37 = some (.struct #[f0, f1, f2, f3, f4, f5, f6, f7]) ∧ f0.type = 3 ∧ f0.offset = 0 ∧ f1.type = 26 ∧ f1.offset = 1 ∧ f2.type = 29 ∧ f2.offset = 2 ∧ f3.type = 35 ∧ f3.offset = 6 ∧ f4.type = 5 ∧ f4.offset = 17 ∧ f5.type = 5 ∧ f5.offset = 18 ∧ f6.type = 3 ∧ f6.offset = 19 ∧ f7.type = 31 ∧ f7.offset = 20 :=
  ⟨_, _, _, _, _, _, _, _, Tryd.underlying37, rfl, rfl, rfl, rfl, rfl, rfl, rfl, rfl, rfl, rfl, rfl, rfl, rfl, rfl, rfl, rfl⟩

section
variable {H : Type} {enc : TypeId × Value → H} {W : World}

/-- A message that reads. -/
theorem open_ct {fuel : Nat} {cs : List Value} {x : DataW H × List MemPlace} (h : DataW.trod enc Tryd.prog W 0 (fun _ => true) true fuel 29 cs = some x) :
    ∃ (m : Im.Ct) (vm : Value), cs = (ctCells m vm).toList ∧ m.Ok ∧ SeesB W vm m.B ∧ Fits x.1 29 m.B.length ∧ vm.oneCell' = true := by
  obtain ⟨f0, f1, f2, f3, hu, t0, o0, t1, o1, t2, o2, t3, o3⟩ := und_ct
  obtain ⟨xs, n, _, rfl, hl, hxl, hf⟩ := DataW.trod_struct hu h
  match xs, hxl with
  | [y0, y1, y2, y3], _ =>
    have g0 := hf 0 f0 rfl
    have g1 := hf 1 f1 rfl
    have g2 := hf 2 f2 rfl
    have g3 := hf 3 f3 rfl
    rw [t0, o0, cell1_5] at g0
    rw [t1, o1, cell1_5] at g1
    rw [t2, o2, cell1_w] at g2
    rw [t3, o3, cell1_25] at g3
    rw [cells_ct] at hl
    obtain ⟨z0, e0, _, w0⟩ := DataW.trod_int u5 g0
    obtain ⟨T, rfl, hT⟩ := wf_u8 w0
    obtain ⟨z1, e1, _, w1⟩ := DataW.trod_int u5 g1
    obtain ⟨C, rfl, hC⟩ := wf_u8 w1
    obtain ⟨z2, e2, _, w2⟩ := DataW.trod_int und_w g2
    obtain ⟨R, rfl, hR⟩ := wf_u32 w2
    obtain ⟨vm, B, e3, hs, hfit, ho⟩ := open_bytes g3
    refine ⟨⟨T, C, R, B⟩, vm, ?_, ⟨hT, hC, hR⟩, hs, ⟨?_, fun hw => ?_⟩, ho⟩
    · match cs, hl with
      | [c0, c1, c2, c3], _ =>
        simp at e0 e1 e2 e3
        simp [ctCells, e0, e1, e2, e3]
    · simp only [List.map_cons, List.map_nil, Rows.uptoBulk, Rows.uptoBulkAll]
      have := hfit.bulk
      omega
    · refine hfit.room fun k hk => hw k ?_
      simp only [DataW.weights, hu]
      exact DataW.weights_mem_each (j := 3) (t := 26) (d := y3.1) (by simp [t3]) rfl _ hk

/-- What a step holds. -/
structure OpI where
  k : Int
  vy : Value
  By : List Nat
  m : Im.Ct
  vm : Value
  h : Hd
  vo : Value
  vb : Value
  B : List Nat
  t : Nat
  c : Nat
  a : Int
  f : Nat

def OpI.cells (o : OpI) : List Value := op6 o.k o.vy o.m o.vm o.h o.vo o.vb o.t o.c o.a o.f

structure OpI.Ok (o : OpI) (W : World) : Prop where
  klo : -9223372036854775808 ≤ o.k
  khi : o.k ≤ 9223372036854775807
  vy : SeesB W o.vy o.By
  m : o.m.Ok
  vm : SeesB W o.vm o.m.B
  h : o.h.Ok
  vo : SeesB W o.vo o.h.opts
  vb : SeesB W o.vb o.B
  t : o.t < 256
  c : o.c < 256
  alo : -9223372036854775808 ≤ o.a
  ahi : o.a ≤ 9223372036854775807
  f : o.f < 4294967296
  one : ∀ v ∈ o.cells, v.oneCell' = true
  ly : o.By.length ≤ reachBytes
  lm : o.m.B.length ≤ reachBytes
  lo : o.h.opts.length ≤ reachBytes
  lb : o.B.length ≤ reachBytes

/-- A step that reads. -/
theorem open_op {fuel : Nat} {cs : List Value} {x : DataW H × List MemPlace} (h : DataW.trod enc Tryd.prog W 0 (fun _ => true) true fuel 37 cs = some x) (hw : ∀ n ∈ x.1.weights Tryd.prog 37, n ≤ reachBytes) :
    ∃ o : OpI, cs = o.cells ∧ o.Ok W := by
  obtain ⟨f0, f1, f2, f3, f4, f5, f6, f7, hu, t0, o0, t1, o1, t2, o2, t3, o3, t4, o4, t5, o5, t6, o6, t7, o7⟩ := und_op
  obtain ⟨xs, n, _, rfl, hl, hxl, hf⟩ := DataW.trod_struct hu h
  match xs, hxl with
  | [y0, y1, y2, y3, y4, y5, y6, y7], _ =>
    have g0 := hf 0 f0 rfl
    have g1 := hf 1 f1 rfl
    have g2 := hf 2 f2 rfl
    have g3 := hf 3 f3 rfl
    have g4 := hf 4 f4 rfl
    have g5 := hf 5 f5 rfl
    have g6 := hf 6 f6 rfl
    have g7 := hf 7 f7 rfl
    rw [t0, o0, cell1_3] at g0
    rw [t1, o1, cell1_25] at g1
    rw [t2, o2, cells_ct] at g2
    rw [t3, o3, cells29] at g3
    rw [t4, o4, cell1_5] at g4
    rw [t5, o5, cell1_5] at g5
    rw [t6, o6, cell1_3] at g6
    rw [t7, o7, cell1_ad] at g7
    rw [cells_op] at hl
    obtain ⟨k, e0, _, w0⟩ := DataW.trod_int u3 g0
    obtain ⟨vy, By, e1, hs1, hf1, q1⟩ := open_bytes g1
    obtain ⟨m, vm, e2, hm, hs2, hf2, q2⟩ := open_ct g2
    obtain ⟨hd, vo, vb, B, e3, hok, hs6, hs7, hf6, hf7, q6, q7⟩ := open_pk g3
    obtain ⟨z4, e4, _, w4⟩ := DataW.trod_int u5 g4
    obtain ⟨T, rfl, hT⟩ := wf_u8 w4
    obtain ⟨z5, e5, _, w5⟩ := DataW.trod_int u5 g5
    obtain ⟨C, rfl, hC⟩ := wf_u8 w5
    obtain ⟨A, e6, _, w6⟩ := DataW.trod_int u3 g6
    obtain ⟨z7, e7, _, w7⟩ := DataW.trod_int und_ad g7
    obtain ⟨Fr, rfl, hFr⟩ := wf_u32 w7
    have hw1 : ∀ k ∈ y1.1.weights Tryd.prog 26, k ≤ reachBytes := fun k hk => hw k (by
      simp only [DataW.weights, hu]
      exact DataW.weights_mem_each (j := 1) (t := 26) (d := y1.1) (by simp [t1]) rfl _ hk)
    have hw2 : ∀ k ∈ y2.1.weights Tryd.prog 29, k ≤ reachBytes := fun k hk => hw k (by
      simp only [DataW.weights, hu]
      exact DataW.weights_mem_each (j := 2) (t := 29) (d := y2.1) (by simp [t2]) rfl _ hk)
    have hw3 : ∀ k ∈ y3.1.weights Tryd.prog 35, k ≤ reachBytes := fun k hk => hw k (by
      simp only [DataW.weights, hu]
      exact DataW.weights_mem_each (j := 3) (t := 35) (d := y3.1) (by simp [t3]) rfl _ hk)
    refine ⟨⟨k, vy, By, m, vm, hd, vo, vb, B, T, C, A, Fr⟩, ?_, ⟨(wf_i64 w0).1, (wf_i64 w0).2, hs1, hm, hs2, hok, hs6, hs7, hT, hC, (wf_i64 w6).1, (wf_i64 w6).2, hFr, ?_, hf1.room hw1, hf2.room hw2, hf6.room hw3, hf7.room hw3⟩⟩
    · match cs, hl with
      | [c0, c1, c2, c3, c4, c5, c6, c7, c8, c9, c10, c11, c12, c13, c14, c15, c16, c17, c18, c19, c20], _ =>
        simp [pkCells, ctCells] at e0 e1 e2 e3 e4 e5 e6 e7
        obtain ⟨rfl, rfl, rfl, rfl⟩ := e2
        obtain ⟨rfl, rfl, rfl, rfl, rfl, rfl, rfl, rfl, rfl, rfl, rfl⟩ := e3
        simp [OpI.cells, op6, e0, e1, e4, e5, e6, e7]
    · intro v hv
      simp only [OpI.cells, op6, List.mem_cons, List.not_mem_nil, or_false] at hv
      rcases hv with rfl | rfl | rfl | rfl | rfl | rfl | rfl | rfl | rfl | rfl | rfl | rfl | rfl | rfl | rfl | rfl | rfl | rfl | rfl | rfl | rfl
      all_goals first | rfl | assumption

/-- The steps that came in. -/
theorem open_ops {base : Nat} {v : Value} {d : DataW H} {ps : List MemPlace} (hval : Value.okWide Tryd.prog W .any base 22 v) (h : DataW.Trod enc Tryd.prog W 0 (fun _ => true) true 22 v d ps) (hw : ∀ x ∈ d.weights Tryd.prog 22, x ≤ reachBytes) :
    ∃ Os : List OpI, SeesP W v (Os.map fun o => (o.cells, o.k)) ∧ ∀ o ∈ Os, o.Ok W := by
  obtain ⟨a0, len, cap, rfl⟩ := okWide_slice und_ops hval
  obtain ⟨fuel, hf⟩ := h
  rcases Go.Deep.open_slice und_ops hf with ⟨h1, _⟩ | ⟨a, len', cap', m, n, D, Pl, h1, _, hlc, hcm, hm, hxx, hx⟩
  · simp [Value.cells] at h1
    obtain ⟨rfl, rfl, rfl⟩ := h1
    exact ⟨[], ⟨none, 0, rfl, by simp, by unfold maxLen; omega, fun j hj => absurd hj (by simp)⟩, fun o ho => by cases ho⟩
  · simp [Value.cells] at h1
    obtain ⟨rfl, rfl, rfl⟩ := h1
    simp at hm
    subst hm
    simp only [Prod.mk.injEq] at hxx
    obtain ⟨rfl, _⟩ := hxx
    have key : ∀ i, i < len → ∃ o : OpI, o.Ok W ∧ ∀ j (hj : j < 21), W.cell? ((a.add (i * 21)).add j) = o.cells[j]? := by
      intro i hi
      obtain ⟨cs', k1, k2⟩ := hx i (by omega)
      rw [cells_op] at k1
      obtain ⟨_, _, hc⟩ := World.cells?_some k1
      obtain ⟨o, ho, hok⟩ := open_op k2 fun x hx' => hw x (by
        simp only [DataW.weights, und_ops, List.mem_cons, List.mem_append]
        exact .inr (.inl (weights_all (d := D i) (List.mem_map.2 ⟨i, by simpa using hi, rfl⟩) x hx')))
      refine ⟨o, hok, fun j hj => ?_⟩
      rw [hc j hj, ho]
    by_cases h0 : len = 0
    · subst h0
      exact ⟨[], ⟨some a, m, rfl, by simp, hcm, fun j hj => absurd hj (by simp)⟩, fun o ho => by cases ho⟩
    obtain ⟨c0, _⟩ := key 0 (by omega)
    obtain ⟨F, hF⟩ : ∃ F : Nat → OpI, ∀ i, i < len → (F i).Ok W ∧ ∀ j (hj : j < 21), W.cell? ((a.add (i * 21)).add j) = (F i).cells[j]? := by
      refine ⟨fun i => if h : i < len then (key i h).choose else c0, fun i hi => ?_⟩
      simp only [dif_pos hi]
      exact (key i hi).choose_spec
    obtain ⟨g, off, rfl, hg⟩ : ∃ g off, a = ⟨g, off, none⟩ ∧ g < W.heap.size := by
      have z0 := (hF 0 (by omega)).2 0 (by omega)
      have e : (a.add (0 * 21)).add 0 = a := by simp [Addr.add]
      rw [e] at z0
      exact spot_none z0
    refine ⟨(List.range len).map F, ⟨some ⟨g, off, none⟩, m, by simp, by simpa using hlc, hcm, fun j hj => ?_⟩, fun o ho => ?_⟩
    · have hj' : j < len := by simpa using hj
      simp only [List.getElem_map, List.getElem_range]
      refine ⟨⟨rfl, rfl, (hF j hj').1.one, (hF j hj').1.klo, (hF j hj').1.khi⟩, g, off, rfl, hg, fun i v hv => ?_⟩
      have hi : i < 21 := (List.getElem?_eq_some_iff.1 hv).1
      have hh := (hF j hj').2 i hi
      rw [Addr.add_mid, Addr.add_mid] at hh
      rw [hh, hv]
    · obtain ⟨i, hi, rfl⟩ := List.mem_map.1 ho
      exact (hF i (by simpa using hi)).1
end
end Go.Proofs.YtcboenmmkaochabDoor.N
