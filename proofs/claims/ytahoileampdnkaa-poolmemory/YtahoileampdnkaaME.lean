/-
  What New is given, coming in.
-/
import Derived.Test.YtahoileampdnkaaMD
import Derived.Deep.Slices
import Derived.Deep.SlicePairs
import Derived.SizedLaws
namespace Go.Proofs.Ytahoileampdnkaa
open Go.ChangeShapes Go.WideShapes Go.ChangeAt Go.RowKit Tri N
set_option maxHeartbeats 1000000
set_option maxRecDepth 100000

theorem u32_wf {a : Int} (h : (Lit.int .u32 a).wf = true) : ∃ n : Nat, a = (n : Int) ∧ n < 4294967296 := by
  have h' : (decide (IntKind.u32.min ≤ a) && decide (a ≤ IntKind.u32.max)) = true := h
  rw [show IntKind.u32.min = 0 from by decide +kernel, show IntKind.u32.max = 4294967295 from by decide +kernel] at h'
  simp at h'
  exact ⟨a.toNat, by omega, by omega⟩

theorem add_plain (g off i : Nat) : (⟨g, off, none⟩ : Addr).add i = ⟨g, off + i, none⟩ := by simp [Addr.add]
theorem cellsSp : Try.prog.cellsOf 28 = 6 := by kernel_rfl
theorem cellsPre : Try.prog.cellsOf 25 = 2 := by kernel_rfl
theorem cellsAdr : Try.prog.cellsOf 23 = 1 := by kernel_rfl
theorem cellsInt : Try.prog.cellsOf 3 = 1 := by kernel_rfl
theorem cellsKp : Try.prog.cellsOf 26 = 1 := by kernel_rfl
theorem bytesPre : Try.prog.bytesOf 25 = 16 := by kernel_rfl

theorem spot_none {W : World} {a : Addr} {v : Value} (h : W.cell? a = some v) : ∃ g off, a = ⟨g, off, none⟩ ∧ g < W.heap.size := by
  have hlt := World.block_lt_of_cell? W a h
  obtain ⟨g, off, sp⟩ := a
  cases sp with
  | none => exact ⟨g, off, rfl, hlt⟩
  | some s =>
    exfalso
    simp only [World.cell?] at h
    split at h <;> simp at h

section
variable {H : Type} {enc : TypeId × Value → H} {W : World}

theorem open_pk {fuel : Nat} {cs : List Value} {x : DataW H × List MemPlace} (hf : DataW.trod enc Try.prog W 0 (fun _ => true) true fuel 26 cs = some x) (hw : ∀ k ∈ x.1.weights Try.prog 26, k ≤ reachBytes) :
    ∃ v L, cs = [v] ∧ Sees W v L ∧ (∀ p ∈ L, p.1 < 4294967296) ∧ L.length * 16 ≤ 140737488351232 := by
  rcases Go.Deep.open_slice_pairs Try.underlying26 Try.underlying25 cellsPre rfl rfl cellsAdr cellsInt hf with ⟨h1, h2⟩ | ⟨a, len, cap, m, k, V0, V1, D0, D1, P0, P1, h1, _, hlc, hcm, hm, hx, hc⟩
  · exact ⟨_, [], h1, ⟨none, 0, rfl, by simp, by unfold maxLen; omega, fun j hj => absurd hj (by simp)⟩, fun p hp => absurd hp (by simp), by simp⟩
  · simp at hm
    subst hm
    have key : ∀ i, i < len → ∃ (z : Nat) (y : Int), z < 4294967296 ∧ V0 i = .int .u32 (z : Int) ∧ V1 i = .int .i64 y := by
      intro i hi
      obtain ⟨_, _, t0, t1⟩ := hc i (by omega)
      obtain ⟨n0, e0, _, w0⟩ := DataW.trod_int Try.underlying23 t0
      obtain ⟨n1, e1, _, w1⟩ := DataW.trod_int Try.underlying3 t1
      simp at e0 e1
      obtain ⟨z, rfl, hz⟩ := u32_wf w0
      exact ⟨z, n1, hz, e0, e1⟩
    refine ⟨_, (List.range len).map fun i => ((intOf (V0 i)).toNat, intOf (V1 i)), h1, ⟨some a, m, by simp, by simpa using hlc, hcm, fun j hj => ?_⟩, fun p hp => ?_, ?_⟩
    · have hj' : j < len := by simpa using hj
      obtain ⟨z, y, _, e0, e1⟩ := key j hj'
      obtain ⟨k0, k1, _, _⟩ := hc j (by omega)
      have hsp : ∃ g off, a = ⟨g, off, none⟩ ∧ g < W.heap.size := by
        obtain ⟨z0, _, _, _⟩ := hc 0 (by omega)
        simp only [Nat.zero_mul] at z0
        have e : a.add 0 = a := by simp [Addr.add]
        rw [e] at z0
        exact spot_none z0
      obtain ⟨g, off, rfl, hg⟩ := hsp
      rw [add_plain] at k0 k1
      refine ⟨g, off, rfl, hg, ?_, ?_⟩
      · rw [k0, e0]; simp [e0, intOf]
      · rw [Nat.add_assoc, k1, e1]; simp [e1, intOf]
    · obtain ⟨i, hi, rfl⟩ := List.mem_map.1 hp
      obtain ⟨z, y, hz, e0, e1⟩ := key i (by simpa using hi)
      rw [e0]
      simp [intOf]
      exact hz
    · subst hx
      have := hw ((((List.range len).map fun i => DataW.agg [D0 i, D1 i]).length + ((List.range (m - len)).map fun j => DataW.agg [D0 (len + j), D1 (len + j)]).length) * Try.prog.bytesOf 25) (by simp [DataW.weights, Try.underlying26])
      rw [bytesPre] at this
      simp only [List.length_map, List.length_range] at this ⊢
      unfold reachBytes at this
      omega

theorem weights_all {P : Program} {e : TypeId} : ∀ {ds : List (DataW H)} {d : DataW H}, d ∈ ds → ∀ n ∈ d.weights P e, n ∈ DataW.weightsAll P e ds
  | a :: t, d, hd, n, hn => by
    simp only [DataW.weightsAll, List.mem_append]
    rcases List.mem_cons.1 hd with rfl | h
    · exact .inl hn
    · exact .inr (weights_all h n hn)

theorem open_sp {fuel : Nat} {cs : List Value} {x : DataW H × List MemPlace} (h : DataW.trod enc Try.prog W 0 (fun _ => true) true fuel 28 cs = some x) (hw : ∀ k ∈ x.1.weights Try.prog 28, k ≤ reachBytes) :
    ∃ q : Sp, q.Ok W ∧ cs = q.cells.toList := by
  obtain ⟨xs, n, _, rfl, hl, hxl, hff⟩ := DataW.trod_struct Try.underlying28 h
  rw [cellsSp] at hl
  match xs, hxl, cs, hl with
  | [y0, y1, y2, y3, y4], _, [v0, v1, v2, v3, v4, v5], _ =>
    have g0 := hff 0 _ rfl
    have g1 := hff 1 _ rfl
    have g2 := hff 2 _ rfl
    have g3 := hff 3 _ rfl
    have g4 := hff 4 _ rfl
    simp [cellsInt, cellsPre, cellsAdr, cellsKp] at g0 g1 g2 g3 g4
    obtain ⟨xs2, k2, _, _, _, hxl2, hff2⟩ := DataW.trod_struct Try.underlying25 g0
    obtain ⟨n1, e1, _, w1⟩ := DataW.trod_int Try.underlying3 g1
    obtain ⟨n2, e2, _, w2⟩ := DataW.trod_int Try.underlying23 g2
    obtain ⟨n3, e3, _, w3⟩ := DataW.trod_int Try.underlying23 g3
    obtain ⟨kv, L, e4, hs, hL, hb⟩ := open_pk g4 (fun k hk => hw k (by
      simp only [DataW.weights, Try.underlying28]
      exact DataW.weights_mem_each (j := 4) (t := 26) (d := y4.1) (by simp) rfl _ hk))
    match xs2, hxl2 with
    | [z0, z1], _ =>
      have f0 := hff2 0 _ rfl
      have f1 := hff2 1 _ rfl
      simp [cellsInt, cellsAdr] at f0 f1
      obtain ⟨m0, d0, _, u0⟩ := DataW.trod_int Try.underlying23 f0
      obtain ⟨m1, d1, _, u1⟩ := DataW.trod_int Try.underlying3 f1
      simp at d0 d1 e1 e2 e3 e4
      subst d0 d1 e1 e2 e3 e4
      obtain ⟨a0, rfl, h0⟩ := u32_wf u0
      obtain ⟨a2, rfl, h2⟩ := u32_wf w2
      obtain ⟨a3, rfl, h3⟩ := u32_wf w3
      exact ⟨⟨a0, m1, n1, a2, a3, v5, L⟩, ⟨h0, h2, h3, hL, hs, hb⟩, rfl⟩

theorem open_sps {base : Nat} {v : Value} {d : DataW H} {ps : List MemPlace} (hval : Value.okWide Try.prog W .any base 50 v) (h : DataW.Trod enc Try.prog W 0 (fun _ => true) true 50 v d ps) (hw : ∀ x ∈ d.weights Try.prog 50, x ≤ reachBytes) :
    ∃ S : List Sp, SeesS W v S ∧ ∀ q ∈ S, q.Ok W := by
  obtain ⟨a0, len, cap, rfl⟩ := okWide_slice Try.underlying50 hval
  obtain ⟨fuel, hf⟩ := h
  rcases Go.Deep.open_slice Try.underlying50 hf with ⟨h1, _⟩ | ⟨a, len', cap', m, n, D, Pl, h1, _, hlc, hcm, hm, hxx, hx⟩
  · simp [Value.cells] at h1
    obtain ⟨rfl, rfl, rfl⟩ := h1
    exact ⟨[], ⟨none, 0, rfl, by simp, by unfold maxLen; omega, fun j hj => absurd hj (by simp)⟩, fun o ho => by cases ho⟩
  · simp [Value.cells] at h1
    obtain ⟨rfl, rfl, rfl⟩ := h1
    simp at hm
    subst hm
    simp only [Prod.mk.injEq] at hxx
    obtain ⟨rfl, _⟩ := hxx
    have key : ∀ i, i < len → ∃ q : Sp, q.Ok W ∧ ∀ j (hj : j < 6), W.cell? ((a.add (i * 6)).add j) = q.cells[j]? := by
      intro i hi
      obtain ⟨cs', k1, k2⟩ := hx i (by omega)
      rw [cellsSp] at k1
      obtain ⟨_, hlen, hc⟩ := World.cells?_some k1
      obtain ⟨q, hq, hcs⟩ := open_sp k2 fun x hx' => hw x (by
        simp only [DataW.weights, Try.underlying50, List.mem_cons, List.mem_append]
        exact .inr (.inl (weights_all (d := D i) (List.mem_map.2 ⟨i, by simpa using hi, rfl⟩) x hx')))
      refine ⟨q, hq, fun j hj => ?_⟩
      rw [hc j (by omega), hcs]
      simp
    by_cases h0 : len = 0
    · subst h0
      exact ⟨[], ⟨some a, m, rfl, by simp, hcm, fun j hj => absurd hj (by simp)⟩, fun o ho => by cases ho⟩
    obtain ⟨c0, _⟩ := key 0 (by omega)
    obtain ⟨F, hF⟩ : ∃ F : Nat → Sp, ∀ i, i < len → (F i).Ok W ∧ ∀ j (hj : j < 6), W.cell? ((a.add (i * 6)).add j) = (F i).cells[j]? := by
      refine ⟨fun i => if h : i < len then (key i h).choose else c0, fun i hi => ?_⟩
      simp only [dif_pos hi]
      exact (key i hi).choose_spec
    obtain ⟨g, off, rfl, hg⟩ : ∃ g off, a = ⟨g, off, none⟩ ∧ g < W.heap.size := by
      have z0 := (hF 0 (by omega)).2 0 (by omega)
      have e : (a.add (0 * 6)).add 0 = a := by simp [Addr.add]
      rw [e] at z0
      exact spot_none (z0.trans (by rfl))
    refine ⟨(List.range len).map F, ⟨some ⟨g, off, none⟩, m, by simp, by simpa using hlc, hcm, fun j hj => ?_⟩, fun o ho => ?_⟩
    · have hj' : j < len := by simpa using hj
      simp only [List.getElem_map, List.getElem_range]
      have hh := (hF j hj').2
      simp only [add_plain] at hh
      exact ⟨g, off, rfl, hg, hh 0 (by omega), hh 1 (by omega), hh 2 (by omega), hh 3 (by omega), hh 4 (by omega), hh 5 (by omega)⟩
    · obtain ⟨i, hi, rfl⟩ := List.mem_map.1 ho
      exact (hF i (by simpa using hi)).1
end
end Go.Proofs.Ytahoileampdnkaa
