/-
  Lists of steps that come in.
-/
import Derived.Test.YtmnafocmbcgdiacWS
import Derived.Deep.Slices
import Derived.Deep.SlicePairs
import Derived.SizedLaws
namespace Go.Proofs.Ytmnafocmbcgdiac
open Go.ChangeShapes Go.WideShapes Go.ChangeAt Go.RowKit Tri N
set_option maxHeartbeats 1000000
set_option maxRecDepth 100000

theorem wf64 {a : Int} (h : (Lit.int .i64 a).wf = true) : In64 a := by
  have h' : (decide (IntKind.i64.min ≤ a) && decide (a ≤ IntKind.i64.max)) = true := h
  rw [show IntKind.i64.min = -9223372036854775808 from by decide +kernel, show IntKind.i64.max = 9223372036854775807 from by decide +kernel] at h'
  simp at h'
  exact ⟨h'.1, h'.2⟩

theorem u32_wf {a : Int} (h : (Lit.int .u32 a).wf = true) : ∃ n : Nat, a = (n : Int) ∧ n < 4294967296 := by
  have h' : (decide (IntKind.u32.min ≤ a) && decide (a ≤ IntKind.u32.max)) = true := h
  rw [show IntKind.u32.min = 0 from by decide +kernel, show IntKind.u32.max = 4294967295 from by decide +kernel] at h'
  simp at h'
  exact ⟨a.toNat, by omega, by omega⟩

theorem add_plain (g off i : Nat) : (⟨g, off, none⟩ : Addr).add i = ⟨g, off + i, none⟩ := by simp [Addr.add]
theorem cellsOp : Try.prog.cellsOf 39 = 6 := by kernel_rfl
theorem cellsPre : Try.prog.cellsOf 37 = 2 := by kernel_rfl
theorem cellsAdr : Try.prog.cellsOf 35 = 1 := by kernel_rfl
theorem cellsInt : Try.prog.cellsOf 3 = 1 := by kernel_rfl
theorem bytesOp : Try.prog.bytesOf 39 = 48 := by kernel_rfl

theorem open_os {H : Type} {enc : TypeId × Value → H} {W : World} {base : Nat} {v : Value} {d : DataW H} {ps : List MemPlace} (hval : Value.okWide Try.prog W .any base 22 v) (h : DataW.Trod enc Try.prog W 0 (fun _ => true) true 22 v d ps) :
    ∃ L, SeesO W v L ∧ (∀ o ∈ L, o.Ok) ∧ (L ≠ [] → ∃ es sp, d = .slice es sp ∧ es.length = L.length) := by
  obtain ⟨a0, len, cap, rfl⟩ := okWide_slice Try.underlying22 hval
  obtain ⟨fuel, hf⟩ := h
  rcases Go.Deep.open_slice Try.underlying22 hf with ⟨h1, _⟩ | ⟨a, len', cap', m, n, D, Pl, h1, _, hlc, hcm, hm, hd, hx⟩
  · simp [Value.cells] at h1
    obtain ⟨rfl, rfl, rfl⟩ := h1
    exact ⟨[], ⟨none, 0, rfl, by simp, by unfold maxLen; omega, fun j hj => absurd hj (by simp)⟩, fun o ho => absurd ho (by simp), fun h => absurd rfl h⟩
  · simp [Value.cells] at h1
    obtain ⟨rfl, rfl, rfl⟩ := h1
    simp at hm
    subst hm
    have key : ∀ i, i < len → ∃ q : O, q.Ok ∧ W.cell? ((a.add (i * 6)).add 0) = some (.int .i64 q.k) ∧ W.cell? ((a.add (i * 6)).add 1) = some (.int .i64 q.s) ∧ W.cell? ((a.add (i * 6)).add 2) = some (.int .u32 (q.x : Int)) ∧ W.cell? ((a.add (i * 6)).add 3) = some (.int .i64 q.y) ∧ W.cell? ((a.add (i * 6)).add 4) = some (.int .u32 (q.A : Int)) ∧ W.cell? ((a.add (i * 6)).add 5) = some (.int .i64 q.a) := by
      intro i hi
      obtain ⟨cs', k1, k2⟩ := hx i (by omega)
      rw [cellsOp] at k1
      obtain ⟨_, hlen, hc⟩ := World.cells?_some k1
      obtain ⟨xs, k, _, _, _, hxl, hff⟩ := DataW.trod_struct Try.underlying39 k2
      match xs, hxl, cs', hlen with
      | [y0, y1, y2, y3, y4], _, [v0, v1, v2, v3, v4, v5], _ =>
        have g0 := hff 0 _ rfl
        have g1 := hff 1 _ rfl
        have g2 := hff 2 _ rfl
        have g3 := hff 3 _ rfl
        have g4 := hff 4 _ rfl
        simp [cellsInt, cellsPre, cellsAdr] at g0 g1 g2 g3 g4
        obtain ⟨n0, e0, _, w0⟩ := DataW.trod_int Try.underlying3 g0
        obtain ⟨n1, e1, _, w1⟩ := DataW.trod_int Try.underlying3 g1
        obtain ⟨xs2, k2, _, _, _, hxl2, hff2⟩ := DataW.trod_struct Try.underlying37 g2
        obtain ⟨n4, e4, _, w4⟩ := DataW.trod_int Try.underlying35 g3
        obtain ⟨n5, e5, _, w5⟩ := DataW.trod_int Try.underlying3 g4
        match xs2, hxl2 with
        | [z0, z1], _ =>
          have f0 := hff2 0 _ rfl
          have f1 := hff2 1 _ rfl
          simp [cellsInt, cellsAdr] at f0 f1
          obtain ⟨n2, e2, _, w2⟩ := DataW.trod_int Try.underlying35 f0
          obtain ⟨n3, e3, _, w3⟩ := DataW.trod_int Try.underlying3 f1
          simp at e0 e1 e2 e3 e4 e5
          subst e0 e1 e2 e3 e4 e5
          obtain ⟨x, rfl, hx⟩ := u32_wf w2
          obtain ⟨A, rfl, hA⟩ := u32_wf w4
          exact ⟨⟨n0, n1, x, n3, A, n5⟩, ⟨hx, hA, wf64 w5, wf64 w1⟩, hc 0 (by omega), hc 1 (by omega), hc 2 (by omega), hc 3 (by omega), hc 4 (by omega), hc 5 (by omega)⟩
    have hch : ∃ F : Nat → O, ∀ i, i < len → (F i).Ok ∧ W.cell? ((a.add (i * 6)).add 0) = some (.int .i64 (F i).k) ∧ W.cell? ((a.add (i * 6)).add 1) = some (.int .i64 (F i).s) ∧ W.cell? ((a.add (i * 6)).add 2) = some (.int .u32 ((F i).x : Int)) ∧ W.cell? ((a.add (i * 6)).add 3) = some (.int .i64 (F i).y) ∧ W.cell? ((a.add (i * 6)).add 4) = some (.int .u32 ((F i).A : Int)) ∧ W.cell? ((a.add (i * 6)).add 5) = some (.int .i64 (F i).a) := by
      refine ⟨fun i => if h : i < len then (key i h).choose else ⟨0, 0, 0, 0, 0, 0⟩, fun i hi => ?_⟩
      simp only [dif_pos hi]
      exact (key i hi).choose_spec
    obtain ⟨F, hF⟩ := hch
    refine ⟨(List.range len).map F, ⟨some a, m, by simp, by simpa using hlc, hcm, fun j hj => ?_⟩, fun o ho => ?_, fun _ => ?_⟩
    · have hj' : j < len := by simpa using hj
      have hsp : ∃ g off, a = ⟨g, off, none⟩ ∧ g < W.heap.size := by
        obtain ⟨_, z0, _⟩ := hF 0 (by omega)
        have e : (a.add (0 * 6)).add 0 = a := by simp [Addr.add]
        rw [e] at z0
        have hlt := World.block_lt_of_cell? W a z0
        obtain ⟨g, off, sp⟩ := a
        cases sp with
        | none => exact ⟨g, off, rfl, hlt⟩
        | some s =>
          exfalso
          simp only [World.cell?] at z0
          split at z0 <;> simp at z0
      obtain ⟨g, off, rfl, hg⟩ := hsp
      obtain ⟨_, c0, c1, c2, c3, c4, c5⟩ := hF j hj'
      simp only [add_plain, Nat.add_zero] at c0 c1 c2 c3 c4 c5
      refine ⟨g, off, rfl, hg, ?_, ?_, ?_, ?_, ?_, ?_⟩ <;> simp <;> assumption
    · obtain ⟨i, hi, rfl⟩ := List.mem_map.1 ho
      exact (hF i (by simpa using hi)).1
    · exact ⟨_, _, by first | exact hd | exact hd.1 | exact congrArg Prod.fst hd, by simp⟩
end Go.Proofs.Ytmnafocmbcgdiac
