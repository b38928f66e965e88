import Derived.Test.YtpdnnikkaojnkaaGreatYLM
import Derived.Deep.Slices
import Derived.SizedLaws
import Derived.OpenShut
namespace Go.Proofs.YtpdnnikkaojnkaaGreat.Rt
open Go.Proofs.YtpdnnikkaojnkaaGreat Go.ChangeShapes Go.WideShapes Go.ChangeAt Go.RowKit Go.Maps Tri N
set_option maxHeartbeats 4000000
set_option maxRecDepth 100000
theorem wf_u8 {a : Int} (h : (Lit.int .u8 a).wf = true) : ∃ n : Nat, a = (n : Int) /\ n < 256 := by
 have h' : (decide (IntKind.u8.min <= a) && decide (a <= IntKind.u8.max)) = true := h
 rw [show IntKind.u8.min = 0 from by decide +kernel, show IntKind.u8.max = 255 from by decide +kernel] at h'
 simp at h'
 exact ⟨a.toNat, by omega, by omega⟩
theorem u32_wf {a : Int} (h : (Lit.int .u32 a).wf = true) : ∃ n : Nat, a = (n : Int) /\ n < 4294967296 := by
 have h' : (decide (IntKind.u32.min <= a) && decide (a <= IntKind.u32.max)) = true := h
 rw [show IntKind.u32.min = 0 from by decide +kernel, show IntKind.u32.max = 4294967295 from by decide +kernel] at h'
 simp at h'
 exact ⟨a.toNat, by omega, by omega⟩
theorem i64_wf {a : Int} (h : (Lit.int .i64 a).wf = true) : -9223372036854775808 <= a /\ a <= 9223372036854775807 := by
 have h' : (decide (IntKind.i64.min <= a) && decide (a <= IntKind.i64.max)) = true := h
 rw [show IntKind.i64.min = -9223372036854775808 from by decide +kernel, show IntKind.i64.max = 9223372036854775807 from by decide +kernel] at h'
 simpa using h'
theorem add_plain (g off i : Nat) : (⟨g, off, none⟩ : Addr).add i = ⟨g, off + i, none⟩ := by simp [Addr.add]
theorem cO1 : Tryz.prog.cellsOf 34 = 1 := by kernel_rfl
theorem cO2 : Tryz.prog.cellsOf 3 = 1 := by kernel_rfl
theorem cO3 : Tryz.prog.cellsOf 4 = 1 := by kernel_rfl
theorem cO4 : Tryz.prog.cellsOf 5 = 1 := by kernel_rfl
theorem cO5 : Tryz.prog.cellsOf 40 = 6 := by kernel_rfl
theorem cO6 : Tryz.prog.cellsOf 36 = 2 := by kernel_rfl
theorem cO7 : Tryz.prog.cellsOf 38 = 4 := by kernel_rfl
theorem cO8 : Tryz.prog.cellsOf 42 = 7 := by kernel_rfl
theorem cO9 : Tryz.prog.cellsOf 44 = 7 := by kernel_rfl
theorem cO10 : Tryz.prog.cellsOf 46 = 19 := by kernel_rfl
theorem cO13 : Tryz.prog.cellsOf 23 = 3 := by kernel_rfl
theorem uO8 : Tryz.prog.underlying 5 = some (.int .u8) := by kernel_rfl
theorem uOb : Tryz.prog.underlying 4 = some .bool := by kernel_rfl
theorem uOps : Tryz.prog.underlying 24 = some (.slice 46) := by kernel_rfl
theorem spot_none {W : World} {a : Addr} {v : Value} (h : W.cell? a = some v) : ∃ g off, a = ⟨g, off, none⟩ /\ g < W.heap.size := by
 have hlt := World.block_lt_of_cell? W a h
 obtain ⟨g, off, sp⟩ := a
 cases sp with
 | none => exact ⟨g, off, rfl, hlt⟩
 | some s =>
  exfalso
  simp only [World.cell?] at h
  split at h <;> simp at h
theorem pickF {α : Type} [Nonempty α] {n : Nat} {P : Nat -> α -> Prop} (h : ∀ i, i < n -> ∃ x, P i x) : ∃ f : Nat -> α, ∀ i, i < n -> P i (f i) := by
 classical
 refine ⟨fun i => if h' : i < n then (h i h').choose else Classical.choice inferInstance, fun i hi => ?_⟩
 simp only [dif_pos hi]
 exact (h i hi).choose_spec
section
variable {H : Type} {enc : TypeId × Value -> H} {W : World}
theorem open_mac {fuel : Nat} {cs : List Value} {x : DataW H × List MemPlace} (h : DataW.trod enc Tryz.prog W 0 (fun _ => true) true fuel 40 cs = some x) :
  ∃ m : Mc, cs = m.cells.toList /\ m.Ok := by
 obtain ⟨xs, m, _, _, hl, hxl, hf⟩ := DataW.trod_array uM h
 rw [cO5] at hl
 match xs, hxl with
 | [y0, y1, y2, y3, y4, y5], _ =>
  match cs, hl with
  | [c0, c1, c2, c3, c4, c5], _ =>
   have g0 := hf 0 (by omega)
   have g1 := hf 1 (by omega)
   have g2 := hf 2 (by omega)
   have g3 := hf 3 (by omega)
   have g4 := hf 4 (by omega)
   have g5 := hf 5 (by omega)
   rw [cO4] at g0 g1 g2 g3 g4 g5
   obtain ⟨z0, e0, _, w0⟩ := DataW.trod_int uO8 g0
   obtain ⟨z1, e1, _, w1⟩ := DataW.trod_int uO8 g1
   obtain ⟨z2, e2, _, w2⟩ := DataW.trod_int uO8 g2
   obtain ⟨z3, e3, _, w3⟩ := DataW.trod_int uO8 g3
   obtain ⟨z4, e4, _, w4⟩ := DataW.trod_int uO8 g4
   obtain ⟨z5, e5, _, w5⟩ := DataW.trod_int uO8 g5
   obtain ⟨a0, rfl, h0⟩ := wf_u8 w0
   obtain ⟨a1, rfl, h1⟩ := wf_u8 w1
   obtain ⟨a2, rfl, h2⟩ := wf_u8 w2
   obtain ⟨a3, rfl, h3⟩ := wf_u8 w3
   obtain ⟨a4, rfl, h4⟩ := wf_u8 w4
   obtain ⟨a5, rfl, h5⟩ := wf_u8 w5
   simp at e0 e1 e2 e3 e4 e5
   refine ⟨⟨a0, a1, a2, a3, a4, a5⟩, by simp [Mc.cells, e0, e1, e2, e3, e4, e5], fun y hy => ?_⟩
   simp [Mc.L] at hy
   omega
theorem open_prefix {fuel : Nat} {cs : List Value} {x : DataW H × List MemPlace} (hf : DataW.trod enc Tryz.prog W 0 (fun _ => true) true fuel 36 cs = some x) :
  ∃ (a : Nat) (n : Int), cs = [.int .u32 (a : Int), .int .i64 n] /\ a < 4294967296 /\ -9223372036854775808 <= n /\ n <= 9223372036854775807 := by
 obtain ⟨xs, n, _, rfl, hl, hxl, hff⟩ := DataW.trod_struct Tryz.underlying36 hf
 rw [cO6] at hl
 match xs, hxl, cs, hl with
 | [y0, y1], _, [v0, v1], _ =>
  have g0 := hff 0 _ rfl
  have g1 := hff 1 _ rfl
  simp [cO1, cO2] at g0 g1
  obtain ⟨n0, e0, _, w0⟩ := DataW.trod_int uAd g0
  obtain ⟨n1, e1, _, w1⟩ := DataW.trod_int Tryz.underlying3 g1
  simp at e0 e1
  subst e0 e1
  obtain ⟨a0, rfl, h0⟩ := u32_wf w0
  exact ⟨a0, n1, rfl, h0, i64_wf w1⟩
theorem open_route {fuel : Nat} {cs : List Value} {x : DataW H × List MemPlace} (hf : DataW.trod enc Tryz.prog W 0 (fun _ => true) true fuel 38 cs = some x) :
  ∃ r : Vt, cs = r.cells.toList /\ r.x < 4294967296 /\ (-9223372036854775808 <= r.n /\ r.n <= 9223372036854775807) /\ r.via < 4294967296 := by
 obtain ⟨xs, n, _, rfl, hl, hxl, hff⟩ := DataW.trod_struct Tryz.underlying38 hf
 rw [cO7] at hl
 match xs, hxl, cs, hl with
 | [y0, y1, y2], _, [v0, v1, v2, v3], _ =>
  have g0 := hff 0 _ rfl
  have g1 := hff 1 _ rfl
  have g2 := hff 2 _ rfl
  simp [cO1, cO3, cO6] at g0 g1 g2
  obtain ⟨a, l, e0, b0, b1⟩ := open_prefix g0
  obtain ⟨n1, e1, _, w1⟩ := DataW.trod_int uAd g1
  obtain ⟨bb, e2, _⟩ := DataW.trod_bool uOb g2
  simp at e0 e1 e2
  obtain ⟨e0, e0'⟩ := e0
  subst e0 e0' e1 e2
  obtain ⟨a1, rfl, h1⟩ := u32_wf w1
  exact ⟨⟨a, l, a1, bb⟩, rfl, b0, b1, h1⟩
theorem open_neigh {fuel : Nat} {cs : List Value} {x : DataW H × List MemPlace} (hf : DataW.trod enc Tryz.prog W 0 (fun _ => true) true fuel 42 cs = some x) :
  ∃ r : Nb, cs = r.cells.toList /\ r.ip < 4294967296 /\ r.mac.Ok := by
 obtain ⟨xs, n, _, rfl, hl, hxl, hff⟩ := DataW.trod_struct Tryz.underlying42 hf
 rw [cO8] at hl
 match xs, hxl, cs, hl with
 | [y0, y1], _, [v0, v1, v2, v3, v4, v5, v6], _ =>
  have g0 := hff 0 _ rfl
  have g1 := hff 1 _ rfl
  simp [cO1, cO5] at g0 g1
  obtain ⟨n0, e0, _, w0⟩ := DataW.trod_int uAd g0
  obtain ⟨m, e1, hm⟩ := open_mac g1
  simp [Mc.cells] at e0 e1
  obtain ⟨e1, e2, e3, e4, e5, e6⟩ := e1
  subst e0 e1 e2 e3 e4 e5 e6
  obtain ⟨a0, rfl, h0⟩ := u32_wf w0
  exact ⟨⟨a0, m⟩, rfl, h0, hm⟩
theorem open_fdb {fuel : Nat} {cs : List Value} {x : DataW H × List MemPlace} (hf : DataW.trod enc Tryz.prog W 0 (fun _ => true) true fuel 44 cs = some x) :
  ∃ r : Fd, cs = r.cells.toList /\ r.mac.Ok /\ r.dest < 4294967296 := by
 obtain ⟨xs, n, _, rfl, hl, hxl, hff⟩ := DataW.trod_struct Tryz.underlying44 hf
 rw [cO9] at hl
 match xs, hxl, cs, hl with
 | [y0, y1], _, [v0, v1, v2, v3, v4, v5, v6], _ =>
  have g0 := hff 0 _ rfl
  have g1 := hff 1 _ rfl
  simp [cO1, cO5] at g0 g1
  obtain ⟨m, e1, hm⟩ := open_mac g0
  obtain ⟨n0, e0, _, w0⟩ := DataW.trod_int uAd g1
  simp [Mc.cells] at e0 e1
  obtain ⟨e1, e2, e3, e4, e5, e6⟩ := e1
  subst e0 e1 e2 e3 e4 e5 e6
  obtain ⟨a0, rfl, h0⟩ := u32_wf w0
  exact ⟨⟨m, a0⟩, rfl, hm, h0⟩
theorem open_op {fuel : Nat} {cs : List Value} {x : DataW H × List MemPlace} (hf : DataW.trod enc Tryz.prog W 0 (fun _ => true) true fuel 46 cs = some x) :
  ∃ o : Opv, cs = o.cells.toList /\ o.Ok := by
 obtain ⟨xs, n, _, rfl, hl, hxl, hff⟩ := DataW.trod_struct Tryz.underlying46 hf
 rw [cO10] at hl
 match xs, hxl, cs, hl with
 | [y0, y1, y2, y3], _, [v0, v1, v2, v3, v4, v5, v6, v7, v8, v9, v10, v11, v12, v13, v14, v15, v16, v17, v18], _ =>
  have g0 := hff 0 _ rfl
  have g1 := hff 1 _ rfl
  have g2 := hff 2 _ rfl
  have g3 := hff 3 _ rfl
  simp [cO2, cO7, cO8, cO9] at g0 g1 g2 g3
  obtain ⟨n0, e0, _, w0⟩ := DataW.trod_int Tryz.underlying3 g0
  obtain ⟨r, e1, r1, r2, r3⟩ := open_route g1
  obtain ⟨nb, e2, n1, n2⟩ := open_neigh g2
  obtain ⟨fd, e3, f1, f2⟩ := open_fdb g3
  refine ⟨⟨n0, r, nb, fd⟩, ?_, ⟨i64_wf w0, r1, r2, r3, n1, n2, f1, f2⟩⟩
  simp [Tri.Vt.cells] at e0 e1
  simp [Nb.cells] at e2
  simp [Fd.cells] at e3
  obtain ⟨p1, p2, p3, p4⟩ := e1
  obtain ⟨q1, q2, q3, q4, q5, q6, q7⟩ := e2
  obtain ⟨t1, t2, t3, t4, t5, t6, t7⟩ := e3
  subst e0 p1 p2 p3 p4 q1 q2 q3 q4 q5 q6 q7 t1 t2 t3 t4 t5 t6 t7
  rfl
instance : Nonempty Opv := ⟨fo1⟩
instance : Nonempty Lop := ⟨⟨0, none, 0, 0, [], 0⟩⟩
theorem open_ops {fuel : Nat} {cs : List Value} {x : DataW H × List MemPlace} (hf : DataW.trod enc Tryz.prog W 0 (fun _ => true) true fuel 24 cs = some x) :
  ∃ a n c L, cs = [.slice a n c] /\ SeesOp (fun k => k < W.heap.size) W a n L /\ (∀ o ∈ L, o.Ok) /\ n <= 9223372036854775807 := by
 rcases Go.Deep.open_slice uOps hf with ⟨h1, hx⟩ | ⟨a, len, cap, m, n, D, Pl, h1, _, hlc, hcm, hm, hxx, hx⟩
 ·exact ⟨_, _, _, [], h1, SeesOp.nil _ _ _, fun o ho => (by cases ho), by decide⟩
 ·simp at hm
  subst hm
  unfold maxLen at hcm
  have key : ∀ i, i < len -> ∃ o : Opv, o.Ok /\ ∀ k v, o.cells.toList[k]? = some v -> W.cell? ((a.add (i * 19)).add k) = some v := by
   intro i hi
   obtain ⟨cs', k1, k2⟩ := hx i (by omega)
   rw [cO10] at k1
   obtain ⟨_, hlen, hc⟩ := World.cells?_some k1
   obtain ⟨o, hcs, hok⟩ := open_op k2
   refine ⟨o, hok, fun k v hv => ?_⟩
   have hk : k < 19 := (List.getElem?_eq_some_iff.1 hv).1
   have := hc k (by omega)
   rw [hcs] at this
   rw [this]
   exact hv
  by_cases h0 : len = 0
  ·subst h0
   exact ⟨_, _, _, [], h1, SeesOp.nil _ _ _, fun o ho => (by cases ho), by decide⟩
  obtain ⟨F, hF⟩ := pickF key
  obtain ⟨g, off, rfl, hg⟩ : ∃ g off, a = ⟨g, off, none⟩ /\ g < W.heap.size := by
   have z0 := (hF 0 (by omega)).2 0 _ rfl
   have e : (a.add (0 * 19)).add 0 = a := by simp [Addr.add]
   rw [e] at z0
   exact spot_none z0
  refine ⟨_, _, _, (List.range len).map F, h1, ⟨by simp, .inr ⟨g, off, rfl, hg, hg, fun j o ho i v hv => ?_⟩⟩, fun o ho => ?_, by omega⟩
  ·obtain ⟨hj, rfl⟩ := List.getElem?_eq_some_iff.1 ho
   have hj' : j < len := by simpa using hj
   rw [List.getElem_map, List.getElem_range] at hv
   have := (hF j hj').2 i v hv
   simpa [add_plain] using this
  ·obtain ⟨i, hi, rfl⟩ := List.mem_map.1 ho
   exact (hF i (by simpa using hi)).1
theorem open_caps {base : Nat} {v : Value} {d : DataW H} {ps : List MemPlace} (hval : Value.okWide Tryz.prog W .any base 23 v) (h : DataW.Trod enc Tryz.prog W 0 (fun _ => true) true 23 v d ps) :
  ∃ r n f : Int, v = .agg #[.int .i64 r, .int .i64 n, .int .i64 f] /\ (-9223372036854775808 <= r /\ r <= 9223372036854775807) /\ (-9223372036854775808 <= n /\ n <= 9223372036854775807) /\ (-9223372036854775808 <= f /\ f <= 9223372036854775807) := by
 obtain ⟨cs, rfl, _⟩ := okWide_struct Tryz.underlying23 hval
 obtain ⟨fuel, hf⟩ := h
 obtain ⟨xs, n, _, _, hl, hxl, hff⟩ := DataW.trod_struct Tryz.underlying23 hf
 rw [cO13] at hl
 obtain ⟨cs⟩ := cs
 simp only [Value.cells] at hl hff
 match xs, hxl, cs, hl with
 | [y0, y1, y2], _, [v0, v1, v2], _ =>
  have g0 := hff 0 _ rfl
  have g1 := hff 1 _ rfl
  have g2 := hff 2 _ rfl
  simp [cO2] at g0 g1 g2
  obtain ⟨n0, e0, _, w0⟩ := DataW.trod_int Tryz.underlying3 g0
  obtain ⟨n1, e1, _, w1⟩ := DataW.trod_int Tryz.underlying3 g1
  obtain ⟨n2, e2, _, w2⟩ := DataW.trod_int Tryz.underlying3 g2
  simp at e0 e1 e2
  subst e0 e1 e2
  exact ⟨n0, n1, n2, rfl, i64_wf w0, i64_wf w1, i64_wf w2⟩
end
end Go.Proofs.YtpdnnikkaojnkaaGreat.Rt
