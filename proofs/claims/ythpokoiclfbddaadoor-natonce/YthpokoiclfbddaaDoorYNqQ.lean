import Derived.Test.YthpokoiclfbddaaDoorYNqP
import Derived.Test.YthpokoiclfbddaaDoorYNO
namespace Go.Proofs.YthpokoiclfbddaaDoor.Nq
open Go.Proofs.YthpokoiclfbddaaDoor Go.ChangeShapes Go.WideShapes Go.ChangeAt Go.RowKit Fl
open Go.Proofs.YthpokoiclfbddaaDoor.N hiding But But.set But.of_below But.refl But.trans But.below But.drew wpList_ld
set_option maxHeartbeats 2000000
set_option maxRecDepth 100000

theorem q8 {a : Int} (h : (Lit.int .u8 a).wf = true) : ∃ n : Nat, a = (n : Int) ∧ n < 256 := by
  have h' : (decide (IntKind.u8.min ≤ a) && decide (a ≤ IntKind.u8.max)) = true := h
  rw [show IntKind.u8.min = 0 from by decide +kernel, show IntKind.u8.max = 255 from by decide +kernel] at h'
  simp at h'
  exact ⟨a.toNat, by omega, by omega⟩
theorem q16 {a : Int} (h : (Lit.int .u16 a).wf = true) : ∃ n : Nat, a = (n : Int) ∧ n < 65536 := by
  have h' : (decide (IntKind.u16.min ≤ a) && decide (a ≤ IntKind.u16.max)) = true := h
  rw [show IntKind.u16.min = 0 from by decide +kernel, show IntKind.u16.max = 65535 from by decide +kernel] at h'
  simp at h'
  exact ⟨a.toNat, by omega, by omega⟩
theorem q32 {a : Int} (h : (Lit.int .u32 a).wf = true) : ∃ n : Nat, a = (n : Int) ∧ n < 4294967296 := by
  have h' : (decide (IntKind.u32.min ≤ a) && decide (a ≤ IntKind.u32.max)) = true := h
  rw [show IntKind.u32.min = 0 from by decide +kernel, show IntKind.u32.max = 4294967295 from by decide +kernel] at h'
  simp at h'
  exact ⟨a.toNat, by omega, by omega⟩
theorem u8q : Tryd.prog.underlying 5 = some (.int .u8) := by kernel_rfl
theorem uAdr : Tryd.prog.underlying 31 = some (.int .u32) := by kernel_rfl
theorem u16q : Tryd.prog.underlying 22 = some (.int .u16) := by kernel_rfl
theorem undTu : ∃ f0 f1 f2 f3 f4, Tryd.prog.underlying 38 = some (.struct #[f0, f1, f2, f3, f4]) ∧ (f0.type = 31 ∧ f0.offset = 0 ∧ f1.type = 31 ∧ f1.offset = 1) ∧ f2.type = 5 ∧ f2.offset = 2 ∧ f3.type = 22 ∧ f3.offset = 3 ∧ f4.type = 22 ∧ f4.offset = 4 := ⟨_, _, _, _, _, Tryd.underlying38, ⟨rfl, rfl, rfl, rfl⟩, rfl, rfl, rfl, rfl, rfl, rfl⟩

/-- A step. -/
structure Sq where
  k : Int
  on : Bool
  h : Hd
  vo : Value
  vb : Value
  B : List Nat
  t : Tu
  s : Nat
  d : Nat
  bk : Value
  pr : Nat
  po : Nat
def Sq.cells (x : Sq) : Array Value := #[.int .i64 x.k, .bool x.on, .int .u8 (x.h.tos : Int), .int .u16 (x.h.id : Int), .bool x.h.df, .bool x.h.mf, .int .i64 x.h.off, .int .u8 (x.h.ttl : Int), .int .u8 (x.h.proto : Int), .int .u32 (x.h.src : Int), .int .u32 (x.h.dst : Int), x.vo, x.vb,
  .int .u32 (x.t.s : Int), .int .u32 (x.t.d : Int), .int .u8 (x.t.p : Int), .int .u16 (x.t.sp : Int), .int .u16 (x.t.dp : Int), .int .u32 (x.s : Int), .int .u32 (x.d : Int), x.bk, .int .u8 (x.pr : Int), .int .u16 (x.po : Int)]
structure Sq.Ok (x : Sq) (W : World) : Prop where
  h : x.h.Ok
  vo : SeesB W x.vo x.h.opts
  vb : SeesB W x.vb x.B
  t : x.t.Ok
  s : x.s < 4294967296
  d : x.d < 4294967296
  pr : x.pr < 256
  po : x.po < 65536
  lo : x.h.opts.length ≤ 140737488355328
  lb : x.B.length ≤ 140737488355328
  oo : x.vo.oneCell' = true
  ob : x.vb.oneCell' = true
  ok : x.bk.oneCell' = true
theorem Sq.Ok.below {x : Sq} {W W' : World} (h : x.Ok W) (hb : Below W.heap.size W W') : x.Ok W' := ⟨h.h, h.vo.below hb, h.vb.below hb, h.t, h.s, h.d, h.pr, h.po, h.lo, h.lb, h.oo, h.ob, h.ok⟩
theorem Sq.Ok.one {x : Sq} {W : World} (h : x.Ok W) : x.cells.all (·.oneCell') = true := by
  have h1 := h.oo
  have h2 := h.ob
  have h3 := h.ok
  simp [Sq.cells, Value.oneCell'] at h1 h2 h3 ⊢
  exact ⟨h1, h2, h3⟩

def SeesQ (W : World) (v : Value) (S : List Sq) : Prop :=
  ∃ ao cap, v = .slice ao S.length cap ∧ S.length ≤ cap ∧ cap ≤ maxLen ∧ ∀ j (h : j < S.length), S[j].Ok W ∧ ∃ g off, ao = some ⟨g, off, none⟩ ∧ g < W.heap.size ∧ ∀ i v, S[j].cells[i]? = some v → W.cell? ⟨g, off + j * 23 + i, none⟩ = some v

theorem uOps : Tryd.prog.underlying 23 = some (.slice 41) := by kernel_rfl
theorem uBks : Tryd.prog.underlying 39 = some (.slice 53) := by kernel_rfl
theorem cellsOp : Tryd.prog.cellsOf 41 = 23 := by kernel_rfl
theorem cellsTu5 : Tryd.prog.cellsOf 38 = 5 := by kernel_rfl
theorem cell1_bk : Tryd.prog.cellsOf 39 = 1 := by kernel_rfl
theorem undOp : ∃ f0 f1 f2 f3 f4 f5 f6 f7 f8, Tryd.prog.underlying 41 = some (.struct #[f0, f1, f2, f3, f4, f5, f6, f7, f8]) ∧ (f0.type = 3 ∧ f0.offset = 0) ∧ (f1.type = 4 ∧ f1.offset = 1) ∧ (f2.type = 36 ∧ f2.offset = 2) ∧ (f3.type = 38 ∧ f3.offset = 13) ∧ (f4.type = 31 ∧ f4.offset = 18) ∧ (f5.type = 31 ∧ f5.offset = 19) ∧ (f6.type = 39 ∧ f6.offset = 20) ∧ (f7.type = 5 ∧ f7.offset = 21) ∧ f8.type = 22 ∧ f8.offset = 22 :=
  ⟨_, _, _, _, _, _, _, _, _, Tryd.underlying41, ⟨rfl, rfl⟩, ⟨rfl, rfl⟩, ⟨rfl, rfl⟩, ⟨rfl, rfl⟩, ⟨rfl, rfl⟩, ⟨rfl, rfl⟩, ⟨rfl, rfl⟩, ⟨rfl, rfl⟩, rfl, rfl⟩

section
variable {H : Type} {enc : TypeId × Value → H} {W : World} {sp : Nat → Bool} {held : Bool}
theorem open_tu {fuel : Nat} {cs : List Value} {x : DataW H × List MemPlace} (h : DataW.trod enc Tryd.prog W 0 sp held fuel 38 cs = some x) : ∃ t : Tu, cs = t.cells.toList ∧ t.Ok := by
  obtain ⟨f0, f1, f2, f3, f4, hu, ⟨t0, o0, t1, o1⟩, t2, o2, t3, o3, t4, o4⟩ := undTu
  obtain ⟨xs, n, _, rfl, hl, hxl, hf⟩ := DataW.trod_struct hu h
  match xs, hxl with
  | [y0, y1, y2, y3, y4], _ =>
    have g0 := hf 0 f0 rfl
    have g1 := hf 1 f1 rfl
    have g2 := hf 2 f2 rfl
    have g3 := hf 3 f3 rfl
    have g4 := hf 4 f4 rfl
    have cA : Tryd.prog.cellsOf 31 = 1 := by kernel_rfl
    have c8 : Tryd.prog.cellsOf 5 = 1 := by kernel_rfl
    have c6 : Tryd.prog.cellsOf 22 = 1 := by kernel_rfl
    rw [t0, o0, cA] at g0
    rw [t1, o1, cA] at g1
    rw [t2, o2, c8] at g2
    rw [t3, o3, c6] at g3
    rw [t4, o4, c6] at g4
    rw [show Tryd.prog.cellsOf 38 = 5 from by kernel_rfl] at hl
    obtain ⟨z0, e0, _, w0⟩ := DataW.trod_int uAdr g0
    obtain ⟨a0, rfl, h0⟩ := q32 w0
    obtain ⟨z1, e1, _, w1⟩ := DataW.trod_int uAdr g1
    obtain ⟨a1, rfl, h1⟩ := q32 w1
    obtain ⟨z2, e2, _, w2⟩ := DataW.trod_int u8q g2
    obtain ⟨a2, rfl, h2⟩ := q8 w2
    obtain ⟨z3, e3, _, w3⟩ := DataW.trod_int u16q g3
    obtain ⟨a3, rfl, h3⟩ := q16 w3
    obtain ⟨z4, e4, _, w4⟩ := DataW.trod_int u16q g4
    obtain ⟨a4, rfl, h4⟩ := q16 w4
    refine ⟨⟨a0, a1, a2, a3, a4⟩, ?_, ⟨h0, h1, h2, h3, h4⟩⟩
    match cs, hl with
    | [c0, c1, c2, c3, c4], _ =>
      simp at e0 e1 e2 e3 e4
      simp [Tu.cells, e0, e1, e2, e3, e4]
end
section
variable {H : Type} {enc : TypeId × Value → H} {W : World}
theorem open_sq {fuel : Nat} {cs : List Value} {x : DataW H × List MemPlace} (h : DataW.trod enc Tryd.prog W 0 (fun _ => true) true fuel 41 cs = some x) (hw : ∀ n ∈ x.1.weights Tryd.prog 41, n ≤ reachBytes) :
    ∃ s : Sq, cs = s.cells.toList ∧ s.Ok W := by
  obtain ⟨f0, f1, f2, f3, f4, f5, f6, f7, f8, hu, ⟨t0, o0⟩, ⟨t1, o1⟩, ⟨t2, o2⟩, ⟨t3, o3⟩, ⟨t4, o4⟩, ⟨t5, o5⟩, ⟨t6, o6⟩, ⟨t7, o7⟩, t8, o8⟩ := undOp
  obtain ⟨xs, n, _, rfl, hl, hxl, hf⟩ := DataW.trod_struct hu h
  match xs, hxl with
  | [y0, y1, y2, y3, y4, y5, y6, y7, y8], _ =>
    have g0 := hf 0 f0 rfl
    have g1 := hf 1 f1 rfl
    have g2 := hf 2 f2 rfl
    have g3 := hf 3 f3 rfl
    have g4 := hf 4 f4 rfl
    have g5 := hf 5 f5 rfl
    have g6 := hf 6 f6 rfl
    have g7 := hf 7 f7 rfl
    have g8 := hf 8 f8 rfl
    rw [t0, o0, cell1_3] at g0
    rw [t1, o1, cell1_4] at g1
    rw [t2, o2, cells29] at g2
    rw [t3, o3, cellsTu5] at g3
    rw [t4, o4, cell1_24] at g4
    rw [t5, o5, cell1_24] at g5
    rw [t6, o6, cell1_bk] at g6
    rw [t7, o7, cell1_5] at g7
    rw [t8, o8, cell1_22] at g8
    rw [cellsOp] at hl
    obtain ⟨k, e0, _, w0⟩ := DataW.trod_int u3 g0
    obtain ⟨on, e1, _⟩ := DataW.trod_bool u4 g1
    obtain ⟨hd, vo, vb, B, e2, hok, hs6, hs7, hf6, hf7, q6, q7⟩ := open_pk g2
    obtain ⟨th, e3, hth⟩ := open_tu g3
    obtain ⟨s, e4, _, w4⟩ := DataW.trod_int uAdr g4
    obtain ⟨s, rfl, hs⟩ := q32 w4
    obtain ⟨d, e5, _, w5⟩ := DataW.trod_int uAdr g5
    obtain ⟨d, rfl, hd5⟩ := q32 w5
    obtain ⟨bk, e6, hbk⟩ : ∃ bk : Value, (cs.drop 20).take 1 = [bk] ∧ bk.oneCell' = true := by
      rcases Go.Deep.open_slice uBks g6 with ⟨h1, _⟩ | ⟨a, len', cap', m, n, D, Pl, h1, _⟩
      · exact ⟨_, h1, rfl⟩
      · exact ⟨_, h1, rfl⟩
    obtain ⟨pr, e7, _, w7⟩ := DataW.trod_int u8q g7
    obtain ⟨pr, rfl, hpr⟩ := q8 w7
    obtain ⟨po, e8, _, w8⟩ := DataW.trod_int u16q g8
    obtain ⟨po, rfl, hpo⟩ := q16 w8
    have hw2 : ∀ k ∈ y2.1.weights Tryd.prog 36, k ≤ reachBytes := fun k hk => hw k (by
      simp only [DataW.weights, hu]
      exact DataW.weights_mem_each (j := 2) (t := 36) (d := y2.1) (by simp [t2]) rfl _ hk)
    have h6 := hf6.room hw2
    have h7 := hf7.room hw2
    unfold reachBytes at h6 h7
    refine ⟨⟨k, on, hd, vo, vb, B, th, s, d, bk, pr, po⟩, ?_, ⟨hok, hs6, hs7, hth, hs, hd5, hpr, hpo, (show hd.opts.length ≤ 140737488355328 by omega), (show B.length ≤ 140737488355328 by omega), q6, q7, hbk⟩⟩
    match cs, hl with
    | [c0, c1, c2, c3, c4, c5, c6, c7, c8, c9, c10, c11, c12, c13, c14, c15, c16, c17, c18, c19, c20, c21, c22], _ =>
      simp [pkCells] at e0 e1 e2
      simp [Tu.cells] at e3 e4 e5 e6 e7 e8
      obtain ⟨rfl, rfl, rfl, rfl, rfl, rfl, rfl, rfl, rfl, rfl, rfl⟩ := e2
      obtain ⟨rfl, rfl, rfl, rfl, rfl⟩ := e3
      subst e0 e1 e4 e5 e6 e7 e8
      rfl

/-- The steps that came in. -/
theorem open_sqs {base : Nat} {v : Value} {d : DataW H} {ps : List MemPlace} (hval : Value.okWide Tryd.prog W .any base 23 v) (h : DataW.Trod enc Tryd.prog W 0 (fun _ => true) true 23 v d ps) (hw : ∀ x ∈ d.weights Tryd.prog 23, x ≤ reachBytes) :
    ∃ S : List Sq, SeesQ W v S := by
  obtain ⟨a0, len, cap, rfl⟩ := okWide_slice uOps hval
  obtain ⟨fuel, hf⟩ := h
  rcases Go.Deep.open_slice uOps hf with ⟨h1, _⟩ | ⟨a, len', cap', m, n, D, Pl, h1, _, hlc, hcm, hm, hxx, hx⟩
  · simp [Value.cells] at h1
    obtain ⟨rfl, rfl, rfl⟩ := h1
    exact ⟨[], none, 0, rfl, Nat.le_refl _, by unfold maxLen; omega, fun j hj => absurd hj (by simp)⟩
  · simp [Value.cells] at h1
    obtain ⟨rfl, rfl, rfl⟩ := h1
    simp at hm
    subst hm
    simp only [Prod.mk.injEq] at hxx
    obtain ⟨rfl, _⟩ := hxx
    have key : ∀ i, i < len → ∃ s : Sq, s.Ok W ∧ ∀ j (hj : j < 23), W.cell? ((a.add (i * 23)).add j) = s.cells[j]? := by
      intro i hi
      obtain ⟨cs', k1, k2⟩ := hx i (by omega)
      rw [cellsOp] at k1
      obtain ⟨_, _, hc⟩ := World.cells?_some k1
      obtain ⟨s, hs, hok⟩ := open_sq k2 fun x hx' => hw x (by
        simp only [DataW.weights, uOps, List.mem_cons, List.mem_append]
        exact .inr (.inl (weights_all (d := D i) (List.mem_map.2 ⟨i, by simpa using hi, rfl⟩) x hx')))
      refine ⟨s, hok, fun j hj => ?_⟩
      rw [hc j hj, hs, Array.getElem?_toList]
    by_cases h0 : len = 0
    · subst h0
      exact ⟨[], some a, m, rfl, Nat.zero_le _, hcm, fun j hj => absurd hj (by simp)⟩
    obtain ⟨c0, _⟩ := key 0 (by omega)
    obtain ⟨F, hF⟩ : ∃ F : Nat → Sq, ∀ i, i < len → (F i).Ok W ∧ ∀ j (hj : j < 23), W.cell? ((a.add (i * 23)).add j) = (F i).cells[j]? := by
      refine ⟨fun i => if h : i < len then (key i h).choose else c0, fun i hi => ?_⟩
      simp only [dif_pos hi]
      exact (key i hi).choose_spec
    obtain ⟨g, off, rfl, hg⟩ : ∃ g off, a = ⟨g, off, none⟩ ∧ g < W.heap.size := by
      have z0 := (hF 0 (by omega)).2 0 (by omega)
      have e : (a.add (0 * 23)).add 0 = a := by simp [Addr.add]
      rw [e] at z0
      exact N.spot_none z0
    refine ⟨(List.range len).map F, some ⟨g, off, none⟩, m, by simp, by simpa using hlc, hcm, fun j hj => ?_⟩
    have hj' : j < len := by simpa using hj
    simp only [List.getElem_map, List.getElem_range]
    refine ⟨(hF j hj').1, g, off, rfl, hg, fun i v hv => ?_⟩
    have hi : i < 23 := (Array.getElem?_eq_some_iff.1 hv).1
    have hh := (hF j hj').2 i hi
    rw [Addr.add_mid, Addr.add_mid] at hh
    rw [hh, hv]
end
/-- What is loaded of a step. -/
theorem sq_load {w : World} {g off : Nat} {s : Sq} (h : ∀ i v, s.cells[i]? = some v → w.cell? ⟨g, off + i, none⟩ = some v) : (Instr.loadAt 41 (.pointer (some ⟨g, off, none⟩))).run Tryd.prog w = .ok (.agg s.cells) w :=
  run_loadAt_mid w g off 41 s.cells.toList _ (fun j v hv => h j v (by rw [← Array.getElem?_toList]; exact hv)) Tryd.underlying41 rfl (by kernel_rfl)
end Go.Proofs.YthpokoiclfbddaaDoor.Nq
