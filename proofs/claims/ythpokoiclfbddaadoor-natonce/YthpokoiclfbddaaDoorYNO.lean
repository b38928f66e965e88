import Derived.Test.YthpokoiclfbddaaDoorEB
import Derived.Deep.Slices
import Derived.Deep.Strs
import Derived.SizedLaws
namespace Go.Proofs.YthpokoiclfbddaaDoor.N
open Go.ChangeShapes Go.WideShapes Go.ChangeAt Go.RowKit
set_option maxRecDepth 100000

theorem cell1_5 : Tryd.prog.cellsOf 5 = 1 := by kernel_rfl
theorem cell1_22 : Tryd.prog.cellsOf 22 = 1 := by kernel_rfl
theorem cell1_3 : Tryd.prog.cellsOf 3 = 1 := by kernel_rfl
theorem cell1_4 : Tryd.prog.cellsOf 4 = 1 := by kernel_rfl
theorem cell1_24 : Tryd.prog.cellsOf 31 = 1 := by kernel_rfl
theorem cell1_25 : Tryd.prog.cellsOf 32 = 1 := by kernel_rfl
theorem cell1_56 : Tryd.prog.cellsOf 141 = 1 := by kernel_rfl
theorem cells27 : Tryd.prog.cellsOf 34 = 10 := by kernel_rfl
theorem cells29 : Tryd.prog.cellsOf 36 = 11 := by kernel_rfl
theorem bytes5 : Tryd.prog.bytesOf 5 = 1 := by kernel_rfl
theorem u56 : Tryd.prog.underlying 141 = some (.slice 32) := by kernel_rfl
theorem u25 : Tryd.prog.underlying 32 = some (.slice 5) := by kernel_rfl
theorem u5 : Tryd.prog.underlying 5 = some (.int .u8) := by kernel_rfl
theorem u22 : Tryd.prog.underlying 22 = some (.int .u16) := by kernel_rfl
theorem u24 : Tryd.prog.underlying 31 = some (.int .u32) := by kernel_rfl
theorem u3 : Tryd.prog.underlying 3 = some (.int .i64) := by kernel_rfl
theorem u4 : Tryd.prog.underlying 4 = some .bool := by kernel_rfl
theorem u29 : ∃ f0 f1, Tryd.prog.underlying 36 = some (.struct #[f0, f1]) ∧ f0.type = 34 ∧ f0.offset = 0 ∧ f1.type = 32 ∧ f1.offset = 10 := ⟨_, _, Tryd.underlying36, rfl, rfl, rfl, rfl⟩
theorem u27 : ∃ f0 f1 f2 f3 f4 f5 f6 f7 f8 f9, Tryd.prog.underlying 34 = some (.struct #[f0, f1, f2, f3, f4, f5, f6, f7, f8, f9]) ∧ f0.type = 5 ∧ f0.offset = 0 ∧ f1.type = 22 ∧ f1.offset = 1 ∧ f2.type = 4 ∧ f2.offset = 2 ∧ f3.type = 4 ∧ f3.offset = 3 ∧ f4.type = 3 ∧ f4.offset = 4 ∧ f5.type = 5 ∧ f5.offset = 5 ∧ f6.type = 5 ∧ f6.offset = 6 ∧ f7.type = 31 ∧ f7.offset = 7 ∧ f8.type = 31 ∧ f8.offset = 8 ∧ f9.type = 32 ∧ f9.offset = 9 :=
  ⟨_, _, _, _, _, _, _, _, _, _, Tryd.underlying34, rfl, rfl, rfl, rfl, rfl, rfl, rfl, rfl, rfl, rfl, rfl, rfl, rfl, rfl, rfl, rfl, rfl, rfl, rfl, rfl⟩
theorem wf_u8 {a : Int} (h : (Lit.int .u8 a).wf = true) : ∃ n : Nat, a = (n : Int) ∧ n < 256 := by
  have h' : (decide (IntKind.u8.min ≤ a) && decide (a ≤ IntKind.u8.max)) = true := h
  rw [show IntKind.u8.min = 0 from by decide +kernel, show IntKind.u8.max = 255 from by decide +kernel] at h'
  simp at h'
  exact ⟨a.toNat, by omega, by omega⟩
theorem wf_u16 {a : Int} (h : (Lit.int .u16 a).wf = true) : ∃ n : Nat, a = (n : Int) ∧ n < 65536 := by
  have h' : (decide (IntKind.u16.min ≤ a) && decide (a ≤ IntKind.u16.max)) = true := h
  rw [show IntKind.u16.min = 0 from by decide +kernel, show IntKind.u16.max = 65535 from by decide +kernel] at h'
  simp at h'
  exact ⟨a.toNat, by omega, by omega⟩
theorem wf_u32 {a : Int} (h : (Lit.int .u32 a).wf = true) : ∃ n : Nat, a = (n : Int) ∧ n < 4294967296 := by
  have h' : (decide (IntKind.u32.min ≤ a) && decide (a ≤ IntKind.u32.max)) = true := h
  rw [show IntKind.u32.min = 0 from by decide +kernel, show IntKind.u32.max = 4294967295 from by decide +kernel] at h'
  simp at h'
  exact ⟨a.toNat, by omega, by omega⟩
theorem wf_i64 {a : Int} (h : (Lit.int .i64 a).wf = true) : -9223372036854775808 ≤ a ∧ a ≤ 9223372036854775807 := by
  have h' : (decide (IntKind.i64.min ≤ a) && decide (a ≤ IntKind.i64.max)) = true := h
  rw [show IntKind.i64.min = -9223372036854775808 from by decide +kernel, show IntKind.i64.max = 9223372036854775807 from by decide +kernel] at h'
  simpa using h'

theorem spot_none {W : World} {a : Addr} {v : Value} (z0 : W.cell? a = some v) : ∃ g off, a = ⟨g, off, none⟩ ∧ g < W.heap.size := by
  have hlt := World.block_lt_of_cell? W a z0
  obtain ⟨g, off, sp⟩ := a
  cases sp with
  | none => exact ⟨g, off, rfl, hlt⟩
  | some s =>
    exfalso
    simp only [World.cell?] at z0
    split at z0 <;> simp at z0

theorem bulk_one {H : Type} (d : DataW H) : 1 ≤ Rows.uptoBulk d := by
  cases d with
  | lit l => cases l <;> simp [Rows.uptoBulk]
  | nil => simp [Rows.uptoBulk]
  | ptr d => simp [Rows.uptoBulk]
  | slice elems spare => simp [Rows.uptoBulk]
  | agg parts => simp [Rows.uptoBulk]
  | iface t d => simp [Rows.uptoBulk]
  | map entries => simp [Rows.uptoBulk]
  | held h => simp [Rows.uptoBulk]

theorem bulk_part {H : Type} {d : DataW H} {l : List (DataW H)} (h : d ∈ l) : Rows.uptoBulk d ≤ Rows.uptoBulkAll l := by
  induction l with
  | nil => cases h
  | cons x r ih =>
    simp only [Rows.uptoBulkAll]
    rcases List.mem_cons.1 h with rfl | h
    · omega
    · have := ih h; omega

theorem bulk_len {H : Type} (l : List (DataW H)) : l.length ≤ Rows.uptoBulkAll l := by
  induction l with
  | nil => simp
  | cons x r ih => have := bulk_one x; simp only [Rows.uptoBulkAll, List.length_cons]; omega

theorem bulk_flat {H : Type} (D : Nat → DataW H) (F : Nat → List Nat) (l : List Nat) (h : ∀ i ∈ l, (F i).length ≤ Rows.uptoBulk (D i)) : (l.map F).flatten.length ≤ Rows.uptoBulkAll (l.map D) := by
  induction l with
  | nil => simp
  | cons x r ih =>
    have h1 := h x List.mem_cons_self
    have h2 := ih (fun i hi => h i (List.mem_cons_of_mem _ hi))
    simp only [List.map_cons, List.flatten_cons, List.length_append, Rows.uptoBulkAll]
    omega

theorem weights_all {H : Type} {P : Program} {e : TypeId} : ∀ {ds : List (DataW H)} {d : DataW H}, d ∈ ds → ∀ n ∈ d.weights P e, n ∈ DataW.weightsAll P e ds
  | a :: t, d, hd, n, hn => by
    simp only [DataW.weightsAll, List.mem_append]
    rcases List.mem_cons.1 hd with rfl | h
    · exact .inl hn
    · exact .inr (weights_all h n hn)

section
variable {H : Type} {enc : TypeId × Value → H} {W : World}

/-- How long a list is, against what was read of it. -/
structure Fits (x : DataW H) (t : TypeId) (n : Nat) : Prop where
  bulk : n ≤ Rows.uptoBulk x
  room : (∀ k ∈ x.weights Tryd.prog t, k ≤ reachBytes) → n ≤ reachBytes

/-- A list of bytes that came in, within another thing. -/
theorem open_bytes {fuel : Nat} {cs : List Value} {x : DataW H × List MemPlace} (hf : DataW.trod enc Tryd.prog W 0 (fun _ => true) true fuel 32 cs = some x) :
    ∃ v L, cs = [v] ∧ SeesB W v L ∧ Fits x.1 32 L.length ∧ v.oneCell' = true := by
  rcases Go.Deep.open_slice u25 hf with ⟨h1, hx⟩ | ⟨a, len, cap, m, n, D, Pl, h1, _, hlc, hcm, hm, hxx, hx⟩
  · subst hx
    exact ⟨_, [], h1, sees_nil W, ⟨by simp, fun _ => by simp⟩, rfl⟩
  · simp at hm
    subst hm
    have key : ∀ i, i < len → ∃ y : Nat, y < 256 ∧ W.cell? (a.add i) = some (.int .u8 (y : Int)) := by
      intro i hi
      obtain ⟨cs', k1, k2⟩ := hx i (by omega)
      rw [cell1_5, Nat.mul_one] at k1
      obtain ⟨_, _, hc⟩ := World.cells?_some k1
      obtain ⟨z, e1, _, wf⟩ := DataW.trod_int u5 k2
      obtain ⟨y, rfl, hy⟩ := wf_u8 wf
      refine ⟨y, hy, ?_⟩
      have := hc 0 (by omega)
      rw [e1] at this
      simpa [Addr.add] using this
    have hch : ∃ F : Nat → Nat, ∀ i, i < len → F i < 256 ∧ W.cell? (a.add i) = some (.int .u8 ((F i : Nat) : Int)) := by
      refine ⟨fun i => if h : i < len then (key i h).choose else 0, fun i hi => ?_⟩
      simp only [dif_pos hi]
      exact (key i hi).choose_spec
    obtain ⟨F, hF⟩ := hch
    refine ⟨_, (List.range len).map F, h1, ⟨some a, m, by simp, ⟨by simpa using hlc, fun h => by cases h⟩, hcm, fun j hj => ?_⟩, ?_, rfl⟩
    · have hj' : j < len := by simpa using hj
      obtain ⟨g, off, rfl, hg⟩ : ∃ g off, a = ⟨g, off, none⟩ ∧ g < W.heap.size := by
        have z0 := (hF 0 (by omega)).2
        have e : a.add 0 = a := by simp [Addr.add]
        rw [e] at z0
        exact spot_none z0
      have y0 := (hF j hj').2
      rw [Addr.add_mid] at y0
      exact ⟨g, off, rfl, hg, by rw [y0]; simp, by simpa using (hF j hj').1⟩
    · subst hxx
      refine ⟨?_, fun hw => ?_⟩
      · simp only [List.length_map, List.length_range, Rows.uptoBulk]
        have := bulk_len ((List.range len).map D)
        simp only [List.length_map, List.length_range] at this
        omega
      · have := hw ((((List.range len).map D).length + ((List.range (m - len)).map fun j => D (len + j)).length) * Tryd.prog.bytesOf 5) (by simp [DataW.weights])
        rw [bytes5] at this
        simp only [List.length_map, List.length_range] at this ⊢
        omega

/-- A list of lists of bytes that came in, within another thing. -/
theorem open_bb {fuel : Nat} {cs : List Value} {x : DataW H × List MemPlace} (hf : DataW.trod enc Tryd.prog W 0 (fun _ => true) true fuel 141 cs = some x) :
    ∃ v Ls, cs = [v] ∧ SeesBB W v Ls ∧ Ls.flatten.length ≤ Rows.uptoBulk x.1 ∧ v.oneCell' = true := by
  rcases Go.Deep.open_slice u56 hf with ⟨h1, hx⟩ | ⟨a, len, cap, m, n, D, Pl, h1, _, hlc, hcm, hm, hxx, hx⟩
  · subst hx
    exact ⟨_, [], h1, ⟨none, 0, rfl, by simp, by unfold maxLen; omega, fun j h => absurd h (by simp)⟩, by simp, rfl⟩
  · simp at hm
    subst hm
    have key : ∀ i, i < len → ∃ vl : Value × List Nat, vl.2.length ≤ Rows.uptoBulk (D i) ∧ SeesB W vl.1 vl.2 ∧ W.cell? (a.add i) = some vl.1 := by
      intro i hi
      obtain ⟨cs', k1, k2⟩ := hx i (by omega)
      rw [cell1_25, Nat.mul_one] at k1
      obtain ⟨_, _, hc⟩ := World.cells?_some k1
      obtain ⟨v, L, e1, hs, hfit, _⟩ := open_bytes k2
      refine ⟨(v, L), hfit.bulk, hs, ?_⟩
      have := hc 0 (by omega)
      rw [e1] at this
      simpa [Addr.add] using this
    have hch : ∃ F : Nat → Value × List Nat, ∀ i, i < len → (F i).2.length ≤ Rows.uptoBulk (D i) ∧ SeesB W (F i).1 (F i).2 ∧ W.cell? (a.add i) = some (F i).1 := by
      refine ⟨fun i => if h : i < len then (key i h).choose else (undef, []), fun i hi => ?_⟩
      simp only [dif_pos hi]
      exact (key i hi).choose_spec
    obtain ⟨F, hF⟩ := hch
    refine ⟨_, (List.range len).map (fun i => (F i).2), h1, ⟨some a, m, by simp, by simpa using hlc, hcm, fun j hj => ?_⟩, ?_, rfl⟩
    · have hj' : j < len := by simpa using hj
      obtain ⟨g, off, rfl, hg⟩ : ∃ g off, a = ⟨g, off, none⟩ ∧ g < W.heap.size := by
        have z0 := (hF 0 (by omega)).2.2
        have e : a.add 0 = a := by simp [Addr.add]
        rw [e] at z0
        exact spot_none z0
      have y0 := (hF j hj').2.2
      rw [Addr.add_mid] at y0
      exact ⟨g, off, (F j).1, rfl, hg, y0, by simpa using (hF j hj').2.1⟩
    · subst hxx
      have := bulk_flat D (fun i => (F i).2) (List.range len) (fun i hi => (hF i (by simpa using hi)).1)
      simp only [Rows.uptoBulk]
      omega

/-- A header that reads. -/
theorem open_hd {fuel : Nat} {cs : List Value} {x : DataW H × List MemPlace} (h : DataW.trod enc Tryd.prog W 0 (fun _ => true) true fuel 34 cs = some x) :
    ∃ (hd : Hd) (vo : Value), cs = (hdCells hd vo).toList ∧ hd.Ok ∧ SeesB W vo hd.opts ∧ Fits x.1 34 hd.opts.length ∧ vo.oneCell' = true := by
  obtain ⟨f0, f1, f2, f3, f4, f5, f6, f7, f8, f9, hu, t0, o0, t1, o1, t2, o2, t3, o3, t4, o4, t5, o5, t6, o6, t7, o7, t8, o8, t9, o9⟩ := u27
  obtain ⟨xs, n, _, rfl, hl, hxl, hf⟩ := DataW.trod_struct hu h
  match xs, hxl with
  | [y0, y1, y2, y3, y4, y5, y6, y7, y8, y9], _ =>
    have g0 := hf 0 f0 rfl
    have g1 := hf 1 f1 rfl
    have g2 := hf 2 f2 rfl
    have g3 := hf 3 f3 rfl
    have g4 := hf 4 f4 rfl
    have g5 := hf 5 f5 rfl
    have g6 := hf 6 f6 rfl
    have g7 := hf 7 f7 rfl
    have g8 := hf 8 f8 rfl
    have g9 := hf 9 f9 rfl
    rw [t0, o0, cell1_5] at g0
    rw [t1, o1, cell1_22] at g1
    rw [t2, o2, cell1_4] at g2
    rw [t3, o3, cell1_4] at g3
    rw [t4, o4, cell1_3] at g4
    rw [t5, o5, cell1_5] at g5
    rw [t6, o6, cell1_5] at g6
    rw [t7, o7, cell1_24] at g7
    rw [t8, o8, cell1_24] at g8
    rw [t9, o9, cell1_25] at g9
    rw [cells27] at hl
    obtain ⟨z0, e0, _, w0⟩ := DataW.trod_int u5 g0
    obtain ⟨tos, rfl, h0⟩ := wf_u8 w0
    obtain ⟨z1, e1, _, w1⟩ := DataW.trod_int u22 g1
    obtain ⟨id, rfl, h1⟩ := wf_u16 w1
    obtain ⟨df, e2, _⟩ := DataW.trod_bool u4 g2
    obtain ⟨mf, e3, _⟩ := DataW.trod_bool u4 g3
    obtain ⟨off, e4, _, w4⟩ := DataW.trod_int u3 g4
    obtain ⟨z5, e5, _, w5⟩ := DataW.trod_int u5 g5
    obtain ⟨ttl, rfl, h5⟩ := wf_u8 w5
    obtain ⟨z6, e6, _, w6⟩ := DataW.trod_int u5 g6
    obtain ⟨proto, rfl, h6⟩ := wf_u8 w6
    obtain ⟨z7, e7, _, w7⟩ := DataW.trod_int u24 g7
    obtain ⟨src, rfl, h7⟩ := wf_u32 w7
    obtain ⟨z8, e8, _, w8⟩ := DataW.trod_int u24 g8
    obtain ⟨dst, rfl, h8⟩ := wf_u32 w8
    obtain ⟨vo, opts, e9, hs, hfit, ho⟩ := open_bytes g9
    refine ⟨⟨tos, id, df, mf, off, ttl, proto, src, dst, opts⟩, vo, ?_, ⟨h0, h1, wf_i64 w4, h5, h6, h7, h8⟩, hs, ⟨?_, fun hw => ?_⟩, ho⟩
    · match cs, hl with
      | [c0, c1, c2, c3, c4, c5, c6, c7, c8, c9], _ =>
        simp at e0 e1 e2 e3 e4 e5 e6 e7 e8 e9
        simp [hdCells, e0, e1, e2, e3, e4, e5, e6, e7, e8, e9]
    · simp only [List.map_cons, List.map_nil, Rows.uptoBulk, Rows.uptoBulkAll]
      have := hfit.bulk
      omega
    · refine hfit.room fun k hk => hw k ?_
      simp only [DataW.weights, hu]
      exact DataW.weights_mem_each (j := 9) (t := 32) (d := y9.1) (by simp [t9]) rfl _ hk

/-- A packet that reads. -/
theorem open_pk {fuel : Nat} {cs : List Value} {x : DataW H × List MemPlace} (h : DataW.trod enc Tryd.prog W 0 (fun _ => true) true fuel 36 cs = some x) :
    ∃ (hd : Hd) (vo vb : Value) (B : List Nat), cs = (pkCells hd vo vb).toList ∧ hd.Ok ∧ SeesB W vo hd.opts ∧ SeesB W vb B ∧ Fits x.1 36 hd.opts.length ∧ Fits x.1 36 B.length ∧ vo.oneCell' = true ∧ vb.oneCell' = true := by
  obtain ⟨f0, f1, hu, t0, o0, t1, o1⟩ := u29
  obtain ⟨xs, n, _, rfl, hl, hxl, hf⟩ := DataW.trod_struct hu h
  match xs, hxl with
  | [y0, y1], _ =>
    have g0 := hf 0 f0 rfl
    have g1 := hf 1 f1 rfl
    rw [t0, o0, cells27] at g0
    rw [t1, o1, cell1_25] at g1
    rw [cells29] at hl
    obtain ⟨hd, vo, e0, hok, hs, hfit, ho⟩ := open_hd g0
    obtain ⟨vb, B, e1, hsb, hfb, hob⟩ := open_bytes g1
    refine ⟨hd, vo, vb, B, ?_, hok, hs, hsb, ⟨?_, fun hw => ?_⟩, ⟨?_, fun hw => ?_⟩, ho, hob⟩
    · match cs, hl with
      | [c0, c1, c2, c3, c4, c5, c6, c7, c8, c9, c10], _ =>
        simp [hdCells] at e0 e1
        obtain ⟨rfl, rfl, rfl, rfl, rfl, rfl, rfl, rfl, rfl, rfl⟩ := e0
        simp [pkCells, e1]
    · simp only [List.map_cons, List.map_nil, Rows.uptoBulk, Rows.uptoBulkAll]
      have := hfit.bulk
      omega
    · refine hfit.room fun k hk => hw k ?_
      simp only [DataW.weights, hu]
      exact DataW.weights_mem_each (j := 0) (t := 34) (d := y0.1) (by simp [t0]) rfl _ hk
    · simp only [List.map_cons, List.map_nil, Rows.uptoBulk, Rows.uptoBulkAll]
      have := hfb.bulk
      omega
    · refine hfb.room fun k hk => hw k ?_
      simp only [DataW.weights, hu]
      exact DataW.weights_mem_each (j := 1) (t := 32) (d := y1.1) (by simp [t1]) rfl _ hk

/-- What a step holds. -/
structure OpD where
  k : Int
  vy : Value
  By : List Nat
  vp : Value
  Ls : List (List Nat)
  x : Nat
  y : Nat
  z : Nat
  h : Hd
  vo : Value
  vb : Value
  B : List Nat

def OpD.cells (o : OpD) : List Value := opL o.k o.vy o.vp o.x o.y o.z o.h o.vo o.vb

structure OpD.Ok (o : OpD) (W : World) (lim : Nat) : Prop where
  klo : -9223372036854775808 ≤ o.k
  khi : o.k ≤ 9223372036854775807
  vy : SeesB W o.vy o.By
  vp : SeesBB W o.vp o.Ls
  x : o.x < 65536
  y : o.y < 65536
  z : o.z < 65536
  h : o.h.Ok
  vo : SeesB W o.vo o.h.opts
  vb : SeesB W o.vb o.B
  one : ∀ v ∈ o.cells, v.oneCell' = true
  ly : o.By.length ≤ reachBytes
  lo : o.h.opts.length ≤ reachBytes
  lb : o.B.length ≤ reachBytes
  lp : o.Ls.flatten.length ≤ lim

end
end Go.Proofs.YthpokoiclfbddaaDoor.N
