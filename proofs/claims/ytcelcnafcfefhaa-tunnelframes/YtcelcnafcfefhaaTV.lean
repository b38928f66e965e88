/-
  TunnelDatagrams: items that came in, opened; the walk.
-/
import Derived.Test.YtcelcnafcfefhaaTU
import Derived.Test.YtcelcnafcfefhaaTJ
namespace Go.Proofs.Ytcelcnafcfefhaa.N
open Go.ChangeShapes Go.WideShapes Go.ChangeAt Go.RowKit
set_option maxHeartbeats 4000000
set_option maxRecDepth 100000

/-- The slice value v shows rows of k cells. -/
def SeesR (w : World) (v : Value) (k : Nat) (L : List (List Value)) : Prop :=
  ∃ ao cap, v = .slice ao L.length cap ∧ L.length ≤ cap ∧ cap ≤ maxLen ∧
    ∀ j (h : j < L.length), L[j].length = k ∧ ∃ g off, ao = some ⟨g, off, none⟩ ∧ g < w.heap.size ∧ w.rangeAt g (off + j * k) L[j]

structure ItD where
  src : Nat
  dst : Nat
  x : Tn.Dg
  vb : Value
  sum : Bool
  vr : Value
  R : List Nat

def ItD.cells (o : ItD) : List Value := (itCells o.src o.dst o.x o.vb o.sum o.vr).toList

structure ItD.Ok (o : ItD) (W : World) : Prop where
  src : o.src < 4294967296
  dst : o.dst < 4294967296
  x : o.x.Ok
  vb : SeesB W o.vb o.x.B
  vr : SeesB W o.vr o.R
  lb : o.x.B.length ≤ reachBytes
  lr : o.R.length ≤ reachBytes

theorem cells_it : Try.prog.cellsOf 47 = 7 := by kernel_rfl
theorem und_items : Try.prog.underlying 44 = some (.slice 47) := by kernel_rfl
theorem und_it : ∃ f0 f1 f2 f3 f4, Try.prog.underlying 47 = some (.struct #[f0, f1, f2, f3, f4]) ∧ f0.type = 23 ∧ f0.offset = 0 ∧ f1.type = 23 ∧ f1.offset = 1 ∧ f2.type = 27 ∧ f2.offset = 2 ∧ f3.type = 4 ∧ f3.offset = 5 ∧ f4.type = 25 ∧ f4.offset = 6 := ⟨_, _, _, _, _, Try.underlying47, rfl, rfl, rfl, rfl, rfl, rfl, rfl, rfl, rfl, rfl⟩

section
variable {H : Type} {enc : TypeId × Value → H} {W : World}

theorem open_it {fuel : Nat} {cs : List Value} {x : DataW H × List MemPlace} (h : DataW.trod enc Try.prog W 0 (fun _ => true) true fuel 47 cs = some x) (hw : ∀ k ∈ x.1.weights Try.prog 47, k ≤ reachBytes) :
    ∃ o : ItD, cs = o.cells ∧ o.Ok W := by
  obtain ⟨f0, f1, f2, f3, f4, hu, t0, o0, t1, o1, t2, o2, t3, o3, t4, o4⟩ := und_it
  obtain ⟨xs, n, _, rfl, hl, hxl, hf⟩ := DataW.trod_struct hu h
  match xs, hxl with
  | [y0, y1, y2, y3, y4], _ =>
    have g0 := hf 0 f0 rfl
    have g1 := hf 1 f1 rfl
    have g2 := hf 2 f2 rfl
    have g3 := hf 3 f3 rfl
    have g4 := hf 4 f4 rfl
    rw [t0, o0, cell1_ad] at g0
    rw [t1, o1, cell1_ad] at g1
    rw [t2, o2, cells_dg] at g2
    rw [t3, o3, cell1_4] at g3
    rw [t4, o4, cell1_25] at g4
    rw [cells_it] at hl
    obtain ⟨z0, e0, _, w0⟩ := DataW.trod_int und_ad g0
    obtain ⟨src, rfl, hsrc⟩ := wf_u32 w0
    obtain ⟨z1, e1, _, w1⟩ := DataW.trod_int und_ad g1
    obtain ⟨dst, rfl, hdst⟩ := wf_u32 w1
    obtain ⟨m, vm, e2, hm, hsm, fm, _⟩ := open_dg g2
    obtain ⟨sum, e3, _⟩ := DataW.trod_bool u4 g3
    obtain ⟨vr, R, e4, hsr, fr, _⟩ := open_bytes g4
    have w2 : m.B.length ≤ reachBytes := fm.room fun k hk => hw k (by
      simp only [DataW.weights, hu]
      exact DataW.weights_mem_each (j := 2) (t := 27) (d := y2.1) (by simp [t2]) rfl _ hk)
    have w4 : R.length ≤ reachBytes := fr.room fun k hk => hw k (by
      simp only [DataW.weights, hu]
      exact DataW.weights_mem_each (j := 4) (t := 25) (d := y4.1) (by simp [t4]) rfl _ hk)
    refine ⟨⟨src, dst, m, vm, sum, vr, R⟩, ?_, ⟨hsrc, hdst, hm, hsm, hsr, w2, w4⟩⟩
    match cs, hl with
    | [c0, c1, c2, c3, c4, c5, c6], _ =>
      simp [dgCells] at e0 e1 e2 e3 e4
      simp [ItD.cells, itCells, e0, e1, e2, e3, e4]

theorem open_items {base : Nat} {v : Value} {d : DataW H} {ps : List MemPlace} (hval : Value.okWide Try.prog W .any base 44 v) (h : DataW.Trod enc Try.prog W 0 (fun _ => true) true 44 v d ps) (hw : ∀ x ∈ d.weights Try.prog 44, x ≤ reachBytes) :
    ∃ Os : List ItD, SeesR W v 7 (Os.map ItD.cells) ∧ ∀ o ∈ Os, o.Ok W := by
  obtain ⟨a0, len, cap, rfl⟩ := okWide_slice und_items hval
  obtain ⟨fuel, hf⟩ := h
  rcases Go.Deep.open_slice und_items hf with ⟨h1, _⟩ | ⟨a, len', cap', m, n, D, Pl, h1, _, hlc, hcm, hm, hxx, hx⟩
  · simp [Value.cells] at h1
    obtain ⟨rfl, rfl, rfl⟩ := h1
    exact ⟨[], ⟨none, 0, rfl, by simp, by unfold maxLen; omega, fun j hj => absurd hj (by simp)⟩, fun o ho => by cases ho⟩
  · simp [Value.cells] at h1
    obtain ⟨rfl, rfl, rfl⟩ := h1
    simp at hm
    subst hm
    simp only [Prod.mk.injEq] at hxx
    obtain ⟨rfl, _⟩ := hxx
    have key : ∀ i, i < len → ∃ o : ItD, o.Ok W ∧ ∀ j (hj : j < 7), W.cell? ((a.add (i * 7)).add j) = o.cells[j]? := by
      intro i hi
      obtain ⟨cs', k1, k2⟩ := hx i (by omega)
      rw [cells_it] at k1
      obtain ⟨_, _, hc⟩ := World.cells?_some k1
      obtain ⟨o, ho, hok⟩ := open_it k2 fun x hx' => hw x (by
        simp only [DataW.weights, und_items, List.mem_cons, List.mem_append]
        exact .inr (.inl (weights_all (d := D i) (List.mem_map.2 ⟨i, by simpa using hi, rfl⟩) x hx')))
      refine ⟨o, hok, fun j hj => ?_⟩
      rw [hc j hj, ho]
    by_cases h0 : len = 0
    · subst h0
      exact ⟨[], ⟨some a, m, rfl, by simp, hcm, fun j hj => absurd hj (by simp)⟩, fun o ho => by cases ho⟩
    obtain ⟨c0, _⟩ := key 0 (by omega)
    obtain ⟨F, hF⟩ : ∃ F : Nat → ItD, ∀ i, i < len → (F i).Ok W ∧ ∀ j (hj : j < 7), W.cell? ((a.add (i * 7)).add j) = (F i).cells[j]? := by
      refine ⟨fun i => if h : i < len then (key i h).choose else c0, fun i hi => ?_⟩
      simp only [dif_pos hi]
      exact (key i hi).choose_spec
    obtain ⟨g, off, rfl, hg⟩ : ∃ g off, a = ⟨g, off, none⟩ ∧ g < W.heap.size := by
      have z0 := (hF 0 (by omega)).2 0 (by omega)
      have e : (a.add (0 * 7)).add 0 = a := by simp [Addr.add]
      rw [e] at z0
      exact spot_none z0
    refine ⟨(List.range len).map F, ⟨some ⟨g, off, none⟩, m, by simp, by simpa using hlc, hcm, fun j hj => ?_⟩, fun o ho => ?_⟩
    · have hj' : j < len := by simpa using hj
      simp only [List.getElem_map, List.getElem_range]
      refine ⟨rfl, g, off, rfl, hg, fun i v hv => ?_⟩
      have hi : i < 7 := (List.getElem?_eq_some_iff.1 hv).1
      have hh := (hF j hj').2 i hi
      rw [Addr.add_mid, Addr.add_mid] at hh
      rw [hh, hv]
    · obtain ⟨i, hi, rfl⟩ := List.mem_map.1 ho
      exact (hF i (by simpa using hi)).1
end

theorem range_belowR {w w' : World} {b o : Nat} {cs : List Value} (h : w.rangeAt b o cs) (hb : Below w.heap.size w w') : w'.rangeAt b o cs := fun j v hv => by
  have := h j v hv
  exact (hb.cell (p := ⟨b, o + j, none⟩) (World.block_lt_of_cell? w _ this)).trans this

theorem tunnelDatagrams_walk (v : Value) (Os : List ItD) (w : World) (hv : SeesR w v 7 (Os.map ItD.cells)) (ho : ∀ o ∈ Os, o.Ok w) :
    Calls Try.prog 5 #[v] w fun e w' => e = .returned (.bool true) ∧ Below w.heap.size w w' := by
  obtain ⟨ao, cap, rfl, hnc, hcap, hcell⟩ := hv
  have HBE := hid (begun_any w)
  obtain ⟨n, hn⟩ : ∃ n, n = Os.length := ⟨_, rfl⟩
  have hlen : (Os.map ItD.cells).length = n := by rw [List.length_map, hn]
  rw [hlen] at hnc ⊢
  have HC : Hid (∀ j (h : j < n), ∃ (o : ItD) (g off : Nat), o.Ok w ∧ ao = some ⟨g, off, none⟩ ∧ g < w.heap.size ∧ w.rangeAt g (off + j * 7) o.cells) := fun j h => by
    obtain ⟨_, g, off, h1, h2, h3⟩ := hcell j (by rw [hlen]; exact h)
    have hj : j < Os.length := by rw [← hn]; exact h
    refine ⟨Os[j], g, off, ho _ (List.getElem_mem _), h1, h2, ?_⟩
    simpa using h3
  unfold maxLen at hcap
  clear hcell ho hn hlen
  go_enter Try.func5, Try.ntmps5
  go_wp2_with fail
  refine HBE.out.mono ?_
  rintro _ w1 ⟨rfl, hb1⟩
  go_wp2_with fail
  go_loopw [3, 4] (fun _ i wv => ∃ (k : Nat) (wr : World), i = .int .i64 (k : Int) ∧ k ≤ n ∧ wr = wv ∧ Below w.heap.size w wr) (fun _ i _ => n - (intOf i).toNat)
  case atStart => exact ⟨0, _, rfl, by omega, rfl, hb1⟩
  case round =>
    clear hb1
    obtain ⟨k, wr, rfl, hk, rfl, hb⟩ := hrel
    by_cases hlt : k < n
    · obtain ⟨o, g, off, hok, rfl, hg, hrange⟩ := HC.out k hlt
      have HLD : Hid ((Instr.loadAt 47 (.pointer (some ⟨g, off + k * 7, none⟩))).run Try.prog wr = .ok (.agg (itCells o.src o.dst o.x o.vb o.sum o.vr)) wr) := by
        have := run_loadAt_mid wr g (off + k * 7) 47 o.cells (.struct _) (range_belowR hrange hb) Try.underlying47 rfl (by rw [show (Try.prog.info? 47).map (·.size) = some 7 from by kernel_rfl]; rfl)
        exact this
      have HD := hid (datagrams_any o.src o.dst o.x o.vb o.sum o.vr o.R wr hok.src hok.dst hok.x (hok.vb.below hb) (hok.vr.below hb) (by have := hok.lb; unfold reachBytes at this; omega) (by have := hok.lr; unfold reachBytes at this; omega))
      have b0 : (k : Int) < (n : Int) := by omega
      have b1 : (0 : Int) ≤ (k : Int) := by omega
      generalize itCells o.src o.dst o.x o.vb o.sum o.vr = it at *
      clear hrange hok
      go_wp2_with (first | (refine wpList_ld 47 ⟨g, off + k * 7, none⟩ _ rfl rfl HLD.out rfl ?_) | fail)
      refine HD.out.mono ?_
      rintro _ w2 ⟨rfl, hb2⟩
      have hb3 := hb.trans (hb2.mono hb.size)
      clear hb2
      go_wp2_with fail
      go_roundw
      case rel => exact ⟨k + 1, w2, by go_num, by omega, rfl, hb3⟩
      case measure => simp [intOf]; omega
    · obtain rfl : k = n := by omega
      go_wp2_with fail
      go_ret
      exact ⟨rfl, hb⟩
end Go.Proofs.Ytcelcnafcfefhaa.N
