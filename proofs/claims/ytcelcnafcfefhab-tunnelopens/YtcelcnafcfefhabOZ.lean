import Derived.Test.YtcelcnafcfefhabTU
import Derived.Test.YtcelcnafcfefhabTJ
import Derived.Test.YtcelcnafcfefhabTG
import Derived.Test.YtcelcnafcfefhabTI
import Derived.Test.YtcelcnafcfefhabTH
import Derived.OpenShut
import Derived.Test.YtcelcnafcfefhabNWF
import Derived.Test.YtcelcnafcfefhabNBD
/-
  TunnelDatagrams: items that came in, opened; the walk.
-/
namespace Go.Proofs.Ytcelcnafcfefhab.N
open Go.ChangeShapes Go.WideShapes Go.ChangeAt Go.RowKit
set_option maxHeartbeats 4000000
set_option maxRecDepth 100000

/-- The slice value v shows rows of k cells. -/
def SeesR (w : World) (v : Value) (k : Nat) (L : List (List Value)) : Prop :=
  ∃ ao cap, v = .slice ao L.length cap ∧ L.length ≤ cap ∧ cap ≤ maxLen ∧
    ∀ j (h : j < L.length), L[j].length = k ∧ ∃ g off, ao = some ⟨g, off, none⟩ ∧ g < w.heap.size ∧ w.rangeAt g (off + j * k) L[j]

structure ItD where
  src : Nat
  dst : Nat
  x : Tn.Dg
  vb : Value
  sum : Bool
  vr : Value
  R : List Nat

def ItD.cells (o : ItD) : List Value := (itCells o.src o.dst o.x o.vb o.sum o.vr).toList

structure ItD.Ok (o : ItD) (W : World) : Prop where
  src : o.src < 4294967296
  dst : o.dst < 4294967296
  x : o.x.Ok
  vb : SeesB W o.vb o.x.B
  vr : SeesB W o.vr o.R
  lb : o.x.B.length ≤ reachBytes
  lr : o.R.length ≤ reachBytes

theorem cells_it : Try.prog.cellsOf 65 = 7 := by kernel_rfl
theorem und_it : ∃ f0 f1 f2 f3 f4, Try.prog.underlying 65 = some (.struct #[f0, f1, f2, f3, f4]) ∧ f0.type = 23 ∧ f0.offset = 0 ∧ f1.type = 23 ∧ f1.offset = 1 ∧ f2.type = 33 ∧ f2.offset = 2 ∧ f3.type = 4 ∧ f3.offset = 5 ∧ f4.type = 29 ∧ f4.offset = 6 := ⟨_, _, _, _, _, Try.underlying65, rfl, rfl, rfl, rfl, rfl, rfl, rfl, rfl, rfl, rfl⟩

section
variable {H : Type} {enc : TypeId × Value → H} {W : World}

theorem open_it {fuel : Nat} {cs : List Value} {x : DataW H × List MemPlace} (h : DataW.trod enc Try.prog W 0 (fun _ => true) true fuel 65 cs = some x) (hw : ∀ k ∈ x.1.weights Try.prog 65, k ≤ reachBytes) :
    ∃ o : ItD, cs = o.cells ∧ o.Ok W := by
  obtain ⟨f0, f1, f2, f3, f4, hu, t0, o0, t1, o1, t2, o2, t3, o3, t4, o4⟩ := und_it
  obtain ⟨xs, n, _, rfl, hl, hxl, hf⟩ := DataW.trod_struct hu h
  match xs, hxl with
  | [y0, y1, y2, y3, y4], _ =>
    have g0 := hf 0 f0 rfl
    have g1 := hf 1 f1 rfl
    have g2 := hf 2 f2 rfl
    have g3 := hf 3 f3 rfl
    have g4 := hf 4 f4 rfl
    rw [t0, o0, cell1_ad] at g0
    rw [t1, o1, cell1_ad] at g1
    rw [t2, o2, cells_dg] at g2
    rw [t3, o3, cell1_4] at g3
    rw [t4, o4, cell1_25] at g4
    rw [cells_it] at hl
    obtain ⟨z0, e0, _, w0⟩ := DataW.trod_int und_ad g0
    obtain ⟨src, rfl, hsrc⟩ := wf_u32 w0
    obtain ⟨z1, e1, _, w1⟩ := DataW.trod_int und_ad g1
    obtain ⟨dst, rfl, hdst⟩ := wf_u32 w1
    obtain ⟨m, vm, e2, hm, hsm, fm, _⟩ := open_dg g2
    obtain ⟨sum, e3, _⟩ := DataW.trod_bool u4 g3
    obtain ⟨vr, R, e4, hsr, fr, _⟩ := open_bytes g4
    have w2 : m.B.length ≤ reachBytes := fm.room fun k hk => hw k (by
      simp only [DataW.weights, hu]
      exact DataW.weights_mem_each (j := 2) (t := 33) (d := y2.1) (by simp [t2]) rfl _ hk)
    have w4 : R.length ≤ reachBytes := fr.room fun k hk => hw k (by
      simp only [DataW.weights, hu]
      exact DataW.weights_mem_each (j := 4) (t := 29) (d := y4.1) (by simp [t4]) rfl _ hk)
    refine ⟨⟨src, dst, m, vm, sum, vr, R⟩, ?_, ⟨hsrc, hdst, hm, hsm, hsr, w2, w4⟩⟩
    match cs, hl with
    | [c0, c1, c2, c3, c4, c5, c6], _ =>
      simp [dgCells] at e0 e1 e2 e3 e4
      simp [ItD.cells, itCells, e0, e1, e2, e3, e4]

end

theorem range_belowR {w w' : World} {b o : Nat} {cs : List Value} (h : w.rangeAt b o cs) (hb : Below w.heap.size w w') : w'.rangeAt b o cs := fun j v hv => by
  have := h j v hv
  exact (hb.cell (p := ⟨b, o + j, none⟩) (World.block_lt_of_cell? w _ this)).trans this

end Go.Proofs.Ytcelcnafcfefhab.N

/-
  Frames in memory; tunnel.BuildFrame.
-/
namespace Go.Proofs.Ytcelcnafcfefhab.N
open Go.ChangeShapes Go.WideShapes Go.ChangeAt Go.RowKit
set_option maxHeartbeats 8000000
set_option maxRecDepth 100000

/-- A frame's cells. -/
def frc (D S : List Nat) (ty : Nat) (vb : Value) : List Value := bs D ++ (bs S ++ [.int .u16 (ty : Int), vb])
def frCells (f : Tn.Fr) (vb : Value) : Array Value := (frc f.dst f.src f.ty vb).toArray

theorem bs_len (L : List Nat) : (bs L).length = L.length := by simp [bs]

theorem frc_len {D S : List Nat} (hD : D.length = 6) (hS : S.length = 6) (ty : Nat) (vb : Value) : (frc D S ty vb).length = 14 := by
  unfold frc
  rw [List.length_append, List.length_append, bs_len, bs_len, hD, hS]
  rfl

theorem frc_ty {D S : List Nat} (hD : D.length = 6) (hS : S.length = 6) (ty : Nat) (vb : Value) : (frc D S ty vb)[12]? = some (.int .u16 (ty : Int)) ∧ (frc D S ty vb)[13]? = some vb := by
  unfold frc
  constructor
  · rw [List.getElem?_append_right (by rw [bs_len, hD]; omega), bs_len, hD, List.getElem?_append_right (by rw [bs_len, hS]; omega), bs_len, hS]
    rfl
  · rw [List.getElem?_append_right (by rw [bs_len, hD]; omega), bs_len, hD, List.getElem?_append_right (by rw [bs_len, hS]; omega), bs_len, hS]
    rfl

theorem bs_get {L : List Nat} {j : Nat} (h : j < L.length) : (bs L)[j]? = some (.int .u8 (L[j] : Int)) := by
  simp [bs, h]

theorem frc_dst {D S : List Nat} (hD : D.length = 6) (ty : Nat) (vb : Value) (j : Nat) (hj : j < 6) : (frc D S ty vb)[j]? = (bs D)[j]? := by
  unfold frc
  rw [List.getElem?_append_left (by rw [bs_len, hD]; exact hj)]

theorem frc_src {D S : List Nat} (hD : D.length = 6) (hS : S.length = 6) (ty : Nat) (vb : Value) (j : Nat) (hj : j < 6) : (frc D S ty vb)[6 + j]? = (bs S)[j]? := by
  unfold frc
  rw [List.getElem?_append_right (by rw [bs_len, hD]; omega), bs_len, hD, Nat.add_sub_cancel_left, List.getElem?_append_left (by rw [bs_len, hS]; exact hj)]

theorem cell_fr {u : World} {n : Nat} {C : List Value} {t : TypeId} (hb : u.heap[n]? = some (.cells C.toArray t (0, 0))) (j : Nat) : u.cell? ⟨n, j, none⟩ = C[j]? := by
  rw [cell_of_row _ _ _ _ _ _ hb]
  simp

theorem fr_at {u : World} {n : Nat} {f : Tn.Fr} {vb : Value} {t : TypeId} (hok : f.Ok) (hb : u.heap[n]? = some (.cells (frCells f vb) t (0, 0))) :
    u.cell? ⟨n, 12, none⟩ = some (.int .u16 (f.ty : Int)) ∧ u.cell? ⟨n, 13, none⟩ = some vb := by
  have h := frc_ty hok.dst hok.src f.ty vb
  exact ⟨(cell_fr hb 12).trans h.1, (cell_fr hb 13).trans h.2⟩

structure FrB (f : Tn.Fr) : Prop where
  ok : f.Ok
  dst : ∀ x ∈ f.dst, x < 256
  src : ∀ x ∈ f.src, x < 256

theorem fr_dst {u : World} {n : Nat} {f : Tn.Fr} {vb : Value} {t : TypeId} (hf : FrB f) (hb : u.heap[n]? = some (.cells (frCells f vb) t (0, 0))) : SeesB u (.slice (some ⟨n, 0, none⟩) 6 6) f.dst := by
  refine ⟨some ⟨n, 0, none⟩, 6, by rw [hf.ok.dst], ⟨by rw [hf.ok.dst]; exact Nat.le_refl _, fun h => by cases h⟩, by unfold maxLen; omega, fun j hj => ⟨n, 0, rfl, (Array.getElem?_eq_some_iff.1 hb).1, ?_, hf.dst _ (List.getElem_mem _)⟩⟩
  rw [Nat.zero_add, cell_fr hb j, frc_dst hf.ok.dst f.ty vb j (by rw [← hf.ok.dst]; exact hj), bs_get hj]

theorem fr_src {u : World} {n : Nat} {f : Tn.Fr} {vb : Value} {t : TypeId} (hf : FrB f) (hb : u.heap[n]? = some (.cells (frCells f vb) t (0, 0))) : SeesB u (.slice (some ⟨n, 6, none⟩) 6 6) f.src := by
  refine ⟨some ⟨n, 6, none⟩, 6, by rw [hf.ok.src], ⟨by rw [hf.ok.src]; exact Nat.le_refl _, fun h => by cases h⟩, by unfold maxLen; omega, fun j hj => ⟨n, 6, rfl, (Array.getElem?_eq_some_iff.1 hb).1, ?_, hf.src _ (List.getElem_mem _)⟩⟩
  rw [cell_fr hb (6 + j), frc_src hf.ok.dst hf.ok.src f.ty vb j (by rw [← hf.ok.src]; exact hj), bs_get hj]

def Z14 : Array Value := #[.int .u8 0, .int .u8 0, .int .u8 0, .int .u8 0, .int .u8 0, .int .u8 0, .int .u8 0, .int .u8 0, .int .u8 0, .int .u8 0, .int .u8 0, .int .u8 0, .int .u8 0, .int .u8 0]

theorem splice_mid {A B C D : List Value} (h : D.length = B.length) : splice (A ++ (B ++ C)) A.length D = A ++ (D ++ C) := by
  unfold splice
  rw [List.take_left, List.drop_append, List.drop_eq_nil_of_le (by omega), List.nil_append, Nat.add_sub_cancel_left, h, List.drop_left]

theorem one_bs {L : List Nat} : ∀ v ∈ bs L, v.oneCell' = true := fun v hv => by
  obtain ⟨y, _, rfl⟩ := List.mem_map.1 hv
  rfl

theorem frL_bytes {f : Tn.Fr} (hf : FrB f) (hB : ∀ x ∈ f.B, x < 256) : ∀ x ∈ Tn.frL f, x < 256 := fun x hx => by
  simp only [Tn.frL, Tn.be2, List.mem_append, List.mem_cons, List.not_mem_nil, or_false] at hx
  rcases hx with ((h | h) | h) | h
  · exact hf.dst x h
  · exact hf.src x h
  · omega
  · exact hB x h

theorem bf_bad {f : Tn.Fr} {e : Int} (h : Tn.bfE f = e) (he : e ≠ 0) : Tn.bfE f = e ∧ Tn.bfL f = [] := ⟨h, by unfold Tn.bfL; rw [if_neg (by rw [h]; exact he)]⟩

theorem buildF_any (f : Tn.Fr) (vb : Value) (w : World) (hf : FrB f) (hvb : SeesB w vb f.B) :
    Calls Try.prog 13 #[.agg (frCells f vb)] w fun e w' => ∃ ao n cap, e = .returned (.tuple #[.slice ao n cap, .int .i64 (Tn.bfE f)]) ∧ SeesB w' (.slice ao n cap) (Tn.bfL f) ∧ (Tn.bfE f = 0 → ∃ g, ao = some ⟨g, 0, none⟩ ∧ cap = n ∧ Blk w' g (Tn.bfL f) ∧ w.heap.size ≤ g) ∧ Below w.heap.size w w' := by
  obtain ⟨ab, nb, capb, rfl, HNB, hnb1, hnb2⟩ := hvb.shape
  unfold maxLen at hnb2
  obtain ⟨w1, hw1⟩ : ∃ w1, w1 = w.alloc (.cells (frCells f (.slice ab nb capb)) 31) := ⟨_, rfl⟩
  have hs1 : w1.heap.size = w.heap.size + 1 := by rw [hw1]; simp
  have hb1 : Below w.heap.size w w1 := by rw [hw1]; exact (Below.refl _ _).alloc (Nat.le_refl _) _
  have hr1 : w1.heap[w.heap.size]? = some (.cells (frCells f (.slice ab nb capb)) 31 (0, 0)) := by rw [hw1]; exact heap_alloc_new w _
  obtain ⟨c12, c13⟩ := fr_at hf.ok hr1
  have HW1 := hid hw1
  have HB1 := hid hb1
  have HBY := hid hvb.bytes
  have hty := hf.ok.ty
  have HCT := hid (fun u => checkType_any f.ty u hty)
  by_cases hbig : 65485 < nb
  · have HE := hid (bf_bad (f := f) (e := 2) (by unfold Tn.bfE; rw [if_pos (by rw [← HNB.out]; exact hbig)]) (by decide))
    generalize frCells f (.slice ab nb capb) = fr at *
    clear hw1 hs1 hb1 hvb hr1
    go_enter Try.func13, Try.ntmps13
    go_upto_region 1 with fail
    rw [← HW1.out]
    go_wp2_with fail
    refine bodyPost_ret (results_tmp2 Try.results13 _ _ _) rfl ?_
    rw [HE.out.1, HE.out.2]
    exact ⟨_, _, _, rfl, sees_nil _, (fun h => absurd h (by decide)), HB1.out⟩
  have hbig' : f.B.length ≤ 65485 := by rw [← HNB.out]; omega
  have hbe : Tn.bfE f = Tn.tyE f.ty := by unfold Tn.bfE; rw [if_neg (by omega)]
  by_cases ht : Tn.tyE f.ty = 0
  · have hL : Tn.bfL f = f.dst ++ (f.src ++ Tn.be2 f.ty) ++ f.B := by unfold Tn.bfL; rw [if_pos (by rw [hbe, ht])]; simp [Tn.frL]
    have HLB : Hid (∀ y ∈ f.dst ++ (f.src ++ Tn.be2 f.ty) ++ f.B, y < 256) := by
      unfold Hid
      rw [← hL]
      unfold Tn.bfL
      rw [if_pos (by rw [hbe, ht])]
      exact frL_bytes hf HBY.out
    have HLL : Hid ((f.dst ++ (f.src ++ Tn.be2 f.ty) ++ f.B).length = 14 + nb) := by
      unfold Hid
      rw [List.length_append, List.length_append, List.length_append, hf.ok.dst, hf.ok.src, HNB.out]
      rfl
    rw [hbe, hL]
    rw [ht] at HCT ⊢
    obtain ⟨w2, hw2⟩ : ∃ w2, w2 = w1.alloc (.cells Z14 83) := ⟨_, rfl⟩
    obtain ⟨h, hh⟩ : ∃ h, h = w1.heap.size := ⟨_, rfl⟩
    have hb2 : Below h w1 w2 := by rw [hw2, hh]; exact (Below.refl _ _).alloc (Nat.le_refl _) _
    have hB2 : BlkT 83 w2 h [0, 0, 0, 0, 0, 0, 0, 0, 0, 0, 0, 0, 0, 0] := by rw [hw2, hh]; exact heap_alloc_new w1 _
    have HRW : Hid (∀ u, Below h w1 u → u.heap[w.heap.size]? = some (.cells (frCells f (.slice ab nb capb)) 31 (0, 0))) := fun u hu => (hu.block _ (by omega)).trans hr1
    have HBW : Hid (∀ u, Below h w1 u → Below w.heap.size w u) := fun u hu => hb1.trans (hu.mono (by omega))
    have HCE : Hid (∀ u, Below h w1 u → u.cell? ⟨w.heap.size, 12, none⟩ = some (.int .u16 (f.ty : Int)) ∧ u.cell? ⟨w.heap.size, 13, none⟩ = some (.slice ab nb capb)) := fun u hu => fr_at hf.ok (HRW.out u hu)
    have HW2 : Hid (w2 = w1.alloc (.cells Z14 83)) := hw2
    unfold Z14 at HW2
    have HH := hid hh
    have HHW : Hid (h = w.heap.size + 1) := by unfold Hid; omega
    have HVB := hid hvb
    have HF := hid hf
    have HB2 := hid hb2
    obtain ⟨X0, hX0⟩ : ∃ X0, X0 = bs [0, 0, 0, 0, 0, 0, 0, 0, 0, 0, 0, 0, 0, 0] := ⟨_, rfl⟩
    have HG2 : Hid (w2.heap[h]? = some (.cells X0.toArray 83 (0, 0))) := by unfold Hid; rw [hX0]; exact hB2
    have HX0 := hid hX0
    have HX0L : Hid (X0.length = 14) := by unfold Hid; rw [hX0]; rfl
    obtain ⟨O1, hO1⟩ : ∃ O1, O1 = bs f.dst := ⟨_, rfl⟩
    have HO1 := hid hO1
    have HO1L : Hid (O1.length = 6) := by unfold Hid; rw [hO1, bs_len, hf.ok.dst]
    have HO11 : Hid (∀ v ∈ O1, v.oneCell' = true) := by unfold Hid; rw [hO1]; exact one_bs
    obtain ⟨O2, hO2⟩ : ∃ O2, O2 = bs f.src := ⟨_, rfl⟩
    have HO2 := hid hO2
    have HO2L : Hid (O2.length = 6) := by unfold Hid; rw [hO2, bs_len, hf.ok.src]
    have HO21 : Hid (∀ v ∈ O2, v.oneCell' = true) := by unfold Hid; rw [hO2]; exact one_bs
    have HP1 : Hid (∀ u, Below h w1 u → ∀ j v, O1[j]? = some v → u.cell? ((⟨w.heap.size, 0, none⟩ : Addr).add j) = some v) := fun u hu j v hv => by
      rw [HO1.out] at hv
      obtain ⟨ad, ha, hc⟩ := (fr_dst HF.out (HRW.out u hu)).src (by rw [bs_len, HF.out.ok.dst]; omega)
      cases ha
      exact hc j v hv
    have HP2 : Hid (∀ u, Below h w1 u → ∀ j v, O2[j]? = some v → u.cell? ((⟨w.heap.size, 6, none⟩ : Addr).add j) = some v) := fun u hu j v hv => by
      rw [HO2.out] at hv
      obtain ⟨ad, ha, hc⟩ := (fr_src HF.out (HRW.out u hu)).src (by rw [bs_len, HF.out.ok.src]; omega)
      cases ha
      exact hc j v hv
    have hbig3 : nb ≤ 65485 := by omega
    generalize frCells f (.slice ab nb capb) = fr at *
    clear hw1 hs1 hb1 hvb hr1 hw2 hh hb2 hB2 hL hbe ht hX0 hO1 hO2 hbig'
    go_enter Try.func13, Try.ntmps13
    go_upto_region 1 with fail
    rw [← HW1.out]
    go_wp2_with fail
    refine (HCT.out _).mono ?_
    rintro _ wy ⟨rfl, hwy⟩
    subst hwy
    go_upto_region 7 with fail
    rw [← HW2.out, ← HH.out]
    go_cut [] from 6 (fun wx => Hid (wx.heap[h]? = some (.cells (splice X0 0 O1).toArray 83 (0, 0))) ∧ Below h wy wx)
    case first =>
      have HBD := hid (below_drew HB2.out)
      have HPS : Hid (0 < O1.length → ∃ ad, some (⟨w.heap.size, 0, none⟩ : Addr) = some ad ∧ ∀ j v, O1[j]? = some v → w2.drew.cell? (ad.add j) = some v) := fun _ => ⟨_, rfl, HP1.out _ HBD.out⟩
      have HMN : Hid (O1.length = Nat.min 6 14) := HO1L.out
      have HFT : Hid (0 + O1.length ≤ X0.length) := by unfold Hid; rw [HO1L.out, HX0L.out]; omega
      go_region_law (first
        | (refine step_copy_splice rfl (.tmp 16) (.tmp 18) 29 29 rfl 5 Try.underlying29 size5 (some ⟨h, 0, none⟩) (some ⟨w.heap.size, 0, none⟩) 14 14 6 6 rfl rfl h 0 X0 83 HG2.out O1 HMN.out (fun hp => ⟨rfl, HPS.out hp⟩) HFT.out HO11.out h wy HBD.out (Nat.le_refl _) ?_; intro w5 hg5 hb5)
        | fail)
      all_goals (
        go_wp2_with fail
        go_meet
        case rel => exact ⟨hg5, hb5⟩)
    case rest =>
    obtain ⟨HG3, hb3⟩ := hcut
    obtain ⟨w3, hw3⟩ : ∃ w3, w3 = wc := ⟨_, rfl⟩
    rw [← hw3] at HG3 hb3 ⊢
    clear hw3
    obtain ⟨X1, hX1⟩ : ∃ X1, X1 = splice X0 0 O1 := ⟨_, rfl⟩
    rw [← hX1] at HG3
    have HX1L : Hid (X1.length = 14) := by unfold Hid; rw [hX1, length_splice _ _ _ (by rw [HO1L.out, HX0L.out]; omega), HX0L.out]
    have HX1 := hid hX1
    have HB3 := hid hb3
    clear hX1 hb3
    go_upto_region 8 with fail
    go_cut [] from 6 (fun wx => Hid (wx.heap[h]? = some (.cells (splice X1 6 O2).toArray 83 (0, 0))) ∧ Below h wy wx)
    case first =>
      have HBD := hid (below_drew HB3.out)
      have HPS : Hid (0 < O2.length → ∃ ad, some (⟨w.heap.size, 6, none⟩ : Addr) = some ad ∧ ∀ j v, O2[j]? = some v → w3.drew.cell? (ad.add j) = some v) := fun _ => ⟨_, rfl, HP2.out _ HBD.out⟩
      have HMN : Hid (O2.length = Nat.min 6 8) := HO2L.out
      have HFT : Hid (6 + O2.length ≤ X1.length) := by unfold Hid; rw [HO2L.out, HX1L.out]; omega
      go_region_law (first
        | (refine step_copy_splice rfl (.tmp 20) (.tmp 22) 29 29 rfl 5 Try.underlying29 size5 (some ⟨h, 6, none⟩) (some ⟨w.heap.size, 6, none⟩) 8 8 6 6 rfl rfl h 6 X1 83 HG3.out O2 HMN.out (fun hp => ⟨rfl, HPS.out hp⟩) HFT.out HO21.out h wy HBD.out (Nat.le_refl _) ?_; intro w5 hg5 hb5)
        | fail)
      all_goals (
        go_wp2_with fail
        go_meet
        case rel => exact ⟨hg5, hb5⟩)
    case rest =>
    obtain ⟨HG4, hb4⟩ := hcut
    obtain ⟨w4, hw4⟩ : ∃ w4, w4 = wc := ⟨_, rfl⟩
    rw [← hw4] at HG4 hb4 ⊢
    clear hw4
    have hX2 : splice X1 6 O2 = bs (f.dst ++ (f.src ++ [0, 0])) := by
      have e1 : X1 = O1 ++ (bs [0, 0, 0, 0, 0, 0] ++ bs [0, 0]) := by
        rw [HX1.out, HX0.out]
        show splice ([] ++ (bs [0, 0, 0, 0, 0, 0] ++ (bs [0, 0, 0, 0, 0, 0] ++ bs [0, 0]))) ([] : List Value).length O1 = _
        rw [splice_mid (by rw [HO1L.out]; rfl)]
        rfl
      have e2 : splice X1 6 O2 = O1 ++ (O2 ++ bs [0, 0]) := by
        rw [e1, ← HO1L.out, splice_mid (by rw [HO2L.out]; rfl)]
      rw [e2, HO1.out, HO2.out]
      simp [bs]
    have hB4 : BlkT 83 w4 h (f.dst ++ (f.src ++ [0, 0])) := by unfold BlkT; rw [← hX2]; exact HG4.out
    have hlen4 : (f.dst ++ (f.src ++ [0, 0])).length = 14 := by rw [List.length_append, List.length_append, HF.out.ok.dst, HF.out.ok.src]; rfl
    have HC4 := hid (twrite16_any 83 h 12 2 f.ty _ w4.drew (show BlkT 83 w4.drew h _ from hB4) (by rw [hlen4]; omega) hty)
    have HSET : Hid (((f.dst ++ (f.src ++ [0, 0])).set 12 (f.ty / 256 % 256)).set (12 + 1) (f.ty % 256) = f.dst ++ (f.src ++ Tn.be2 f.ty)) := by
      unfold Hid
      have hd6 := HF.out.ok.dst
      have hs6 := HF.out.ok.src
      rw [List.set_append_right _ _ (by omega), List.set_append_right _ _ (by omega), hd6, List.set_append_right _ _ (by omega), List.set_append_right _ _ (by omega), hs6]
      rfl
    rw [HSET.out] at HC4
    have HB4 := hid hb4
    obtain ⟨d12, d13⟩ := HCE.out _ hb4
    clear HG4 hX2 hB4 hlen4 hb4
    go_upto_region 9 with fail
    go_cut [] from 6 (fun wx => Hid (BlkT 83 wx h (f.dst ++ (f.src ++ Tn.be2 f.ty))) ∧ Below h wy wx)
    case first =>
      go_region_with (first | (go_at_call 36; refine HC4.out.mono ?_; rintro _ w5 ⟨rfl, hB5, hu5⟩) | fail)
      all_goals (
        go_wp2_with fail
        go_meet
        case rel => exact ⟨hB5, hu5.below (below_drew HB4.out) (Nat.le_trans (Nat.le_of_eq HH.out) HB4.out.size) (Nat.le_refl _)⟩)
    case rest =>
    obtain ⟨HB5, hb5⟩ := hcut
    obtain ⟨w5, hw5⟩ : ∃ w5, w5 = wc := ⟨_, rfl⟩
    rw [← hw5] at HB5 hb5 ⊢
    clear hw5 HC4 d12 d13
    obtain ⟨d12, d13⟩ := HCE.out _ hb5
    have hlen5 : (f.dst ++ (f.src ++ Tn.be2 f.ty)).length = 14 := by rw [List.length_append, List.length_append, HF.out.ok.dst, HF.out.ok.src]; rfl
    have hs14 : SeesB w5 (.slice (some ⟨h, 0, none⟩) 14 14) (f.dst ++ (f.src ++ Tn.be2 f.ty)) := by
      have := HB5.out.sees (fun y hy => HLB.out y (List.mem_append_left _ hy)) 0 14 14 (by rw [hlen5]; omega) (Nat.le_refl _) (by unfold maxLen; omega)
      rwa [List.drop_zero, List.take_of_length_le (Nat.le_of_eq hlen5)] at this
    have HBZ := hid (HBW.out _ hb5)
    obtain ⟨k, hk⟩ : ∃ k, k = 14 + nb := ⟨_, rfl⟩
    have HJ : Hid (Calls Try.prog 31 #[.slice (some ⟨h, 0, none⟩) 14 14, .slice ab nb capb] w5.drew fun e w' => ∃ g, e = .returned (.slice (some ⟨g, 0, none⟩) k k) ∧ Blk w' g (f.dst ++ (f.src ++ Tn.be2 f.ty) ++ f.B) ∧ w5.heap.size ≤ g ∧ Below w5.heap.size w5 w') := by
      refine (join_any _ _ _ _ w5.drew (sees_drew hs14) (sees_drew (HVB.out.below (HBW.out _ hb5))) (by rw [hlen5, ← HNB.out]; omega)).mono ?_
      rintro e u ⟨g, k', rfl, hk', hB, hg, hb⟩
      exact ⟨g, by rw [hk', HLL.out, hk], hB, hg, (below_drew (Below.refl _ _)).trans hb⟩
    have HK : Hid ((f.dst ++ (f.src ++ Tn.be2 f.ty) ++ f.B).length = k) := by unfold Hid; rw [HLL.out, hk]
    have hk2 : k ≤ 65499 := by omega
    clear hs14 hlen5 hb5 HB5 hk
    go_upto_region 10 with fail
    go_region_with (first | (go_at_call 31; refine HJ.out.mono ?_; rintro _ w7 ⟨g, rfl, hB7, hg7, hb7⟩) | fail)
    all_goals (
      go_wp2_with fail
      refine bodyPost_ret (results_tmp2 Try.results13 _ _ _) rfl ?_
      exact ⟨_, _, _, rfl, sees_blk hB7 HK.out (by omega) HLB.out, fun _ => ⟨g, rfl, rfl, hB7, Nat.le_trans HBZ.out.size hg7⟩, HBZ.out.trans (hb7.mono HBZ.out.size)⟩)
  · have HE := hid (bf_bad (f := f) (e := Tn.tyE f.ty) hbe ht)
    generalize frCells f (.slice ab nb capb) = fr at *
    generalize Tn.tyE f.ty = E at *
    have q1 : (E == 0) = false := by simp [ht]
    have q2 : (E != 0) = true := by simp [ht]
    have hbig3 : nb ≤ 65485 := by omega
    clear hw1 hs1 hb1 hvb hr1 hbe
    go_enter Try.func13, Try.ntmps13
    go_upto_region 1 with fail
    rw [← HW1.out]
    go_wp2_with fail
    refine (HCT.out _).mono ?_
    rintro _ wy ⟨rfl, hwy⟩
    subst hwy
    go_wp2_with fail
    refine bodyPost_ret (results_tmp2 Try.results13 _ _ _) rfl ?_
    rw [HE.out.1, HE.out.2]
    exact ⟨_, _, _, rfl, sees_nil _, (fun h => absurd h ht), HB1.out⟩
end Go.Proofs.Ytcelcnafcfefhab.N

/-
  tunnel.ParseFrame.
-/
namespace Go.Proofs.Ytcelcnafcfefhab.N
open Go.ChangeShapes Go.WideShapes Go.ChangeAt Go.RowKit
set_option maxHeartbeats 8000000
set_option maxRecDepth 100000

def zeroF : Array Value := #[.int .u8 0, .int .u8 0, .int .u8 0, .int .u8 0, .int .u8 0, .int .u8 0, .int .u8 0, .int .u8 0, .int .u8 0, .int .u8 0, .int .u8 0, .int .u8 0, .int .u16 0, .slice none 0 0]

theorem pf_bad {L : List Nat} {e : Int} (h : Tn.pfE L = e) (he : e ≠ 0) : Tn.pfE L = e ∧ Tn.pfF L = Tn.noneF := ⟨h, by unfold Tn.pfF; rw [if_neg (by rw [h]; exact he)]⟩

theorem frc_one {D S : List Nat} {ty : Nat} {ao : Option Addr} {n c : Nat} : (frc D S ty (.slice ao n c)).toArray.all (·.oneCell') = true := by
  rw [Array.all_eq_true_iff_forall_mem]
  intro v hv
  have hv := List.mem_toArray.1 hv
  unfold frc at hv
  rcases List.mem_append.1 hv with h | h
  · exact one_bs v h
  · rcases List.mem_append.1 h with h | h
    · exact one_bs v h
    · simp only [List.mem_cons, List.not_mem_nil, or_false] at h
      rcases h with rfl | rfl
      · rfl
      · rfl

theorem frc_set {D S : List Nat} (hD : D.length = 6) (hS : S.length = 6) (ty : Nat) (v v' : Value) : (frc D S ty v).toArray.setIfInBounds 13 v' = (frc D S ty v').toArray := by
  unfold frc
  apply Array.toList_inj.1
  rw [Array.toList_setIfInBounds]
  show (bs D ++ (bs S ++ [.int .u16 (ty : Int), v])).set 13 v' = bs D ++ (bs S ++ [.int .u16 (ty : Int), v'])
  rw [List.set_append_right _ _ (by rw [bs_len, hD]; omega), bs_len, hD, List.set_append_right _ _ (by rw [bs_len, hS]; omega), bs_len, hS]
  rfl

theorem parseF_any (v : Value) (L : List Nat) (w : World) (hv : SeesB w v L) :
    Calls Try.prog 14 #[v] w fun e w' => ∃ ao n cap, e = .returned (.tuple #[.agg (frCells (Tn.pfF L) (.slice ao n cap)), .int .i64 (Tn.pfE L)]) ∧ SeesB w' (.slice ao n cap) (Tn.pfF L).B ∧ (∀ a, ao = some a → w.heap.size ≤ a.block) ∧ Below w.heap.size w w' := by
  obtain ⟨w1, hw1⟩ : ∃ w1, w1 = w.alloc (.cells zeroF 31) := ⟨_, rfl⟩
  have hs1 : w1.heap.size = w.heap.size + 1 := by rw [hw1]; simp
  have hb1 : Below w.heap.size w w1 := by rw [hw1]; exact (Below.refl _ _).alloc (Nat.le_refl _) _
  have hr1 : w1.heap[w.heap.size]? = some (.cells zeroF 31 (0, 0)) := by rw [hw1]; exact heap_alloc_new w _
  obtain ⟨ao, n, cap, rfl, HN, hn1, hn2⟩ := hv.shape
  unfold maxLen at hn2
  have HV1 := hid (hv.below hb1)
  have HBY := hid hv.bytes
  have HI : Hid (∀ zz : Array Value, zz.size = 14 → (Try.prog.info? 31).map (·.size) = some zz.size) := fun zz hz => by rw [hz]; kernel_rfl
  have HCE : Hid (∀ (zz : Array Value) (u : World), zz.size = 14 → Below w1.heap.size w1 u → u.there w.heap.size 0 zz.size ∧ (loadVar 31 ⟨w.heap.size, 0, none⟩).run Try.prog (u.setCells w.heap.size 0 zz.toList) = .ok (.agg zz) (u.setCells w.heap.size 0 zz.toList)) := fun zz u hz hb =>
    cell_end hr1 hb (by rw [hz]; rfl) Try.underlying31 rfl (HI.out zz hz)
  have HBW : Hid (∀ u, Below w1.heap.size w1 u → Below w.heap.size w u) := fun u hu => hb1.trans (hu.mono hb1.size)
  have HBF0 : Hid (∀ (zz : Array Value) (u : World), Below w1.heap.size w1 u → Below w.heap.size w (u.setCells w.heap.size 0 zz.toList)) := fun zz u hu => below_setCells' (Nat.le_refl _) _ _ _ (HBW.out u hu)
  have HW1 : Hid (w1 = w.alloc (.cells zeroF 31)) := hw1
  unfold zeroF at HW1
  obtain ⟨zz, hzz⟩ : ∃ zz : Array Value, zz = zeroF := ⟨_, rfl⟩
  have HZ := hid hzz
  unfold zeroF at HZ
  have HZS : Hid (zz.size = 14) := by unfold Hid; rw [hzz]; rfl
  have HONE : Hid (zz.all (·.oneCell') = true) := by unfold Hid; rw [hzz]; simp [zeroF, Value.oneCell']
  have HZC : Hid (zz = frCells Tn.noneF (.slice none 0 0)) := hzz
  have HINF := hid (HI.out zz HZS.out)
  have HS1 := hid hs1
  clear hzz hw1 hs1 hb1 hr1 hv
  by_cases hA : 65499 < n
  · have HE := hid (pf_bad (L := L) (e := 2) (by unfold Tn.pfE; rw [if_pos (by have := HN.out; omega)]) (by decide))
    have hA' : (65499 : Int) < (n : Int) := by omega
    go_enter Try.func14, Try.ntmps14
    go_upto_region 1 with fail
    rw [← HW1.out]
    obtain ⟨q1, q2⟩ := HCE.out zz w1 HZS.out (Below.refl _ _)
    have HTU := hid q1
    have HLV := hid q2
    have HBF := hid (HBF0.out zz w1 (Below.refl _ _))
    clear q1 q2
    go_wp2_with (first
      | (refine wpList_store_mid rfl 31 (.tmp 2) (.tmp 10) rfl w.heap.size 0 zz rfl (by rw [HZ.out]; rfl) HTU.out HINF.out HONE.out ?_)
      | fail)
    generalize w1.setCells w.heap.size 0 zz.toList = wf at HLV HBF ⊢
    refine bodyPost_ret (v := .tuple #[.agg zz, .int .i64 2]) (by simp [results, Try.results14, asAddr, HLV.out]) rfl ?_
    rw [HE.out.1, HE.out.2]
    exact ⟨none, 0, 0, by rw [HZC.out], sees_nil _, (fun a ha => by cases ha), HBF.out⟩
  have hA' : ¬ (65499 : Int) < (n : Int) := by omega
  by_cases hB : n < 14
  · have HE := hid (pf_bad (L := L) (e := 70) (by unfold Tn.pfE; rw [if_neg (by have := HN.out; omega), if_pos (by have := HN.out; omega)]) (by decide))
    have hB' : (n : Int) < 14 := by omega
    go_enter Try.func14, Try.ntmps14
    go_upto_region 1 with fail
    rw [← HW1.out]
    obtain ⟨q1, q2⟩ := HCE.out zz w1 HZS.out (Below.refl _ _)
    have HTU := hid q1
    have HLV := hid q2
    have HBF := hid (HBF0.out zz w1 (Below.refl _ _))
    clear q1 q2
    go_wp2_with (first
      | (refine wpList_store_mid rfl 31 (.tmp 2) (.tmp 15) rfl w.heap.size 0 zz rfl (by rw [HZ.out]; rfl) HTU.out HINF.out HONE.out ?_)
      | fail)
    generalize w1.setCells w.heap.size 0 zz.toList = wf at HLV HBF ⊢
    refine bodyPost_ret (v := .tuple #[.agg zz, .int .i64 70]) (by simp [results, Try.results14, asAddr, HLV.out]) rfl ?_
    rw [HE.out.1, HE.out.2]
    exact ⟨none, 0, 0, by rw [HZC.out], sees_nil _, (fun a ha => by cases ha), HBF.out⟩
  have hB' : ¬ (n : Int) < 14 := by omega
  obtain ⟨a12, HS12, k12⟩ := HV1.out.mid 12 14 12 14 rfl rfl (by omega) (by omega)
  have XR := hid (read_mid a12 (cap - 12) L 12 14 rfl w1 HS12.out (by have := HN.out; omega))
  have hpe : Tn.pfE L = Tn.tyE (Tn.num2 L 12) := by
    unfold Tn.pfE
    rw [if_neg (by have := HN.out; omega), if_neg (by have := HN.out; omega)]
  have hty16 : Tn.num2 L 12 < 65536 := by
    rw [num2_byt]
    have h1 := byt_lt HBY.out 12
    have h2 := byt_lt HBY.out (12 + 1)
    omega
  have HPD : Hid (Tn.pfE L = 0 → Tn.pfF L = ⟨L.take 6, (L.drop 6).take 6, Tn.num2 L 12, L.drop 14⟩) := fun h => by unfold Tn.pfF; rw [if_pos h]
  obtain ⟨ty, hty⟩ : ∃ ty, ty = Tn.num2 L 12 := ⟨_, rfl⟩
  rw [← hty] at XR hpe hty16 HPD
  have HCT := hid (fun u => checkType_any ty u hty16)
  obtain ⟨p, hp⟩ : ∃ p, p = w1.heap.size := ⟨_, rfl⟩
  obtain ⟨pa, hpa⟩ : ∃ pa : Array Value, pa = (frc [0, 0, 0, 0, 0, 0] [0, 0, 0, 0, 0, 0] ty (.slice none 0 0)).toArray := ⟨_, rfl⟩
  have HPA : Hid (pa = #[.int .u8 0, .int .u8 0, .int .u8 0, .int .u8 0, .int .u8 0, .int .u8 0, .int .u8 0, .int .u8 0, .int .u8 0, .int .u8 0, .int .u8 0, .int .u8 0, .int .u16 (ty : Int), .slice none 0 0]) := hpa
  have hps : pa.size = 14 := by rw [hpa]; rfl
  have HPI := hid (HI.out pa hps)
  have HPO : Hid (pa.all (·.oneCell') = true) := by unfold Hid; rw [hpa]; exact frc_one
  have hrp : (w1.alloc (.cells zeroF 31)).heap[p]? = some (.cells zeroF 31 (0, 0)) := by rw [hp]; exact heap_alloc_new w1 _
  have HTP : Hid ((w1.alloc (.cells zeroF 31)).there p 0 pa.size) := there_blk hrp (by rw [hps]; rfl)
  obtain ⟨w2, hw2⟩ : ∃ w2, w2 = (w1.alloc (.cells zeroF 31)).setCells p 0 pa.toList := ⟨_, rfl⟩
  have hr2 : w2.heap[p]? = some (.cells (frc [0, 0, 0, 0, 0, 0] [0, 0, 0, 0, 0, 0] ty (.slice none 0 0)).toArray 31 (0, 0)) := by rw [hw2, ← hpa]; exact row_put hrp (by rw [hps]; rfl)
  have hb2 : Below w1.heap.size w1 w2 := by rw [hw2]; exact below_setCells' (by omega) _ _ _ ((Below.refl _ _).alloc (Nat.le_refl _) _)
  obtain ⟨c12, c13⟩ := fr_at (f := ⟨[0, 0, 0, 0, 0, 0], [0, 0, 0, 0, 0, 0], ty, []⟩) ⟨rfl, rfl, hty16⟩ hr2
  simp only at c12 c13
  have HW2 := hid hw2
  unfold zeroF at HW2 HTP
  have HP := hid hp
  have HB2 := hid hb2
  have HR2 := hid hr2
  clear hw2 hpa hps hrp hb2 hr2 hty
  by_cases ht : Tn.tyE ty = 0
  · rw [ht] at HCT hpe
    have HPE2 := hid hpe
    have HD := hid (HPD.out hpe)
    obtain ⟨a0, HS0, k0⟩ := HV1.out.mid 0 6 0 6 rfl rfl (by omega) (by omega)
    obtain ⟨a6, HS6, k6⟩ := HV1.out.mid 6 12 6 12 rfl rfl (by omega) (by omega)
    obtain ⟨a14, HS14, k14⟩ := HV1.out.low 14 14 rfl (by omega)
    rw [List.drop_zero] at HS0
    have e6 : (L.take 12).drop 6 = (L.drop 6).take 6 := by rw [List.drop_take]
    rw [e6] at HS6
    have hl6 : (L.take 6).length = 6 := by rw [List.length_take, ← HN.out]; omega
    have hl12 : ((L.drop 6).take 6).length = 6 := by rw [List.length_take, List.length_drop, ← HN.out]; omega
    have hb6 : ∀ x ∈ L.take 6, x < 256 := fun x hx => HBY.out x (List.mem_of_mem_take hx)
    have hb12 : ∀ x ∈ (L.drop 6).take 6, x < 256 := fun x hx => HBY.out x (List.mem_of_mem_drop (List.mem_of_mem_take hx))
    have hb14 : ∀ x ∈ L.drop 14, x < 256 := fun x hx => HBY.out x (List.mem_of_mem_drop hx)
    have hl14 : (L.drop 14).length = n - 14 := by rw [List.length_drop, ← HN.out]
    generalize L.take 6 = DD at *
    generalize (L.drop 6).take 6 = SS at *
    generalize L.drop 14 = BB at *
    obtain ⟨O1, hO1⟩ : ∃ O1, O1 = bs DD := ⟨_, rfl⟩
    have HO1L : Hid (O1.length = 6) := by unfold Hid; rw [hO1, bs_len, hl6]
    have HO11 : Hid (∀ v ∈ O1, v.oneCell' = true) := by unfold Hid; rw [hO1]; exact one_bs
    obtain ⟨O2, hO2⟩ : ∃ O2, O2 = bs SS := ⟨_, rfl⟩
    have HO2L : Hid (O2.length = 6) := by unfold Hid; rw [hO2, bs_len, hl12]
    have HO21 : Hid (∀ v ∈ O2, v.oneCell' = true) := by unfold Hid; rw [hO2]; exact one_bs
    have HP1 : Hid (∀ u, Below p w1 u → ∃ ad, a0 = some ad ∧ ∀ j v, O1[j]? = some v → u.cell? (ad.add j) = some v) := fun u hu => by
      rw [hO1]
      exact (HS0.out.below (by rw [← hp]; exact hu)).src (by rw [bs_len, hl6]; omega)
    have HP2 : Hid (∀ u, Below p w1 u → ∃ ad, a6 = some ad ∧ ∀ j v, O2[j]? = some v → u.cell? (ad.add j) = some v) := fun u hu => by
      rw [hO2]
      exact (HS6.out.below (by rw [← hp]; exact hu)).src (by rw [bs_len, hl12]; omega)
    obtain ⟨X0, hX0⟩ : ∃ X0, X0 = frc [0, 0, 0, 0, 0, 0] [0, 0, 0, 0, 0, 0] ty (.slice none 0 0) := ⟨_, rfl⟩
    rw [← hX0] at HR2
    have HX0L : Hid (X0.length = 14) := by unfold Hid; rw [hX0]; rfl
    obtain ⟨X1, hX1⟩ : ∃ X1, X1 = frc DD [0, 0, 0, 0, 0, 0] ty (.slice none 0 0) := ⟨_, rfl⟩
    have HX1L : Hid (X1.length = 14) := by unfold Hid; rw [hX1]; exact frc_len hl6 rfl _ _
    have HX1 : Hid (splice X0 0 O1 = X1) := by
      unfold Hid
      rw [hX0, hX1, hO1]
      show splice ([] ++ (bs [0, 0, 0, 0, 0, 0] ++ (bs [0, 0, 0, 0, 0, 0] ++ [.int .u16 (ty : Int), .slice none 0 0]))) ([] : List Value).length (bs DD) = _
      rw [splice_mid (by rw [bs_len, hl6]; rfl)]
      rfl
    obtain ⟨X2, hX2⟩ : ∃ X2, X2 = frc DD SS ty (.slice none 0 0) := ⟨_, rfl⟩
    have HX2 : Hid (splice X1 6 O2 = X2) := by
      unfold Hid
      rw [hX1, hX2, hO2]
      unfold frc
      rw [show 6 = (bs DD).length by rw [bs_len, hl6], splice_mid (by rw [bs_len, hl12]; rfl)]
    have HCO : Hid (∀ u, Below w1.heap.size w1 u → Calls Try.prog 38 #[.slice a14 (n - 14) (cap - 14)] u fun e w' => ∃ g, e = .returned (.slice (some ⟨g, 0, none⟩) (n - 14) (n - 14)) ∧ Blk w' g BB ∧ u.heap.size ≤ g ∧ Below u.heap.size u w') := fun u hu => by
      refine (copied_any _ _ u (HS14.out.below hu) (by rw [hl14]; omega)).mono ?_
      rintro e u' ⟨g, k, rfl, hk, hB, hg, hb⟩
      exact ⟨g, by rw [hk, hl14], hB, hg, hb⟩
    have HX2E := hid hX2
    have HL := hid (And.intro hl6 hl12)
    have HBB := hid hb14
    have HLB := hid hl14
    clear hO1 hO2 hX0 hX1 hX2 HS0 HS6 HS14 e6 hl6 hl12 hb6 hb12 hb14 hl14 hpe hp
    go_enter Try.func14, Try.ntmps14
    go_upto_region 1 with fail
    rw [← HW1.out]
    go_wp2_with fail
    refine XR.out.mono ?_
    rintro _ wy ⟨rfl, hwy⟩
    subst hwy
    go_upto_region 6 with (first
      | (rw [← HP.out]; refine wpList_store_mid rfl 31 (.tmp 4) (.tmp 19) rfl p 0 pa rfl (by rw [HPA.out]; rfl) HTP.out HPI.out HPO.out ?_; rw [← HW2.out])
      | fail)
    simp only [Act.put]
    go_wp2_with fail
    refine (HCT.out _).mono ?_
    rintro _ wz ⟨rfl, hwz⟩
    subst hwz
    go_upto_region 9 with fail
    go_cut [] from 6 (fun wx => Hid (wx.heap[p]? = some (.cells X1.toArray 31 (0, 0))) ∧ Below p wy wx)
    case first =>
      have HB2P : Hid (Below p wy wz) := by unfold Hid; rw [HP.out]; exact HB2.out
      have HBD := hid (below_drew HB2P.out)
      have HPS : Hid (0 < O1.length → ∃ ad, a0 = some ad ∧ ∀ j v, O1[j]? = some v → wz.drew.cell? (ad.add j) = some v) := fun _ => HP1.out _ HBD.out
      have HMN : Hid (O1.length = Nat.min 6 6) := HO1L.out
      have HFT : Hid (0 + O1.length ≤ X0.length) := by unfold Hid; rw [HO1L.out, HX0L.out]; omega
      go_region_law (first
        | (refine step_copy_splice rfl (.tmp 28) (.tmp 30) 29 29 rfl 5 Try.underlying29 size5 (some ⟨p, 0, none⟩) a0 6 6 6 cap rfl rfl p 0 X0 31 HR2.out O1 HMN.out (fun hp => ⟨rfl, HPS.out hp⟩) HFT.out HO11.out p wy HBD.out (Nat.le_refl _) ?_; intro w5 hg5 hb5)
        | fail)
      all_goals (
        go_wp2_with fail
        go_meet
        case rel => exact ⟨by rw [← HX1.out]; exact hg5.out, hb5⟩)
    case rest =>
    obtain ⟨HG3, hb3⟩ := hcut
    obtain ⟨w3, hw3⟩ : ∃ w3, w3 = wc := ⟨_, rfl⟩
    rw [← hw3] at HG3 hb3 ⊢
    have HB3 := hid hb3
    clear hw3 hb3 c12 c13
    go_upto_region 10 with fail
    go_cut [] from 6 (fun wx => Hid (wx.heap[p]? = some (.cells X2.toArray 31 (0, 0))) ∧ Below p wy wx)
    case first =>
      have HBD := hid (below_drew HB3.out)
      have HPS : Hid (0 < O2.length → ∃ ad, a6 = some ad ∧ ∀ j v, O2[j]? = some v → w3.drew.cell? (ad.add j) = some v) := fun _ => HP2.out _ HBD.out
      have HMN : Hid (O2.length = Nat.min 6 6) := HO2L.out
      have HFT : Hid (6 + O2.length ≤ X1.length) := by unfold Hid; rw [HO2L.out, HX1L.out]; omega
      go_region_law (first
        | (refine step_copy_splice rfl (.tmp 33) (.tmp 35) 29 29 rfl 5 Try.underlying29 size5 (some ⟨p, 6, none⟩) a6 6 6 6 (cap - 6) rfl rfl p 6 X1 31 HG3.out O2 HMN.out (fun hp => ⟨rfl, HPS.out hp⟩) HFT.out HO21.out p wy HBD.out (Nat.le_refl _) ?_; intro w5 hg5 hb5)
        | fail)
      all_goals (
        go_wp2_with fail
        go_meet
        case rel => exact ⟨by rw [← HX2.out]; exact hg5.out, hb5⟩)
    case rest =>
    obtain ⟨HG4, hb4⟩ := hcut
    obtain ⟨w4, hw4⟩ : ∃ w4, w4 = wc := ⟨_, rfl⟩
    rw [← hw4] at HG4 hb4 ⊢
    have HB4 : Hid (Below wy.heap.size wy w4) := by unfold Hid; rw [← HP.out]; exact hb4
    have X4 := hid (HCO.out w4 HB4.out)
    clear hw4 hb4 HP1 HP2 HO11 HO21 HO1L HO2L HX1L HX0L HX1 HX2 HCO
    go_wp2_with fail
    refine X4.out.mono ?_
    rintro _ w5 ⟨g, rfl, hB5, hg5, hb5⟩
    have hr5 : w5.heap[p]? = some (.cells (frc DD SS ty (.slice none 0 0)).toArray 31 (0, 0)) := by
      rw [← HX2E.out]
      exact (hb5.block p (Array.getElem?_eq_some_iff.1 HG4.out).1).trans HG4.out
    have d13 : w5.cell? ⟨p, 13, none⟩ = some (.slice none 0 0) := (cell_fr hr5 13).trans (frc_ty HL.out.1 HL.out.2 ty _).2
    have z13 : w5.frozen? ⟨p, 13, none⟩ = false := frozen_of_row _ _ _ _ _ hr5
    obtain ⟨w6, hw6⟩ : ∃ w6, w6 = w5.setCell ⟨p, 13, none⟩ (.slice (some ⟨g, 0, none⟩) (n - 14) (n - 14)) := ⟨_, rfl⟩
    obtain ⟨yy, hyy⟩ : ∃ yy : Array Value, yy = (frc DD SS ty (.slice (some ⟨g, 0, none⟩) (n - 14) (n - 14))).toArray := ⟨_, rfl⟩
    have hr6 : w6.heap[p]? = some (.cells yy 31 (0, 0)) := by
      rw [hw6, hyy, ← frc_set HL.out.1 HL.out.2]
      exact heap_setCell_row hr5 _
    have hpg : p ≠ g := by
      have h1 := (Array.getElem?_eq_some_iff.1 HG4.out).1
      omega
    have hb45 : Below wy.heap.size wy w5 := HB4.out.trans (hb5.mono HB4.out.size)
    have hb6 : Below wy.heap.size wy w6 := by rw [hw6]; exact hb45.setCell (p := ⟨p, 13, none⟩) (by show wy.heap.size ≤ p; rw [HP.out]; exact Nat.le_refl _) _
    have hB6 : Blk w6 g BB := by rw [hw6]; unfold Blk; rw [show (w5.setCell ⟨p, 13, none⟩ (.slice (some ⟨g, 0, none⟩) (n - 14) (n - 14))).heap[g]? = w5.heap[g]? by simp [World.setCell, Array.getElem?_modify, hpg]]; exact hB5
    have HYS : Hid (yy.size = 14) := by unfold Hid; rw [hyy]; simp only [List.size_toArray]; exact frc_len HL.out.1 HL.out.2 _ _
    have HYI := hid (HI.out yy HYS.out)
    have HYO : Hid (yy.all (·.oneCell') = true) := by unfold Hid; rw [hyy]; exact frc_one
    have HL6 : Hid ((Instr.loadAt 31 (.pointer (some ⟨p, 0, none⟩))).run Try.prog w6 = .ok (.agg yy) w6) := load_rowAt hr6 Try.underlying31 rfl HYI.out
    obtain ⟨q1, q2⟩ := HCE.out yy w6 HYS.out hb6
    have HTU := hid q1
    have HLV := hid q2
    have HBF := hid (HBF0.out yy w6 hb6)
    have hsb := sees_blk hB6 HLB.out (by omega) HBB.out
    have hgr : w.heap.size < g := by have := HB4.out.size; have := HS1.out; omega
    have HSF := hid (sees_set' (b := w.heap.size) (vs := yy.toList) hsb (fun a ha => by cases ha; show g ≠ w.heap.size; omega))
    have HYY := hid hyy
    have HW6 := hid hw6
    have HGR := hid hgr
    clear hyy hw6 hr5 hr6 hb45 hb6 hB6 hB5 hg5 hb5 q1 q2 hsb X4 hgr
    go_upto_region 12 with fail
    rw [← HW6.out]
    go_wp2_with (first
      | (refine wpList_ld 31 ⟨p, 0, none⟩ _ rfl rfl HL6.out rfl ?_)
      | (refine wpList_store_mid rfl 31 (.tmp 2) (.tmp 41) rfl w.heap.size 0 yy rfl rfl HTU.out HYI.out HYO.out ?_)
      | fail)
    generalize w6.setCells w.heap.size 0 yy.toList = wf at HLV HBF HSF ⊢
    refine bodyPost_ret (v := .tuple #[.agg yy, .int .i64 0]) (by simp [results, Try.results14, asAddr, HLV.out]) rfl ?_
    rw [HPE2.out, HD.out]
    exact ⟨_, _, _, by rw [HYY.out]; rfl, HSF.out, (fun a ha => by cases ha; exact Nat.le_of_lt HGR.out), HBF.out⟩
  · have HE := hid (pf_bad hpe ht)
    generalize Tn.tyE ty = E at *
    have r1 : (E == 0) = false := by simp [ht]
    have r2 : (E != 0) = true := by simp [ht]
    clear hpe hp
    go_enter Try.func14, Try.ntmps14
    go_upto_region 1 with fail
    rw [← HW1.out]
    go_wp2_with fail
    refine XR.out.mono ?_
    rintro _ wy ⟨rfl, hwy⟩
    subst hwy
    go_upto_region 6 with (first
      | (rw [← HP.out]; refine wpList_store_mid rfl 31 (.tmp 4) (.tmp 19) rfl p 0 pa rfl (by rw [HPA.out]; rfl) HTP.out HPI.out HPO.out ?_; rw [← HW2.out])
      | fail)
    simp only [Act.put]
    go_wp2_with fail
    refine (HCT.out _).mono ?_
    rintro _ wz ⟨rfl, hwz⟩
    subst hwz
    obtain ⟨q1, q2⟩ := HCE.out zz wz HZS.out HB2.out
    have HTU := hid q1
    have HLV := hid q2
    have HBF := hid (HBF0.out zz wz HB2.out)
    clear q1 q2
    go_wp2_with (first
      | (refine wpList_store_mid rfl 31 (.tmp 2) (.tmp 25) rfl w.heap.size 0 zz rfl (by rw [HZ.out]; rfl) HTU.out HINF.out HONE.out ?_)
      | fail)
    generalize wz.setCells w.heap.size 0 zz.toList = wf at HLV HBF ⊢
    refine bodyPost_ret (v := .tuple #[.agg zz, .int .i64 E]) (by simp [results, Try.results14, asAddr, HLV.out]) rfl ?_
    rw [HE.out.1, HE.out.2]
    exact ⟨none, 0, 0, by rw [HZC.out], sees_nil _, (fun a ha => by cases ha), HBF.out⟩
end Go.Proofs.Ytcelcnafcfefhab.N

/-
  weftlaw7.sameFrame: frames that are the same.
-/
namespace Go.Proofs.Ytcelcnafcfefhab.N
open Go.ChangeShapes Go.WideShapes Go.ChangeAt Go.RowKit
set_option maxHeartbeats 8000000
set_option maxRecDepth 100000

theorem six {D : List Nat} (h : D.length = 6) : ∃ a b c d e f, D = [a, b, c, d, e, f] := by
  match D, h with
  | [a, b, c, d, e, f], _ => exact ⟨a, b, c, d, e, f, rfl⟩

theorem fr_loads {u : World} {n : Nat} {f : Tn.Fr} {vb : Value} {t : TypeId} (hok : f.Ok) (hb : u.heap[n]? = some (.cells (frCells f vb) t (0, 0))) :
    (Instr.loadAt 28 (.pointer (some ⟨n, 0, none⟩))).run Try.prog u = .ok (.agg (bs f.dst).toArray) u ∧ (Instr.loadAt 28 (.pointer (some ⟨n, 6, none⟩))).run Try.prog u = .ok (.agg (bs f.src).toArray) u := by
  have h6 : (Try.prog.info? 28).map (·.size) = some 6 := by kernel_rfl
  refine ⟨?_, ?_⟩
  · refine run_loadAt_mid u n 0 28 (bs f.dst) (.array 6 5) (fun j v hv => ?_) Try.underlying28 rfl (by rw [bs_len, hok.dst]; exact h6)
    have hj : j < 6 := by have := (List.getElem?_eq_some_iff.1 hv).1; rw [bs_len, hok.dst] at this; exact this
    rw [Nat.zero_add, cell_fr hb j, frc_dst hok.dst f.ty vb j hj, hv]
  · refine run_loadAt_mid u n 6 28 (bs f.src) (.array 6 5) (fun j v hv => ?_) Try.underlying28 rfl (by rw [bs_len, hok.src]; exact h6)
    have hj : j < 6 := by have := (List.getElem?_eq_some_iff.1 hv).1; rw [bs_len, hok.src] at this; exact this
    rw [cell_fr hb (6 + j), frc_src hok.dst hok.src f.ty vb j hj, hv]

theorem eq6 (x0 x1 x2 x3 x4 x5 : Int) (u : World) : (Op.equalIn 10000 28 (.agg #[.int .u8 x0, .int .u8 x1, .int .u8 x2, .int .u8 x3, .int .u8 x4, .int .u8 x5]) (.agg #[.int .u8 x0, .int .u8 x1, .int .u8 x2, .int .u8 x3, .int .u8 x4, .int .u8 x5])).run Try.prog u = .ok true u := by
  have hu : Try.prog.underlying 28 = some (.array 6 5) := Try.underlying28
  have h5 : Try.prog.underlying 5 = some (.int .u8) := by kernel_rfl
  have hsz : (sizeOf 5).run Try.prog u = .ok 1 u := by kernel_rfl
  have hi : ∀ (x : Int) (w : World), (Op.equalIn 9999 5 (.int .u8 x) (.int .u8 x)).run Try.prog w = .ok true w := fun x w => by
    have := run_equalIn_int (P := Try.prog) w 9998 5 .u8 .u8 x x h5
    simpa using this
  rw [show (10000 : Nat) = 9999 + 1 from rfl, Op.equalIn]
  simp [run_underlying hu, hsz, part, hi, Std.Legacy.Range.forIn_eq_forIn_range', List.range', Result.andThen]

theorem sameFrame_self (f : Tn.Fr) (va vb : Value) (w : World) (hok : f.Ok) (hva : SeesB w va f.B) (hvb : SeesB w vb f.B) :
    Calls Try.prog 27 #[.agg (frCells f va), .agg (frCells f vb)] w fun e w' => e = .returned (.bool true) ∧ Below w.heap.size w w' := by
  obtain ⟨ao, n, cap, rfl, _, _, _⟩ := hva.shape
  obtain ⟨bo, m, bcap, rfl, _, _, _⟩ := hvb.shape
  obtain ⟨w1, hw1⟩ : ∃ w1, w1 = w.alloc (.cells (frCells f (.slice ao n cap)) 31) := ⟨_, rfl⟩
  obtain ⟨w2, hw2⟩ : ∃ w2, w2 = w1.alloc (.cells (frCells f (.slice bo m bcap)) 31) := ⟨_, rfl⟩
  have hs1 : w1.heap.size = w.heap.size + 1 := by rw [hw1]; simp
  have hb1 : Below w.heap.size w w1 := by rw [hw1]; exact (Below.refl _ _).alloc (Nat.le_refl _) _
  have hb2 : Below w.heap.size w w2 := by rw [hw2]; exact hb1.alloc (by omega) _
  have hr1 : w2.heap[w.heap.size]? = some (.cells (frCells f (.slice ao n cap)) 31 (0, 0)) := by rw [hw2, heap_alloc_old _ _ (by omega), hw1]; exact heap_alloc_new w _
  have hr2 : w2.heap[w.heap.size + 1]? = some (.cells (frCells f (.slice bo m bcap)) 31 (0, 0)) := by rw [hw2, ← hs1]; exact heap_alloc_new w1 _
  obtain ⟨c12, c13⟩ := fr_at hok hr1
  obtain ⟨d12, d13⟩ := fr_at hok hr2
  obtain ⟨l0, l6⟩ := fr_loads hok hr1
  obtain ⟨m0, m6⟩ := fr_loads hok hr2
  obtain ⟨x0, x1, x2, x3, x4, x5, hD⟩ := six hok.dst
  obtain ⟨y0, y1, y2, y3, y4, y5, hS⟩ := six hok.src
  rw [hD] at l0 m0
  rw [hS] at l6 m6
  have HL0 := hid (show (Instr.loadAt 28 (.pointer (some ⟨w.heap.size, 0, none⟩))).run Try.prog w2 = .ok (.agg #[.int .u8 (x0 : Int), .int .u8 (x1 : Int), .int .u8 (x2 : Int), .int .u8 (x3 : Int), .int .u8 (x4 : Int), .int .u8 (x5 : Int)]) w2 from l0)
  have HM0 := hid (show (Instr.loadAt 28 (.pointer (some ⟨w.heap.size + 1, 0, none⟩))).run Try.prog w2 = .ok (.agg #[.int .u8 (x0 : Int), .int .u8 (x1 : Int), .int .u8 (x2 : Int), .int .u8 (x3 : Int), .int .u8 (x4 : Int), .int .u8 (x5 : Int)]) w2 from m0)
  have HL6 := hid (show (Instr.loadAt 28 (.pointer (some ⟨w.heap.size, 6, none⟩))).run Try.prog w2 = .ok (.agg #[.int .u8 (y0 : Int), .int .u8 (y1 : Int), .int .u8 (y2 : Int), .int .u8 (y3 : Int), .int .u8 (y4 : Int), .int .u8 (y5 : Int)]) w2 from l6)
  have HM6 := hid (show (Instr.loadAt 28 (.pointer (some ⟨w.heap.size + 1, 6, none⟩))).run Try.prog w2 = .ok (.agg #[.int .u8 (y0 : Int), .int .u8 (y1 : Int), .int .u8 (y2 : Int), .int .u8 (y3 : Int), .int .u8 (y4 : Int), .int .u8 (y5 : Int)]) w2 from m6)
  have HSA := hid (same_self _ _ _ w2 (hva.below hb2) (hvb.below hb2))
  have HB2 := hid hb2
  have HW2 : Hid (w2 = (w.alloc (.cells (frCells f (.slice ao n cap)) 31)).alloc (.cells (frCells f (.slice bo m bcap)) 31)) := by unfold Hid; rw [hw2, hw1]
  clear hw1 hw2 hs1 hb1 hb2 hr1 hr2 l0 l6 m0 m6 hD hS hva hvb
  have hq0 := eq6 (x0 : Int) (x1 : Int) (x2 : Int) (x3 : Int) (x4 : Int) (x5 : Int)
  have hq6 := eq6 (y0 : Int) (y1 : Int) (y2 : Int) (y3 : Int) (y4 : Int) (y5 : Int)
  generalize frCells f (.slice ao n cap) = fa at *
  generalize frCells f (.slice bo m bcap) = fb at *
  go_enter Try.func27, Try.ntmps27
  go_upto_region 1 with fail
  rw [← HW2.out]
  go_wp2_with (first
    | (refine wpList_ld 28 ⟨w.heap.size, 0, none⟩ (.tmp 5) rfl rfl HL0.out rfl ?_)
    | (refine wpList_ld 28 ⟨w.heap.size + 1, 0, none⟩ (.tmp 7) rfl rfl HM0.out rfl ?_)
    | (refine wpList_ld 28 ⟨w.heap.size, 6, none⟩ (.tmp 11) rfl rfl HL6.out rfl ?_)
    | (refine wpList_ld 28 ⟨w.heap.size + 1, 6, none⟩ (.tmp 13) rfl rfl HM6.out rfl ?_)
    | fail)
  refine HSA.out.mono ?_
  rintro _ w3 ⟨rfl, hb3⟩
  have HB3 := hid (HB2.out.trans (hb3.mono HB2.out.size))
  clear hb3
  go_wp2_with fail
  go_ret
  exact ⟨rfl, HB3.out⟩
end Go.Proofs.Ytcelcnafcfefhab.N

/-
  weftref7: BuildFrame, ParseFrame.
-/
namespace Go.Proofs.Ytcelcnafcfefhab.N
open Go.ChangeShapes Go.WideShapes Go.ChangeAt Go.RowKit
set_option maxHeartbeats 8000000
set_option maxRecDepth 100000

theorem buildFR_any (f : Tn.Fr) (vb : Value) (w : World) (hf : FrB f) (hvb : SeesB w vb f.B) :
    Calls Try.prog 42 #[.agg (frCells f vb)] w fun e w' => ∃ v, e = .returned (.tuple #[v, .int .i64 (Tn.bfE f)]) ∧ OwnB w' w.heap.size v (Tn.bfL f) ∧ Below w.heap.size w w' := by
  obtain ⟨ab, nb, capb, rfl, HNB, hnb1, hnb2⟩ := hvb.shape
  unfold maxLen at hnb2
  obtain ⟨w1, hw1⟩ : ∃ w1, w1 = w.alloc (.cells (frCells f (.slice ab nb capb)) 31) := ⟨_, rfl⟩
  have hs1 : w1.heap.size = w.heap.size + 1 := by rw [hw1]; simp
  have hb1 : Below w.heap.size w w1 := by rw [hw1]; exact (Below.refl _ _).alloc (Nat.le_refl _) _
  have hr1 : w1.heap[w.heap.size]? = some (.cells (frCells f (.slice ab nb capb)) 31 (0, 0)) := by rw [hw1]; exact heap_alloc_new w _
  have HRW : Hid (∀ u, Below w1.heap.size w1 u → u.heap[w.heap.size]? = some (.cells (frCells f (.slice ab nb capb)) 31 (0, 0))) := fun u hu => (hu.block _ (by omega)).trans hr1
  have HCE : Hid (∀ u, Below w1.heap.size w1 u → u.cell? ⟨w.heap.size, 12, none⟩ = some (.int .u16 (f.ty : Int)) ∧ u.cell? ⟨w.heap.size, 13, none⟩ = some (.slice ab nb capb)) := fun u hu => fr_at hf.ok (HRW.out u hu)
  obtain ⟨c12, c13⟩ := HCE.out _ (Below.refl _ _)
  have HW1 := hid hw1
  have HB1 := hid hb1
  have HBY := hid hvb.bytes
  have hty := hf.ok.ty
  have HTY := hid (fun u => typedR_any f.ty u hty)
  by_cases hbig : 65485 < nb
  · have HE := hid (bf_bad (f := f) (e := 2) (by unfold Tn.bfE; rw [if_pos (by rw [← HNB.out]; exact hbig)]) (by decide))
    have hbig2 : (65485 : Int) < (nb : Int) := by omega
    generalize frCells f (.slice ab nb capb) = fr at *
    clear hw1 hs1 hb1 hvb hr1
    go_enter Try.func42, Try.ntmps42
    go_upto_region 1 with fail
    rw [← HW1.out]
    go_wp2_with fail
    refine bodyPost_ret (results_tmp2 Try.results42 _ _ _) rfl ?_
    rw [HE.out.1, HE.out.2]
    exact ⟨.slice none 0 0, rfl, ownB_nil _ _, HB1.out⟩
  have hbig' : f.B.length ≤ 65485 := by rw [← HNB.out]; omega
  have hbig2 : ¬ (65485 : Int) < (nb : Int) := by omega
  have hbe : Tn.bfE f = Tn.tyE f.ty := by unfold Tn.bfE; rw [if_neg (by omega)]
  by_cases ht : Tn.tyE f.ty = 0
  · have hL : Tn.bfL f = f.dst ++ f.src ++ laidL f.ty 2 ++ f.B := by unfold Tn.bfL; rw [if_pos (by rw [hbe, ht]), laidL_two]; rfl
    rw [hbe, hL]
    rw [ht] at HTY ⊢
    have HD : Hid (∀ (k : Nat) (u : World), k < 6 → Below w1.heap.size w1 u → ∃ x : Nat, x < 256 ∧ u.cell? ⟨w.heap.size, k, none⟩ = some (.int .u8 (x : Int)) ∧ Hid (f.dst.take k ++ [x] = f.dst.take (k + 1))) := fun k u hk hu => by
      have hkl : k < f.dst.length := by rw [hf.ok.dst]; exact hk
      refine ⟨f.dst[k], hf.dst _ (List.getElem_mem _), ?_, ?_⟩
      · rw [cell_fr (HRW.out u hu) k, frc_dst hf.ok.dst f.ty _ k hk, bs_get hkl]
      · unfold Hid; rw [List.take_succ_eq_append_getElem hkl]
    have HS : Hid (∀ (k : Nat) (u : World), k < 6 → Below w1.heap.size w1 u → ∃ x : Nat, x < 256 ∧ u.cell? ⟨w.heap.size, 6 + k, none⟩ = some (.int .u8 (x : Int)) ∧ Hid (f.dst ++ (f.src.take k ++ [x]) = f.dst ++ f.src.take (k + 1))) := fun k u hk hu => by
      have hkl : k < f.src.length := by rw [hf.ok.src]; exact hk
      refine ⟨f.src[k], hf.src _ (List.getElem_mem _), ?_, ?_⟩
      · rw [cell_fr (HRW.out u hu) (6 + k), frc_src hf.ok.dst hf.ok.src f.ty _ k hk, bs_get hkl]
      · unfold Hid; rw [List.take_succ_eq_append_getElem hkl]
    have HLA : Hid (∀ (l : Value) (u : World), Below w1.heap.size w1 u → OwnB u w1.heap.size l (f.dst ++ f.src) → Calls Try.prog 43 #[l, .int .i64 (f.ty : Int), .int .i64 2] u fun e w' => ∃ l', e = .returned l' ∧ OwnB w' w1.heap.size l' (f.dst ++ f.src ++ laidL f.ty 2) ∧ Below w1.heap.size w1 w') := fun l u hu hO =>
      laidR_any l _ f.ty 2 w1 u hu hO (by omega) (by omega) (by rw [List.length_append, hf.ok.dst, hf.ok.src]; omega)
    have HJO : Hid (∀ (l : Value) (u : World), Below w1.heap.size w1 u → OwnB u w1.heap.size l (f.dst ++ f.src ++ laidL f.ty 2) → Calls Try.prog 44 #[l, .slice ab nb capb, .int .i64 0, .int .i64 (nb : Int)] u fun e w' => ∃ l', e = .returned l' ∧ OwnB w' w1.heap.size l' (f.dst ++ f.src ++ laidL f.ty 2 ++ f.B) ∧ Below w1.heap.size w1 w') := fun l u hu hO => by
      have := joinedR_any l (.slice ab nb capb) _ f.B 0 nb w1 u hu hO (hvb.below hb1) (by omega) (by rw [HNB.out]; exact Nat.le_refl _) (by rw [List.length_append, List.length_append, hf.ok.dst, hf.ok.src, laidL_len]; omega)
      rw [List.drop_zero, List.take_of_length_le (by rw [HNB.out]; exact Nat.le_refl _)] at this
      exact this
    have HDL : Hid (f.dst.take 6 = f.dst) := by unfold Hid; rw [List.take_of_length_le (by rw [hf.ok.dst]; omega)]
    have HSL : Hid (f.src.take 6 = f.src) := by unfold Hid; rw [List.take_of_length_le (by rw [hf.ok.src]; omega)]
    have HD6 := hid hf.ok.dst
    generalize frCells f (.slice ab nb capb) = fr at *
    clear hw1 hs1 hb1 hvb hr1 hL hbe ht hbig'
    go_enter Try.func42, Try.ntmps42
    go_upto_region 1 with fail
    rw [← HW1.out]
    go_wp2_with fail
    refine (HTY.out _).mono ?_
    rintro _ wy ⟨rfl, hwy⟩
    subst hwy
    go_wp2_with fail
    go_loopw [5, 6] (fun t i wv => ∃ (k : Nat) (wr : World), i = .int .i64 (k : Int) ∧ k ≤ 6 ∧ wr = wv ∧ Hid (OwnB wr wy.heap.size t (f.dst.take k)) ∧ Below wy.heap.size wy wr) (fun _ i _ => 6 - (intOf i).toNat)
    case atStart => exact ⟨0, _, rfl, by omega, rfl, ownB_nil _ _, Below.refl _ _⟩
    case round =>
      clear c12 c13
      obtain ⟨k, wr, rfl, hk, rfl, HOK, hb⟩ := hrel
      by_cases hlt : k < 6
      · obtain ⟨x, hx, hc, HX⟩ := HD.out k wr hlt hb
        have b0 : (k : Int) < 6 := by omega
        have b1 : (0 : Int) ≤ (k : Int) := by omega
        have HLE : Hid ((f.dst.take k).length + [x].length ≤ 140737488355328) := by unfold Hid; rw [List.length_take]; simp only [List.length_cons, List.length_nil]; omega
        go_wp2_with (at_builtin; refine wpList_append_bytes rfl _ _ rfl wy.heap.size _ _ rfl (HOK.out.alloc _) _ [x] rfl (sees_one rfl x hx _) ?c1 ?c2 ?_)
        case c1 => exact HLE.out
        case c2 => have := hb.size; simp; omega
        intro v' w2 ho hb2
        rw [HX.out] at ho
        have HO2 := hid ho
        have hb3 : Below wy.heap.size wy w2 := (hb.alloc hb.size _).trans hb2
        clear ho hb2 hc
        go_wp2_with fail
        go_roundw
        case rel => exact ⟨k + 1, _, by go_num, by omega, rfl, HO2, hb3⟩
        case measure => simp [intOf]; omega
      · have hk6 : k = 6 := by omega
        rw [hk6, HDL.out] at HOK
        have hge : ¬ (k : Int) < 6 := by omega
        clear hk6
        go_wp2_with fail
        go_loopw [5, 7] (fun t i wv => ∃ (k : Nat) (wr : World), i = .int .i64 (k : Int) ∧ k ≤ 6 ∧ wr = wv ∧ Hid (OwnB wr wy.heap.size t (f.dst ++ f.src.take k)) ∧ Below wy.heap.size wy wr) (fun _ i _ => 6 - (intOf i).toNat)
        case atStart => exact ⟨0, _, rfl, by omega, rfl, by unfold Hid; rw [List.take_zero, List.append_nil]; exact HOK.out, hb⟩
        case round =>
          clear hb HOK
          obtain ⟨k, wr, rfl, hk, rfl, HOK, hb⟩ := hrel
          by_cases hlt : k < 6
          · obtain ⟨x, hx, hc, HX⟩ := HS.out k wr hlt hb
            have b0 : (k : Int) < 6 := by omega
            have b1 : (0 : Int) ≤ (k : Int) := by omega
            have HLE : Hid ((f.dst ++ f.src.take k).length + [x].length ≤ 140737488355328) := by unfold Hid; rw [List.length_append, HD6.out, List.length_take]; simp only [List.length_cons, List.length_nil]; omega
            go_wp2_with (at_builtin; refine wpList_append_bytes rfl _ _ rfl wy.heap.size _ _ rfl (HOK.out.alloc _) _ [x] rfl (sees_one rfl x hx _) ?c1 ?c2 ?_)
            case c1 => exact HLE.out
            case c2 => have := hb.size; simp; omega
            intro v' w2 ho hb2
            rw [HX.out] at ho
            have HO2 := hid ho
            have hb3 : Below wy.heap.size wy w2 := (hb.alloc hb.size _).trans hb2
            clear ho hb2 hc
            go_wp2_with fail
            go_roundw
            case rel => exact ⟨k + 1, _, by go_num, by omega, rfl, HO2, hb3⟩
            case measure => simp [intOf]; omega
          · have hk6 : k = 6 := by omega
            rw [hk6, HSL.out] at HOK
            have hge : ¬ (k : Int) < 6 := by omega
            clear hk6
            obtain ⟨d12, d13⟩ := HCE.out _ hb
            have X1 := hid (HLA.out _ _ hb HOK.out)
            clear hb HOK
            go_wp2_with fail
            refine X1.out.mono ?_
            rintro _ w3 ⟨l3, rfl, ho3, hb3⟩
            obtain ⟨d12, d13⟩ := HCE.out _ hb3
            have X2 := hid (HJO.out _ _ hb3 ho3)
            clear ho3 hb3 X1
            go_wp2_with fail
            refine X2.out.mono ?_
            rintro _ w4 ⟨l4, rfl, ho4, hb4⟩
            have HO4 := hid ho4
            have HB4 := hid hb4
            clear ho4 hb4 X2
            go_wp2_with fail
            refine bodyPost_ret (results_tmp2 Try.results42 _ _ _) rfl ?_
            exact ⟨_, rfl, HO4.out.mono HB1.out.size, HB1.out.trans (HB4.out.mono HB1.out.size)⟩
  · have HE := hid (bf_bad (f := f) (e := Tn.tyE f.ty) hbe ht)
    generalize frCells f (.slice ab nb capb) = fr at *
    generalize Tn.tyE f.ty = E at *
    have q1 : (E == 0) = false := by simp [ht]
    have q2 : (E != 0) = true := by simp [ht]
    clear hw1 hs1 hb1 hvb hr1 hbe
    go_enter Try.func42, Try.ntmps42
    go_upto_region 1 with fail
    rw [← HW1.out]
    go_wp2_with fail
    refine (HTY.out _).mono ?_
    rintro _ wy ⟨rfl, hwy⟩
    subst hwy
    go_wp2_with fail
    refine bodyPost_ret (results_tmp2 Try.results42 _ _ _) rfl ?_
    rw [HE.out.1, HE.out.2]
    exact ⟨.slice none 0 0, rfl, ownB_nil _ _, HB1.out⟩

end Go.Proofs.Ytcelcnafcfefhab.N

/-
  weftref7: BuildFrame, ParseFrame.
-/
namespace Go.Proofs.Ytcelcnafcfefhab.N
open Go.ChangeShapes Go.WideShapes Go.ChangeAt Go.RowKit
set_option maxHeartbeats 8000000
set_option maxRecDepth 100000

/-- The first k bytes of a list, and zeros behind. -/
def mixk (A : List Nat) (k : Nat) : List Nat := A.take k ++ List.replicate (6 - k) 0
theorem mixk_len {A : List Nat} (hA : A.length = 6) {k : Nat} (hk : k ≤ 6) : (mixk A k).length = 6 := by
  unfold mixk
  rw [List.length_append, List.length_take, List.length_replicate]
  omega
theorem mixk_set {A : List Nat} (hA : A.length = 6) {k : Nat} (hk : k < 6) : (mixk A k).set k (A.getD k 0) = mixk A (k + 1) := by
  unfold mixk
  have hk' : k < A.length := by omega
  have hl : (A.take k).length = k := by rw [List.length_take]; omega
  rw [List.set_append_right _ _ (by omega), hl, Nat.sub_self, show 6 - k = (6 - (k + 1)) + 1 by omega, List.replicate_succ, List.set_cons_zero, List.take_succ_eq_append_getElem hk', List.append_assoc]
  simp [hk']
theorem mixk_six {A : List Nat} (hA : A.length = 6) : mixk A 6 = A := by
  unfold mixk
  rw [List.take_of_length_le (by omega)]
  simp

theorem frc_setD {D S : List Nat} (hD : D.length = 6) (ty : Nat) (v : Value) (k x : Nat) (hk : k < 6) : (frc D S ty v).toArray.setIfInBounds k (.int .u8 (x : Int)) = (frc (D.set k x) S ty v).toArray := by
  unfold frc
  apply Array.toList_inj.1
  rw [Array.toList_setIfInBounds]
  show (bs D ++ _).set k _ = bs (D.set k x) ++ _
  rw [List.set_append_left _ _ (by rw [bs_len, hD]; exact hk)]
  simp [bs, List.map_set]
theorem frc_setS {D S : List Nat} (hD : D.length = 6) (hS : S.length = 6) (ty : Nat) (v : Value) (k x : Nat) (hk : k < 6) : (frc D S ty v).toArray.setIfInBounds (6 + k) (.int .u8 (x : Int)) = (frc D (S.set k x) ty v).toArray := by
  unfold frc
  apply Array.toList_inj.1
  rw [Array.toList_setIfInBounds]
  show (bs D ++ (bs S ++ _)).set (6 + k) _ = bs D ++ (bs (S.set k x) ++ _)
  rw [List.set_append_right _ _ (by rw [bs_len, hD]; omega), bs_len, hD, Nat.add_sub_cancel_left, List.set_append_left _ _ (by rw [bs_len, hS]; exact hk)]
  simp [bs, List.map_set]

theorem parseFR_any (v : Value) (L : List Nat) (w : World) (hv : SeesB w v L) :
    Calls Try.prog 54 #[v] w fun e w' => ∃ ao n cap, e = .returned (.tuple #[.agg (frCells (Tn.pfF L) (.slice ao n cap)), .int .i64 (Tn.pfE L)]) ∧ SeesB w' (.slice ao n cap) (Tn.pfF L).B ∧ (∀ a, ao = some a → w.heap.size ≤ a.block) ∧ Below w.heap.size w w' := by
  obtain ⟨w1, hw1⟩ : ∃ w1, w1 = w.alloc (.cells zeroF 31) := ⟨_, rfl⟩
  have hs1 : w1.heap.size = w.heap.size + 1 := by rw [hw1]; simp
  have hb1 : Below w.heap.size w w1 := by rw [hw1]; exact (Below.refl _ _).alloc (Nat.le_refl _) _
  have hr1 : w1.heap[w.heap.size]? = some (.cells zeroF 31 (0, 0)) := by rw [hw1]; exact heap_alloc_new w _
  obtain ⟨ao, n, cap, rfl, HN, hn1, hn2⟩ := hv.shape
  unfold maxLen at hn2
  have HV1 := hid (hv.below hb1)
  have HBY := hid hv.bytes
  have HI : Hid (∀ zz : Array Value, zz.size = 14 → (Try.prog.info? 31).map (·.size) = some zz.size) := fun zz hz => by rw [hz]; kernel_rfl
  have HCE : Hid (∀ (zz : Array Value) (u : World), zz.size = 14 → Below w1.heap.size w1 u → u.there w.heap.size 0 zz.size ∧ (loadVar 31 ⟨w.heap.size, 0, none⟩).run Try.prog (u.setCells w.heap.size 0 zz.toList) = .ok (.agg zz) (u.setCells w.heap.size 0 zz.toList)) := fun zz u hz hb =>
    cell_end hr1 hb (by rw [hz]; rfl) Try.underlying31 rfl (HI.out zz hz)
  have HBW : Hid (∀ u, Below w1.heap.size w1 u → Below w.heap.size w u) := fun u hu => hb1.trans (hu.mono hb1.size)
  have HBF0 : Hid (∀ (zz : Array Value) (u : World), Below w1.heap.size w1 u → Below w.heap.size w (u.setCells w.heap.size 0 zz.toList)) := fun zz u hu => below_setCells' (Nat.le_refl _) _ _ _ (HBW.out u hu)
  have HW1 : Hid (w1 = w.alloc (.cells zeroF 31)) := hw1
  unfold zeroF at HW1
  obtain ⟨zz, hzz⟩ : ∃ zz : Array Value, zz = zeroF := ⟨_, rfl⟩
  have HZ := hid hzz
  unfold zeroF at HZ
  have HZS : Hid (zz.size = 14) := by unfold Hid; rw [hzz]; rfl
  have HONE : Hid (zz.all (·.oneCell') = true) := by unfold Hid; rw [hzz]; simp [zeroF, Value.oneCell']
  have HZC : Hid (zz = frCells Tn.noneF (.slice none 0 0)) := hzz
  have HINF := hid (HI.out zz HZS.out)
  have HS1 := hid hs1
  clear hzz hw1 hs1 hb1 hr1 hv
  by_cases hA : 65499 < n
  · have HE := hid (pf_bad (L := L) (e := 2) (by unfold Tn.pfE; rw [if_pos (by have := HN.out; omega)]) (by decide))
    have hA' : (65499 : Int) < (n : Int) := by omega
    go_enter Try.func54, Try.ntmps54
    go_upto_region 1 with fail
    rw [← HW1.out]
    obtain ⟨q1, q2⟩ := HCE.out zz w1 HZS.out (Below.refl _ _)
    have HTU := hid q1
    have HLV := hid q2
    have HBF := hid (HBF0.out zz w1 (Below.refl _ _))
    clear q1 q2
    go_wp2_with (first
      | (refine wpList_store_mid rfl 31 (.tmp 2) (.tmp 11) rfl w.heap.size 0 zz rfl (by rw [HZ.out]; rfl) HTU.out HINF.out HONE.out ?_)
      | fail)
    generalize w1.setCells w.heap.size 0 zz.toList = wf at HLV HBF ⊢
    refine bodyPost_ret (v := .tuple #[.agg zz, .int .i64 2]) (by simp [results, Try.results54, asAddr, HLV.out]) rfl ?_
    rw [HE.out.1, HE.out.2]
    exact ⟨none, 0, 0, by rw [HZC.out], sees_nil _, (fun a ha => by cases ha), HBF.out⟩
  have hA' : ¬ (65499 : Int) < (n : Int) := by omega
  by_cases hB : n < 14
  · have HE := hid (pf_bad (L := L) (e := 70) (by unfold Tn.pfE; rw [if_neg (by have := HN.out; omega), if_pos (by have := HN.out; omega)]) (by decide))
    have hB' : (n : Int) < 14 := by omega
    go_enter Try.func54, Try.ntmps54
    go_upto_region 1 with fail
    rw [← HW1.out]
    obtain ⟨q1, q2⟩ := HCE.out zz w1 HZS.out (Below.refl _ _)
    have HTU := hid q1
    have HLV := hid q2
    have HBF := hid (HBF0.out zz w1 (Below.refl _ _))
    clear q1 q2
    go_wp2_with (first
      | (refine wpList_store_mid rfl 31 (.tmp 2) (.tmp 15) rfl w.heap.size 0 zz rfl (by rw [HZ.out]; rfl) HTU.out HINF.out HONE.out ?_)
      | fail)
    generalize w1.setCells w.heap.size 0 zz.toList = wf at HLV HBF ⊢
    refine bodyPost_ret (v := .tuple #[.agg zz, .int .i64 70]) (by simp [results, Try.results54, asAddr, HLV.out]) rfl ?_
    rw [HE.out.1, HE.out.2]
    exact ⟨none, 0, 0, by rw [HZC.out], sees_nil _, (fun a ha => by cases ha), HBF.out⟩
  have hB' : ¬ (n : Int) < 14 := by omega
  have XR : Hid (Calls Try.prog 55 #[.slice ao n cap, .int .i64 12, .int .i64 2] w1 fun e w' => e = .returned (.int .i64 ((Tn.num2 L 12 : Nat) : Int)) ∧ Below w1.heap.size w1 w') := by
    have := numberR_any _ L 12 2 w1 HV1.out (by omega) (by have := HN.out; omega)
    rw [numN_two] at this
    exact this
  have hpe : Tn.pfE L = Tn.tyE (Tn.num2 L 12) := by
    unfold Tn.pfE
    rw [if_neg (by have := HN.out; omega), if_neg (by have := HN.out; omega)]
  have hty16 : Tn.num2 L 12 < 65536 := by
    rw [num2_byt]
    have h1 := byt_lt HBY.out 12
    have h2 := byt_lt HBY.out (12 + 1)
    omega
  have HPD : Hid (Tn.pfE L = 0 → Tn.pfF L = ⟨L.take 6, (L.drop 6).take 6, Tn.num2 L 12, L.drop 14⟩) := fun h => by unfold Tn.pfF; rw [if_pos h]
  obtain ⟨ty, hty⟩ : ∃ ty, ty = Tn.num2 L 12 := ⟨_, rfl⟩
  rw [← hty] at XR hpe hty16 HPD
  have HCT := hid (fun u => typedR_any ty u hty16)
  by_cases ht : Tn.tyE ty = 0
  · rw [ht] at HCT hpe
    have HPE2 := hid hpe
    have HD := hid (HPD.out hpe)
    have HJO : Hid (∀ u, Below w1.heap.size w1 u → Calls Try.prog 44 #[.slice none 0 0, .slice ao n cap, .int .i64 14, .int .i64 (n : Int)] u fun e w' => ∃ a2 n2 c2, e = .returned (.slice a2 n2 c2) ∧ SeesB w' (.slice a2 n2 c2) (L.drop 14) ∧ (∀ a, a2 = some a → u.heap.size ≤ a.block) ∧ Below u.heap.size u w') := fun u hu => by
      have := joinedR_any (.slice none 0 0) _ [] L 14 n u u (Below.refl _ _) (ownB_nil _ _) (HV1.out.below hu) (by omega) (by have := HN.out; omega) (by simp; omega)
      rw [List.take_of_length_le (by have := HN.out; omega), List.nil_append] at this
      refine this.mono ?_
      rintro e w' ⟨l', rfl, ho, hb⟩
      have hsee := ho.sees (fun x hx => HBY.out x (List.mem_of_mem_drop hx))
      obtain ⟨a2, n2, c2, rfl, _, _, _⟩ := hsee.shape
      exact ⟨a2, n2, c2, rfl, hsee, ho.new, hb⟩
    have hl6 : (L.take 6).length = 6 := by rw [List.length_take, ← HN.out]; omega
    have hl12 : ((L.drop 6).take 6).length = 6 := by rw [List.length_take, List.length_drop, ← HN.out]; omega
    have hgd : ∀ k, k < 6 → (L.take 6).getD k 0 = byt L k ∧ ((L.drop 6).take 6).getD k 0 = byt L (6 + k) := fun k hk => by
      unfold byt
      refine ⟨?_, ?_⟩
      · rw [List.getD_eq_getElem?_getD, List.getD_eq_getElem?_getD, List.getElem?_take_of_lt hk]
      · rw [List.getD_eq_getElem?_getD, List.getD_eq_getElem?_getD, List.getElem?_take_of_lt hk, List.getElem?_drop]
    have HGD := hid hgd
    have HL := hid (And.intro hl6 hl12)
    generalize L.take 6 = DD at *
    generalize (L.drop 6).take 6 = SS at *
    clear hpe hl6 hl12 hgd hty HPD
    go_enter Try.func54, Try.ntmps54
    go_upto_region 1 with fail
    rw [← HW1.out]
    go_wp2_with fail
    refine XR.out.mono ?_
    rintro _ w2 ⟨rfl, hb2⟩
    have HB2 := hid hb2
    clear hb2 XR
    go_wp2_with fail
    refine (HCT.out _).mono ?_
    rintro _ wz ⟨rfl, hwz⟩
    subst hwz
    have XJ := hid (HJO.out _ HB2.out)
    clear HJO
    go_wp2_with fail
    refine XJ.out.mono ?_
    rintro _ w3 ⟨a3, n3, c3, rfl, hs3, hn3, hb3⟩
    have hb13 := HB2.out.trans (hb3.mono HB2.out.size)
    obtain ⟨p, hp⟩ : ∃ p, p = w3.heap.size := ⟨_, rfl⟩
    obtain ⟨pa, hpa⟩ : ∃ pa : Array Value, pa = (frc (mixk DD 0) (mixk SS 0) ty (.slice a3 n3 c3)).toArray := ⟨_, rfl⟩
    have HPA : Hid (pa = #[.int .u8 0, .int .u8 0, .int .u8 0, .int .u8 0, .int .u8 0, .int .u8 0, .int .u8 0, .int .u8 0, .int .u8 0, .int .u8 0, .int .u8 0, .int .u8 0, .int .u16 (ty : Int), .slice a3 n3 c3]) := hpa
    have hps : pa.size = 14 := by rw [hpa]; rfl
    have HPI := hid (HI.out pa hps)
    have HPO : Hid (pa.all (·.oneCell') = true) := by unfold Hid; rw [hpa]; exact frc_one
    have hrp : (w3.alloc (.cells zeroF 31)).heap[p]? = some (.cells zeroF 31 (0, 0)) := by rw [hp]; exact heap_alloc_new w3 _
    have HTP : Hid ((w3.alloc (.cells zeroF 31)).there p 0 pa.size) := there_blk hrp (by rw [hps]; rfl)
    obtain ⟨w4, hw4⟩ : ∃ w4, w4 = (w3.alloc (.cells zeroF 31)).setCells p 0 pa.toList := ⟨_, rfl⟩
    have hr4 : w4.heap[p]? = some (.cells (frc (mixk DD 0) (mixk SS 0) ty (.slice a3 n3 c3)).toArray 31 (0, 0)) := by rw [hw4, ← hpa]; exact row_put hrp (by rw [hps]; rfl)
    have hb34 : Below w3.heap.size w3 w4 := by rw [hw4]; exact below_setCells' (by omega) _ _ _ ((Below.refl _ _).alloc (Nat.le_refl _) _)
    have HW4 := hid hw4
    unfold zeroF at HW4 HTP
    have HP := hid hp
    have HB34 : Hid (Below p w3 w4) := by unfold Hid; rw [hp]; exact hb34
    have HR4 := hid hr4
    have HS3 := hid hs3
    have HB13 := hid hb13
    have HPW : Hid (w1.heap.size ≤ p) := by unfold Hid; rw [hp]; exact hb13.size
    have HN3 : Hid (∀ a, a3 = some a → w.heap.size < a.block) := fun a ha => by have h1 := hn3 a ha; have h2 := HB2.out.size; have h3 := HS1.out; omega
    have HVK : Hid (∀ (j : Nat) (u : World), j < n → Below p w3 u → ∃ g off, ao = some ⟨g, off, none⟩ ∧ byt L j < 256 ∧ u.cell? ⟨g, off + j, none⟩ = some (.int .u8 ((byt L j : Nat) : Int)) ∧ g < p) := fun j u hj hu => by
      obtain ⟨g, off, h1, h2, h3⟩ := (HV1.out.below hb13).atB j hj
      have hg : g < p := by rw [hp]; exact h2
      exact ⟨g, off, h1, byt_lt HBY.out j, (hu.cell (p := ⟨g, off + j, none⟩) hg).trans h3, hg⟩
    clear hw4 hpa hps hrp hb34 hr4 hp hs3 hn3 hb3 hb13 XJ
    go_upto_region 10 with (first
      | (rw [← HP.out]; refine wpList_store_mid rfl 31 (.tmp 6) (.tmp 30) rfl p 0 pa rfl (by rw [HPA.out]; rfl) HTP.out HPI.out HPO.out ?_; rw [← HW4.out])
      | fail)
    simp only [Act.put]
    go_wp2_with fail
    go_loopw [7] (fun i wv => ∃ (k : Nat) (wr : World), i = .int .i64 (k : Int) ∧ k ≤ 6 ∧ wr = wv ∧ Hid (wr.heap[p]? = some (.cells (frc (mixk DD k) (mixk SS k) ty (.slice a3 n3 c3)).toArray 31 (0, 0)) ∧ Below p w3 wr)) (fun i _ => 6 - (intOf i).toNat)
    case atStart => exact ⟨0, _, rfl, by omega, rfl, HR4.out, HB34.out⟩
    case round =>
      obtain ⟨k, wr, rfl, hk, rfl, HRK⟩ := hrel
      obtain ⟨hrk, hbk⟩ := HRK.out
      by_cases hlt : k < 6
      · obtain ⟨g, off, rfl, hx, hcx, hg⟩ := HVK.out k wr (by omega) hbk
        have hmD := mixk_len HL.out.1 hk
        have hmS := mixk_len HL.out.2 hk
        have c0 := cell_fr hrk k
        rw [frc_dst hmD ty _ k hlt, bs_get (by rw [hmD]; exact hlt)] at c0
        have z0 : wr.frozen? ⟨p, k, none⟩ = false := frozen_of_row _ _ _ _ _ hrk
        obtain ⟨wa, hwa⟩ : ∃ wa, wa = wr.setCell ⟨p, k, none⟩ (.int .u8 ((byt L k : Nat) : Int)) := ⟨_, rfl⟩
        obtain ⟨wn, hwn⟩ : ∃ wn, wn = wa.setCell ⟨p, 6 + k, none⟩ (.int .u8 ((byt L (6 + k) : Nat) : Int)) := ⟨_, rfl⟩
        have hra : wa.heap[p]? = some (.cells (frc (mixk DD (k + 1)) (mixk SS k) ty (.slice a3 n3 c3)).toArray 31 (0, 0)) := by
          rw [hwa]
          have h1 := heap_setCell_row (o := k) hrk (.int .u8 ((byt L k : Nat) : Int))
          rw [frc_setD hmD ty _ k _ hlt, ← (HGD.out k hlt).1, mixk_set HL.out.1 hlt] at h1
          rw [(HGD.out k hlt).1] at h1
          exact h1
        have hmD1 := mixk_len HL.out.1 (show k + 1 ≤ 6 by omega)
        have hrn : wn.heap[p]? = some (.cells (frc (mixk DD (k + 1)) (mixk SS (k + 1)) ty (.slice a3 n3 c3)).toArray 31 (0, 0)) := by
          rw [hwn]
          have h2 := heap_setCell_row (o := 6 + k) hra (.int .u8 ((byt L (6 + k) : Nat) : Int))
          rw [frc_setS hmD1 hmS ty _ k _ hlt, ← (HGD.out k hlt).2, mixk_set HL.out.2 hlt] at h2
          rw [(HGD.out k hlt).2] at h2
          exact h2
        have hba : Below p w3 wa := by rw [hwa]; exact hbk.setCell (p := ⟨p, k, none⟩) (Nat.le_refl _) _
        have hbn : Below p w3 wn := by rw [hwn]; exact hba.setCell (p := ⟨p, 6 + k, none⟩) (Nat.le_refl _) _
        obtain ⟨g2, off2, he, _, hcy, _⟩ := HVK.out (6 + k) wa (by omega) hba
        simp at he
        obtain ⟨rfl, rfl⟩ := he
        have c6 := cell_fr hra (6 + k)
        rw [frc_src hmD1 hmS ty _ k hlt, bs_get (by rw [hmS]; exact hlt)] at c6
        have z6 : wa.frozen? ⟨p, 6 + k, none⟩ = false := frozen_of_row _ _ _ _ _ hra
        obtain ⟨m, hm⟩ : ∃ m, m = 6 + k := ⟨_, rfl⟩
        have hcm : wa.cell? ⟨g, off + m, none⟩ = some (.int .u8 ((byt L (6 + k) : Nat) : Int)) := by rw [hm]; exact hcy
        clear hcy
        have HNX := hid (And.intro hrn hbn)
        have HWN := hid hwn
        have HWA := hid hwa
        have hy256 := byt_lt HBY.out (6 + k)
        generalize byt L k = xk at *
        generalize byt L (6 + k) = yk at *
        generalize ((mixk DD k)[k]'_ : Nat) = ok at c0
        generalize ((mixk SS k)[k]'_ : Nat) = sk at c6
        have b0 : (k : Int) < 6 := by omega
        have b1 : (0 : Int) ≤ (k : Int) := by omega
        have b2 : (k : Int) < (n : Int) := by omega
        have b3 : (m : Int) < (n : Int) := by omega
        have b4 : (0 : Int) ≤ (m : Int) := by omega
        have e6 : (6 : Int) + (k : Int) = (m : Int) := by omega
        have HM := hid hm
        clear hrn hbn hwn hrk hbk hmD hmS hm hra hba hwa hmD1
        go_upto_region 14 with fail
        rw [← HWA.out]
        go_wp2_with fail
        go_roundw
        case rel => exact ⟨k + 1, wn, by go_num, by omega, by rw [HWN.out], HNX⟩
        case measure => simp [intOf]; omega
      · have hk6 : k = 6 := by omega
        rw [hk6, mixk_six HL.out.1, mixk_six HL.out.2] at hrk
        have hge : ¬ (k : Int) < 6 := by omega
        clear hk6
        obtain ⟨yy, hyy⟩ : ∃ yy : Array Value, yy = (frc DD SS ty (.slice a3 n3 c3)).toArray := ⟨_, rfl⟩
        rw [← hyy] at hrk
        have HYS : Hid (yy.size = 14) := by unfold Hid; rw [hyy]; simp only [List.size_toArray]; exact frc_len HL.out.1 HL.out.2 _ _
        have HYI := hid (HI.out yy HYS.out)
        have HYO : Hid (yy.all (·.oneCell') = true) := by unfold Hid; rw [hyy]; exact frc_one
        have HL6 : Hid ((Instr.loadAt 31 (.pointer (some ⟨p, 0, none⟩))).run Try.prog wr = .ok (.agg yy) wr) := load_rowAt hrk Try.underlying31 rfl HYI.out
        have hb1r : Below w1.heap.size w1 wr := HB13.out.trans (hbk.mono HPW.out)
        obtain ⟨q1, q2⟩ := HCE.out yy wr HYS.out hb1r
        have HTU := hid q1
        have HLV := hid q2
        have HBF := hid (HBF0.out yy wr hb1r)
        have hsr : SeesB wr (.slice a3 n3 c3) (L.drop 14) := HS3.out.below (by rw [← HP.out]; exact hbk)
        have HSF := hid (sees_set' (b := w.heap.size) (vs := yy.toList) hsr (fun a ha => by have := HN3.out a ha; omega))
        have HYY := hid hyy
        clear hyy hrk hbk q1 q2 hsr hb1r HRK
        go_wp2_with (first
          | (refine wpList_ld 31 ⟨p, 0, none⟩ _ rfl rfl HL6.out rfl ?_)
          | (refine wpList_store_mid rfl 31 (.tmp 2) (.tmp 50) rfl w.heap.size 0 yy rfl rfl HTU.out HYI.out HYO.out ?_)
          | fail)
        generalize wr.setCells w.heap.size 0 yy.toList = wf at HLV HBF HSF ⊢
        refine bodyPost_ret (v := .tuple #[.agg yy, .int .i64 0]) (by simp [results, Try.results54, asAddr, HLV.out]) rfl ?_
        rw [HPE2.out, HD.out]
        exact ⟨_, _, _, by rw [HYY.out]; rfl, HSF.out, (fun a ha => Nat.le_of_lt (HN3.out a ha)), HBF.out⟩
  · have HE := hid (pf_bad hpe ht)
    generalize Tn.tyE ty = E at *
    have r1 : (E == 0) = false := by simp [ht]
    have r2 : (E != 0) = true := by simp [ht]
    clear hpe hty HPD
    go_enter Try.func54, Try.ntmps54
    go_upto_region 1 with fail
    rw [← HW1.out]
    go_wp2_with fail
    refine XR.out.mono ?_
    rintro _ w2 ⟨rfl, hb2⟩
    have HB2 := hid hb2
    clear hb2
    go_wp2_with fail
    refine (HCT.out _).mono ?_
    rintro _ wz ⟨rfl, hwz⟩
    subst hwz
    obtain ⟨q1, q2⟩ := HCE.out zz wz HZS.out HB2.out
    have HTU := hid q1
    have HLV := hid q2
    have HBF := hid (HBF0.out zz wz HB2.out)
    clear q1 q2
    go_wp2_with (first
      | (refine wpList_store_mid rfl 31 (.tmp 2) (.tmp 22) rfl w.heap.size 0 zz rfl (by rw [HZ.out]; rfl) HTU.out HINF.out HONE.out ?_)
      | fail)
    generalize wz.setCells w.heap.size 0 zz.toList = wf at HLV HBF ⊢
    refine bodyPost_ret (v := .tuple #[.agg zz, .int .i64 E]) (by simp [results, Try.results54, asAddr, HLV.out]) rfl ?_
    rw [HE.out.1, HE.out.2]
    exact ⟨none, 0, 0, by rw [HZC.out], sees_nil _, (fun a ha => by cases ha), HBF.out⟩
end Go.Proofs.Ytcelcnafcfefhab.N

/-
  weftlaw7.frames.
-/
namespace Go.Proofs.Ytcelcnafcfefhab.N
open Go.ChangeShapes Go.WideShapes Go.ChangeAt Go.RowKit
set_option maxHeartbeats 8000000
set_option maxRecDepth 100000

theorem pfF_ok {L : List Nat} (hb : ∀ x ∈ L, x < 256) : (Tn.pfF L).Ok := by
  unfold Tn.pfF
  split
  · rename_i h
    have h14 : 14 ≤ L.length := by
      unfold Tn.pfE at h
      split at h
      · cases h
      · split at h
        · cases h
        · omega
    refine ⟨by rw [List.length_take]; omega, by rw [List.length_take, List.length_drop]; omega, ?_⟩
    show Tn.num2 L 12 < 65536
    rw [num2_byt]
    have h1 := byt_lt hb 12
    have h2 := byt_lt hb (12 + 1)
    omega
  · exact ⟨rfl, rfl, by decide⟩

theorem frCells_size {f : Tn.Fr} (h : f.Ok) (v : Value) : (frCells f v).size = 14 := by
  unfold frCells
  simp only [List.size_toArray]
  exact frc_len h.dst h.src _ _

theorem frames_any (vr : Value) (L : List Nat) (f : Tn.Fr) (vb : Value) (w : World) (hvr : SeesB w vr L) (hf : FrB f) (hvb : SeesB w vb f.B) (hlr : L.length ≤ 140737488351232) (hlb : f.B.length ≤ 140737488351232) :
    Calls Try.prog 56 #[vr, .agg (frCells f vb)] w fun e w' => e = .returned (.bool true) ∧ Below w.heap.size w w' := by
  obtain ⟨ar, nr, capr, rfl, HNR, hnr1, hnr2⟩ := hvr.shape
  obtain ⟨ab, nb, capb, rfl, HNB, hnb1, hnb2⟩ := hvb.shape
  unfold maxLen at hnr2 hnb2
  obtain ⟨fr, hfr⟩ : ∃ fr, fr = frCells f (.slice ab nb capb) := ⟨_, rfl⟩
  obtain ⟨w1, hw1⟩ : ∃ w1, w1 = w.alloc (.cells fr 31) := ⟨_, rfl⟩
  have hs1 : w1.heap.size = w.heap.size + 1 := by rw [hw1]; simp
  have hb1 : Below w.heap.size w w1 := by rw [hw1]; exact (Below.refl _ _).alloc (Nat.le_refl _) _
  have hr1 : w1.heap[w.heap.size]? = some (.cells fr 31 (0, 0)) := by rw [hw1]; exact heap_alloc_new w _
  have HI : Hid (∀ zz : Array Value, zz.size = 14 → (Try.prog.info? 31).map (·.size) = some zz.size) := fun zz hz => by rw [hz]; kernel_rfl
  have HfrS : Hid (fr.size = 14) := by unfold Hid; rw [hfr]; exact frCells_size hf.ok _
  have HfrO : Hid (fr.all (·.oneCell') = true) := by unfold Hid; rw [hfr]; exact frc_one
  have HLD : Hid (∀ u, Below w1.heap.size w1 u → (Instr.loadAt 31 (.pointer (some ⟨w.heap.size, 0, none⟩))).run Try.prog u = .ok (.agg fr) u) := fun u hu => load_rowAt ((hu.block _ (by omega)).trans hr1) Try.underlying31 rfl (HI.out fr HfrS.out)
  have HC13 : Hid (∀ u, Below w1.heap.size w1 u → u.cell? ⟨w.heap.size, 13, none⟩ = some (.slice ab nb capb)) := fun u hu => (fr_at hf.ok (by rw [← hfr]; exact (hu.block _ (by omega)).trans hr1)).2
  have HVR := hid (hvr.below hb1)
  have HVB := hid (hvb.below hb1)
  have HBR := hid hvr.bytes
  have HBY := hid hvb.bytes
  have HLR := hid hlr
  have HLB := hid hlb
  have HF := hid hf
  have HFR := hid hfr
  have HW1 := hid hw1
  have HB1 := hid hb1
  have HRO := hid (roomy_any _ L w1 HVR.out hlr)
  have HPO := hid (pfF_ok HBR.out)
  rw [← hfr]
  clear hw1 hb1 hr1 hs1 hfr hvr hvb hlr hlb hf
  go_enter Try.func56, Try.ntmps56
  go_upto_region 1 with fail
  rw [← HW1.out]
  go_wp2_with fail
  refine HRO.out.mono ?_
  rintro _ w2 ⟨l2, rfl, ho2, hb2⟩
  have hbm : ∀ y ∈ L ++ mkN 70, y < 256 := fun y hy => (List.mem_append.1 hy).elim (HBR.out y) (mkN_bytes y)
  obtain ⟨ao, no, co, rfl, hsr, hsc, kcut⟩ := room_cut ho2 hbm
  rw [← HNR.out] at hsc kcut
  have HB2 := hid hb2
  have X2 := hid (parseF_any _ L w2 hsc)
  have HSR2 := hid hsr
  clear hb2 hsc hsr ho2 hbm HRO
  go_wp2_with fail
  refine X2.out.mono ?_
  rintro _ w3 ⟨a3, n3, c3, rfl, hs3, _, hb3⟩
  obtain ⟨xx, hxx⟩ : ∃ xx, xx = frCells (Tn.pfF L) (.slice a3 n3 c3) := ⟨_, rfl⟩
  have HxxS : Hid (xx.size = 14) := by unfold Hid; rw [hxx]; exact frCells_size HPO.out _
  have HxxO : Hid (xx.all (·.oneCell') = true) := by unfold Hid; rw [hxx]; exact frc_one
  obtain ⟨p1, hp1⟩ : ∃ p1, p1 = w3.heap.size := ⟨_, rfl⟩
  obtain ⟨w4, hw4⟩ : ∃ w4, w4 = (w3.alloc (.cells zeroF 31)).setCells p1 0 xx.toList := ⟨_, rfl⟩
  have HI4 := hid (HI.out xx HxxS.out)
  have hrp4 : (w3.alloc (.cells zeroF 31)).heap[p1]? = some (.cells zeroF 31 (0, 0)) := by rw [hp1]; exact heap_alloc_new w3 _
  have HT4 : Hid ((w3.alloc (.cells zeroF 31)).there p1 0 xx.size) := there_blk hrp4 (by rw [HxxS.out]; rfl)
  have hr4 : w4.heap[p1]? = some (.cells xx 31 (0, 0)) := by rw [hw4]; exact row_put hrp4 (by rw [HxxS.out]; rfl)
  have hbn4 : Below w3.heap.size w3 w4 := by rw [hw4]; exact below_setCells' (by omega) _ _ _ ((Below.refl _ _).alloc (Nat.le_refl _) _)
  have Hw4 := hid hw4
  have HPp1 := hid hp1
  unfold zeroF at Hw4 HT4
  have hb24 : Below w2.heap.size w2 w4 := hb3.trans (hbn4.mono hb3.size)
  have HB24 := hid hb24
  have HB14 := hid (HB2.out.trans (hb24.mono HB2.out.size))
  have HS4 := hid (hs3.below hbn4)
  have HR4 := hid hr4
  have X4 := hid (parseFR_any _ L w4 (HVR.out.below HB14.out))
  rw [← hxx]
  have HXX := hid hxx
  clear hxx hp1 hw4 hrp4 hr4 hbn4 hb3 hb24 hs3 X2
  go_upto_region 3 with (first
    | (rw [← HPp1.out]; refine wpList_store_mid rfl 31 (.tmp 6) (.tmp 23) rfl p1 0 xx rfl rfl HT4.out HI4.out HxxO.out ?_; rw [← Hw4.out])
    | fail)
  go_wp2_with fail
  refine X4.out.mono ?_
  rintro _ w5 ⟨a5, n5, c5, rfl, hs5, _, hb5⟩
  obtain ⟨yy, hyy⟩ : ∃ yy, yy = frCells (Tn.pfF L) (.slice a5 n5 c5) := ⟨_, rfl⟩
  have HyyS : Hid (yy.size = 14) := by unfold Hid; rw [hyy]; exact frCells_size HPO.out _
  have HyyO : Hid (yy.all (·.oneCell') = true) := by unfold Hid; rw [hyy]; exact frc_one
  obtain ⟨p2, hp2⟩ : ∃ p2, p2 = w5.heap.size := ⟨_, rfl⟩
  obtain ⟨w6, hw6⟩ : ∃ w6, w6 = (w5.alloc (.cells zeroF 31)).setCells p2 0 yy.toList := ⟨_, rfl⟩
  have HI6 := hid (HI.out yy HyyS.out)
  have hrp6 : (w5.alloc (.cells zeroF 31)).heap[p2]? = some (.cells zeroF 31 (0, 0)) := by rw [hp2]; exact heap_alloc_new w5 _
  have HT6 : Hid ((w5.alloc (.cells zeroF 31)).there p2 0 yy.size) := there_blk hrp6 (by rw [HyyS.out]; rfl)
  have hr6 : w6.heap[p2]? = some (.cells yy 31 (0, 0)) := by rw [hw6]; exact row_put hrp6 (by rw [HyyS.out]; rfl)
  have hbn6 : Below w5.heap.size w5 w6 := by rw [hw6]; exact below_setCells' (by omega) _ _ _ ((Below.refl _ _).alloc (Nat.le_refl _) _)
  have Hw6 := hid hw6
  have HPp2 := hid hp2
  unfold zeroF at Hw6 HT6
  have hb46 : Below w4.heap.size w4 w6 := hb5.trans (hbn6.mono hb5.size)
  have HB26 := hid (HB24.out.trans (hb46.mono HB24.out.size))
  have HB16 := hid (HB2.out.trans (HB26.out.mono HB2.out.size))
  have HLX := hid (load_rowAt (T := 31) ((hb46.block p1 (Array.getElem?_eq_some_iff.1 HR4.out).1).trans HR4.out) Try.underlying31 rfl (HI.out xx HxxS.out))
  have HLY := hid (load_rowAt (T := 31) hr6 Try.underlying31 rfl (HI.out yy HyyS.out))
  have XS : Hid (Calls Try.prog 27 #[.agg xx, .agg yy] w6 fun e w' => e = .returned (.bool true) ∧ Below w6.heap.size w6 w') := by
    unfold Hid
    rw [HXX.out, hyy]
    exact sameFrame_self _ _ _ w6 HPO.out (HS4.out.below hb46) (hs5.below hbn6)
  have HKP : Hid (∀ u, Below w6.heap.size w6 u → Calls Try.prog 23 #[.slice ao no co, .slice ar nr capr] u fun e w' => e = .returned (.bool true) ∧ Below u.heap.size u w') := fun u hu => kept_any _ _ L u (HSR2.out.below (HB26.out.trans (hu.mono HB26.out.size))) (HVR.out.below (HB16.out.trans (hu.mono HB16.out.size))) HLR.out
  rw [← hyy]
  generalize Tn.pfE L = E at *
  clear hyy hp2 hw6 hrp6 hr6 hbn6 hb5 hb46 hs5 X4 kcut
  go_upto_region 4 with (first
    | (rw [← HPp2.out]; refine wpList_store_mid rfl 31 (.tmp 8) (.tmp 28) rfl p2 0 yy rfl rfl HT6.out HI6.out HyyO.out ?_; rw [← Hw6.out])
    | fail)
  go_wp2_with (first
    | (refine wpList_ld 31 ⟨p1, 0, none⟩ (.tmp 6) rfl rfl HLX.out rfl ?_)
    | (refine wpList_ld 31 ⟨p2, 0, none⟩ (.tmp 8) rfl rfl HLY.out rfl ?_)
    | fail)
  refine XS.out.mono ?_
  rintro _ w7 ⟨rfl, hb7⟩
  have X7 := hid (HKP.out w7 hb7)
  have HB67 := hid hb7
  clear hb7 XS HKP HLX HLY
  go_wp2_with fail
  refine X7.out.mono ?_
  rintro _ w8 ⟨rfl, hb8⟩
  have HB68 := hid (HB67.out.trans (hb8.mono HB67.out.size))
  have HB18 := hid (HB16.out.trans (HB68.out.mono HB16.out.size))
  have d13 := HC13.out w8 HB18.out
  have X8 := hid (roomy_any _ f.B w8 (HVB.out.below HB18.out) HLB.out)
  clear hb8 X7 HB67 HB68 HR4 HS4 HB24 HB26 HB14 HB16 HSR2
  as_aux_lemma =>
  go_wp2_with fail
  refine X8.out.mono ?_
  rintro _ w9 ⟨l9, rfl, ho9, hb9⟩
  have hbm : ∀ y ∈ f.B ++ mkN 70, y < 256 := fun y hy => (List.mem_append.1 hy).elim (HBY.out y) (mkN_bytes y)
  obtain ⟨ap, np, cp, rfl, hsr, hsc, kcut⟩ := room_cut ho9 hbm
  rw [← HNB.out] at hsc kcut
  have HB19 := hid (HB18.out.trans (hb9.mono HB18.out.size))
  have HL9 := hid (HLD.out w9 HB19.out)
  obtain ⟨p3, hp3⟩ : ∃ p3, p3 = w9.heap.size := ⟨_, rfl⟩
  obtain ⟨w10, hw10⟩ : ∃ w10, w10 = (w9.alloc (.cells zeroF 31)).setCells p3 0 fr.toList := ⟨_, rfl⟩
  have HI10 := hid (HI.out fr HfrS.out)
  have hrp10 : (w9.alloc (.cells zeroF 31)).heap[p3]? = some (.cells zeroF 31 (0, 0)) := by rw [hp3]; exact heap_alloc_new w9 _
  have HT10 : Hid ((w9.alloc (.cells zeroF 31)).there p3 0 fr.size) := there_blk hrp10 (by rw [HfrS.out]; rfl)
  have hr10 : w10.heap[p3]? = some (.cells fr 31 (0, 0)) := by rw [hw10]; exact row_put hrp10 (by rw [HfrS.out]; rfl)
  have hbn10 : Below w9.heap.size w9 w10 := by rw [hw10]; exact below_setCells' (by omega) _ _ _ ((Below.refl _ _).alloc (Nat.le_refl _) _)
  have Hw10 := hid hw10
  have HPp3 := hid hp3
  unfold zeroF at Hw10 HT10
  obtain ⟨w11, hw11⟩ : ∃ w11, w11 = w10.setCell ⟨p3, 13, none⟩ (.slice ap nb np) := ⟨_, rfl⟩
  obtain ⟨gg, hgg⟩ : ∃ gg, gg = frCells f (.slice ap nb np) := ⟨_, rfl⟩
  have hr11 : w11.heap[p3]? = some (.cells gg 31 (0, 0)) := by
    rw [hw11, hgg]
    unfold frCells
    rw [← frc_set HF.out.ok.dst HF.out.ok.src f.ty (.slice ab nb capb)]
    have h0 : w10.heap[p3]? = some (.cells (frc f.dst f.src f.ty (.slice ab nb capb)).toArray 31 (0, 0)) := by rw [hr10, HFR.out]; rfl
    exact heap_setCell_row h0 _
  have hggS : gg.size = 14 := by rw [hgg]; exact frCells_size HF.out.ok _
  have e13 : w10.cell? ⟨p3, 13, none⟩ = some (.slice ab nb capb) := (fr_at HF.out.ok (by rw [← HFR.out]; exact hr10)).2
  have z13 : w10.frozen? ⟨p3, 13, none⟩ = false := frozen_of_row _ _ _ _ _ hr10
  have hb911 : Below w9.heap.size w9 w11 := by rw [hw11]; exact hbn10.setCell (p := ⟨p3, 13, none⟩) (by show w9.heap.size ≤ p3; omega) _
  have HB110 := hid (HB19.out.trans (hbn10.mono HB19.out.size))
  have HB111 := hid (HB19.out.trans (hb911.mono HB19.out.size))
  have i13 := HC13.out w10 HB110.out
  have HL11 := hid (load_rowAt (T := 31) hr11 Try.underlying31 rfl (HI.out gg hggS))
  have X11 := hid (buildF_any f (.slice ap nb np) w11 HF.out (hsc.below hb911))
  rw [← hgg] at X11
  have HSR11 := hid (hsr.below hb911)
  have HW11 := hid hw11
  have hnp : nb ≤ np := by obtain ⟨_, _, hv, h1, _⟩ := hsc; simp at hv; omega
  clear hgg hw11 hr11 hggS hb911 hp3 hw10 hrp10 hr10 hbn10 hb9 hsc hsr ho9 hbm X8
  go_upto_region 8 with (first
    | (refine wpList_ld 31 ⟨w.heap.size, 0, none⟩ (.tmp 3) rfl rfl HL9.out rfl ?_)
    | (rw [← HPp3.out]; refine wpList_store_mid rfl 31 (.tmp 10) (.tmp 48) rfl p3 0 fr rfl rfl HT10.out HI10.out HfrO.out ?_; rw [← Hw10.out])
    | fail)
  simp only [Act.put]
  go_upto_region 9 with fail
  rw [← HW11.out]
  go_wp2_with (first
    | (refine wpList_ld 31 ⟨p3, 0, none⟩ (.tmp 10) rfl rfl HL11.out rfl ?_)
    | fail)
  refine X11.out.mono ?_
  rintro _ w12 ⟨s12, n12, t12, rfl, hs12, _, hb12⟩
  have HB112 := hid (HB111.out.trans (hb12.mono HB111.out.size))
  have HS12 := hid hs12
  have HSR12 := hid (HSR11.out.below hb12)
  have X12 := hid (buildFR_any f (.slice ab nb capb) w12 HF.out (HVB.out.below HB112.out))
  rw [← HFR.out] at X12
  have HL12 := hid (HLD.out w12 HB112.out)
  generalize Tn.bfE f = E2 at *
  generalize Tn.bfL f = BL at *
  clear hs12 hb12 X11 HL11 HL9 kcut e13 z13 i13 d13
  go_wp2_with (first
    | (refine wpList_ld 31 ⟨w.heap.size, 0, none⟩ (.tmp 3) rfl rfl HL12.out rfl ?_)
    | fail)
  refine X12.out.mono ?_
  rintro _ w13 ⟨v13, rfl, ho13, hb13⟩
  have hs13 := ho13.sees HS12.out.bytes
  obtain ⟨s13, n13, t13, rfl, _, _, _⟩ := hs13.shape
  have XS := hid (same_self _ _ _ w13 (HS12.out.below hb13) hs13)
  have HB1213 := hid hb13
  clear ho13 hs13 hb13 X12 HL12
  go_wp2_with fail
  refine XS.out.mono ?_
  rintro _ w14 ⟨rfl, hb14⟩
  have hb1214 := HB1213.out.trans (hb14.mono HB1213.out.size)
  have HB114 := hid (HB112.out.trans (hb1214.mono HB112.out.size))
  have j13 := HC13.out w14 HB114.out
  have X14 := hid (kept_any _ _ f.B w14 (HSR12.out.below hb1214) (HVB.out.below HB114.out) HLB.out)
  clear hb14 hb1214 XS
  go_wp2_with fail
  refine X14.out.mono ?_
  rintro _ w15 ⟨rfl, hb15⟩
  have HB115 := hid (HB114.out.trans (hb15.mono HB114.out.size))
  clear hb15 X14
  go_wp2_with fail
  go_ret
  exact ⟨rfl, HB1.out.trans (HB115.out.mono HB1.out.size)⟩
end Go.Proofs.Ytcelcnafcfefhab.N

/-
  TunnelFrames: frames that came in, opened; the walk.
-/
namespace Go.Proofs.Ytcelcnafcfefhab.N
open Go.ChangeShapes Go.WideShapes Go.ChangeAt Go.RowKit
set_option maxHeartbeats 4000000
set_option maxRecDepth 100000

theorem cells_mac : Try.prog.cellsOf 28 = 6 := by kernel_rfl
theorem und_mac : Try.prog.underlying 28 = some (.array 6 5) := by kernel_rfl
theorem cells_fr : Try.prog.cellsOf 31 = 14 := by kernel_rfl
theorem und_frs : Try.prog.underlying 53 = some (.slice 31) := by kernel_rfl
theorem und_raws : Try.prog.underlying 56 = some (.slice 29) := by kernel_rfl
theorem und_fr : ∃ f0 f1 f2 f3, Try.prog.underlying 31 = some (.struct #[f0, f1, f2, f3]) ∧ f0.type = 28 ∧ f0.offset = 0 ∧ f1.type = 28 ∧ f1.offset = 6 ∧ f2.type = 24 ∧ f2.offset = 12 ∧ f3.type = 29 ∧ f3.offset = 13 := ⟨_, _, _, _, Try.underlying31, rfl, rfl, rfl, rfl, rfl, rfl, rfl, rfl⟩

structure FrD where
  f : Tn.Fr
  vb : Value

def FrD.cells (o : FrD) : List Value := (frCells o.f o.vb).toList

structure FrD.Ok (o : FrD) (W : World) : Prop where
  f : FrB o.f
  vb : SeesB W o.vb o.f.B
  lb : o.f.B.length ≤ reachBytes

section
variable {H : Type} {enc : TypeId × Value → H} {W : World}

theorem open_mac {fuel : Nat} {cs : List Value} {x : DataW H × List MemPlace} (h : DataW.trod enc Try.prog W 0 (fun _ => true) true fuel 28 cs = some x) :
    ∃ D : List Nat, cs = bs D ∧ D.length = 6 ∧ ∀ y ∈ D, y < 256 := by
  obtain ⟨xs, m, _, _, hl, hxl, hf⟩ := DataW.trod_array und_mac h
  rw [cells_mac] at hl
  match xs, hxl with
  | [y0, y1, y2, y3, y4, y5], _ =>
    match cs, hl with
    | [c0, c1, c2, c3, c4, c5], _ =>
      have g0 := hf 0 (by omega)
      have g1 := hf 1 (by omega)
      have g2 := hf 2 (by omega)
      have g3 := hf 3 (by omega)
      have g4 := hf 4 (by omega)
      have g5 := hf 5 (by omega)
      rw [cell1_5] at g0 g1 g2 g3 g4 g5
      obtain ⟨z0, e0, _, w0⟩ := DataW.trod_int u5 g0
      obtain ⟨z1, e1, _, w1⟩ := DataW.trod_int u5 g1
      obtain ⟨z2, e2, _, w2⟩ := DataW.trod_int u5 g2
      obtain ⟨z3, e3, _, w3⟩ := DataW.trod_int u5 g3
      obtain ⟨z4, e4, _, w4⟩ := DataW.trod_int u5 g4
      obtain ⟨z5, e5, _, w5⟩ := DataW.trod_int u5 g5
      obtain ⟨a0, rfl, h0⟩ := wf_u8 w0
      obtain ⟨a1, rfl, h1⟩ := wf_u8 w1
      obtain ⟨a2, rfl, h2⟩ := wf_u8 w2
      obtain ⟨a3, rfl, h3⟩ := wf_u8 w3
      obtain ⟨a4, rfl, h4⟩ := wf_u8 w4
      obtain ⟨a5, rfl, h5⟩ := wf_u8 w5
      simp at e0 e1 e2 e3 e4 e5
      refine ⟨[a0, a1, a2, a3, a4, a5], by simp [bs, e0, e1, e2, e3, e4, e5], rfl, fun y hy => ?_⟩
      simp at hy
      omega

theorem open_fr {fuel : Nat} {cs : List Value} {x : DataW H × List MemPlace} (h : DataW.trod enc Try.prog W 0 (fun _ => true) true fuel 31 cs = some x) (hw : ∀ k ∈ x.1.weights Try.prog 31, k ≤ reachBytes) :
    ∃ o : FrD, cs = o.cells ∧ o.Ok W := by
  obtain ⟨f0, f1, f2, f3, hu, t0, o0, t1, o1, t2, o2, t3, o3⟩ := und_fr
  obtain ⟨xs, n, _, rfl, hl, hxl, hf⟩ := DataW.trod_struct hu h
  match xs, hxl with
  | [y0, y1, y2, y3], _ =>
    have g0 := hf 0 f0 rfl
    have g1 := hf 1 f1 rfl
    have g2 := hf 2 f2 rfl
    have g3 := hf 3 f3 rfl
    rw [t0, o0, cells_mac] at g0
    rw [t1, o1, cells_mac] at g1
    rw [t2, o2, cell1_u16] at g2
    rw [t3, o3, cell1_25] at g3
    rw [cells_fr] at hl
    obtain ⟨D, e0, hD, hDb⟩ := open_mac g0
    obtain ⟨S, e1, hS, hSb⟩ := open_mac g1
    obtain ⟨z2, e2, _, w2⟩ := DataW.trod_int und_u16 g2
    obtain ⟨ty, rfl, hty⟩ := wf_u16 w2
    obtain ⟨vm, B, e3, hs, hfit, _⟩ := open_bytes g3
    have w3 : B.length ≤ reachBytes := hfit.room fun k hk => hw k (by
      simp only [DataW.weights, hu]
      exact DataW.weights_mem_each (j := 3) (t := 29) (d := y3.1) (by simp [t3]) rfl _ hk)
    refine ⟨⟨⟨D, S, ty, B⟩, vm⟩, ?_, ⟨⟨⟨hD, hS, hty⟩, hDb, hSb⟩, hs, w3⟩⟩
    show cs = frc D S ty vm
    unfold frc
    rw [← e0, ← e1]
    match cs, hl with
    | [c0, c1, c2, c3, c4, c5, c6, c7, c8, c9, c10, c11, c12, c13], _ =>
      simp at e2 e3
      simp [e2, e3]

theorem open_frs {base : Nat} {v : Value} {d : DataW H} {ps : List MemPlace} (hval : Value.okWide Try.prog W .any base 53 v) (h : DataW.Trod enc Try.prog W 0 (fun _ => true) true 53 v d ps) (hw : ∀ x ∈ d.weights Try.prog 53, x ≤ reachBytes) :
    ∃ Os : List FrD, SeesR W v 14 (Os.map FrD.cells) ∧ ∀ o ∈ Os, o.Ok W := by
  obtain ⟨a0, len, cap, rfl⟩ := okWide_slice und_frs hval
  obtain ⟨fuel, hf⟩ := h
  rcases Go.Deep.open_slice und_frs hf with ⟨h1, _⟩ | ⟨a, len', cap', m, n, D, Pl, h1, _, hlc, hcm, hm, hxx, hx⟩
  · simp [Value.cells] at h1
    obtain ⟨rfl, rfl, rfl⟩ := h1
    exact ⟨[], ⟨none, 0, rfl, by simp, by unfold maxLen; omega, fun j hj => absurd hj (by simp)⟩, fun o ho => by cases ho⟩
  · simp [Value.cells] at h1
    obtain ⟨rfl, rfl, rfl⟩ := h1
    simp at hm
    subst hm
    simp only [Prod.mk.injEq] at hxx
    obtain ⟨rfl, _⟩ := hxx
    have key : ∀ i, i < len → ∃ o : FrD, o.Ok W ∧ ∀ j (hj : j < 14), W.cell? ((a.add (i * 14)).add j) = o.cells[j]? := by
      intro i hi
      obtain ⟨cs', k1, k2⟩ := hx i (by omega)
      rw [cells_fr] at k1
      obtain ⟨_, _, hc⟩ := World.cells?_some k1
      obtain ⟨o, ho, hok⟩ := open_fr k2 fun x hx' => hw x (by
        simp only [DataW.weights, und_frs, List.mem_cons, List.mem_append]
        exact .inr (.inl (weights_all (d := D i) (List.mem_map.2 ⟨i, by simpa using hi, rfl⟩) x hx')))
      refine ⟨o, hok, fun j hj => ?_⟩
      rw [hc j hj, ho]
    by_cases h0 : len = 0
    · subst h0
      exact ⟨[], ⟨some a, m, rfl, by simp, hcm, fun j hj => absurd hj (by simp)⟩, fun o ho => by cases ho⟩
    obtain ⟨c0, hc0, _⟩ := key 0 (by omega)
    obtain ⟨F, hF⟩ : ∃ F : Nat → FrD, ∀ i, i < len → (F i).Ok W ∧ ∀ j (hj : j < 14), W.cell? ((a.add (i * 14)).add j) = (F i).cells[j]? := by
      refine ⟨fun i => if h : i < len then (key i h).choose else c0, fun i hi => ?_⟩
      simp only [dif_pos hi]
      exact (key i hi).choose_spec
    have hsz : ∀ i, i < len → (F i).cells.length = 14 := fun i hi => by
      have := frCells_size (hF i hi).1.f.ok (F i).vb
      simpa [FrD.cells] using this
    obtain ⟨g, off, rfl, hg⟩ : ∃ g off, a = ⟨g, off, none⟩ ∧ g < W.heap.size := by
      have z0 := (hF 0 (by omega)).2 0 (by omega)
      have e : (a.add (0 * 14)).add 0 = a := by simp [Addr.add]
      rw [e, List.getElem?_eq_getElem (by rw [hsz 0 (by omega)]; omega)] at z0
      exact spot_none z0
    refine ⟨(List.range len).map F, ⟨some ⟨g, off, none⟩, m, by simp, by simpa using hlc, hcm, fun j hj => ?_⟩, fun o ho => ?_⟩
    · have hj' : j < len := by simpa using hj
      simp only [List.getElem_map, List.getElem_range]
      refine ⟨hsz j hj', g, off, rfl, hg, fun i v hv => ?_⟩
      have hi : i < 14 := by rw [← hsz j hj']; exact (List.getElem?_eq_some_iff.1 hv).1
      have hh := (hF j hj').2 i hi
      rw [Addr.add_mid, Addr.add_mid] at hh
      rw [hh, hv]
    · obtain ⟨i, hi, rfl⟩ := List.mem_map.1 ho
      exact (hF i (by simpa using hi)).1

theorem open_raws {base : Nat} {v : Value} {d : DataW H} {ps : List MemPlace} (hval : Value.okWide Try.prog W .any base 56 v) (h : DataW.Trod enc Try.prog W 0 (fun _ => true) true 56 v d ps) (hw : ∀ x ∈ d.weights Try.prog 56, x ≤ reachBytes) :
    ∃ Ls, SeesBB W v Ls ∧ ∀ l ∈ Ls, l.length ≤ reachBytes := by
  obtain ⟨a0, len, cap, rfl⟩ := okWide_slice und_raws hval
  obtain ⟨fuel, hf⟩ := h
  rcases Go.Deep.open_slice und_raws hf with ⟨h1, _⟩ | ⟨a, len', cap', m, n, D, Pl, h1, _, hlc, hcm, hm, hxx, hx⟩
  · simp [Value.cells] at h1
    obtain ⟨rfl, rfl, rfl⟩ := h1
    exact ⟨[], ⟨none, 0, rfl, by simp, by unfold maxLen; omega, fun j h => absurd h (by simp)⟩, fun l hl => by cases hl⟩
  · simp [Value.cells] at h1
    obtain ⟨rfl, rfl, rfl⟩ := h1
    simp at hm
    subst hm
    simp only [Prod.mk.injEq] at hxx
    obtain ⟨rfl, _⟩ := hxx
    have key : ∀ i, i < len → ∃ vl : Value × List Nat, vl.2.length ≤ reachBytes ∧ SeesB W vl.1 vl.2 ∧ W.cell? (a.add i) = some vl.1 := by
      intro i hi
      obtain ⟨cs', k1, k2⟩ := hx i (by omega)
      rw [cell1_25, Nat.mul_one] at k1
      obtain ⟨_, _, hc⟩ := World.cells?_some k1
      obtain ⟨v, L, e1, hs, hfit, _⟩ := open_bytes k2
      refine ⟨(v, L), hfit.room fun x hx' => hw x (by
        simp only [DataW.weights, und_raws, List.mem_cons, List.mem_append]
        exact .inr (.inl (weights_all (d := D i) (List.mem_map.2 ⟨i, by simpa using hi, rfl⟩) x hx'))), hs, ?_⟩
      have := hc 0 (by omega)
      rw [e1] at this
      simpa [Addr.add] using this
    obtain ⟨F, hF⟩ : ∃ F : Nat → Value × List Nat, ∀ i, i < len → (F i).2.length ≤ reachBytes ∧ SeesB W (F i).1 (F i).2 ∧ W.cell? (a.add i) = some (F i).1 := by
      refine ⟨fun i => if h : i < len then (key i h).choose else (undef, []), fun i hi => ?_⟩
      simp only [dif_pos hi]
      exact (key i hi).choose_spec
    refine ⟨(List.range len).map (fun i => (F i).2), ⟨some a, m, by simp, by simpa using hlc, hcm, fun j hj => ?_⟩, fun l hl => ?_⟩
    · have hj' : j < len := by simpa using hj
      obtain ⟨g, off, rfl, hg⟩ : ∃ g off, a = ⟨g, off, none⟩ ∧ g < W.heap.size := by
        have z0 := (hF 0 (by omega)).2.2
        have e : a.add 0 = a := by simp [Addr.add]
        rw [e] at z0
        exact spot_none z0
      have y0 := (hF j hj').2.2
      rw [Addr.add_mid] at y0
      exact ⟨g, off, (F j).1, rfl, hg, y0, by simpa using (hF j hj').2.1⟩
    · obtain ⟨i, hi, rfl⟩ := List.mem_map.1 hl
      exact (hF i (by simpa using hi)).1
end
end Go.Proofs.Ytcelcnafcfefhab.N

/-
  tunnel: mix, portOf, packetKey, frameKey, Flow.
-/
namespace Go.Proofs.Ytcelcnafcfefhab.N
open Go.ChangeShapes Go.WideShapes Go.ChangeAt Go.RowKit
set_option maxHeartbeats 8000000
set_option maxRecDepth 100000

theorem mix_lt (L : List Nat) : ∀ h, h < 65521 → Tn.mix h L < 65521 := by
  induction L with
  | nil => intro h hh; exact hh
  | cons x L ih => intro h _; exact ih _ (Nat.mod_lt _ (by omega))

theorem mix_any (v : Value) (L : List Nat) (w : World) (hv : SeesB w v L) :
    Calls Try.prog 78 #[v] w fun e w' => e = .returned (.int .u32 ((Tn.mix 1 L : Nat) : Int)) ∧ w' = w := by
  obtain ⟨ao, n, cap, rfl, HN, hn1, hn2⟩ := hv.shape
  unfold maxLen at hn2
  have HV := hid hv
  have HBY := hid hv.bytes
  obtain ⟨M0, hM0⟩ : ∃ M0, M0 = Tn.mix 1 L := ⟨_, rfl⟩
  have HM := hid hM0
  rw [← hM0]
  clear hv hM0
  go_enter Try.func78, Try.ntmps78
  go_wp2_with fail
  go_loopw [3, 5, 8] (fun t _ i wv => ∃ (k h : Nat) (wr : World), i = .int .i64 (k : Int) ∧ t = .int .u32 (h : Int) ∧ k ≤ n ∧ h < 65521 ∧ Hid (Tn.mix h (L.drop k) = M0) ∧ wr = wv ∧ wr = w) (fun _ _ i _ => n - (intOf i).toNat)
  case atStart => exact ⟨0, 1, _, rfl, rfl, by omega, by omega, HM.out.symm, rfl, rfl⟩
  case round =>
    obtain ⟨k, h, wr, rfl, rfl, hk, hh, HK, rfl, rfl⟩ := hrel
    by_cases hlt : k < n
    · obtain ⟨g, off, rfl, _, hc⟩ := HV.out.atB k hlt
      have hx := byt_lt HBY.out k
      have HNX : Hid (Tn.mix ((h * 251 + byt L k + 1) % 65521) (L.drop (k + 1)) = M0) := by
        unfold Hid
        rw [← HK.out]
        have hkl : k < L.length := by rw [← HN.out]; exact hlt
        rw [List.drop_eq_getElem_cons hkl, Tn.mix]
        simp [byt, hkl]
      generalize byt L k = x at *
      have b0 : (k : Int) < (n : Int) := by omega
      have b1 : (0 : Int) ≤ (k : Int) := by omega
      have hml : (h * 251 + x + 1) % 65521 < 65521 := Nat.mod_lt _ (by omega)
      go_wp2_with fail
      go_roundw
      case rel => exact ⟨k + 1, (h * 251 + x + 1) % 65521, _, by go_num, by go_num, by omega, hml, HNX, rfl, rfl⟩
      case measure => simp [intOf]; omega
    · obtain rfl : k = n := by omega
      have hM : h = M0 := by
        have := HK.out
        rwa [List.drop_eq_nil_of_le (by rw [← HN.out]; exact Nat.le_refl _)] at this
      subst hM
      go_wp2_with fail
      go_ret
      exact ⟨rfl, rfl⟩

theorem portOf_any (v : Value) (L : List Nat) (w : World) (hv : SeesB w v L) :
    Calls Try.prog 48 #[v] w fun e w' => e = .returned (.int .u16 ((Tn.port L : Nat) : Int)) ∧ w' = w := by
  have HX := hid (mix_any v L w hv)
  have hm := mix_lt L 1 (by omega)
  have hp : Tn.port L = 49152 + Tn.mix 1 L % 16384 := by unfold Tn.port; rw [Nat.mod_eq_of_lt hm]
  rw [hp]
  obtain ⟨ao, n, cap, rfl, _, _, _⟩ := hv.shape
  generalize Tn.mix 1 L = m at *
  have e1 : ((49152 + m % 16384 : Nat) : Int) = 49152 + (m : Int) % 16384 := by omega
  rw [e1]
  clear hv hp e1
  go_enter Try.func48, Try.ntmps48
  go_wp2_with fail
  refine HX.out.mono ?_
  rintro _ w2 ⟨rfl, rfl⟩
  go_wp2_with fail
  go_ret
  exact ⟨ret_int (by omega), rfl⟩

def Z9 : Array Value := #[.int .u8 0, .int .u8 0, .int .u8 0, .int .u8 0, .int .u8 0, .int .u8 0, .int .u8 0, .int .u8 0, .int .u8 0]

theorem packetKey_any (h : Hd) (vo : Value) (w : World) (hok : h.Ok) :
    Calls Try.prog 49 #[.agg (hdCells h vo)] w fun e w' => ∃ g, e = .returned (.slice (some ⟨g, 0, none⟩) 9 9) ∧ SeesB w' (.slice (some ⟨g, 0, none⟩) 9 9) (Tn.be4 h.src ++ Tn.be4 h.dst ++ [h.proto]) ∧ Below w.heap.size w w' := by
  obtain ⟨hc, hhc⟩ : ∃ hc, hc = hdCells h vo := ⟨_, rfl⟩
  obtain ⟨w1, hw1⟩ : ∃ w1, w1 = w.alloc (.cells hc 74) := ⟨_, rfl⟩
  obtain ⟨w2, hw2⟩ : ∃ w2, w2 = w1.alloc (.cells Z9 119) := ⟨_, rfl⟩
  obtain ⟨g, hg⟩ : ∃ g, g = w1.heap.size := ⟨_, rfl⟩
  have hs1 : w1.heap.size = w.heap.size + 1 := by rw [hw1]; simp
  have hb1 : Below w.heap.size w w1 := by rw [hw1]; exact (Below.refl _ _).alloc (Nat.le_refl _) _
  have hb2 : Below g w1 w2 := by rw [hw2, hg]; exact (Below.refl _ _).alloc (Nat.le_refl _) _
  have hr1 : w1.heap[w.heap.size]? = some (.cells (hdCells h vo) 74 (0, 0)) := by rw [hw1, ← hhc]; exact heap_alloc_new w _
  have hB2 : BlkT 119 w2 g [0, 0, 0, 0, 0, 0, 0, 0, 0] := by rw [hw2, hg]; exact heap_alloc_new w1 _
  have hs2 : w2.heap.size = g + 1 := by rw [hw2, hg]; simp
  have HC : Hid (∀ u, Below g w1 u → u.cell? ⟨w.heap.size, 6, none⟩ = some (.int .u8 (h.proto : Int)) ∧ u.cell? ⟨w.heap.size, 7, none⟩ = some (.int .u32 (h.src : Int)) ∧ u.cell? ⟨w.heap.size, 8, none⟩ = some (.int .u32 (h.dst : Int))) := fun u hu => by
    have hr := (hu.block w.heap.size (by omega)).trans hr1
    obtain ⟨_, _, _, _, _, _, h6, h7, h8, _⟩ := hd_at hr
    exact ⟨h6, h7, h8⟩
  have HBW : Hid (∀ u, Below g w1 u → Below w.heap.size w u) := fun u hu => hb1.trans (hu.mono (by omega))
  have HBT : Hid (∀ u u', Below g w1 u → g < u.heap.size → But g u u' → Below g w1 u' ∧ g < u'.heap.size) := fun u u' hu hs hb => ⟨hb.below hu (Nat.le_of_lt hs) (Nat.le_refl _), Nat.lt_of_lt_of_le hs hb.size⟩
  have HC1 := hid (twrite32_any 119 g 0 9 h.src _ w2.drew (show BlkT 119 w2.drew g _ from hB2) (by simp) hok.src)
  have HC2 : Hid (∀ u, BlkT 119 u g (Tn.be4 h.src ++ [0, 0, 0, 0, 0]) → Calls Try.prog 68 #[.slice (some ⟨g, 4, none⟩) 4 5, .int .u32 (h.dst : Int)] u fun e w' => e = .returned (.tuple #[]) ∧ BlkT 119 w' g (Tn.be4 h.src ++ Tn.be4 h.dst ++ [0]) ∧ But g u w') := fun u hB => twrite32_any 119 g 4 5 h.dst _ u hB (by simp [Tn.be4]) hok.dst
  have HB2 := hid hb2
  have HS2 : Hid (g < w2.heap.size) := by unfold Hid; omega
  have HW1 := hid hw1
  have HW2 := hid hw2
  unfold Z9 at HW2
  have HG := hid hg
  have HBYT : Hid (∀ y ∈ Tn.be4 h.src ++ Tn.be4 h.dst ++ [h.proto], y < 256) := fun y hy => by
    simp only [Tn.be4, List.mem_append, List.mem_cons, List.not_mem_nil, or_false] at hy
    have := hok.proto
    omega
  have hpr := hok.proto
  rw [← hhc]
  clear hw1 hw2 hg hs1 hb1 hb2 hr1 hB2 hs2 hhc
  go_enter Try.func49, Try.ntmps49
  go_upto_region 1 with fail
  rw [← HW1.out]
  go_upto_region 2 with fail
  rw [← HW2.out, ← HG.out]
  obtain ⟨d6, d7, d8⟩ := HC.out _ HB2.out
  go_cut [] from 4 (fun wx => Hid (BlkT 119 wx g (Tn.be4 h.src ++ [0, 0, 0, 0, 0])) ∧ Hid (Below g w1 wx ∧ g < wx.heap.size))
  case first =>
    go_region_with (first | (go_at_call 68; refine HC1.out.mono ?_; rintro _ w4 ⟨rfl, hB4, hu4⟩) | fail)
    all_goals (
      go_wp2_with fail
      go_meet
      case rel => exact ⟨hB4, HBT.out _ _ (below_drew HB2.out) HS2.out hu4⟩)
  case rest =>
  obtain ⟨HB3, HW3⟩ := hcut
  obtain ⟨w3, hw3⟩ : ∃ w3, w3 = wc := ⟨_, rfl⟩
  rw [← hw3] at HB3 HW3 ⊢
  clear hw3 HC1 d6 d7 d8
  obtain ⟨d6, d7, d8⟩ := HC.out _ HW3.out.1
  have X2 := hid (HC2.out w3.drew (show BlkT 119 w3.drew g _ from HB3.out))
  clear HC2 HB3
  go_upto_region 3 with fail
  go_cut [] from 4 (fun wx => Hid (BlkT 119 wx g (Tn.be4 h.src ++ Tn.be4 h.dst ++ [0])) ∧ Hid (Below g w1 wx ∧ g < wx.heap.size))
  case first =>
    go_region_with (first | (go_at_call 68; refine X2.out.mono ?_; rintro _ w4 ⟨rfl, hB4, hu4⟩) | fail)
    all_goals (
      go_wp2_with fail
      go_meet
      case rel => exact ⟨hB4, HBT.out _ _ (below_drew HW3.out.1) HW3.out.2 hu4⟩)
  case rest =>
  obtain ⟨HB4, HW4⟩ := hcut
  obtain ⟨w4, hw4⟩ : ∃ w4, w4 = wc := ⟨_, rfl⟩
  rw [← hw4] at HB4 HW4 ⊢
  clear hw4 X2 d6 d7 d8
  obtain ⟨d6, d7, d8⟩ := HC.out _ HW4.out.1
  have hlen4 : (Tn.be4 h.src ++ Tn.be4 h.dst ++ [0]).length = 9 := rfl
  have c8 := HB4.out.cell 8 (by rw [hlen4]; omega)
  have f8 := HB4.out.free 8
  have hB5 := HB4.out.set 8 h.proto
  have hu5 := But.set g 8 w4 (.int .u8 (h.proto : Int))
  have eL : (Tn.be4 h.src ++ Tn.be4 h.dst ++ [0]).set 8 h.proto = Tn.be4 h.src ++ Tn.be4 h.dst ++ [h.proto] := rfl
  rw [eL] at hB5
  obtain ⟨w5, hw5⟩ : ∃ w5, w5 = w4.setCell ⟨g, 8, none⟩ (.int .u8 (h.proto : Int)) := ⟨_, rfl⟩
  rw [← hw5] at hB5 hu5
  have HSE : Hid (SeesB w5 (.slice (some ⟨g, 0, none⟩) 9 9) (Tn.be4 h.src ++ Tn.be4 h.dst ++ [h.proto])) := hB5.sees HBYT.out 0 9 9 (Nat.le_refl 9) (Nat.le_refl _) (by unfold maxLen; omega)
  have HBE := hid (HBW.out _ (HBT.out _ _ HW4.out.1 HW4.out.2 hu5).1)
  have HW5 := hid hw5
  generalize byt _ 8 = y8 at c8
  clear hB5 hu5 hw5 eL hlen4
  go_upto_region 5 with fail
  rw [← HW5.out]
  go_wp2_with fail
  go_ret
  exact ⟨g, rfl, HSE.out, HBE.out⟩

theorem frameKey_any (f : Tn.Fr) (vb : Value) (w : World) (hf : FrB f) :
    Calls Try.prog 50 #[.agg (frCells f vb)] w fun e w' => ∃ g, e = .returned (.slice (some ⟨g, 0, none⟩) 12 12) ∧ SeesB w' (.slice (some ⟨g, 0, none⟩) 12 12) (f.src ++ f.dst) ∧ Below w.heap.size w w' := by
  obtain ⟨fr, hfr⟩ : ∃ fr, fr = frCells f vb := ⟨_, rfl⟩
  obtain ⟨w1, hw1⟩ : ∃ w1, w1 = w.alloc (.cells fr 31) := ⟨_, rfl⟩
  obtain ⟨w2, hw2⟩ : ∃ w2, w2 = w1.alloc (.cells Z12 86) := ⟨_, rfl⟩
  obtain ⟨h, hh⟩ : ∃ h, h = w1.heap.size := ⟨_, rfl⟩
  have hs1 : w1.heap.size = w.heap.size + 1 := by rw [hw1]; simp
  have hb1 : Below w.heap.size w w1 := by rw [hw1]; exact (Below.refl _ _).alloc (Nat.le_refl _) _
  have hb2 : Below h w1 w2 := by rw [hw2, hh]; exact (Below.refl _ _).alloc (Nat.le_refl _) _
  have hr1 : w1.heap[w.heap.size]? = some (.cells (frCells f vb) 31 (0, 0)) := by rw [hw1, ← hfr]; exact heap_alloc_new w _
  have hB2 : BlkT 86 w2 h [0, 0, 0, 0, 0, 0, 0, 0, 0, 0, 0, 0] := by rw [hw2, hh]; exact heap_alloc_new w1 _
  have HRW : Hid (∀ u, Below h w1 u → u.heap[w.heap.size]? = some (.cells (frCells f vb) 31 (0, 0))) := fun u hu => (hu.block _ (by omega)).trans hr1
  have HBW : Hid (∀ u, Below h w1 u → Below w.heap.size w u) := fun u hu => hb1.trans (hu.mono (by omega))
  have HW1 := hid hw1
  have HW2 := hid hw2
  unfold Z12 at HW2
  have HH := hid hh
  have HB2 := hid hb2
  have HF := hid hf
  obtain ⟨X0, hX0⟩ : ∃ X0, X0 = bs [0, 0, 0, 0, 0, 0, 0, 0, 0, 0, 0, 0] := ⟨_, rfl⟩
  have HG2 : Hid (w2.heap[h]? = some (.cells X0.toArray 86 (0, 0))) := by unfold Hid; rw [hX0]; exact hB2
  have HX0 := hid hX0
  have HX0L : Hid (X0.length = 12) := by unfold Hid; rw [hX0]; rfl
  obtain ⟨O1, hO1⟩ : ∃ O1, O1 = bs f.src := ⟨_, rfl⟩
  have HO1 := hid hO1
  have HO1L : Hid (O1.length = 6) := by unfold Hid; rw [hO1, bs_len, hf.ok.src]
  have HO11 : Hid (∀ v ∈ O1, v.oneCell' = true) := by unfold Hid; rw [hO1]; exact one_bs
  obtain ⟨O2, hO2⟩ : ∃ O2, O2 = bs f.dst := ⟨_, rfl⟩
  have HO2 := hid hO2
  have HO2L : Hid (O2.length = 6) := by unfold Hid; rw [hO2, bs_len, hf.ok.dst]
  have HO21 : Hid (∀ v ∈ O2, v.oneCell' = true) := by unfold Hid; rw [hO2]; exact one_bs
  have HP1 : Hid (∀ u, Below h w1 u → ∀ j v, O1[j]? = some v → u.cell? ((⟨w.heap.size, 6, none⟩ : Addr).add j) = some v) := fun u hu j v hv => by
    rw [HO1.out] at hv
    obtain ⟨ad, ha, hc⟩ := (fr_src HF.out (HRW.out u hu)).src (by rw [bs_len, HF.out.ok.src]; omega)
    cases ha
    exact hc j v hv
  have HP2 : Hid (∀ u, Below h w1 u → ∀ j v, O2[j]? = some v → u.cell? ((⟨w.heap.size, 0, none⟩ : Addr).add j) = some v) := fun u hu j v hv => by
    rw [HO2.out] at hv
    obtain ⟨ad, ha, hc⟩ := (fr_dst HF.out (HRW.out u hu)).src (by rw [bs_len, HF.out.ok.dst]; omega)
    cases ha
    exact hc j v hv
  rw [← hfr]
  clear hw1 hw2 hh hs1 hb1 hb2 hr1 hB2 hX0 hO1 hO2 hfr
  go_enter Try.func50, Try.ntmps50
  go_upto_region 1 with fail
  rw [← HW1.out]
  go_upto_region 2 with fail
  rw [← HW2.out, ← HH.out]
  go_cut [] from 4 (fun wx => Hid (wx.heap[h]? = some (.cells (splice X0 0 O1).toArray 86 (0, 0))) ∧ Below h w1 wx)
  case first =>
    have HBD := hid (below_drew HB2.out)
    have HPS : Hid (0 < O1.length → ∃ ad, some (⟨w.heap.size, 6, none⟩ : Addr) = some ad ∧ ∀ j v, O1[j]? = some v → w2.drew.cell? (ad.add j) = some v) := fun _ => ⟨_, rfl, HP1.out _ HBD.out⟩
    have HMN : Hid (O1.length = Nat.min 6 6) := HO1L.out
    have HFT : Hid (0 + O1.length ≤ X0.length) := by unfold Hid; rw [HO1L.out, HX0L.out]; omega
    go_region_law (first
      | (refine step_copy_splice rfl (.tmp 4) (.tmp 6) 29 29 rfl 5 Try.underlying29 size5 (some ⟨h, 0, none⟩) (some ⟨w.heap.size, 6, none⟩) 6 12 6 6 rfl rfl h 0 X0 86 HG2.out O1 HMN.out (fun hp => ⟨rfl, HPS.out hp⟩) HFT.out HO11.out h w1 HBD.out (Nat.le_refl _) ?_; intro w5 hg5 hb5)
      | fail)
    all_goals (
      go_wp2_with fail
      go_meet
      case rel => exact ⟨hg5, hb5⟩)
  case rest =>
  obtain ⟨HG3, hb3⟩ := hcut
  obtain ⟨w3, hw3⟩ : ∃ w3, w3 = wc := ⟨_, rfl⟩
  rw [← hw3] at HG3 hb3 ⊢
  clear hw3
  obtain ⟨X1, hX1⟩ : ∃ X1, X1 = splice X0 0 O1 := ⟨_, rfl⟩
  rw [← hX1] at HG3
  have HX1L : Hid (X1.length = 12) := by unfold Hid; rw [hX1, length_splice _ _ _ (by rw [HO1L.out, HX0L.out]; omega), HX0L.out]
  have HX1 := hid hX1
  have HB3 := hid hb3
  clear hX1 hb3
  go_upto_region 3 with fail
  go_cut [] from 4 (fun wx => Hid (wx.heap[h]? = some (.cells (splice X1 6 O2).toArray 86 (0, 0))) ∧ Below h w1 wx)
  case first =>
    have HBD := hid (below_drew HB3.out)
    have HPS : Hid (0 < O2.length → ∃ ad, some (⟨w.heap.size, 0, none⟩ : Addr) = some ad ∧ ∀ j v, O2[j]? = some v → w3.drew.cell? (ad.add j) = some v) := fun _ => ⟨_, rfl, HP2.out _ HBD.out⟩
    have HMN : Hid (O2.length = Nat.min 6 6) := HO2L.out
    have HFT : Hid (6 + O2.length ≤ X1.length) := by unfold Hid; rw [HO2L.out, HX1L.out]; omega
    go_region_law (first
      | (refine step_copy_splice rfl (.tmp 8) (.tmp 10) 29 29 rfl 5 Try.underlying29 size5 (some ⟨h, 6, none⟩) (some ⟨w.heap.size, 0, none⟩) 6 6 6 6 rfl rfl h 6 X1 86 HG3.out O2 HMN.out (fun hp => ⟨rfl, HPS.out hp⟩) HFT.out HO21.out h w1 HBD.out (Nat.le_refl _) ?_; intro w5 hg5 hb5)
      | fail)
    all_goals (
      go_wp2_with fail
      go_meet
      case rel => exact ⟨hg5, hb5⟩)
  case rest =>
  obtain ⟨HG4, hb4⟩ := hcut
  obtain ⟨w4, hw4⟩ : ∃ w4, w4 = wc := ⟨_, rfl⟩
  rw [← hw4] at HG4 hb4 ⊢
  clear hw4
  have hX2 : splice X1 6 O2 = bs (f.src ++ f.dst) := by
    have e1 : X1 = O1 ++ (bs [0, 0, 0, 0, 0, 0] ++ []) := by
      rw [HX1.out, HX0.out]
      show splice ([] ++ (bs [0, 0, 0, 0, 0, 0] ++ bs [0, 0, 0, 0, 0, 0])) ([] : List Value).length O1 = _
      rw [splice_mid (by rw [HO1L.out]; rfl)]
      rfl
    have e2 : splice X1 6 O2 = O1 ++ (O2 ++ []) := by
      rw [e1, ← HO1L.out, splice_mid (by rw [HO2L.out]; rfl)]
    rw [e2, HO1.out, HO2.out]
    simp [bs]
  have hB4 : BlkT 86 w4 h (f.src ++ f.dst) := by unfold BlkT; rw [← hX2]; exact HG4.out
  have hlen4 : (f.src ++ f.dst).length = 12 := by rw [List.length_append, HF.out.ok.dst, HF.out.ok.src]
  have hsee : SeesB w4 (.slice (some ⟨h, 0, none⟩) 12 12) (f.src ++ f.dst) := by
    have := hB4.sees (fun y hy => (List.mem_append.1 hy).elim (HF.out.src y) (HF.out.dst y)) 0 12 12 (by rw [hlen4]; omega) (Nat.le_refl _) (by unfold maxLen; omega)
    rwa [List.drop_zero, List.take_of_length_le (Nat.le_of_eq hlen4)] at this
  have HSE := hid hsee
  have HBE := hid (HBW.out _ hb4)
  clear hX2 hB4 hlen4 hsee hb4
  go_wp2_with fail
  go_ret
  exact ⟨h, rfl, HSE.out, HBE.out⟩

/-- What a frame's flow hangs on. -/
def keyL (f : Tn.Fr) : List Nat := if f.ty = 2048 ∧ (parsed f.B).2.2 = 0 then Tn.be4 (parsed f.B).1.src ++ Tn.be4 (parsed f.B).1.dst ++ [(parsed f.B).1.proto] else f.src ++ f.dst

def zeroPk : Array Value := #[.int .u8 0, .int .u16 0, .bool false, .bool false, .int .i64 0, .int .u8 0, .int .u8 0, .int .u32 0, .int .u32 0, .slice none 0 0, .slice none 0 0]

theorem parsed_ok {L : List Nat} (hb : ∀ x ∈ L, x < 256) (he : (parsed L).2.2 = 0) : (parsed L).1.Ok := by
  have hp : parsed L = (rdH (L.take (exam L true).2.1) (exam L true).1, (L.take (exam L true).2.1).drop (exam L true).1, 0) := by
    unfold parsed at he ⊢
    split at he
    · rename_i h; rw [if_pos h]
    · rename_i h; exact absurd he h
  rw [hp]
  have hx : ∀ x ∈ L.take (exam L true).2.1, x < 256 := fun x hx => hb x (List.mem_of_mem_take hx)
  generalize L.take (exam L true).2.1 = X at *
  generalize (exam L true).1 = k at *
  have b := fun i => byt_lt hx i
  have w := fun i => w16_lt hx i
  refine ⟨b 1, w 4, ?_, b 8, b 9, ?_, ?_⟩
  · show -9223372036854775808 ≤ ((w16 X 6 % 8192 * 8 : Nat) : Int) ∧ ((w16 X 6 % 8192 * 8 : Nat) : Int) ≤ 9223372036854775807
    omega
  · show w32 X 12 < 4294967296
    unfold w32
    have h1 := w 12
    have h2 := w (12 + 2)
    omega
  · show w32 X 16 < 4294967296
    unfold w32
    have h1 := w 16
    have h2 := w (16 + 2)
    omega


theorem flow_any (f : Tn.Fr) (vb : Value) (w : World) (hf : FrB f) (hvb : SeesB w vb f.B) (hl : f.B.length ≤ 140737488355328) :
    Calls Try.prog 24 #[.agg (frCells f vb)] w fun e w' => e = .returned (.int .u16 ((Tn.port (keyL f) : Nat) : Int)) ∧ Below w.heap.size w w' := by
  obtain ⟨ab, nb, capb, rfl, HNB, hnb1, hnb2⟩ := hvb.shape
  obtain ⟨fr, hfr⟩ : ∃ fr, fr = frCells f (.slice ab nb capb) := ⟨_, rfl⟩
  obtain ⟨w1, hw1⟩ : ∃ w1, w1 = w.alloc (.cells fr 31) := ⟨_, rfl⟩
  have hs1 : w1.heap.size = w.heap.size + 1 := by rw [hw1]; simp
  have hb1 : Below w.heap.size w w1 := by rw [hw1]; exact (Below.refl _ _).alloc (Nat.le_refl _) _
  have hr1 : w1.heap[w.heap.size]? = some (.cells (frCells f (.slice ab nb capb)) 31 (0, 0)) := by rw [hw1, ← hfr]; exact heap_alloc_new w _
  obtain ⟨c12, c13⟩ := fr_at hf.ok hr1
  have hty := hf.ok.ty
  have HLD : Hid (∀ u, Below w1.heap.size w1 u → (Instr.loadAt 31 (.pointer (some ⟨w.heap.size, 0, none⟩))).run Try.prog u = .ok (.agg fr) u) := fun u hu => by
    rw [hfr]
    exact load_rowAt ((hu.block _ (by omega)).trans hr1) Try.underlying31 rfl (by
      have : (frCells f (.slice ab nb capb)).size = 14 := by unfold frCells; simp only [List.size_toArray]; exact frc_len hf.ok.dst hf.ok.src _ _
      rw [this]; exact (show (Try.prog.info? 31).map (·.size) = some 14 from by kernel_rfl))
  have HFK : Hid (∀ u, Below w1.heap.size w1 u → Calls Try.prog 50 #[.agg fr] u fun e w' => ∃ g, e = .returned (.slice (some ⟨g, 0, none⟩) 12 12) ∧ SeesB w' (.slice (some ⟨g, 0, none⟩) 12 12) (f.src ++ f.dst) ∧ Below u.heap.size u w') := fun u _ => by rw [hfr]; exact frameKey_any f _ u hf
  have HPO := hid (fun (v : Value) (L : List Nat) (u : World) (h : SeesB u v L) => portOf_any v L u h)
  have HPA := hid (parse_code _ f.B w1 (hvb.below hb1) hl)
  have HBY := hid hvb.bytes
  have HB1 := hid hb1
  have HW1 := hid hw1
  rw [← hfr]
  clear hw1 hs1 hb1 hr1 hfr hvb
  have HTAIL : Hid (keyL f = f.src ++ f.dst → ∀ u, Below w1.heap.size w1 u → True) := fun _ _ _ => trivial
  by_cases h1 : f.ty = 2048
  · have HK : Hid (keyL f = if (parsed f.B).2.2 = 0 then Tn.be4 (parsed f.B).1.src ++ Tn.be4 (parsed f.B).1.dst ++ [(parsed f.B).1.proto] else f.src ++ f.dst) := by unfold Hid keyL; simp [h1]
    have HPK := hid (fun (he : (parsed f.B).2.2 = 0) (vo : Value) (u : World) => packetKey_any (parsed f.B).1 vo u (parsed_ok HBY.out he))
    rw [h1] at c12
    obtain ⟨KL, hKL⟩ : ∃ KL, KL = keyL f := ⟨_, rfl⟩
    rw [← hKL] at HK ⊢
    generalize parsed f.B = P at *
    obtain ⟨hd, B, E⟩ := P
    simp only at *
    clear hKL h1
    go_enter Try.func24, Try.ntmps24
    go_upto_region 1 with fail
    rw [← HW1.out]
    go_wp2_with fail
    refine HPA.out.mono ?_
    rintro _ w2 ⟨vo, v2, rfl, hso, hs2, hb2⟩
    obtain ⟨ao, no, co, rfl, _, _, _⟩ := hso.shape
    obtain ⟨a2, n2, c2, rfl, _, _, _⟩ := hs2.shape
    obtain ⟨pa, hpa⟩ : ∃ pa, pa = pkCells hd (.slice ao no co) (.slice a2 n2 c2) := ⟨_, rfl⟩
    obtain ⟨p, hp⟩ : ∃ p, p = w2.heap.size := ⟨_, rfl⟩
    obtain ⟨w3, hw3⟩ : ∃ w3, w3 = (w2.alloc (.cells zeroPk 77)).setCells p 0 pa.toList := ⟨_, rfl⟩
    have hps : pa.size = 11 := by rw [hpa]; rfl
    have HIP : Hid ((Try.prog.info? 77).map (·.size) = some pa.size) := by unfold Hid; rw [hps]; kernel_rfl
    have hrp : (w2.alloc (.cells zeroPk 77)).heap[p]? = some (.cells zeroPk 77 (0, 0)) := by rw [hp]; exact heap_alloc_new w2 _
    have HTP : Hid ((w2.alloc (.cells zeroPk 77)).there p 0 pa.size) := there_blk hrp (by rw [hps]; rfl)
    have HOP : Hid (pa.all (·.oneCell') = true) := by unfold Hid; rw [hpa]; simp [pkCells, Value.oneCell']
    have hr3 : w3.heap[p]? = some (.cells (pkCells hd (.slice ao no co) (.slice a2 n2 c2)) 77 (0, 0)) := by rw [hw3, ← hpa]; exact row_put hrp (by rw [hps]; rfl)
    have hb23 : Below w2.heap.size w2 w3 := by rw [hw3]; exact below_setCells' (by omega) _ _ _ ((Below.refl _ _).alloc (Nat.le_refl _) _)
    have hb13 := hb2.trans (hb23.mono hb2.size)
    have HLH := hid (pk_loadH hr3)
    have HB13 := hid hb13
    have HL3 := hid (HLD.out w3 hb13)
    have HW3 := hid hw3
    have HP := hid hp
    unfold zeroPk at HW3 HTP
    obtain ⟨hc, hhc⟩ : ∃ hc, hc = hdCells hd (.slice ao no co) := ⟨_, rfl⟩
    rw [← hhc] at HLH
    have HHC := hid hhc
    rw [← hpa]
    clear hpa hp hw3 hps hrp hr3 hb23 hb2 hb13 hso hs2 HPA hhc
    go_upto_region 3 with (first
      | (rw [← HP.out]; refine wpList_store_mid rfl 77 (.tmp 3) (.tmp 12) rfl p 0 pa rfl rfl HTP.out HIP.out HOP.out ?_; rw [← HW3.out])
      | fail)
    by_cases hE : E = 0
    · subst hE
      have hKL : KL = Tn.be4 hd.src ++ Tn.be4 hd.dst ++ [hd.proto] := by rw [HK.out, if_pos rfl]
      have X3 := hid (HPK.out rfl (.slice ao no co) w3)
      rw [← HHC.out, ← hKL] at X3
      clear hKL
      go_wp2_with (first
        | (refine wpList_ld 74 ⟨p, 0, none⟩ _ rfl rfl HLH.out rfl ?_)
        | fail)
      refine X3.out.mono ?_
      rintro _ w4 ⟨g, rfl, hs4, hb4⟩
      have X4 := hid (HPO.out _ KL w4 hs4)
      have HB4 := hid (HB13.out.trans (hb4.mono HB13.out.size))
      clear hs4 hb4 X3
      go_wp2_with fail
      refine X4.out.mono ?_
      rintro _ w5 ⟨rfl, rfl⟩
      go_wp2_with fail
      go_ret
      exact ⟨rfl, HB1.out.trans (HB4.out.mono HB1.out.size)⟩
    · have hKL : KL = f.src ++ f.dst := by rw [HK.out, if_neg hE]
      have q1 : (E == 0) = false := by simp [hE]
      have X3 := hid (HFK.out w3 HB13.out)
      rw [← hKL] at X3
      clear hKL
      go_wp2_with (first
        | (refine wpList_ld 31 ⟨w.heap.size, 0, none⟩ _ rfl rfl HL3.out rfl ?_)
        | fail)
      refine X3.out.mono ?_
      rintro _ w4 ⟨g, rfl, hs4, hb4⟩
      have X4 := hid (HPO.out _ KL w4 hs4)
      have HB4 := hid (HB13.out.trans (hb4.mono HB13.out.size))
      clear hs4 hb4 X3
      go_wp2_with fail
      refine X4.out.mono ?_
      rintro _ w5 ⟨rfl, rfl⟩
      go_wp2_with fail
      go_ret
      exact ⟨rfl, HB1.out.trans (HB4.out.mono HB1.out.size)⟩
  · have HK : Hid (keyL f = f.src ++ f.dst) := by unfold Hid keyL; simp [h1]
    obtain ⟨KL, hKL⟩ : ∃ KL, KL = keyL f := ⟨_, rfl⟩
    rw [← hKL] at HK ⊢
    have q1 : ((f.ty : Int) == 2048) = false := by simp; omega
    have X3 := hid (HFK.out w1 (Below.refl _ _))
    rw [← HK.out] at X3
    have HL1 := hid (HLD.out w1 (Below.refl _ _))
    clear hKL
    go_enter Try.func24, Try.ntmps24
    go_upto_region 1 with fail
    rw [← HW1.out]
    go_wp2_with (first
      | (refine wpList_ld 31 ⟨w.heap.size, 0, none⟩ _ rfl rfl HL1.out rfl ?_)
      | fail)
    refine X3.out.mono ?_
    rintro _ w4 ⟨g, rfl, hs4, hb4⟩
    have X4 := hid (HPO.out _ KL w4 hs4)
    have HB4 := hid hb4
    clear hs4 hb4 X3
    go_wp2_with fail
    refine X4.out.mono ?_
    rintro _ w5 ⟨rfl, rfl⟩
    go_wp2_with fail
    go_ret
    exact ⟨rfl, HB1.out.trans (HB4.out.mono HB1.out.size)⟩
end Go.Proofs.Ytcelcnafcfefhab.N

namespace Go.Proofs.Ytcelcnafcfefhab.N
open Go.ChangeShapes Go.WideShapes Go.ChangeAt Go.RowKit
set_option maxHeartbeats 1000000
set_option maxRecDepth 100000

theorem built_bytes {h : Hd} {B : List Nat} (hok : h.Ok) (ho : ∀ x ∈ h.opts, x < 256) (hb : ∀ x ∈ B, x < 256) : ∀ x ∈ builtL h B, x < 256 := by
  unfold builtL
  by_cases he : refE h B.length = 0
  · rw [if_pos he]
    obtain ⟨r1, r2, r3⟩ := refE_ok he
    obtain ⟨l1, l2⟩ := area_len r1
    obtain ⟨f, hf, hf1⟩ : ∃ f : Nat, h.off = (f : Int) ∧ f ≤ 65528 := by
      unfold M.pieceOk at r2
      simp at r2
      exact ⟨h.off.toNat, by omega, by omega⟩
    intro x hx
    rcases List.mem_append.1 hx with hx | hx
    · exact hdBytes_ok hok ho l1 hf hf1 (by unfold lenOfPk; omega) (M.csum_lt _) x hx
    · exact hb x hx
  · rw [if_neg he]
    intro x hx; cases hx

/-- The program's Build. -/
theorem build_code (h : Hd) (vo vb : Value) (B : List Nat) (w : World) (hok : h.Ok) (hvo : SeesB w vo h.opts) (hvb : SeesB w vb B) (hlo : h.opts.length ≤ 140737488355328) (hlb : B.length ≤ 140737488355328) :
    Calls Try.prog 32 #[.agg (pkCells h vo vb)] w fun e w' => ∃ ao n cap, e = .returned (.tuple #[.slice ao n cap, .int .i64 (refE h B.length)]) ∧ SeesB w' (.slice ao n cap) (builtL h B) ∧ Below w.heap.size w w' := by
  by_cases he : refE h B.length = 0
  · rw [he]
    exact build_good h vo vb B w hok hvo hvb he
  · refine (build_bad h vo vb B w hok hvo hvb hlo hlb he).mono ?_
    rintro e w' ⟨rfl, hb⟩
    refine ⟨none, 0, 0, rfl, ?_, hb⟩
    unfold builtL
    rw [if_neg he]
    exact sees_nil _

theorem build_refS (h : Hd) (vo vb : Value) (B : List Nat) (w : World) (hok : h.Ok) (hvo : SeesB w vo h.opts) (hvb : SeesB w vb B) (hlb : B.length ≤ 140737488355328) :
    Calls Try.prog 46 #[.agg (pkCells h vo vb)] w fun e w' => ∃ ao n cap, e = .returned (.tuple #[.slice ao n cap, .int .i64 (refE h B.length)]) ∧ SeesB w' (.slice ao n cap) (builtL h B) ∧ Below w.heap.size w w' := by
  refine (build_ref h vo vb B w hok hvo hvb (by omega)).mono ?_
  rintro e w' ⟨v', rfl, hO, hb⟩
  have hs := hO.sees (built_bytes hok hvo.bytes hvb.bytes)
  obtain ⟨ao, n, cap, rfl, _, _, _⟩ := hs.shape
  exact ⟨ao, n, cap, rfl, hs, hb⟩

end Go.Proofs.Ytcelcnafcfefhab.N


/-
  tunnel.Seal.
-/
namespace Go.Proofs.Ytcelcnafcfefhab.N
open Go.ChangeShapes Go.WideShapes Go.ChangeAt Go.RowKit
set_option maxHeartbeats 8000000
set_option maxRecDepth 100000

/-- The outer values of a sealed frame. -/
structure Ou where
  src : Nat
  dst : Nat
  sp : Nat
  dp : Nat
  ttl : Nat
  vni : Int

structure Ou.Ok (o : Ou) : Prop where
  src : o.src < 4294967296
  dst : o.dst < 4294967296
  sp : o.sp < 65536
  dp : o.dp < 65536
  ttl : o.ttl < 256
  vlo : -9223372036854775808 ≤ o.vni
  vhi : o.vni ≤ 9223372036854775807

def ouCells (o : Ou) : Array Value := #[.int .u32 (o.src : Int), .int .u32 (o.dst : Int), .int .u16 (o.sp : Int), .int .u16 (o.dp : Int), .int .u8 (o.ttl : Int), .int .i64 o.vni]

theorem ou_at {u : World} {n : Nat} {o : Ou} {t : TypeId} (hb : u.heap[n]? = some (.cells (ouCells o) t (0, 0))) :
    u.cell? ⟨n, 0, none⟩ = some (.int .u32 (o.src : Int)) ∧ u.cell? ⟨n, 1, none⟩ = some (.int .u32 (o.dst : Int)) ∧ u.cell? ⟨n, 2, none⟩ = some (.int .u16 (o.sp : Int)) ∧ u.cell? ⟨n, 3, none⟩ = some (.int .u16 (o.dp : Int)) ∧ u.cell? ⟨n, 4, none⟩ = some (.int .u8 (o.ttl : Int)) ∧ u.cell? ⟨n, 5, none⟩ = some (.int .i64 o.vni) := by
  refine ⟨?_, ?_, ?_, ?_, ?_, ?_⟩ <;> (rw [cell_of_row _ _ _ _ _ _ hb]; rfl)

def ohd (o : Ou) : Hd := ⟨0, 0, true, false, 0, o.ttl, 17, o.src, o.dst, []⟩
theorem ohd_ok {o : Ou} (h : o.Ok) : (ohd o).Ok := ⟨(show (0:Nat) < 256 by decide), (show (0:Nat) < 65536 by decide), ⟨(show (-9223372036854775808:Int) ≤ 0 by decide), (show (0:Int) ≤ 9223372036854775807 by decide)⟩, h.ttl, (show (17:Nat) < 256 by decide), h.src, h.dst⟩
def odg (o : Ou) (f : Tn.Fr) : Tn.Dg := ⟨o.sp, o.dp, vxH o.vni.toNat ++ Tn.frL f⟩
def seE (o : Ou) (f : Tn.Fr) : Int := if o.vni < 0 ∨ 16777215 < o.vni then 78 else if Tn.bfE f ≠ 0 then Tn.bfE f else refE (ohd o) (Tn.builtU o.src o.dst (odg o f) false).length
def seL (o : Ou) (f : Tn.Fr) : List Nat := if o.vni < 0 ∨ 16777215 < o.vni then [] else if Tn.bfE f ≠ 0 then [] else builtL (ohd o) (Tn.builtU o.src o.dst (odg o f) false)

/-- What a drawn statement's operations give that builds the datagram. -/
def FS (l : List Value) (mk : Value → Value) (B : List Nat) (base k : Nat) : Nat → Value → World → Prop
  | 6, v, w => ∃ g, v = .slice (some ⟨g, 0, none⟩) k k ∧ Blk w g B ∧ base ≤ g
  | 7, v, w => ∃ g, v = mk (.slice (some ⟨g, 0, none⟩) k k) ∧ Blk w g B ∧ base ≤ g
  | 8, v, w => ∃ q, v = .pointer (some ⟨q, 0, none⟩) ∧ w.heap[q]? = some (.cells zeroD 33 (0, 0)) ∧ base ≤ q
  | i, v, _ => l[i]? = some v

theorem FS.keeps (l : List Value) (mk : Value → Value) (B : List Nat) (base k : Nat) : ∀ (i : Nat) (v : Value) (w w' : World), FS l mk B base k i v w → Below w.heap.size w w' → FS l mk B base k i v w' := fun i v w w' h hb => by
  unfold FS at h ⊢
  split at h
  · obtain ⟨q, e, hs, hg⟩ := h; exact ⟨q, e, hs.below hb, hg⟩
  · obtain ⟨q, e, hs, hg⟩ := h; exact ⟨q, e, hs.below hb, hg⟩
  · obtain ⟨q, e, hr, hq⟩ := h; exact ⟨q, e, (hb.block q (Array.getElem?_eq_some_iff.1 hr).1).trans hr, hq⟩
  · exact h

theorem field_ou (b : Nat) (u : World) : (Instr.fieldAt 26 (.pointer (some ⟨b, 0, none⟩)) 2).run Try.prog u = .ok (.pointer (some ⟨b, 2, none⟩)) u ∧ (Instr.fieldAt 26 (.pointer (some ⟨b, 0, none⟩)) 3).run Try.prog u = .ok (.pointer (some ⟨b, 3, none⟩)) u := ⟨by kernel_rfl, by kernel_rfl⟩
theorem load_u16 {u : World} {p : Addr} {x : Int} (h : u.cell? p = some (.int .u16 x)) : (Instr.loadAt 24 (.pointer (some p))).run Try.prog u = .ok (.int .u16 x) u := by
  simp [Instr.loadAt, go_sem, h]

theorem dl9 {s : Nat} (h : s ∉ [32, 33, 34, 35, 36, 37, 38, 39, 9]) : ∀ j, j < 9 → [32, 33, 34, 35, 36, 37, 38, 39, 9].getD j 0 ≠ s := fun j hj e => h (by
  rw [← e, List.getD_eq_getElem?_getD, List.getElem?_eq_getElem (by exact hj)]
  exact List.getElem_mem _)

def zeroHdC : Array Value := #[.int .u8 0, .int .u16 0, .bool false, .bool false, .int .i64 0, .int .u8 0, .int .u8 0, .int .u32 0, .int .u32 0, .slice none 0 0]

theorem vxH_bytes (v : Nat) : ∀ x ∈ vxH v, x < 256 := fun x hx => by
  simp only [vxH, List.mem_cons, List.not_mem_nil, or_false] at hx
  omega

theorem sealT_any (o : Ou) (f : Tn.Fr) (vb : Value) (w : World) (ho : o.Ok) (hf : FrB f) (hvb : SeesB w vb f.B) :
    Calls Try.prog 11 #[.agg (ouCells o), .agg (frCells f vb)] w fun e w' => ∃ ao n cap, e = .returned (.tuple #[.slice ao n cap, .int .i64 (seE o f)]) ∧ SeesB w' (.slice ao n cap) (seL o f) ∧ Below w.heap.size w w' := by
  obtain ⟨ab, nb, capb, rfl, HNB, hnb1, hnb2⟩ := hvb.shape
  obtain ⟨oc, hoc⟩ : ∃ oc, oc = ouCells o := ⟨_, rfl⟩
  obtain ⟨fr, hfr⟩ : ∃ fr, fr = frCells f (.slice ab nb capb) := ⟨_, rfl⟩
  obtain ⟨wa, hwa⟩ : ∃ wa, wa = w.alloc (.cells oc 26) := ⟨_, rfl⟩
  obtain ⟨w1, hw1⟩ : ∃ w1, w1 = wa.alloc (.cells fr 31) := ⟨_, rfl⟩
  have hsa : wa.heap.size = w.heap.size + 1 := by rw [hwa]; simp
  have hs1 : w1.heap.size = w.heap.size + 2 := by rw [hw1]; simp [hsa]
  have hba : Below w.heap.size w wa := by rw [hwa]; exact (Below.refl _ _).alloc (Nat.le_refl _) _
  have hb1 : Below w.heap.size w w1 := by rw [hw1]; exact hba.alloc (by omega) _
  have hr0 : w1.heap[w.heap.size]? = some (.cells (ouCells o) 26 (0, 0)) := by rw [hw1, heap_alloc_old _ _ (by omega), hwa, ← hoc]; exact heap_alloc_new w _
  have hr1 : w1.heap[w.heap.size + 1]? = some (.cells fr 31 (0, 0)) := by rw [hw1, ← hsa]; exact heap_alloc_new wa _
  have HO : Hid (∀ u, Below w1.heap.size w1 u → u.cell? ⟨w.heap.size, 0, none⟩ = some (.int .u32 (o.src : Int)) ∧ u.cell? ⟨w.heap.size, 1, none⟩ = some (.int .u32 (o.dst : Int)) ∧ u.cell? ⟨w.heap.size, 2, none⟩ = some (.int .u16 (o.sp : Int)) ∧ u.cell? ⟨w.heap.size, 3, none⟩ = some (.int .u16 (o.dp : Int)) ∧ u.cell? ⟨w.heap.size, 4, none⟩ = some (.int .u8 (o.ttl : Int)) ∧ u.cell? ⟨w.heap.size, 5, none⟩ = some (.int .i64 o.vni)) := fun u hu => ou_at ((hu.block _ (by omega)).trans hr0)
  have HLF : Hid ((Instr.loadAt 31 (.pointer (some ⟨w.heap.size + 1, 0, none⟩))).run Try.prog w1 = .ok (.agg fr) w1) := load_rowAt hr1 Try.underlying31 rfl (by
    have : fr.size = 14 := by rw [hfr]; unfold frCells; simp only [List.size_toArray]; exact frc_len hf.ok.dst hf.ok.src _ _
    rw [this]; exact (show (Try.prog.info? 31).map (·.size) = some 14 from by kernel_rfl))
  obtain ⟨c0, c1, c2, c3, c4, c5⟩ := HO.out _ (Below.refl _ _)
  have HB1 := hid hb1
  have HS1 := hid hs1
  have HW1 : Hid (w1 = (w.alloc (.cells oc 26)).alloc (.cells fr 31)) := by unfold Hid; rw [hw1, hwa]
  have XF := hid (buildF_any f _ w1 hf (hvb.below hb1))
  rw [← hfr] at XF ⊢
  rw [← hoc]
  have hvlo := ho.vlo
  have hvhi := ho.vhi
  have HBY := hid hvb.bytes
  clear hwa hw1 hsa hs1 hba hb1 hr0 hr1 hoc hfr hvb
  by_cases hbad : o.vni < 0 ∨ 16777215 < o.vni
  · have HE : Hid (seE o f = 78 ∧ seL o f = []) := by unfold Hid seE seL; rw [if_pos hbad, if_pos hbad]; exact ⟨rfl, rfl⟩
    go_enter Try.func11, Try.ntmps11
    go_upto_region 1 with fail
    rw [← HW1.out]
    by_cases hneg : o.vni < 0
    · go_wp2_with fail
      refine bodyPost_ret (results_tmp2 Try.results11 _ _ _) rfl ?_
      rw [HE.out.1, HE.out.2]
      exact ⟨_, _, _, rfl, sees_nil _, HB1.out⟩
    · have hbig : 16777215 < o.vni := by omega
      go_wp2_with fail
      refine bodyPost_ret (results_tmp2 Try.results11 _ _ _) rfl ?_
      rw [HE.out.1, HE.out.2]
      exact ⟨_, _, _, rfl, sees_nil _, HB1.out⟩
  have hv0 : ¬ o.vni < 0 := by omega
  have hv1 : ¬ 16777215 < o.vni := by omega
  obtain ⟨vn, hvn⟩ : ∃ vn : Nat, o.vni = (vn : Int) := ⟨o.vni.toNat, by omega⟩
  have hvn24 : vn < 16777216 := by omega
  have hvt : o.vni.toNat = vn := by omega
  by_cases hfe : Tn.bfE f ≠ 0
  · have HE : Hid (seE o f = Tn.bfE f ∧ seL o f = []) := by unfold Hid seE seL; rw [if_neg hbad, if_neg hbad, if_pos hfe, if_pos hfe]; exact ⟨rfl, rfl⟩
    have q1 : (Tn.bfE f == 0) = false := by simp [hfe]
    have q2 : (Tn.bfE f != 0) = true := by simp [hfe]
    generalize Tn.bfE f = E at *
    clear hvn hvt
    go_enter Try.func11, Try.ntmps11
    go_upto_region 1 with fail
    rw [← HW1.out]
    go_wp2_with (first
      | (refine wpList_ld 31 ⟨w.heap.size + 1, 0, none⟩ _ rfl rfl HLF.out rfl ?_)
      | fail)
    refine XF.out.mono ?_
    rintro _ w2 ⟨a2, n2, k2, rfl, _, _, hb2⟩
    have HB2 := hid (HB1.out.trans (hb2.mono HB1.out.size))
    clear hb2
    go_wp2_with fail
    refine bodyPost_ret (results_tmp2 Try.results11 _ _ _) rfl ?_
    rw [HE.out.1, HE.out.2]
    exact ⟨_, _, _, rfl, sees_nil _, HB2.out⟩
  have hfe := Decidable.not_not.1 hfe
  have hlB : f.B.length ≤ 65485 := by
    unfold Tn.bfE at hfe
    split at hfe
    · cases hfe
    · omega
  have hfl : (Tn.frL f).length = 14 + f.B.length := Tn.frL_len hf.ok
  have hbl : Tn.bfL f = Tn.frL f := by unfold Tn.bfL; rw [if_pos hfe]
  have hdl : (odg o f).B.length = 22 + f.B.length := by show (vxH o.vni.toNat ++ Tn.frL f).length = _; rw [List.length_append, hfl]; show 8 + _ = _; omega
  have hbu : Tn.buE (odg o f) = 0 := by unfold Tn.buE; rw [if_neg (by omega)]
  have hbv : Tn.buL o.src o.dst (odg o f) false = Tn.builtU o.src o.dst (odg o f) false := by unfold Tn.buL; rw [if_neg (by omega)]
  have HE : Hid (seE o f = refE (ohd o) (Tn.builtU o.src o.dst (odg o f) false).length ∧ seL o f = builtL (ohd o) (Tn.builtU o.src o.dst (odg o f) false)) := by unfold Hid seE seL; rw [if_neg hbad, if_neg hbad, if_neg (by simp [hfe]), if_neg (by simp [hfe])]; exact ⟨rfl, rfl⟩
  have hul : (Tn.builtU o.src o.dst (odg o f) false).length = 30 + f.B.length := by unfold Tn.builtU; rw [Tn.udp_len, hdl]; omega
  obtain ⟨DG, hDG⟩ : ∃ DG, DG = odg o f := ⟨_, rfl⟩
  have hDok : DG.Ok := by rw [hDG]; exact ⟨ho.sp, ho.dp⟩
  have hDB : DG.B = vxH vn ++ Tn.frL f := by rw [hDG, ← hvt]; rfl
  have hDc : ∀ v, dgCells DG v = #[.int .u16 (o.sp : Int), .int .u16 (o.dp : Int), v] := fun v => by rw [hDG]; rfl
  rw [← hDG] at hbu hbv HE hul hdl
  obtain ⟨UL, hUL⟩ : ∃ UL, UL = Tn.builtU o.src o.dst DG false := ⟨_, rfl⟩
  rw [← hUL] at HE hbv hul
  have HBU : Hid (∀ (vb : Value) (u : World), SeesB u vb DG.B → Calls Try.prog 15 #[.int .u32 (o.src : Int), .int .u32 (o.dst : Int), .agg (dgCells DG vb), .bool false] u fun e w' => ∃ ao n cap, e = .returned (.tuple #[.slice ao n cap, .int .i64 0]) ∧ SeesB w' (.slice ao n cap) UL ∧ Below u.heap.size u w') := fun vb u hv => by
    refine (buildU_any DG vb o.src o.dst false u hDok hv ho.src ho.dst).mono ?_
    rintro e w' ⟨ao, n, cap, rfl, h1, _, h2⟩
    rw [hbv] at h1
    exact ⟨ao, n, cap, by rw [hbu], h1, h2⟩
  have HIB : Hid (∀ (vb : Value) (u : World), SeesB u vb UL → Calls Try.prog 32 #[.agg (pkCells (ohd o) (.slice none 0 0) vb)] u fun e w' => ∃ ao n cap, e = .returned (.tuple #[.slice ao n cap, .int .i64 (seE o f)]) ∧ SeesB w' (.slice ao n cap) (seL o f) ∧ Below u.heap.size u w') := fun vb u hv => by
    rw [HE.out.1, HE.out.2]
    exact build_code (ohd o) _ vb UL u (ohd_ok ho) (sees_nil _) hv (by simp [ohd]) (by rw [hul]; omega)
  have HHO := hid (fun u => headOf_any vn u hvn24)
  have HBYF : Hid (∀ y ∈ Tn.frL f, y < 256) := frL_bytes hf HBY.out
  have HDB := hid hDB
  have HDC := hid hDc
  have HFL := hid hfl
  have hnb : nb ≤ 65485 := by rw [HNB.out]; exact hlB
  rw [hfe, hbl] at XF
  have hvni := hvn
  rw [hvn] at hv0 hv1
  have HOV : Hid (∀ u, Below w1.heap.size w1 u → u.cell? ⟨w.heap.size, 5, none⟩ = some (.int .i64 (vn : Int))) := fun u hu => by rw [← hvni]; exact (HO.out u hu).2.2.2.2.2
  rw [hvn] at c5
  have hohd : ∀ vb, pkCells (ohd o) (.slice none 0 0) vb = #[.int .u8 0, .int .u16 0, .bool true, .bool false, .int .i64 0, .int .u8 (o.ttl : Int), .int .u8 17, .int .u32 (o.src : Int), .int .u32 (o.dst : Int), .slice none 0 0, vb] := fun vb => rfl
  have HOHD := hid hohd
  obtain ⟨SE, hSE⟩ : ∃ SE, SE = seE o f := ⟨_, rfl⟩
  obtain ⟨SL, hSL⟩ : ∃ SL, SL = seL o f := ⟨_, rfl⟩
  rw [← hSE, ← hSL] at HIB ⊢
  have hsp := ho.sp
  have hdp := ho.dp
  have htt := ho.ttl
  have hsr := ho.src
  have hds := ho.dst
  clear hbad hvn hvt hvni hfe hlB hbl hdl hbu hbv hul hDok hDB hDc hUL hDG HE hfl hohd hSE hSL ho hf
  go_enter Try.func11, Try.ntmps11
  go_upto_region 1 with fail
  rw [← HW1.out]
  go_wp2_with (first
    | (refine wpList_ld 31 ⟨w.heap.size + 1, 0, none⟩ _ rfl rfl HLF.out rfl ?_)
    | fail)
  refine XF.out.mono ?_
  rintro _ w2 ⟨a2, n2, k2, rfl, hs2, _, hb2⟩
  have HB2 := hid hb2
  have HS2 := hid hs2
  have d5 := HOV.out w2 hb2
  have X2 := hid (HHO.out w2)
  clear hb2 hs2 XF HLF c0 c1 c2 c3 c4 c5
  go_wp2_with fail
  refine X2.out.mono ?_
  rintro _ w3 ⟨rfl, hb3⟩
  obtain ⟨pa, hpa⟩ : ∃ pa, pa = (bs (vxH vn)).toArray := ⟨_, rfl⟩
  obtain ⟨p, hp⟩ : ∃ p, p = w3.heap.size := ⟨_, rfl⟩
  obtain ⟨w4, hw4⟩ : ∃ w4, w4 = (w3.alloc (.cells Z8 70)).setCells p 0 pa.toList := ⟨_, rfl⟩
  have hps : pa.size = 8 := by rw [hpa, bs_size]; rfl
  have HIP : Hid ((Try.prog.info? 70).map (·.size) = some pa.size) := by unfold Hid; rw [hps]; kernel_rfl
  have hrp : (w3.alloc (.cells Z8 70)).heap[p]? = some (.cells Z8 70 (0, 0)) := by rw [hp]; exact heap_alloc_new w3 _
  have HTP : Hid ((w3.alloc (.cells Z8 70)).there p 0 pa.size) := there_blk hrp (by rw [hps]; rfl)
  have HOP : Hid (pa.all (·.oneCell') = true) := by unfold Hid; rw [hpa]; exact bs_one _
  have hB4 : BlkT 70 w4 p (vxH vn) := by
    unfold BlkT
    rw [hw4, ← hpa]
    exact row_put hrp (by rw [hps]; rfl)
  have hb34 : Below w3.heap.size w3 w4 := by rw [hw4]; exact below_setCells' (by omega) _ _ _ ((Below.refl _ _).alloc (Nat.le_refl _) _)
  have hb24 := hb3.trans (hb34.mono hb3.size)
  have HB14 := hid (HB2.out.trans (hb24.mono HB2.out.size))
  have HS8 : Hid (SeesB w4 (.slice (some ⟨p, 0, none⟩) 8 8) (vxH vn)) := hB4.sees (vxH_bytes vn) 0 8 8 (Nat.le_refl 8) (Nat.le_refl _) (by unfold maxLen; omega)
  have HSF4 := hid (HS2.out.below hb24)
  have HW4 := hid hw4
  have HP := hid hp
  unfold Z8 at HW4 HTP
  rw [← hpa]
  clear hpa hp hw4 hps hrp hb3 hb34 hb24 hB4 X2 d5
  go_upto_region 7 with (first
    | (rw [← HP.out]; refine wpList_store_mid rfl 70 (.tmp 8) (.tmp 31) rfl p 0 pa rfl rfl HTP.out HIP.out HOP.out ?_; rw [← HW4.out])
    | fail)
  simp only [Act.put]
  obtain ⟨e0, e1, e2, e3, e4, e5⟩ := HO.out w4 HB14.out
  have hlt : w.heap.size < w4.heap.size := by have := HB14.out.size; have := HS1.out; omega
  have HLT := hid hlt
  obtain ⟨k, hk⟩ : ∃ k, k = 22 + nb := ⟨_, rfl⟩
  have HJ : Hid (∀ u, Below w4.heap.size w4 u → Calls Try.prog 31 #[.slice (some ⟨p, 0, none⟩) 8 8, .slice a2 n2 k2] u fun e w' => ∃ g, e = .returned (.slice (some ⟨g, 0, none⟩) k k) ∧ Blk w' g (vxH vn ++ Tn.frL f) ∧ u.heap.size ≤ g ∧ Below u.heap.size u w') := fun u hu => by
    have h8 : (vxH vn).length = 8 := rfl
    refine (join_any _ _ _ _ u (HS8.out.below hu) (HSF4.out.below hu) (by rw [h8, HFL.out, ← HNB.out]; omega)).mono ?_
    rintro e u' ⟨g, k', rfl, hk', hB, hg, hb⟩
    refine ⟨g, ?_, hB, hg, hb⟩
    rw [hk', List.length_append, h8, HFL.out, ← HNB.out, hk, show 8 + (14 + nb) = 22 + nb by omega]
  have HKL : Hid ((vxH vn ++ Tn.frL f).length = k) := by unfold Hid; rw [List.length_append, HFL.out, ← HNB.out, hk]; show 8 + _ = _; omega
  have HKN : Hid (k ≤ 65507) := by unfold Hid; omega
  obtain ⟨mk, hmk⟩ : ∃ mk : Value → Value, mk = fun v => .agg #[.int .u16 (o.sp : Int), .int .u16 (o.dp : Int), v] := ⟨_, rfl⟩
  have HMK := hid hmk
  clear hmk hk hlt
  go_cut [9] from 12 (fun pt wx => ∃ q g, pt = .pointer (some ⟨q, 0, none⟩) ∧ Hid (wx.heap[q]? = some (.cells #[.int .u16 (o.sp : Int), .int .u16 (o.dp : Int), .slice (some ⟨g, 0, none⟩) k k] 33 (0, 0)) ∧ SeesB wx (.slice (some ⟨g, 0, none⟩) k k) (vxH vn ++ Tn.frL f) ∧ Below w4.heap.size w4 wx))
  case first =>
    refine wp_region_mono' 9 (fun i => [32, 33, 34, 35, 36, 37, 38, 39, 9].getD i 0) (FS [.pointer (some ⟨w.heap.size, 2, none⟩), .int .u16 (o.sp : Int), .pointer (some ⟨w.heap.size, 3, none⟩), .int .u16 (o.dp : Int), .slice (some ⟨p, 0, none⟩) 8 8, .slice a2 n2 k2] mk (vxH vn ++ Tn.frL f) w4.heap.size k) (by kernel_rfl) (by kernel_rfl) (FS.keeps _ _ _ _ _) ?_ ?_
    · simp only [List.take_succ_cons, List.take_zero, stepsOk]
      refine ⟨?_, ?_, ?_, ?_, ?_, ?_, ?_, ?_, ?_, trivial⟩
      · intro a u vs hb hold hdep
        exact wp_stillF (ex_field _ ⟨w.heap.size, 0, none⟩ (.tmp 2) 2 _ rfl (hold 2 (dl9 (by decide))) (field_ou _ u).1) rfl rfl hb
      · intro a u vs hb hold hdep
        have h1 : a.eval (.tmp 32) = .pointer (some ⟨w.heap.size, 2, none⟩) := by have h0 := hdep ⟨0, .data⟩ (by simp) rfl (by decide); exact h0.1.trans (Option.some.inj h0.2).symm
        exact wp_stillF (ex_load _ ⟨w.heap.size, 2, none⟩ (.tmp 32) _ rfl h1 (load_u16 ((hb.cell (p := ⟨w.heap.size, 2, none⟩) HLT.out).trans e2))) rfl rfl hb
      · intro a u vs hb hold hdep
        exact wp_stillF (ex_field _ ⟨w.heap.size, 0, none⟩ (.tmp 2) 3 _ rfl (hold 2 (dl9 (by decide))) (field_ou _ u).2) rfl rfl hb
      · intro a u vs hb hold hdep
        have h1 : a.eval (.tmp 34) = .pointer (some ⟨w.heap.size, 3, none⟩) := by have h0 := hdep ⟨2, .data⟩ (by simp) rfl (by decide); exact h0.1.trans (Option.some.inj h0.2).symm
        exact wp_stillF (ex_load _ ⟨w.heap.size, 3, none⟩ (.tmp 34) _ rfl h1 (load_u16 ((hb.cell (p := ⟨w.heap.size, 3, none⟩) HLT.out).trans e3))) rfl rfl hb
      · intro a u vs hb hold hdep
        exact wp_stillF (ex_slice _ (.tmp 8) _ _ _ _ _ _ _ _ rfl (hold 8 (dl9 (by decide))) rfl rfl rfl (cut8 p u).2.1) rfl rfl hb
      · intro a u vs hb hold hdep
        exact wp_stillF (ex_move (.tmp 6) _ rfl (hold 6 (dl9 (by decide)))) rfl rfl hb
      · intro a u vs hb hold hdep
        have h1 : a.eval (.tmp 36) = .slice (some ⟨p, 0, none⟩) 8 8 := by have h0 := hdep ⟨4, .data⟩ (by simp) rfl (by decide); exact h0.1.trans (Option.some.inj h0.2).symm
        have h2 : a.eval (.tmp 37) = .slice a2 n2 k2 := by have h0 := hdep ⟨5, .data⟩ (by simp) rfl (by decide); exact h0.1.trans (Option.some.inj h0.2).symm
        refine wp_call 31 _ _ rfl (enters_of Try.func31 (by kernel_rfl) rfl) #[.slice (some ⟨p, 0, none⟩) 8 8, .slice a2 n2 k2] (by simp only [List.map_toArray, List.map_cons, List.map_nil, h1, h2]) ?_
        refine (HJ.out u hb).mono ?_
        rintro _ u' ⟨g, rfl, hB, hg, hb'⟩
        exact ⟨_, rfl, _, rfl, ⟨g, rfl, hB, Nat.le_trans hb.size hg⟩, hb.trans (hb'.mono hb.size), hb'⟩
      · intro a u vs hb hold hdep
        have h1 : a.eval (.tmp 33) = .int .u16 (o.sp : Int) := by have h0 := hdep ⟨1, .data⟩ (by simp) rfl (by decide); exact h0.1.trans (Option.some.inj h0.2).symm
        have h2 : a.eval (.tmp 35) = .int .u16 (o.dp : Int) := by have h0 := hdep ⟨3, .data⟩ (by simp) rfl (by decide); exact h0.1.trans (Option.some.inj h0.2).symm
        obtain ⟨q1, g, q2, q3, q4⟩ := hdep ⟨6, .data⟩ (by simp) rfl (by decide)
        have h3 : a.eval (.tmp 38) = .slice (some ⟨g, 0, none⟩) k k := q1.trans q2
        refine wp_stillF (ex_build _ _ #[(0, .int .u16 (o.sp : Int)), (1, .int .u16 (o.dp : Int)), (2, .slice (some ⟨g, 0, none⟩) k k)] (mk (.slice (some ⟨g, 0, none⟩) k k)) rfl (by simp only [List.map_toArray, List.map_cons, List.map_nil, h1, h2, h3]) ?_) rfl ⟨g, rfl, q3, q4⟩ hb
        rw [HMK.out]
        exact build_dg _ _ _ _ _ u
      · intro a u vs hb hold hdep
        have hbA : Below u.heap.size u (u.alloc (.cells zeroD 33)) := (Below.refl _ _).alloc (Nat.le_refl _) _
        exact wp_val (ex_alloc _ _ rfl (alloc_dg u)) ⟨_, rfl, ⟨u.heap.size, rfl, heap_alloc_new u _, hb.size⟩, hb.trans (hbA.mono hb.size), hbA⟩
    intro vs u hb hF
    obtain ⟨g, e7, hBg, hg⟩ := hF 7 (by decide)
    obtain ⟨q, e8, hrq, hq⟩ := hF 8 (by decide)
    obtain ⟨yy, hyy⟩ : ∃ yy : Array Value, yy = #[.int .u16 (o.sp : Int), .int .u16 (o.dp : Int), .slice (some ⟨g, 0, none⟩) k k] := ⟨_, rfl⟩
    have e7' : vs 7 = .agg yy := by rw [e7, HMK.out, hyy]
    have e8' : vs 8 = .pointer (some ⟨q, 0, none⟩) := e8
    have hys : yy.size = 3 := by rw [hyy]; rfl
    have HYI : Hid ((Try.prog.info? 33).map (·.size) = some yy.size) := by unfold Hid; rw [hys]; kernel_rfl
    have HYO : Hid (yy.all (·.oneCell') = true) := by unfold Hid; rw [hyy]; simp [Value.oneCell']
    have HTQ : Hid (u.there q 0 yy.size) := there_blk hrq (by rw [hys]; rfl)
    have hr9 : (u.setCells q 0 yy.toList).heap[q]? = some (.cells yy 33 (0, 0)) := row_put hrq (by rw [hys]; rfl)
    have hb9 : Below w4.heap.size w4 (u.setCells q 0 yy.toList) := below_setCells' hq _ _ _ hb
    have hne : g ≠ q := fun e => by
      subst e
      unfold Blk at hBg
      rw [hrq] at hBg
      simp at hBg
    have hsg : SeesB u (.slice (some ⟨g, 0, none⟩) k k) (vxH vn ++ Tn.frL f) := by
      have h0 := hBg.sees (fun x hx => (List.mem_append.1 hx).elim (vxH_bytes vn x) (HBYF.out x)) 0 k k (by rw [HKL.out]; omega) (Nat.le_refl _) (by have := HKN.out; unfold maxLen; omega)
      rw [List.drop_zero, List.take_of_length_le (by rw [HKL.out]; exact Nat.le_refl _)] at h0
      exact h0
    have hB9 : SeesB (u.setCells q 0 yy.toList) (.slice (some ⟨g, 0, none⟩) k k) (vxH vn ++ Tn.frL f) := sees_set' hsg (fun a ha => by cases ha; exact hne)
    have HEND : Hid ((u.setCells q 0 yy.toList).heap[q]? = some (.cells #[.int .u16 (o.sp : Int), .int .u16 (o.dp : Int), .slice (some ⟨g, 0, none⟩) k k] 33 (0, 0)) ∧ SeesB (u.setCells q 0 yy.toList) (.slice (some ⟨g, 0, none⟩) k k) (vxH vn ++ Tn.frL f) ∧ Below w4.heap.size w4 (u.setCells q 0 yy.toList)) := ⟨by rw [← hyy]; exact hr9, hB9, hb9⟩
    generalize vs 0 = y0
    generalize vs 1 = y1
    generalize vs 2 = y2
    generalize vs 3 = y3
    generalize vs 4 = y4
    generalize vs 5 = y5
    generalize vs 6 = y6
    simp only [List.drop_succ_cons, List.drop_zero, puts, List.range, List.range.loop, List.foldr, if_true, Act.put, e7', e8', List.getD_cons_zero, List.getD_cons_succ, List.setIfInBounds_toArray, List.set_cons_succ, List.set_cons_zero]
    clear e7 e7' e8 e8' hyy hF hBg hrq hr9 hb9 hB9 hsg hne hys
    go_wp2_with (first
      | (refine wpList_store_mid rfl 33 (.tmp 9) (.tmp 39) rfl q 0 yy rfl rfl HTQ.out HYI.out HYO.out ?_)
      | fail)
    go_meet
    case rel => exact ⟨q, g, rfl, HEND.out⟩
  case rest =>
  obtain ⟨q, g, rfl, HC⟩ := hcut
  obtain ⟨w5, hw5⟩ : ∃ w5, w5 = wc := ⟨_, rfl⟩
  rw [← hw5] at HC ⊢
  obtain ⟨hrq, hsg, hbc⟩ := HC.out
  have HB15 := hid (HB14.out.trans (hbc.mono HB14.out.size))
  obtain ⟨f0, f1, f2, f3, f4, f5⟩ := HO.out w5 HB15.out
  have HLD : Hid ((Instr.loadAt 33 (.pointer (some ⟨q, 0, none⟩))).run Try.prog w5 = .ok (.agg (dgCells DG (.slice (some ⟨g, 0, none⟩) k k))) w5) := by
    unfold Hid
    rw [HDC.out]
    exact load_rowAt hrq Try.underlying33 rfl (by kernel_rfl)
  have XU := hid (HBU.out (.slice (some ⟨g, 0, none⟩) k k) w5 (by rw [HDB.out]; exact hsg))
  obtain ⟨dgc, hdgc⟩ : ∃ dgc, dgc = dgCells DG (.slice (some ⟨g, 0, none⟩) k k) := ⟨_, rfl⟩
  rw [← hdgc] at HLD XU
  clear hw5 hrq hsg hbc HC hdgc e0 e1 e2 e3 e4 e5 HBU HJ HMK HKL HKN HDC HDB
  go_wp2_with (first
    | (refine wpList_ld 33 ⟨q, 0, none⟩ _ rfl rfl HLD.out rfl ?_)
    | fail)
  refine XU.out.mono ?_
  rintro _ w6 ⟨a6, n6, k6, rfl, hs6, hb6⟩
  have HB16 := hid (HB15.out.trans (hb6.mono HB15.out.size))
  obtain ⟨i0, i1, i2, i3, i4, i5⟩ := HO.out w6 HB16.out
  have HS6 := hid hs6
  clear hs6 hb6 XU HLD f0 f1 f2 f3 f4 f5
  obtain ⟨w7, hw7⟩ : ∃ w7, w7 = w6.alloc (.cells #[.int .u8 0, .int .u16 0, .bool true, .bool false, .int .i64 0, .int .u8 (o.ttl : Int), .int .u8 17, .int .u32 (o.src : Int), .int .u32 (o.dst : Int), .slice none 0 0] 74) := ⟨_, rfl⟩
  have hb67 : Below w6.heap.size w6 w7 := by rw [hw7]; exact (Below.refl _ _).alloc (Nat.le_refl _) _
  have HB17 := hid (HB16.out.trans (hb67.mono HB16.out.size))
  have X7 := hid (HIB.out (.slice a6 n6 k6) w7 (HS6.out.below hb67))
  rw [HOHD.out] at X7
  have HW7 := hid hw7
  clear hw7 hb67
  go_wp2_with fail
  rw [← HW7.out]
  refine X7.out.mono ?_
  rintro _ w8 ⟨a8, n8, k8, rfl, hs8, hb8⟩
  have HS9 := hid hs8
  have HB18 := hid (HB17.out.trans (hb8.mono HB17.out.size))
  clear hs8 hb8 X7
  go_wp2_with fail
  refine bodyPost_ret (results_tmp2 Try.results11 _ _ _) rfl ?_
  exact ⟨_, _, _, rfl, HS9.out, HB1.out.trans (HB18.out.mono HB1.out.size)⟩

end Go.Proofs.Ytcelcnafcfefhab.N

/-
  tunnel.readHead.
-/
namespace Go.Proofs.Ytcelcnafcfefhab.N
open Go.ChangeShapes Go.WideShapes Go.ChangeAt Go.RowKit
set_option maxHeartbeats 8000000
set_option maxRecDepth 100000

def rhE (L : List Nat) : Int := if L.length < 8 then 76 else if byt L 0 / 8 % 2 = 0 then 77 else 0
def rhV (L : List Nat) : Nat := if rhE L = 0 then (byt L 4 * 256 + byt L 5) * 256 + byt L 6 else 0
def rhB (L : List Nat) : List Nat := if rhE L = 0 then L.drop 8 else []

theorem and_8 (f : Nat) (hf : f < 256) : (bits .and .u8 (f : Int) 8 == 0) = decide (f / 8 % 2 = 0) := by
  have h := u8_and_nat f 8 hf (by decide)
  have h2 : f &&& 8 = 8 * (f / 8 % 2) := and_bit f 3
  rw [h2] at h
  rw [show (8 : Int) = ((8 : Nat) : Int) from rfl, h]
  by_cases hz : f / 8 % 2 = 0
  · rw [hz]; rfl
  · have h1 : f / 8 % 2 = 1 := by omega
    rw [h1]; rfl

theorem ex_convH {P : Program} {o : Oper} {a : Act} {w : World} (S D : TypeId) (x : Operand) (s v : Value) (ho : o.op = .convert S D x) (hx : a.eval x = s) (hr : (convert S D s).run P w = .ok v w) : (execOp a.eval o).run P w = .ok (.value v) w := by
  unfold execOp
  simp only [ho, hx, Sem.run_bind, hr, Result.andThen_ok, Sem.run_pure]

theorem conv32i (x : Nat) (hx : x < 4294967296) (u : World) : (convert 22 3 (.int .u32 (x : Int))).run Try.prog u = .ok (.int .i64 (x : Int)) u := by
  have h1 : Try.prog.underlying 3 = some (.int .i64) := by kernel_rfl
  have h2 : Try.prog.underlying 22 = some (.int .u32) := by kernel_rfl
  simp [convert, run_underlying h1, run_underlying h2, go_sem]
  simp only [IntKind.wrap, IntKind.bits, IntKind.signed]
  first | omega | (simp; omega)

/-- What a drawn statement's operations give: values that hang on nothing. -/
def FC (l : List Value) : Nat → (Nat → Value) → World → Prop := fun i vs _ => l[i]? = some (vs i)
theorem FC.keeps (l : List Value) (ops : List Oper) (I : World → Prop) (R : Nat → World → World → Prop) : ∀ (i j : Nat) (o : Oper) (vs : Nat → Value) (v : Value) (w w' : World), i ≠ j → ops[i]? = some o → (∀ e ∈ o.after, Region.binds .any e = true → e.on ≠ j) → FC l i vs w → I w → R j w w' → FC l i (upd vs j v) w' := fun i j _ vs v _ _ hij _ _ h _ _ => by
  unfold FC at h ⊢
  rw [upd_ne v hij]
  exact h
theorem wp_stillC {P : Program} {o : Oper} {a : Act} {W w : World} {Q : Exit → Act → World → Prop} {l : List Value} {vs : Nat → Value} {i : Nat} {d : Option Tmp} {v : Value} (hr : (execOp a.eval o).run P w = .ok (.value v) w) (ht : o.dst = d) (hv : l[i]? = some v) (hW : Below W.heap.size W w) :
    o.wp P a w (fun a' w' => ∃ v', a' = a.put d v' ∧ FC l i (upd vs i v') w' ∧ Below W.heap.size W w' ∧ Below w.heap.size w w') Q :=
  wp_val hr (by rw [ht]; exact ⟨v, rfl, by unfold FC; rw [upd_eq]; exact hv, hW, Below.refl _ _⟩)
def dstH (i : Nat) : Option Tmp := [some 15, some 16, some 17, some 18, some 19, some 20, some 2, some 3, some 4].getD i none
theorem dlH {s : Nat} (h : some s ∉ [some 15, some 16, some 17, some 18, some 19, some 20, some 2, some 3, some 4]) : ∀ j, j < 9 → dstH j ≠ some s := fun j hj e => h (by
  unfold dstH at e
  rw [← e, List.getD_eq_getElem?_getD, List.getElem?_eq_getElem (by exact hj)]
  exact List.getElem_mem _)

theorem readHead_any (v : Value) (L : List Nat) (w : World) (hv : SeesB w v L) :
    Calls Try.prog 34 #[v] w fun e w' => ∃ ao n cap, e = .returned (.tuple #[.int .i64 (rhV L : Int), .slice ao n cap, .int .i64 (rhE L)]) ∧ SeesB w' (.slice ao n cap) (rhB L) ∧ Below w.heap.size w w' := by
  obtain ⟨ao, n, cap, rfl, HN, hn1, hn2⟩ := hv.shape
  unfold maxLen at hn2
  have HV := hid hv
  have HBY := hid hv.bytes
  by_cases hA : n < 8
  · have he : rhE L = 76 := by unfold rhE; rw [if_pos (by have := HN.out; omega)]
    have HE : Hid (rhE L = 76 ∧ rhV L = 0 ∧ rhB L = []) := ⟨he, by unfold rhV; rw [he]; rfl, by unfold rhB; rw [he]; rfl⟩
    have hA' : (n : Int) < 8 := by omega
    clear he hv
    go_enter Try.func34, Try.ntmps34
    go_wp2_with fail
    refine bodyPost_ret (v := .tuple #[.int .i64 0, .slice none 0 0, .int .i64 76]) (by simp [results, Try.results34]) rfl ?_
    rw [HE.out.1, HE.out.2.1, HE.out.2.2]
    exact ⟨_, _, _, rfl, sees_nil _, Below.refl _ _⟩
  have hA' : ¬ (n : Int) < 8 := by omega
  have hb0 := byt_lt HBY.out 0
  obtain ⟨g, off, hao, hg, c0⟩ := HV.out.atB 0 (by omega)
  have q0 := and_8 (byt L 0) hb0
  obtain ⟨a4, HS4, k4⟩ := HV.out.mid 4 7 4 7 rfl rfl (by omega) (by omega)
  obtain ⟨a8, HS8, k8⟩ := HV.out.low 8 8 rfl (by omega)
  have XR := hid (tread24_any _ _ w HS4.out (by rw [List.length_drop, List.length_take, ← HN.out]; omega))
  rw [byt_mid (by omega), byt_mid (by omega), byt_mid (by omega)] at XR
  subst hao
  rw [Nat.add_zero] at c0
  by_cases hz : byt L 0 / 8 % 2 = 0
  · have he : rhE L = 77 := by unfold rhE; rw [if_neg (by have := HN.out; omega), if_pos hz]
    have HE : Hid (rhE L = 77 ∧ rhV L = 0 ∧ rhB L = []) := ⟨he, by unfold rhV; rw [he]; rfl, by unfold rhB; rw [he]; rfl⟩
    rw [decide_eq_true hz] at q0
    generalize byt L 0 = b0 at *
    clear he hv hz XR
    go_enter Try.func34, Try.ntmps34
    go_wp2_with fail
    refine bodyPost_ret (v := .tuple #[.int .i64 0, .slice none 0 0, .int .i64 77]) (by simp [results, Try.results34]) rfl ?_
    rw [HE.out.1, HE.out.2.1, HE.out.2.2]
    exact ⟨_, _, _, rfl, sees_nil _, Below.refl _ _⟩
  have he : rhE L = 0 := by unfold rhE; rw [if_neg (by have := HN.out; omega), if_neg hz]
  have HE : Hid (rhE L = 0 ∧ rhV L = (byt L 4 * 256 + byt L 5) * 256 + byt L 6 ∧ rhB L = L.drop 8) := ⟨he, by unfold rhV; rw [if_pos he], by unfold rhB; rw [if_pos he]⟩
  rw [decide_eq_false hz] at q0
  have hlt : (byt L 4 * 256 + byt L 5) * 256 + byt L 6 < 16777216 := by
    have h4 := byt_lt HBY.out 4
    have h5 := byt_lt HBY.out 5
    have h6 := byt_lt HBY.out 6
    omega
  obtain ⟨V, hV⟩ : ∃ V, V = (byt L 4 * 256 + byt L 5) * 256 + byt L 6 := ⟨_, rfl⟩
  have XR2 : Hid (∀ u, Below w.heap.size w u → Calls Try.prog 66 #[.slice a4 3 (cap - 4)] u fun e w' => e = .returned (.int .u32 (V : Int)) ∧ w' = u) := fun u hu => by
    have h := tread24_any _ _ u (HS4.out.below hu) (by rw [List.length_drop, List.length_take, ← HN.out]; omega)
    rw [byt_mid (by omega), byt_mid (by omega), byt_mid (by omega)] at h
    rw [hV]
    exact h
  rw [← hV] at HE hlt
  generalize byt L 0 = b0 at *
  clear he hv hz hV XR HS4
  go_enter Try.func34, Try.ntmps34
  go_wp2_with fail
  obtain ⟨vb, hvb⟩ : ∃ vb : Value, vb = .slice (some ⟨g, off, none⟩) n cap := ⟨_, rfl⟩
  rw [← hvb]
  refine wp_region_all' 9 dstH (FC [vb, .slice a4 3 (cap - 4), .int .u32 (V : Int), .int .i64 (V : Int), vb, .slice a8 (n - 8) (cap - 8), .int .i64 (V : Int), .slice a8 (n - 8) (cap - 8), .int .i64 0]) (fun u => Below w.heap.size w u) (fun _ u u' => Below u.heap.size u u') (by kernel_rfl) (by kernel_rfl) ⟨rfl, rfl, rfl, Nat.le_refl _, fun _ _ => rfl⟩ (FC.keeps _ _ _ _) ?_ ?_
  · simp only [stepsAll]
    refine ⟨?_, ?_, ?_, ?_, ?_, ?_, ?_, ?_, ?_, trivial⟩
    · intro a u vs hb hold hdep
      exact wp_stillC (ex_move (.tmp 0) _ rfl (hold 0 (dlH (by decide)))) rfl rfl hb
    · intro a u vs hb hold hdep
      have e0 : a.eval (.tmp 15) = vb := by have h0 := hdep ⟨0, .data⟩ (by simp) rfl; exact (h0.2 15 rfl).trans (Option.some.inj h0.1).symm
      exact wp_stillC (ex_slice _ (.tmp 15) _ _ _ _ _ (some (.int .i64 4)) (some (.int .i64 7)) none rfl (e0.trans hvb) rfl rfl rfl (k4 u)) rfl rfl hb
    · intro a u vs hb hold hdep
      have e0 : a.eval (.tmp 16) = .slice a4 3 (cap - 4) := by have h0 := hdep ⟨1, .data⟩ (by simp) rfl; exact (h0.2 16 rfl).trans (Option.some.inj h0.1).symm
      refine wp_call 66 _ _ rfl (enters_of Try.func66 (by kernel_rfl) rfl) #[.slice a4 3 (cap - 4)] (by simp only [List.map_toArray, List.map_cons, List.map_nil, e0]) ?_
      refine (XR2.out u hb).mono ?_
      rintro _ u' ⟨rfl, rfl⟩
      exact ⟨_, rfl, _, rfl, (by unfold FC; rw [upd_eq]; rfl), hb, Below.refl _ _⟩
    · intro a u vs hb hold hdep
      have e0 : a.eval (.tmp 17) = .int .u32 (V : Int) := by have h0 := hdep ⟨2, .data⟩ (by simp) rfl; exact (h0.2 17 rfl).trans (Option.some.inj h0.1).symm
      exact wp_stillC (ex_convH _ _ _ _ _ rfl e0 (conv32i V (by omega) u)) rfl rfl hb
    · intro a u vs hb hold hdep
      exact wp_stillC (ex_move (.tmp 0) _ rfl (hold 0 (dlH (by decide)))) rfl rfl hb
    · intro a u vs hb hold hdep
      have e0 : a.eval (.tmp 19) = vb := by have h0 := hdep ⟨4, .data⟩ (by simp) rfl; exact (h0.2 19 rfl).trans (Option.some.inj h0.1).symm
      exact wp_stillC (ex_slice _ (.tmp 19) _ _ _ _ _ (some (.int .i64 8)) none none rfl (e0.trans hvb) rfl rfl rfl (k8 u)) rfl rfl hb
    · intro a u vs hb hold hdep
      have e0 : a.eval (.tmp 18) = .int .i64 (V : Int) := by have h0 := hdep ⟨3, .data⟩ (by simp) rfl; exact (h0.2 18 rfl).trans (Option.some.inj h0.1).symm
      exact wp_stillC (ex_assign (.tmp 18) _ rfl e0) rfl rfl hb
    · intro a u vs hb hold hdep
      have e0 : a.eval (.tmp 20) = .slice a8 (n - 8) (cap - 8) := by have h0 := hdep ⟨5, .data⟩ (by simp) rfl; exact (h0.2 20 rfl).trans (Option.some.inj h0.1).symm
      exact wp_stillC (ex_assign (.tmp 20) _ rfl e0) rfl rfl hb
    · intro a u vs hb hold hdep
      exact wp_stillC (ex_assign (.const (.int .i64 0)) _ rfl rfl) rfl rfl hb
  intro vs u hb hF
  have e6 : vs 6 = .int .i64 (V : Int) := (Option.some.inj (hF 6 (by decide))).symm
  have e7 : vs 7 = .slice a8 (n - 8) (cap - 8) := (Option.some.inj (hF 7 (by decide))).symm
  have e8 : vs 8 = .int .i64 0 := (Option.some.inj (hF 8 (by decide))).symm
  have HB := hid hb
  clear hF hb
  generalize vs 0 = y0
  generalize vs 1 = y1
  generalize vs 2 = y2
  generalize vs 3 = y3
  generalize vs 4 = y4
  generalize vs 5 = y5
  simp only [putsO, List.range, List.range.loop, List.foldr, if_true, dstH, List.getD_cons_zero, List.getD_cons_succ, Act.put, e6, e7, e8, List.setIfInBounds_toArray, List.set_cons_succ, List.set_cons_zero]
  go_wp2_with fail
  refine bodyPost_ret (v := .tuple #[.int .i64 (V : Int), .slice a8 (n - 8) (cap - 8), .int .i64 0]) (by simp [results, Try.results34]) rfl ?_
  rw [HE.out.1, HE.out.2.1, HE.out.2.2]
  exact ⟨_, _, _, rfl, HS8.out.below HB.out, HB.out⟩
end Go.Proofs.Ytcelcnafcfefhab.N

/-
  tunnel.carried.
-/
namespace Go.Proofs.Ytcelcnafcfefhab.N
open Go.ChangeShapes Go.WideShapes Go.ChangeAt Go.RowKit
set_option maxHeartbeats 8000000
set_option maxRecDepth 100000

def caE (L : List Nat) : Int := if (parsed L).2.2 ≠ 0 then (parsed L).2.2 else if (parsed L).1.mf = true ∨ (parsed L).1.off ≠ 0 then 75 else if (parsed L).1.proto ≠ 17 then 74 else Tn.puE (parsed L).1.src (parsed L).1.dst (parsed L).2.1
def caD (L : List Nat) : Tn.Dg := Tn.puD (parsed L).1.src (parsed L).1.dst (parsed L).2.1

/-- Two results in cells. -/
theorem cells_end {w1 u : World} {r : Nat} {hc dc : Array Value} (hr2 : w1.heap[r]? = some (.cells zeroHdC 74 (0, 0))) (hr3 : w1.heap[r + 1]? = some (.cells zeroD 33 (0, 0))) (hb : Below w1.heap.size w1 u) (hh : hc.size = 10) (hd : dc.size = 3) :
    u.there r 0 hc.size ∧ (u.setCells r 0 hc.toList).there (r + 1) 0 dc.size ∧ (loadVar 74 ⟨r, 0, none⟩).run Try.prog ((u.setCells r 0 hc.toList).setCells (r + 1) 0 dc.toList) = .ok (.agg hc) ((u.setCells r 0 hc.toList).setCells (r + 1) 0 dc.toList) ∧ (loadVar 33 ⟨r + 1, 0, none⟩).run Try.prog ((u.setCells r 0 hc.toList).setCells (r + 1) 0 dc.toList) = .ok (.agg dc) ((u.setCells r 0 hc.toList).setCells (r + 1) 0 dc.toList) := by
  have l2 := (Array.getElem?_eq_some_iff.1 hr2).1
  have l3 := (Array.getElem?_eq_some_iff.1 hr3).1
  have h2 := (hb.block r l2).trans hr2
  have h3 := (hb.block (r + 1) l3).trans hr3
  have hsz := hb.size
  have b1 : But r u (u.setCells r 0 hc.toList) := But.setsT _ _
  have g2 : (u.setCells r 0 hc.toList).heap[r]? = some (.cells hc 74 (0, 0)) := row_put h2 (by rw [hh]; rfl)
  have g3 := (b1.block (r + 1) (by omega) (by omega)).trans h3
  have b2 : But (r + 1) (u.setCells r 0 hc.toList) ((u.setCells r 0 hc.toList).setCells (r + 1) 0 dc.toList) := But.setsT _ _
  have k3 : ((u.setCells r 0 hc.toList).setCells (r + 1) 0 dc.toList).heap[r + 1]? = some (.cells dc 33 (0, 0)) := row_put g3 (by rw [hd]; rfl)
  have k2 := (b2.block r (Array.getElem?_eq_some_iff.1 g2).1 (by omega)).trans g2
  exact ⟨there_blk h2 (by rw [hh]; rfl), there_blk g3 (by rw [hd]; rfl), load_row k2 Try.underlying74 rfl (by rw [hh]; kernel_rfl), load_row k3 Try.underlying33 rfl (by rw [hd]; kernel_rfl)⟩

/-- What holds all along the statement that lays the results down. -/
structure IK (p q r : Nat) (pk dc : Array Value) (v : Option Addr × Nat × Nat) (B : List Nat) (w u : World) : Prop where
  pk : u.heap[p]? = some (.cells pk 77 (0, 0))
  dg : u.heap[q]? = some (.cells dc 33 (0, 0))
  hd : ∃ C, u.heap[r]? = some (.cells C 74 (0, 0)) ∧ C.size = 10
  dt : ∃ C, u.heap[r + 1]? = some (.cells C 33 (0, 0)) ∧ C.size = 3
  sees : SeesB u (.slice v.1 v.2.1 v.2.2) B
  below : Below w.heap.size w u

def RK (r j : Nat) (w w' : World) : Prop := if j = 4 then But r w w' else if j = 5 then But (r + 1) w w' else w'.heap = w.heap
def FK (l : List Value) (r : Nat) (hc dc : Array Value) : Nat → (Nat → Value) → World → Prop
  | 4, _, w => w.heap[r]? = some (.cells hc 74 (0, 0))
  | 5, _, w => w.heap[r + 1]? = some (.cells dc 33 (0, 0))
  | i, vs, _ => l[i]? = some (vs i)
theorem RK.at {r j k : Nat} {w w' : World} {o : Obj} (h : RK r j w w') (hk : w.heap[k]? = some o) (h4 : j = 4 → k ≠ r) (h5 : j = 5 → k ≠ r + 1) : w'.heap[k]? = some o := by
  unfold RK at h
  split at h
  · rename_i hj; exact (h.block k (Array.getElem?_eq_some_iff.1 hk).1 (h4 hj)).trans hk
  · split at h
    · rename_i hj; exact (h.block k (Array.getElem?_eq_some_iff.1 hk).1 (h5 hj)).trans hk
    · rw [h]; exact hk
theorem FK.keeps (l : List Value) (r : Nat) (hc dc : Array Value) (ops : List Oper) (I : World → Prop) : ∀ (i j : Nat) (o : Oper) (vs : Nat → Value) (v : Value) (w w' : World), i ≠ j → ops[i]? = some o → (∀ e ∈ o.after, Region.binds .any e = true → e.on ≠ j) → FK l r hc dc i vs w → I w → RK r j w w' → FK l r hc dc i (upd vs j v) w' := fun i j o vs v w w' hij _ _ h _ hr => by
  unfold FK at h ⊢
  split at h
  · exact hr.at h (fun hj => absurd hj.symm hij) (fun _ => by omega)
  · exact hr.at h (fun _ => by omega) (fun hj => absurd hj.symm hij)
  · rw [upd_ne v hij]; exact h
theorem wp_stillI {P : Program} {o : Oper} {a : Act} {w : World} {Q : Exit → Act → World → Prop} {F : Nat → (Nat → Value) → World → Prop} {I : World → Prop} {r : Nat} {vs : Nat → Value} {i : Nat} {d : Option Tmp} {v : Value} (hr : (execOp a.eval o).run P w = .ok (.value v) w) (ht : o.dst = d) (hv : F i (upd vs i v) w) (hI : I w) (hR : RK r i w w) :
    o.wp P a w (fun a' w' => ∃ v', a' = a.put d v' ∧ F i (upd vs i v') w' ∧ I w' ∧ RK r i w w') Q :=
  wp_val hr (by rw [ht]; exact ⟨v, rfl, hv, hI, hR⟩)
def dstK (i : Nat) : Option Tmp := [some 50, some 51, some 52, some 53, none, none, some 4].getD i none
theorem dlK {s : Nat} (h : some s ∉ [some 50, some 51, some 52, some 53, none, none, some 4]) : ∀ j, j < 7 → dstK j ≠ some s := fun j hj e => h (by
  unfold dstK at e
  rw [← e, List.getD_eq_getElem?_getD, List.getElem?_eq_getElem (by exact hj)]
  exact List.getElem_mem _)
theorem field_pk0 (b : Nat) (u : World) : (Instr.fieldAt 77 (.pointer (some ⟨b, 0, none⟩)) 0).run Try.prog u = .ok (.pointer (some ⟨b, 0, none⟩)) u := by kernel_rfl
theorem IK.store1 {p q r : Nat} {pk dc hc : Array Value} {v : Option Addr × Nat × Nat} {B : List Nat} {w u : World} (h : IK p q r pk dc v B w u) (hp : p ≠ r) (hq : q ≠ r) (hv : ∀ a, v.1 = some a → a.block ≠ r) (hr : w.heap.size ≤ r) (hc10 : hc.size = 10) : (u.setCells r 0 hc.toList).heap[r]? = some (.cells hc 74 (0, 0)) ∧ IK p q r pk dc v B w (u.setCells r 0 hc.toList) := by
  obtain ⟨C, h1, h2⟩ := h.hd
  obtain ⟨C3, h3, h4⟩ := h.dt
  have b : But r u (u.setCells r 0 hc.toList) := But.setsT _ _
  have g : (u.setCells r 0 hc.toList).heap[r]? = some (.cells hc 74 (0, 0)) := row_put h1 (by rw [hc10, h2])
  exact ⟨g, ⟨(b.block p (Array.getElem?_eq_some_iff.1 h.pk).1 hp).trans h.pk, (b.block q (Array.getElem?_eq_some_iff.1 h.dg).1 hq).trans h.dg, ⟨hc, g, hc10⟩, ⟨C3, (b.block (r + 1) (Array.getElem?_eq_some_iff.1 h3).1 (by omega)).trans h3, h4⟩, sees_set' h.sees hv, below_setCells' hr _ _ _ h.below⟩⟩
theorem IK.store2 {p q r : Nat} {pk dc : Array Value} {v : Option Addr × Nat × Nat} {B : List Nat} {w u : World} (h : IK p q r pk dc v B w u) (hp : p ≠ r + 1) (hq : q ≠ r + 1) (hv : ∀ a, v.1 = some a → a.block ≠ r + 1) (hr : w.heap.size ≤ r) (hd3 : dc.size = 3) : (u.setCells (r + 1) 0 dc.toList).heap[r + 1]? = some (.cells dc 33 (0, 0)) ∧ IK p q r pk dc v B w (u.setCells (r + 1) 0 dc.toList) := by
  obtain ⟨C, h1, h2⟩ := h.hd
  obtain ⟨C3, h3, h4⟩ := h.dt
  have b : But (r + 1) u (u.setCells (r + 1) 0 dc.toList) := But.setsT _ _
  have g : (u.setCells (r + 1) 0 dc.toList).heap[r + 1]? = some (.cells dc 33 (0, 0)) := row_put h3 (by rw [hd3, h4])
  exact ⟨g, ⟨(b.block p (Array.getElem?_eq_some_iff.1 h.pk).1 hp).trans h.pk, (b.block q (Array.getElem?_eq_some_iff.1 h.dg).1 hq).trans h.dg, ⟨C, (b.block r (Array.getElem?_eq_some_iff.1 h1).1 (by omega)).trans h1, h2⟩, ⟨dc, g, hd3⟩, sees_set' h.sees hv, below_setCells' (by omega) _ _ _ h.below⟩⟩

theorem carried_any (v : Value) (L : List Nat) (w : World) (hv : SeesB w v L) (hl : L.length ≤ 140737488355328) :
    Calls Try.prog 33 #[v] w fun e w' => ∃ (h : Hd) (ao : Option Addr) (no co : Nat) (D : Tn.Dg) (a : Option Addr) (n c : Nat), e = .returned (.tuple #[.agg (hdCells h (.slice ao no co)), .agg (dgCells D (.slice a n c)), .int .i64 (caE L)]) ∧ (caE L = 0 → h = (parsed L).1 ∧ D = caD L ∧ SeesB w' (.slice a n c) D.B ∧ ∀ b, a = some b → w.heap.size ≤ b.block) ∧ Below w.heap.size w w' := by
  obtain ⟨wa, hwa⟩ : ∃ wa, wa = w.alloc (.cells zeroHdC 74) := ⟨_, rfl⟩
  obtain ⟨w1, hw1⟩ : ∃ w1, w1 = wa.alloc (.cells zeroD 33) := ⟨_, rfl⟩
  have hsa : wa.heap.size = w.heap.size + 1 := by rw [hwa]; simp
  have hs1 : w1.heap.size = w.heap.size + 2 := by rw [hw1]; simp [hsa]
  have hba : Below w.heap.size w wa := by rw [hwa]; exact (Below.refl _ _).alloc (Nat.le_refl _) _
  have hb1 : Below w.heap.size w w1 := by rw [hw1]; exact hba.alloc (by omega) _
  have hr0 : w1.heap[w.heap.size]? = some (.cells zeroHdC 74 (0, 0)) := by rw [hw1, heap_alloc_old _ _ (by omega), hwa]; exact heap_alloc_new w _
  have hr1 : w1.heap[w.heap.size + 1]? = some (.cells zeroD 33 (0, 0)) := by rw [hw1, ← hsa]; exact heap_alloc_new wa _
  obtain ⟨av, nv, cv, rfl, HNV, hnv1, hnv2⟩ := hv.shape
  have HPA := hid (parse_code _ L w1 (hv.below hb1) hl)
  have HBY := hid hv.bytes
  have HPK := hid (fun (he : (parsed L).2.2 = 0) => parsed_ok HBY.out he)
  have HR0 := hid hr0
  have HR1 := hid hr1
  have HB1 := hid hb1
  have HS1 := hid hs1
  have HW1 : Hid (w1 = (w.alloc (.cells #[.int .u8 0, .int .u16 0, .bool false, .bool false, .int .i64 0, .int .u8 0, .int .u8 0, .int .u32 0, .int .u32 0, .slice none 0 0] 74)).alloc (.cells #[.int .u16 0, .int .u16 0, .slice none 0 0] 33)) := by unfold Hid; rw [hw1, hwa]; rfl
  obtain ⟨zh, hzh⟩ : ∃ zh : Array Value, zh = zeroHdC := ⟨_, rfl⟩
  obtain ⟨zd, hzd⟩ : ∃ zd : Array Value, zd = zeroD := ⟨_, rfl⟩
  have HZH : Hid (zh = #[.int .u8 0, .int .u16 0, .bool false, .bool false, .int .i64 0, .int .u8 0, .int .u8 0, .int .u32 0, .int .u32 0, .slice none 0 0]) := hzh
  have HZD : Hid (zd = #[.int .u16 0, .int .u16 0, .slice none 0 0]) := hzd
  have hzhs : zh.size = 10 := by rw [hzh]; rfl
  have hzds : zd.size = 3 := by rw [hzd]; rfl
  have HIH : Hid ((Try.prog.info? 74).map (·.size) = some zh.size) := by unfold Hid; rw [hzhs]; kernel_rfl
  have HID : Hid ((Try.prog.info? 33).map (·.size) = some zd.size) := by unfold Hid; rw [hzds]; kernel_rfl
  have HOH : Hid (zh.all (·.oneCell') = true) := by unfold Hid; rw [hzh]; simp [zeroHdC, Value.oneCell']
  have HOD : Hid (zd.all (·.oneCell') = true) := by unfold Hid; rw [hzd]; simp [zeroD, Value.oneCell']
  have HZHC : Hid (zh = hdCells ⟨0, 0, false, false, 0, 0, 0, 0, 0, []⟩ (.slice none 0 0)) := hzh
  have HZDC : Hid (zd = dgCells Tn.none0 (.slice none 0 0)) := hzd
  have HEN : Hid (∀ u, Below w1.heap.size w1 u → u.there w.heap.size 0 zh.size ∧ (u.setCells w.heap.size 0 zh.toList).there (w.heap.size + 1) 0 zd.size ∧ (loadVar 74 ⟨w.heap.size, 0, none⟩).run Try.prog ((u.setCells w.heap.size 0 zh.toList).setCells (w.heap.size + 1) 0 zd.toList) = .ok (.agg zh) ((u.setCells w.heap.size 0 zh.toList).setCells (w.heap.size + 1) 0 zd.toList) ∧ (loadVar 33 ⟨w.heap.size + 1, 0, none⟩).run Try.prog ((u.setCells w.heap.size 0 zh.toList).setCells (w.heap.size + 1) 0 zd.toList) = .ok (.agg zd) ((u.setCells w.heap.size 0 zh.toList).setCells (w.heap.size + 1) 0 zd.toList)) := fun u hu => cells_end hr0 hr1 hu hzhs hzds
  have HBB : Hid (∀ u, Below w1.heap.size w1 u → Below w.heap.size w ((u.setCells w.heap.size 0 zh.toList).setCells (w.heap.size + 1) 0 zd.toList)) := fun u hu => below_setCells' (by omega) _ _ _ (below_setCells' (Nat.le_refl _) _ _ _ (hb1.trans (hu.mono hb1.size)))
  obtain ⟨CE, hCE⟩ : ∃ CE, CE = caE L := ⟨_, rfl⟩
  have HCE : Hid (CE = if (parsed L).2.2 ≠ 0 then (parsed L).2.2 else if (parsed L).1.mf = true ∨ (parsed L).1.off ≠ 0 then 75 else if (parsed L).1.proto ≠ 17 then 74 else Tn.puE (parsed L).1.src (parsed L).1.dst (parsed L).2.1) := hCE
  obtain ⟨CD, hCD⟩ : ∃ CD, CD = caD L := ⟨_, rfl⟩
  have HCD : Hid (CD = Tn.puD (parsed L).1.src (parsed L).1.dst (parsed L).2.1) := hCD
  rw [← hCE, ← hCD]
  clear hwa hw1 hsa hs1 hba hb1 hr0 hr1 hv hzh hzd hzhs hzds hCE hCD
  generalize parsed L = P at *
  obtain ⟨hd, B, E⟩ := P
  simp only at *
  go_enter Try.func33, Try.ntmps33
  go_upto_region 1 with fail
  rw [← HW1.out]
  go_wp2_with fail
  refine HPA.out.mono ?_
  rintro _ w2 ⟨vo, v2, rfl, hso, hs2, hb2⟩
  obtain ⟨ao, no, co, rfl, _, _, _⟩ := hso.shape
  obtain ⟨a2, n2, c2, rfl, _, _, _⟩ := hs2.shape
  obtain ⟨pa, hpa⟩ : ∃ pa, pa = pkCells hd (.slice ao no co) (.slice a2 n2 c2) := ⟨_, rfl⟩
  obtain ⟨p, hp⟩ : ∃ p, p = w2.heap.size := ⟨_, rfl⟩
  obtain ⟨w3, hw3⟩ : ∃ w3, w3 = (w2.alloc (.cells zeroPk 77)).setCells p 0 pa.toList := ⟨_, rfl⟩
  have hps : pa.size = 11 := by rw [hpa]; rfl
  have HIP : Hid ((Try.prog.info? 77).map (·.size) = some pa.size) := by unfold Hid; rw [hps]; kernel_rfl
  have hrp : (w2.alloc (.cells zeroPk 77)).heap[p]? = some (.cells zeroPk 77 (0, 0)) := by rw [hp]; exact heap_alloc_new w2 _
  have HTP : Hid ((w2.alloc (.cells zeroPk 77)).there p 0 pa.size) := there_blk hrp (by rw [hps]; rfl)
  have HOP : Hid (pa.all (·.oneCell') = true) := by unfold Hid; rw [hpa]; simp [pkCells, Value.oneCell']
  have hr3 : w3.heap[p]? = some (.cells (pkCells hd (.slice ao no co) (.slice a2 n2 c2)) 77 (0, 0)) := by rw [hw3, ← hpa]; exact row_put hrp (by rw [hps]; rfl)
  have hb23 : Below w2.heap.size w2 w3 := by rw [hw3]; exact below_setCells' (by omega) _ _ _ ((Below.refl _ _).alloc (Nat.le_refl _) _)
  have hb13 := hb2.trans (hb23.mono hb2.size)
  have HLH := hid (pk_loadH hr3)
  have HR3 := hid hr3
  have HB13 := hid hb13
  have HS3 := hid (hs2.below hb23)
  have HW3 := hid hw3
  have HP := hid hp
  have HPL : Hid (w1.heap.size ≤ p) := by unfold Hid; rw [hp]; exact hb2.size
  unfold zeroPk at HW3 HTP
  have c3 : w3.cell? ⟨p, 3, none⟩ = some (.bool hd.mf) := pk_at hr3 3 (by decide)
  have c4 : w3.cell? ⟨p, 4, none⟩ = some (.int .i64 hd.off) := pk_at hr3 4 (by decide)
  have c6 : w3.cell? ⟨p, 6, none⟩ = some (.int .u8 (hd.proto : Int)) := pk_at hr3 6 (by decide)
  have c7 : w3.cell? ⟨p, 7, none⟩ = some (.int .u32 (hd.src : Int)) := pk_at hr3 7 (by decide)
  have c8 : w3.cell? ⟨p, 8, none⟩ = some (.int .u32 (hd.dst : Int)) := pk_at hr3 8 (by decide)
  have c10 : w3.cell? ⟨p, 10, none⟩ = some (.slice a2 n2 c2) := pk_at hr3 10 (by decide)
  rw [← hpa]
  obtain ⟨t1, t2, t3, t4⟩ := HEN.out w3 hb13
  have HT1 := hid t1
  have HT2 := hid t2
  have HV1 := hid t3
  have HV2 := hid t4
  have HBF := hid (HBB.out w3 hb13)
  clear hpa hp hw3 hps hrp hr3 hb23 hb2 hb13 hso hs2 HPA t1 t2 t3 t4 HEN HBB
  go_upto_region 2 with (first
    | (rw [← HP.out]; refine wpList_store_mid rfl 77 (.tmp 5) (.tmp 11) rfl p 0 pa rfl rfl HTP.out HIP.out HOP.out ?_; rw [← HW3.out])
    | fail)
  by_cases hE : E ≠ 0
  · have HEE : Hid (CE = E) := by unfold Hid; rw [HCE.out, if_pos hE]
    have q1 : (E == 0) = false := by simp [hE]
    have q2 : (E != 0) = true := by simp [hE]
    go_wp2_with (first
      | (refine wpList_store_mid rfl 74 (.tmp 2) (.tmp 16) rfl w.heap.size 0 zh rfl (by rw [HZH.out]; rfl) HT1.out HIH.out HOH.out ?_)
      | (refine wpList_store_mid rfl 33 (.tmp 3) (.tmp 17) rfl (w.heap.size + 1) 0 zd rfl (by rw [HZD.out]; rfl) HT2.out HID.out HOD.out ?_)
      | fail)
    generalize (w3.setCells w.heap.size 0 zh.toList).setCells (w.heap.size + 1) 0 zd.toList = wf at HV1 HV2 HBF ⊢
    refine bodyPost_ret (v := .tuple #[.agg zh, .agg zd, .int .i64 E]) (by simp [results, Try.results33, asAddr, HV1.out, HV2.out]) rfl ?_
    rw [HEE.out]
    exact ⟨_, none, 0, 0, _, none, 0, 0, by rw [HZHC.out, HZDC.out], fun h => absurd h hE, HBF.out⟩
  have hE := Decidable.not_not.1 hE
  subst hE
  have hok := HPK.out rfl
  have hpr := hok.proto
  have hof := hok.off
  have hsr := hok.src
  have hds := hok.dst
  by_cases hm : hd.mf = true ∨ hd.off ≠ 0
  · have HEE : Hid (CE = 75) := by unfold Hid; rw [HCE.out, if_neg (by simp), if_pos hm]
    clear hok
    by_cases hmf : hd.mf = true
    · rw [hmf] at c3
      go_wp2_with (first
        | (refine wpList_store_mid rfl 74 (.tmp 2) (.tmp 29) rfl w.heap.size 0 zh rfl (by rw [HZH.out]; rfl) HT1.out HIH.out HOH.out ?_)
        | (refine wpList_store_mid rfl 33 (.tmp 3) (.tmp 30) rfl (w.heap.size + 1) 0 zd rfl (by rw [HZD.out]; rfl) HT2.out HID.out HOD.out ?_)
        | fail)
      generalize (w3.setCells w.heap.size 0 zh.toList).setCells (w.heap.size + 1) 0 zd.toList = wf at HV1 HV2 HBF ⊢
      refine bodyPost_ret (v := .tuple #[.agg zh, .agg zd, .int .i64 75]) (by simp [results, Try.results33, asAddr, HV1.out, HV2.out]) rfl ?_
      rw [HEE.out]
      exact ⟨_, none, 0, 0, _, none, 0, 0, by rw [HZHC.out, HZDC.out], fun h => absurd h (by decide), HBF.out⟩
    · have hoff : hd.off ≠ 0 := hm.resolve_left hmf
      rw [Bool.eq_false_iff.2 hmf] at c3
      have q1 : (hd.off == 0) = false := by simp [hoff]
      have q2 : (hd.off != 0) = true := by simp [hoff]
      go_wp2_with (first
        | (refine wpList_store_mid rfl 74 (.tmp 2) (.tmp 29) rfl w.heap.size 0 zh rfl (by rw [HZH.out]; rfl) HT1.out HIH.out HOH.out ?_)
        | (refine wpList_store_mid rfl 33 (.tmp 3) (.tmp 30) rfl (w.heap.size + 1) 0 zd rfl (by rw [HZD.out]; rfl) HT2.out HID.out HOD.out ?_)
        | fail)
      generalize (w3.setCells w.heap.size 0 zh.toList).setCells (w.heap.size + 1) 0 zd.toList = wf at HV1 HV2 HBF ⊢
      refine bodyPost_ret (v := .tuple #[.agg zh, .agg zd, .int .i64 75]) (by simp [results, Try.results33, asAddr, HV1.out, HV2.out]) rfl ?_
      rw [HEE.out]
      exact ⟨_, none, 0, 0, _, none, 0, 0, by rw [HZHC.out, HZDC.out], fun h => absurd h (by decide), HBF.out⟩
  have hmf : hd.mf = false := Bool.eq_false_iff.2 fun h => hm (.inl h)
  have hoff : hd.off = 0 := Decidable.not_not.1 fun h => hm (.inr h)
  rw [hmf] at c3
  rw [hoff] at c4
  by_cases hpn : hd.proto ≠ 17
  · have HEE : Hid (CE = 74) := by unfold Hid; rw [HCE.out, if_neg (by simp), if_neg hm, if_pos hpn]
    have q1 : ((hd.proto : Int) == 17) = false := by simp; omega
    have q2 : ((hd.proto : Int) != 17) = true := by simp; omega
    have HPN := hid hpn
    clear hok hm hmf hoff hpn
    go_wp2_with (first
      | (refine wpList_store_mid rfl 74 (.tmp 2) (.tmp 36) rfl w.heap.size 0 zh rfl (by rw [HZH.out]; rfl) HT1.out HIH.out HOH.out ?_)
      | (refine wpList_store_mid rfl 33 (.tmp 3) (.tmp 37) rfl (w.heap.size + 1) 0 zd rfl (by rw [HZD.out]; rfl) HT2.out HID.out HOD.out ?_)
      | fail)
    generalize (w3.setCells w.heap.size 0 zh.toList).setCells (w.heap.size + 1) 0 zd.toList = wf at HV1 HV2 HBF ⊢
    refine bodyPost_ret (v := .tuple #[.agg zh, .agg zd, .int .i64 74]) (by simp [results, Try.results33, asAddr, HV1.out, HV2.out]) rfl ?_
    rw [HEE.out]
    exact ⟨_, none, 0, 0, _, none, 0, 0, by rw [HZHC.out, HZDC.out], fun h => absurd h (by decide), HBF.out⟩
  have hpn := Decidable.not_not.1 hpn
  have HEE : Hid (CE = Tn.puE hd.src hd.dst B) := by unfold Hid; rw [HCE.out, if_neg (by simp), if_neg hm, if_neg (by rw [hpn]; decide)]
  have c6' : w3.cell? ⟨p, 6, none⟩ = some (.int .u8 17) := by rw [c6, hpn]; rfl
  have X3 := hid (parseU_any _ B hd.src hd.dst w3 HS3.out hsr hds)
  rw [← HEE.out, ← HCD.out] at X3
  clear hok hm hmf hoff hpn hpr hof c6 HEE HCE HCD HT1 HT2 HV1 HV2 HBF HPK
  go_wp2_with fail
  refine X3.out.mono ?_
  rintro _ w4 ⟨a4, n4, k4, rfl, hs4, hnew, hb4⟩
  obtain ⟨dc, hdc⟩ : ∃ dc, dc = dgCells CD (.slice a4 n4 k4) := ⟨_, rfl⟩
  obtain ⟨q, hq⟩ : ∃ q, q = w4.heap.size := ⟨_, rfl⟩
  obtain ⟨w5, hw5⟩ : ∃ w5, w5 = (w4.alloc (.cells zeroD 33)).setCells q 0 dc.toList := ⟨_, rfl⟩
  have hds3 : dc.size = 3 := by rw [hdc]; rfl
  have HIQ : Hid ((Try.prog.info? 33).map (·.size) = some dc.size) := by unfold Hid; rw [hds3]; kernel_rfl
  have hrq : (w4.alloc (.cells zeroD 33)).heap[q]? = some (.cells zeroD 33 (0, 0)) := by rw [hq]; exact heap_alloc_new w4 _
  have HTQ : Hid ((w4.alloc (.cells zeroD 33)).there q 0 dc.size) := there_blk hrq (by rw [hds3]; rfl)
  have HOQ : Hid (dc.all (·.oneCell') = true) := by unfold Hid; rw [hdc]; simp [dgCells, Value.oneCell']
  have hr5 : w5.heap[q]? = some (.cells dc 33 (0, 0)) := by rw [hw5]; exact row_put hrq (by rw [hds3]; rfl)
  have hb45 : Below w4.heap.size w4 w5 := by rw [hw5]; exact below_setCells' (by omega) _ _ _ ((Below.refl _ _).alloc (Nat.le_refl _) _)
  have hb35 := hb4.trans (hb45.mono hb4.size)
  have hb15 := HB13.out.trans (hb35.mono HB13.out.size)
  have hsz := HS1.out
  have hsz3 := HB13.out.size
  have hsz4 := hb4.size
  have hpl := HPL.out
  have hIK : IK p q w.heap.size (pkCells hd (.slice ao no co) (.slice a2 n2 c2)) dc (a4, n4, k4) CD.B w w5 :=
    ⟨(hb35.block p (Array.getElem?_eq_some_iff.1 HR3.out).1).trans HR3.out, hr5, ⟨_, (hb15.block _ (by omega)).trans HR0.out, rfl⟩, ⟨_, (hb15.block _ (by omega)).trans HR1.out, rfl⟩, hs4.below hb45, HB1.out.trans (hb15.mono HB1.out.size)⟩
  have HIK := hid hIK
  have HDC := hid hdc
  have HNE : Hid (p ≠ w.heap.size ∧ p ≠ w.heap.size + 1 ∧ q ≠ w.heap.size ∧ q ≠ w.heap.size + 1) := ⟨by omega, by omega, by omega, by omega⟩
  have HNW : Hid (∀ b, a4 = some b → w.heap.size + 2 ≤ b.block) := fun b hb => by have := hnew b hb; omega
  have HDS := hid hds3
  have HW5 := hid hw5
  have HQ := hid hq
  obtain ⟨hc, hhc⟩ : ∃ hc, hc = hdCells hd (.slice ao no co) := ⟨_, rfl⟩
  have HHC := hid hhc
  have HH10 : Hid (hc.size = 10) := by unfold Hid; rw [hhc]; rfl
  have HIC : Hid ((Try.prog.info? 74).map (·.size) = some hc.size) := by unfold Hid; rw [HH10.out]; kernel_rfl
  have HOC : Hid (hc.all (·.oneCell') = true) := by unfold Hid; rw [hhc]; simp [hdCells, Value.oneCell']
  unfold zeroD at HW5 HTQ
  rw [← hdc]
  clear hdc hq hw5 hds3 hrq hr5 hb45 hb35 hb15 hsz hsz3 hsz4 hpl hIK hhc hs4 hnew hb4 X3 c3 c4 c6' c7 c8 c10
  go_upto_region 9 with (first
    | (rw [← HQ.out]; refine wpList_store_mid rfl 33 (.tmp 7) (.tmp 48) rfl q 0 dc rfl rfl HTQ.out HIQ.out HOQ.out ?_; rw [← HW5.out])
    | fail)
  refine wp_region_all' 7 dstK (FK [.pointer (some ⟨p, 0, none⟩), .agg hc, .agg dc, .int .i64 CE, .int .i64 0, .int .i64 0, .int .i64 CE] w.heap.size hc dc) (IK p q w.heap.size (pkCells hd (.slice ao no co) (.slice a2 n2 c2)) dc (a4, n4, k4) CD.B w) (RK w.heap.size) (by kernel_rfl) (by kernel_rfl) ⟨HIK.out.pk, HIK.out.dg, HIK.out.hd, HIK.out.dt, HIK.out.sees.below ⟨rfl, rfl, rfl, Nat.le_refl _, fun _ _ => rfl⟩, HIK.out.below.trans (Below.mono ⟨rfl, rfl, rfl, Nat.le_refl _, fun _ _ => rfl⟩ HIK.out.below.size)⟩ (FK.keeps _ _ _ _ _ _) ?_ ?_
  · simp only [stepsAll]
    refine ⟨?_, ?_, ?_, ?_, ?_, ?_, ?_, trivial⟩
    · intro a u vs hI hold hdep
      exact wp_stillI (ex_field _ ⟨p, 0, none⟩ (.tmp 5) 0 _ rfl (hold 5 (dlK (by decide))) (field_pk0 _ u)) rfl (congrArg some (upd_eq _ _ _).symm) hI rfl
    · intro a u vs hI hold hdep
      have e0 : a.eval (.tmp 50) = .pointer (some ⟨p, 0, none⟩) := by have h0 := hdep ⟨0, .data⟩ (by simp) rfl; exact (h0.2 50 rfl).trans (Option.some.inj h0.1).symm
      exact wp_stillI (ex_load _ ⟨p, 0, none⟩ (.tmp 50) (.agg hc) rfl e0 (by rw [HHC.out]; exact pk_loadH hI.pk)) rfl (congrArg some (upd_eq _ _ _).symm) hI rfl
    · intro a u vs hI hold hdep
      exact wp_stillI (ex_load _ ⟨q, 0, none⟩ (.tmp 7) (.agg dc) rfl (hold 7 (dlK (by decide))) (load_rowAt hI.dg Try.underlying33 rfl HIQ.out)) rfl (congrArg some (upd_eq _ _ _).symm) hI rfl
    · intro a u vs hI hold hdep
      exact wp_stillI (ex_move (.tmp 6) _ rfl (hold 6 (dlK (by decide)))) rfl (congrArg some (upd_eq _ _ _).symm) hI rfl
    · intro a u vs hI hold hdep
      have e1 : a.eval (.tmp 51) = .agg hc := by have h0 := hdep ⟨1, .data⟩ (by simp) rfl; exact (h0.2 51 rfl).trans (Option.some.inj h0.1).symm
      obtain ⟨C, hC1, hC2⟩ := hI.hd
      obtain ⟨g1, g2⟩ := hI.store1 HNE.out.1 HNE.out.2.2.1 (fun b hb => by have := HNW.out b hb; omega) (Nat.le_refl _) HH10.out
      exact wp_store_mid 74 (.tmp 2) (.tmp 51) rfl w.heap.size 0 hc (hold 2 (dlK (by decide))) e1 (there_blk hC1 (by rw [hC2, HH10.out])) HIC.out HOC.out ⟨.int .i64 0, rfl, g1, g2, But.setsT _ _⟩
    · intro a u vs hI hold hdep
      have e1 : a.eval (.tmp 52) = .agg dc := by have h0 := hdep ⟨2, .data⟩ (by simp) rfl; exact (h0.2 52 rfl).trans (Option.some.inj h0.1).symm
      obtain ⟨C, hC1, hC2⟩ := hI.dt
      obtain ⟨g1, g2⟩ := hI.store2 HNE.out.2.1 HNE.out.2.2.2 (fun b hb => by have := HNW.out b hb; omega) (Nat.le_refl _) HDS.out
      exact wp_store_mid 33 (.tmp 3) (.tmp 52) rfl (w.heap.size + 1) 0 dc (hold 3 (dlK (by decide))) e1 (there_blk hC1 (by rw [hC2, HDS.out])) HIQ.out HOQ.out ⟨.int .i64 0, rfl, g1, g2, But.setsT _ _⟩
    · intro a u vs hI hold hdep
      have e1 : a.eval (.tmp 53) = .int .i64 CE := by have h0 := hdep ⟨3, .data⟩ (by simp) rfl; exact (h0.2 53 rfl).trans (Option.some.inj h0.1).symm
      exact wp_stillI (ex_assign (.tmp 53) _ rfl e1) rfl (congrArg some (upd_eq _ _ _).symm) hI rfl
  intro vs u hI hF
  have e6 : vs 6 = .int .i64 CE := (Option.some.inj (hF 6 (by decide))).symm
  have HU2 : Hid (u.heap[w.heap.size]? = some (.cells hc 74 (0, 0))) := hF 4 (by decide)
  have HU3 : Hid (u.heap[w.heap.size + 1]? = some (.cells dc 33 (0, 0))) := hF 5 (by decide)
  have HV1 := hid (load_row HU2.out Try.underlying74 rfl HIC.out)
  have HV2 := hid (load_row HU3.out Try.underlying33 rfl HIQ.out)
  have HII := hid hI
  clear hF hI
  generalize vs 0 = y0
  generalize vs 1 = y1
  generalize vs 2 = y2
  generalize vs 3 = y3
  generalize vs 4 = y4
  generalize vs 5 = y5
  simp only [putsO, List.range, List.range.loop, List.foldr, if_true, dstK, List.getD_cons_zero, List.getD_cons_succ, Act.put, e6, List.setIfInBounds_toArray, List.set_cons_succ, List.set_cons_zero]
  go_wp2_with fail
  refine bodyPost_ret (v := .tuple #[.agg hc, .agg dc, .int .i64 CE]) (by simp [results, Try.results33, asAddr, HV1.out, HV2.out]) rfl ?_
  exact ⟨hd, ao, no, co, CD, a4, n4, k4, by rw [HHC.out, HDC.out], fun _ => ⟨rfl, rfl, HII.out.sees, fun b hb => by have := HNW.out b hb; omega⟩, HII.out.below⟩
end Go.Proofs.Ytcelcnafcfefhab.N

/-
  tunnel.Open.
-/
namespace Go.Proofs.Ytcelcnafcfefhab.N
open Go.ChangeShapes Go.WideShapes Go.ChangeAt Go.RowKit
set_option maxHeartbeats 8000000
set_option maxRecDepth 100000

def opE (L : List Nat) : Int := if caE L ≠ 0 then caE L else if rhE (caD L).B ≠ 0 then rhE (caD L).B else Tn.pfE (rhB (caD L).B)
def opO (L : List Nat) : Ou := if opE L = 0 then ⟨(parsed L).1.src, (parsed L).1.dst, (caD L).s, (caD L).d, (parsed L).1.ttl, (rhV (caD L).B : Int)⟩ else ⟨0, 0, 0, 0, 0, 0⟩
def opF (L : List Nat) : Tn.Fr := if opE L = 0 then Tn.pfF (rhB (caD L).B) else Tn.noneF
def zeroOu : Array Value := #[.int .u32 0, .int .u32 0, .int .u16 0, .int .u16 0, .int .u8 0, .int .i64 0]

/-- Two results in cells. -/
theorem cells_endO {w1 u : World} {r : Nat} {hc dc : Array Value} (hr2 : w1.heap[r]? = some (.cells zeroOu 26 (0, 0))) (hr3 : w1.heap[r + 1]? = some (.cells zeroF 31 (0, 0))) (hb : Below w1.heap.size w1 u) (hh : hc.size = 6) (hd : dc.size = 14) :
    u.there r 0 hc.size ∧ (u.setCells r 0 hc.toList).there (r + 1) 0 dc.size ∧ (loadVar 26 ⟨r, 0, none⟩).run Try.prog ((u.setCells r 0 hc.toList).setCells (r + 1) 0 dc.toList) = .ok (.agg hc) ((u.setCells r 0 hc.toList).setCells (r + 1) 0 dc.toList) ∧ (loadVar 31 ⟨r + 1, 0, none⟩).run Try.prog ((u.setCells r 0 hc.toList).setCells (r + 1) 0 dc.toList) = .ok (.agg dc) ((u.setCells r 0 hc.toList).setCells (r + 1) 0 dc.toList) := by
  have l2 := (Array.getElem?_eq_some_iff.1 hr2).1
  have l3 := (Array.getElem?_eq_some_iff.1 hr3).1
  have h2 := (hb.block r l2).trans hr2
  have h3 := (hb.block (r + 1) l3).trans hr3
  have hsz := hb.size
  have b1 : But r u (u.setCells r 0 hc.toList) := But.setsT _ _
  have g2 : (u.setCells r 0 hc.toList).heap[r]? = some (.cells hc 26 (0, 0)) := row_put h2 (by rw [hh]; rfl)
  have g3 := (b1.block (r + 1) (by omega) (by omega)).trans h3
  have b2 : But (r + 1) (u.setCells r 0 hc.toList) ((u.setCells r 0 hc.toList).setCells (r + 1) 0 dc.toList) := But.setsT _ _
  have k3 : ((u.setCells r 0 hc.toList).setCells (r + 1) 0 dc.toList).heap[r + 1]? = some (.cells dc 31 (0, 0)) := row_put g3 (by rw [hd]; rfl)
  have k2 := (b2.block r (Array.getElem?_eq_some_iff.1 g2).1 (by omega)).trans g2
  exact ⟨there_blk h2 (by rw [hh]; rfl), there_blk g3 (by rw [hd]; rfl), load_row k2 Try.underlying26 rfl (by rw [hh]; kernel_rfl), load_row k3 Try.underlying31 rfl (by rw [hd]; kernel_rfl)⟩

/-- What holds all along the statement that lays the results down. -/
structure IO (p q r : Nat) (pk dc : Array Value) (v : Option Addr × Nat × Nat) (B : List Nat) (w u : World) : Prop where
  pk : u.heap[p]? = some (.cells pk 26 (0, 0))
  dg : u.heap[q]? = some (.cells dc 31 (0, 0))
  hd : ∃ C, u.heap[r]? = some (.cells C 26 (0, 0)) ∧ C.size = 6
  dt : ∃ C, u.heap[r + 1]? = some (.cells C 31 (0, 0)) ∧ C.size = 14
  sees : SeesB u (.slice v.1 v.2.1 v.2.2) B
  below : Below w.heap.size w u

def RO (r j : Nat) (w w' : World) : Prop := if j = 2 then But r w w' else if j = 3 then But (r + 1) w w' else w'.heap = w.heap
def FO (l : List Value) (r : Nat) (hc dc : Array Value) : Nat → (Nat → Value) → World → Prop
  | 2, _, w => w.heap[r]? = some (.cells hc 26 (0, 0))
  | 3, _, w => w.heap[r + 1]? = some (.cells dc 31 (0, 0))
  | i, vs, _ => l[i]? = some (vs i)
theorem RO.at {r j k : Nat} {w w' : World} {o : Obj} (h : RO r j w w') (hk : w.heap[k]? = some o) (h4 : j = 2 → k ≠ r) (h5 : j = 3 → k ≠ r + 1) : w'.heap[k]? = some o := by
  unfold RO at h
  split at h
  · rename_i hj; exact (h.block k (Array.getElem?_eq_some_iff.1 hk).1 (h4 hj)).trans hk
  · split at h
    · rename_i hj; exact (h.block k (Array.getElem?_eq_some_iff.1 hk).1 (h5 hj)).trans hk
    · rw [h]; exact hk
theorem FO.keeps (l : List Value) (r : Nat) (hc dc : Array Value) (ops : List Oper) (I : World → Prop) : ∀ (i j : Nat) (o : Oper) (vs : Nat → Value) (v : Value) (w w' : World), i ≠ j → ops[i]? = some o → (∀ e ∈ o.after, Region.binds .any e = true → e.on ≠ j) → FO l r hc dc i vs w → I w → RO r j w w' → FO l r hc dc i (upd vs j v) w' := fun i j o vs v w w' hij _ _ h _ hr => by
  unfold FO at h ⊢
  split at h
  · exact hr.at h (fun hj => absurd hj.symm hij) (fun _ => by omega)
  · exact hr.at h (fun _ => by omega) (fun hj => absurd hj.symm hij)
  · rw [upd_ne v hij]; exact h
theorem wp_stillJ {P : Program} {o : Oper} {a : Act} {w : World} {Q : Exit → Act → World → Prop} {F : Nat → (Nat → Value) → World → Prop} {I : World → Prop} {r : Nat} {vs : Nat → Value} {i : Nat} {d : Option Tmp} {v : Value} (hr : (execOp a.eval o).run P w = .ok (.value v) w) (ht : o.dst = d) (hv : F i (upd vs i v) w) (hI : I w) (hR : RO r i w w) :
    o.wp P a w (fun a' w' => ∃ v', a' = a.put d v' ∧ F i (upd vs i v') w' ∧ I w' ∧ RO r i w w') Q :=
  wp_val hr (by rw [ht]; exact ⟨v, rfl, hv, hI, hR⟩)
def dstO (i : Nat) : Option Tmp := [some 57, some 58, none, none, some 4].getD i none
theorem dlO {s : Nat} (h : some s ∉ [some 57, some 58, none, none, some 4]) : ∀ j, j < 5 → dstO j ≠ some s := fun j hj e => h (by
  unfold dstO at e
  rw [← e, List.getD_eq_getElem?_getD, List.getElem?_eq_getElem (by exact hj)]
  exact List.getElem_mem _)
theorem IO.store1 {p q r : Nat} {pk dc hc : Array Value} {v : Option Addr × Nat × Nat} {B : List Nat} {w u : World} (h : IO p q r pk dc v B w u) (hp : p ≠ r) (hq : q ≠ r) (hv : ∀ a, v.1 = some a → a.block ≠ r) (hr : w.heap.size ≤ r) (hc10 : hc.size = 6) : (u.setCells r 0 hc.toList).heap[r]? = some (.cells hc 26 (0, 0)) ∧ IO p q r pk dc v B w (u.setCells r 0 hc.toList) := by
  obtain ⟨C, h1, h2⟩ := h.hd
  obtain ⟨C3, h3, h4⟩ := h.dt
  have b : But r u (u.setCells r 0 hc.toList) := But.setsT _ _
  have g : (u.setCells r 0 hc.toList).heap[r]? = some (.cells hc 26 (0, 0)) := row_put h1 (by rw [hc10, h2])
  exact ⟨g, ⟨(b.block p (Array.getElem?_eq_some_iff.1 h.pk).1 hp).trans h.pk, (b.block q (Array.getElem?_eq_some_iff.1 h.dg).1 hq).trans h.dg, ⟨hc, g, hc10⟩, ⟨C3, (b.block (r + 1) (Array.getElem?_eq_some_iff.1 h3).1 (by omega)).trans h3, h4⟩, sees_set' h.sees hv, below_setCells' hr _ _ _ h.below⟩⟩
theorem IO.store2 {p q r : Nat} {pk dc : Array Value} {v : Option Addr × Nat × Nat} {B : List Nat} {w u : World} (h : IO p q r pk dc v B w u) (hp : p ≠ r + 1) (hq : q ≠ r + 1) (hv : ∀ a, v.1 = some a → a.block ≠ r + 1) (hr : w.heap.size ≤ r) (hd3 : dc.size = 14) : (u.setCells (r + 1) 0 dc.toList).heap[r + 1]? = some (.cells dc 31 (0, 0)) ∧ IO p q r pk dc v B w (u.setCells (r + 1) 0 dc.toList) := by
  obtain ⟨C, h1, h2⟩ := h.hd
  obtain ⟨C3, h3, h4⟩ := h.dt
  have b : But (r + 1) u (u.setCells (r + 1) 0 dc.toList) := But.setsT _ _
  have g : (u.setCells (r + 1) 0 dc.toList).heap[r + 1]? = some (.cells dc 31 (0, 0)) := row_put h3 (by rw [hd3, h4])
  exact ⟨g, ⟨(b.block p (Array.getElem?_eq_some_iff.1 h.pk).1 hp).trans h.pk, (b.block q (Array.getElem?_eq_some_iff.1 h.dg).1 hq).trans h.dg, ⟨C, (b.block r (Array.getElem?_eq_some_iff.1 h1).1 (by omega)).trans h1, h2⟩, ⟨dc, g, hd3⟩, sees_set' h.sees hv, below_setCells' (by omega) _ _ _ h.below⟩⟩


theorem open_any (v : Value) (L : List Nat) (w : World) (hv : SeesB w v L) (hl : L.length ≤ 140737488355328) :
    Calls Try.prog 12 #[v] w fun e w' => ∃ (a : Option Addr) (n c : Nat), e = .returned (.tuple #[.agg (ouCells (opO L)), .agg (frCells (opF L) (.slice a n c)), .int .i64 (opE L)]) ∧ SeesB w' (.slice a n c) (opF L).B ∧ (∀ b, a = some b → w.heap.size ≤ b.block) ∧ Below w.heap.size w w' := by
  obtain ⟨wa, hwa⟩ : ∃ wa, wa = w.alloc (.cells zeroOu 26) := ⟨_, rfl⟩
  obtain ⟨w1, hw1⟩ : ∃ w1, w1 = wa.alloc (.cells zeroF 31) := ⟨_, rfl⟩
  have hsa : wa.heap.size = w.heap.size + 1 := by rw [hwa]; simp
  have hs1 : w1.heap.size = w.heap.size + 2 := by rw [hw1]; simp [hsa]
  have hba : Below w.heap.size w wa := by rw [hwa]; exact (Below.refl _ _).alloc (Nat.le_refl _) _
  have hb1 : Below w.heap.size w w1 := by rw [hw1]; exact hba.alloc (by omega) _
  have hr0 : w1.heap[w.heap.size]? = some (.cells zeroOu 26 (0, 0)) := by rw [hw1, heap_alloc_old _ _ (by omega), hwa]; exact heap_alloc_new w _
  have hr1 : w1.heap[w.heap.size + 1]? = some (.cells zeroF 31 (0, 0)) := by rw [hw1, ← hsa]; exact heap_alloc_new wa _
  obtain ⟨av, nv, cv, rfl, HNV, hnv1, hnv2⟩ := hv.shape
  have HCA := hid (carried_any _ L w1 (hv.below hb1) hl)
  have HBY := hid hv.bytes
  have HR0 := hid hr0
  have HR1 := hid hr1
  have HB1 := hid hb1
  have HS1 := hid hs1
  have HW1 : Hid (w1 = (w.alloc (.cells #[.int .u32 0, .int .u32 0, .int .u16 0, .int .u16 0, .int .u8 0, .int .i64 0] 26)).alloc (.cells zeroF 31)) := by unfold Hid; rw [hw1, hwa]; rfl
  unfold zeroF at HW1
  obtain ⟨zo, hzo⟩ : ∃ zo : Array Value, zo = zeroOu := ⟨_, rfl⟩
  obtain ⟨zf, hzf⟩ : ∃ zf : Array Value, zf = zeroF := ⟨_, rfl⟩
  have HZO : Hid (zo = #[.int .u32 0, .int .u32 0, .int .u16 0, .int .u16 0, .int .u8 0, .int .i64 0]) := hzo
  have HZF : Hid (zf = zeroF) := hzf
  unfold zeroF at HZF
  have hzos : zo.size = 6 := by rw [hzo]; rfl
  have hzfs : zf.size = 14 := by rw [hzf]; rfl
  have HIO : Hid ((Try.prog.info? 26).map (·.size) = some zo.size) := by unfold Hid; rw [hzos]; kernel_rfl
  have HIF : Hid ((Try.prog.info? 31).map (·.size) = some zf.size) := by unfold Hid; rw [hzfs]; kernel_rfl
  have HOO : Hid (zo.all (·.oneCell') = true) := by unfold Hid; rw [hzo]; simp [zeroOu, Value.oneCell']
  have HOF : Hid (zf.all (·.oneCell') = true) := by unfold Hid; rw [hzf]; simp [zeroF, Value.oneCell']
  have HZOC : Hid (zo = ouCells ⟨0, 0, 0, 0, 0, 0⟩) := hzo
  have HZFC : Hid (zf = frCells Tn.noneF (.slice none 0 0)) := hzf
  have HEN : Hid (∀ u, Below w1.heap.size w1 u → u.there w.heap.size 0 zo.size ∧ (u.setCells w.heap.size 0 zo.toList).there (w.heap.size + 1) 0 zf.size ∧ (loadVar 26 ⟨w.heap.size, 0, none⟩).run Try.prog ((u.setCells w.heap.size 0 zo.toList).setCells (w.heap.size + 1) 0 zf.toList) = .ok (.agg zo) ((u.setCells w.heap.size 0 zo.toList).setCells (w.heap.size + 1) 0 zf.toList) ∧ (loadVar 31 ⟨w.heap.size + 1, 0, none⟩).run Try.prog ((u.setCells w.heap.size 0 zo.toList).setCells (w.heap.size + 1) 0 zf.toList) = .ok (.agg zf) ((u.setCells w.heap.size 0 zo.toList).setCells (w.heap.size + 1) 0 zf.toList)) := fun u hu => cells_endO hr0 hr1 hu hzos hzfs
  have HBB : Hid (∀ u, Below w1.heap.size w1 u → Below w.heap.size w ((u.setCells w.heap.size 0 zo.toList).setCells (w.heap.size + 1) 0 zf.toList)) := fun u hu => below_setCells' (by omega) _ _ _ (below_setCells' (Nat.le_refl _) _ _ _ (hb1.trans (hu.mono hb1.size)))
  have HBAD : Hid (∀ e, opE L = e → e ≠ 0 → opE L = e ∧ opO L = ⟨0, 0, 0, 0, 0, 0⟩ ∧ opF L = Tn.noneF) := fun e he h0 => ⟨he, by unfold opO; rw [if_neg (by rw [he]; exact h0)], by unfold opF; rw [if_neg (by rw [he]; exact h0)]⟩
  have HOE : Hid (opE L = if caE L ≠ 0 then caE L else if rhE (caD L).B ≠ 0 then rhE (caD L).B else Tn.pfE (rhB (caD L).B)) := rfl
  have HGO : Hid (opE L = 0 → opO L = ⟨(parsed L).1.src, (parsed L).1.dst, (caD L).s, (caD L).d, (parsed L).1.ttl, (rhV (caD L).B : Int)⟩ ∧ opF L = Tn.pfF (rhB (caD L).B)) := fun h => ⟨by unfold opO; rw [if_pos h], by unfold opF; rw [if_pos h]⟩
  clear hwa hw1 hsa hs1 hba hb1 hr0 hr1 hv hzo hzf hzos hzfs
  generalize opE L = OE at *
  generalize opO L = OO at *
  generalize opF L = OF at *
  generalize caE L = CE at *
  generalize (parsed L).1 = PH at *
  generalize caD L = CD at *
  go_enter Try.func12, Try.ntmps12
  go_upto_region 1 with fail
  rw [← HW1.out]
  go_wp2_with fail
  refine HCA.out.mono ?_
  rintro _ w2 ⟨hd, ao, no, co, D, a2, n2, c2, rfl, hgood, hb2⟩
  obtain ⟨hc, hhc⟩ : ∃ hc, hc = hdCells hd (.slice ao no co) := ⟨_, rfl⟩
  obtain ⟨dc, hdc⟩ : ∃ dc, dc = dgCells D (.slice a2 n2 c2) := ⟨_, rfl⟩
  obtain ⟨p, hp⟩ : ∃ p, p = w2.heap.size := ⟨_, rfl⟩
  obtain ⟨wb, hwb⟩ : ∃ wb, wb = (w2.alloc (.cells zeroHdC 74)).alloc (.cells zeroD 33) := ⟨_, rfl⟩
  obtain ⟨wc, hwc⟩ : ∃ wc, wc = wb.setCells p 0 hc.toList := ⟨_, rfl⟩
  obtain ⟨w3, hw3⟩ : ∃ w3, w3 = wc.setCells (p + 1) 0 dc.toList := ⟨_, rfl⟩
  have hcs : hc.size = 10 := by rw [hhc]; rfl
  have hds : dc.size = 3 := by rw [hdc]; rfl
  have HIC : Hid ((Try.prog.info? 74).map (·.size) = some hc.size) := by unfold Hid; rw [hcs]; kernel_rfl
  have HID : Hid ((Try.prog.info? 33).map (·.size) = some dc.size) := by unfold Hid; rw [hds]; kernel_rfl
  have HOC : Hid (hc.all (·.oneCell') = true) := by unfold Hid; rw [hhc]; simp [hdCells, Value.oneCell']
  have HOD : Hid (dc.all (·.oneCell') = true) := by unfold Hid; rw [hdc]; simp [dgCells, Value.oneCell']
  have hsb : wb.heap.size = w2.heap.size + 2 := by rw [hwb]; simp
  have g1 : wb.heap[p]? = some (.cells zeroHdC 74 (0, 0)) := by rw [hwb, heap_alloc_old _ _ (by rw [hp]; simp), hp]; exact heap_alloc_new w2 _
  have g2 : wb.heap[p + 1]? = some (.cells zeroD 33 (0, 0)) := by
    have h0 : (w2.alloc (.cells zeroHdC 74)).heap.size = p + 1 := by rw [hp]; simp
    rw [hwb, ← h0]; exact heap_alloc_new _ _
  have HTC : Hid (wb.there p 0 hc.size) := there_blk g1 (by rw [hcs]; rfl)
  have bC : But p wb wc := by rw [hwc]; exact But.setsT _ _
  have k1 : wc.heap[p]? = some (.cells hc 74 (0, 0)) := by rw [hwc]; exact row_put g1 (by rw [hcs]; rfl)
  have k2 := (bC.block (p + 1) (Array.getElem?_eq_some_iff.1 g2).1 (by omega)).trans g2
  have HTD : Hid (wc.there (p + 1) 0 dc.size) := there_blk k2 (by rw [hds]; rfl)
  have bD : But (p + 1) wc w3 := by rw [hw3]; exact But.setsT _ _
  have m1 := (bD.block p (Array.getElem?_eq_some_iff.1 k1).1 (by omega)).trans k1
  have m2 : w3.heap[p + 1]? = some (.cells dc 33 (0, 0)) := by rw [hw3]; exact row_put k2 (by rw [hds]; rfl)
  have hb2b : Below w2.heap.size w2 wb := by rw [hwb]; exact ((Below.refl _ _).alloc (Nat.le_refl _) _).alloc (by simp) _
  have hb23 : Below w2.heap.size w2 w3 := by rw [hw3, hwc]; exact below_setCells' (by omega) _ _ _ (below_setCells' (by omega) _ _ _ hb2b)
  have hb13 := hb2.trans (hb23.mono hb2.size)
  have HB23 := hid hb23
  have HB13 := hid hb13
  have HM1 : Hid (w3.heap[p]? = some (.cells (hdCells hd (.slice ao no co)) 74 (0, 0))) := by unfold Hid; rw [← hhc]; exact m1
  have HM2 : Hid (w3.heap[p + 1]? = some (.cells (dgCells D (.slice a2 n2 c2)) 33 (0, 0))) := by unfold Hid; rw [← hdc]; exact m2
  have HPL : Hid (w1.heap.size ≤ p) := by unfold Hid; rw [hp]; exact hb2.size
  have HWB : Hid (wb = (w2.alloc (.cells #[.int .u8 0, .int .u16 0, .bool false, .bool false, .int .i64 0, .int .u8 0, .int .u8 0, .int .u32 0, .int .u32 0, .slice none 0 0] 74)).alloc (.cells #[.int .u16 0, .int .u16 0, .slice none 0 0] 33)) := hwb
  have HWC := hid hwc
  have HW3 := hid hw3
  have HP := hid hp
  have HGD := hid hgood
  rw [← hhc, ← hdc]
  clear hhc hdc hp hwb hwc hw3 hcs hds hsb g1 g2 bC k1 k2 bD m1 m2 hb2b hb23 hb13 hgood hb2 HCA
  go_upto_region 2 with (first
    | (rw [← HWB.out, ← HP.out]; refine wpList_store_mid rfl 74 (.tmp 5) (.tmp 15) rfl p 0 hc rfl rfl HTC.out HIC.out HOC.out ?_; rw [← HWC.out])
    | (refine wpList_store_mid rfl 33 (.tmp 6) (.tmp 16) rfl (p + 1) 0 dc rfl rfl HTD.out HID.out HOD.out ?_; rw [← HW3.out])
    | fail)
  by_cases hE : CE ≠ 0
  · have HEE := hid (HBAD.out CE (by rw [HOE.out, if_pos hE]) hE)
    have q1 : (CE == 0) = false := by simp [hE]
    have q2 : (CE != 0) = true := by simp [hE]
    obtain ⟨t1, t2, t3, t4⟩ := HEN.out w3 HB13.out
    have HT1 := hid t1
    have HT2 := hid t2
    have HV1 := hid t3
    have HV2 := hid t4
    have HBF := hid (HBB.out w3 HB13.out)
    clear t1 t2 t3 t4
    go_wp2_with (first
      | (refine wpList_store_mid rfl 26 (.tmp 2) (.tmp 20) rfl w.heap.size 0 zo rfl (by rw [HZO.out]; rfl) HT1.out HIO.out HOO.out ?_)
      | (refine wpList_store_mid rfl 31 (.tmp 3) (.tmp 21) rfl (w.heap.size + 1) 0 zf rfl (by rw [HZF.out]; rfl) HT2.out HIF.out HOF.out ?_)
      | fail)
    generalize (w3.setCells w.heap.size 0 zo.toList).setCells (w.heap.size + 1) 0 zf.toList = wf at HV1 HV2 HBF ⊢
    refine bodyPost_ret (v := .tuple #[.agg zo, .agg zf, .int .i64 CE]) (by simp [results, Try.results12, asAddr, HV1.out, HV2.out]) rfl ?_
    rw [HEE.out.1, HEE.out.2.1, HEE.out.2.2]
    exact ⟨none, 0, 0, by rw [HZOC.out, HZFC.out], sees_nil _, (fun b hb => by cases hb), HBF.out⟩
  have hE := Decidable.not_not.1 hE
  rw [if_neg (by simp [hE])] at HOE
  obtain ⟨rfl, rfl, hs2, hn2⟩ := HGD.out hE
  subst hE
  have d2 : w3.cell? ⟨p + 1, 2, none⟩ = some (.slice a2 n2 c2) := (dg_at HM2.out).2.2
  have XR := hid (readHead_any _ D.B w3 (hs2.below HB23.out))
  clear hs2 hn2 HGD
  go_wp2_with fail
  refine XR.out.mono ?_
  rintro _ w4 ⟨a4, n4, c4, rfl, hs4, hb4⟩
  have HB34 := hid hb4
  have HB14 := hid (HB13.out.trans (hb4.mono HB13.out.size))
  have HS4 := hid hs4
  have XP := hid (parseF_any _ (rhB D.B) w4 hs4)
  have HFO : Hid ((Tn.pfF (rhB D.B)).Ok) := pfF_ok hs4.bytes
  clear hs4 hb4 XR d2
  generalize rhE D.B = RE at *
  generalize rhV D.B = RV at *
  generalize rhB D.B = RB at *
  by_cases hR : RE ≠ 0
  · have HEE := hid (HBAD.out RE (by rw [HOE.out, if_pos hR]) hR)
    have q1 : (RE == 0) = false := by simp [hR]
    have q2 : (RE != 0) = true := by simp [hR]
    obtain ⟨t1, t2, t3, t4⟩ := HEN.out w4 HB14.out
    have HT1 := hid t1
    have HT2 := hid t2
    have HV1 := hid t3
    have HV2 := hid t4
    have HBF := hid (HBB.out w4 HB14.out)
    clear t1 t2 t3 t4
    go_wp2_with (first
      | (refine wpList_store_mid rfl 26 (.tmp 2) (.tmp 32) rfl w.heap.size 0 zo rfl (by rw [HZO.out]; rfl) HT1.out HIO.out HOO.out ?_)
      | (refine wpList_store_mid rfl 31 (.tmp 3) (.tmp 33) rfl (w.heap.size + 1) 0 zf rfl (by rw [HZF.out]; rfl) HT2.out HIF.out HOF.out ?_)
      | fail)
    generalize (w4.setCells w.heap.size 0 zo.toList).setCells (w.heap.size + 1) 0 zf.toList = wf at HV1 HV2 HBF ⊢
    refine bodyPost_ret (v := .tuple #[.agg zo, .agg zf, .int .i64 RE]) (by simp [results, Try.results12, asAddr, HV1.out, HV2.out]) rfl ?_
    rw [HEE.out.1, HEE.out.2.1, HEE.out.2.2]
    exact ⟨none, 0, 0, by rw [HZOC.out, HZFC.out], sees_nil _, (fun b hb => by cases hb), HBF.out⟩
  have hR := Decidable.not_not.1 hR
  rw [if_neg (by simp [hR])] at HOE
  subst hR
  go_wp2_with fail
  refine XP.out.mono ?_
  rintro _ w5 ⟨a5, n5, c5, rfl, hs5, hn5, hb5⟩
  obtain ⟨fc, hfc⟩ : ∃ fc, fc = frCells (Tn.pfF RB) (.slice a5 n5 c5) := ⟨_, rfl⟩
  obtain ⟨q, hq⟩ : ∃ q, q = w5.heap.size := ⟨_, rfl⟩
  obtain ⟨w6, hw6⟩ : ∃ w6, w6 = (w5.alloc (.cells zeroF 31)).setCells q 0 fc.toList := ⟨_, rfl⟩
  have hfs : fc.size = 14 := by rw [hfc]; exact frCells_size HFO.out _
  have HIQ : Hid ((Try.prog.info? 31).map (·.size) = some fc.size) := by unfold Hid; rw [hfs]; kernel_rfl
  have hrq : (w5.alloc (.cells zeroF 31)).heap[q]? = some (.cells zeroF 31 (0, 0)) := by rw [hq]; exact heap_alloc_new w5 _
  have HTQ : Hid ((w5.alloc (.cells zeroF 31)).there q 0 fc.size) := there_blk hrq (by rw [hfs]; rfl)
  have HOQ : Hid (fc.all (·.oneCell') = true) := by unfold Hid; rw [hfc]; exact frc_one
  have hr6 : w6.heap[q]? = some (.cells fc 31 (0, 0)) := by rw [hw6]; exact row_put hrq (by rw [hfs]; rfl)
  have hb56 : Below w5.heap.size w5 w6 := by rw [hw6]; exact below_setCells' (by omega) _ _ _ ((Below.refl _ _).alloc (Nat.le_refl _) _)
  have hb46 := hb5.trans (hb56.mono hb5.size)
  have HB36 := hid (HB34.out.trans (hb46.mono HB34.out.size))
  have HB16 := hid (HB13.out.trans (HB36.out.mono HB13.out.size))
  have HS6 := hid (hs5.below hb56)
  have HR6 := hid hr6
  have HFS := hid hfs
  have HFC := hid hfc
  have HQL : Hid (w1.heap.size ≤ q) := by unfold Hid; rw [hq]; exact Nat.le_trans HB14.out.size hb5.size
  have HNW : Hid (∀ b, a5 = some b → w1.heap.size ≤ b.block) := fun b hb => Nat.le_trans HB14.out.size (hn5 b hb)
  have HW6 := hid hw6
  have HQ := hid hq
  unfold zeroF at HW6 HTQ
  rw [← hfc]
  clear hfc hq hw6 hfs hrq hr6 hb56 hb46 hs5 hn5 hb5 XP
  go_upto_region 8 with (first
    | (rw [← HQ.out]; refine wpList_store_mid rfl 31 (.tmp 10) (.tmp 38) rfl q 0 fc rfl rfl HTQ.out HIQ.out HOQ.out ?_; rw [← HW6.out])
    | fail)
  have HPF : Hid (OE = 0 → OF = Tn.pfF RB) := fun h => (HGO.out h).2
  have HPO : Hid (OE = 0 → OO = ⟨hd.src, hd.dst, D.s, D.d, hd.ttl, (RV : Int)⟩) := fun h => (HGO.out h).1
  generalize Tn.pfE RB = PE at *
  by_cases hPE : PE ≠ 0
  · have HEE := hid (HBAD.out PE HOE.out hPE)
    have q1 : (PE == 0) = false := by simp [hPE]
    have q2 : (PE != 0) = true := by simp [hPE]
    obtain ⟨t1, t2, t3, t4⟩ := HEN.out w6 HB16.out
    have HT1 := hid t1
    have HT2 := hid t2
    have HV1 := hid t3
    have HV2 := hid t4
    have HBF := hid (HBB.out w6 HB16.out)
    clear t1 t2 t3 t4
    go_wp2_with (first
      | (refine wpList_store_mid rfl 26 (.tmp 2) (.tmp 42) rfl w.heap.size 0 zo rfl (by rw [HZO.out]; rfl) HT1.out HIO.out HOO.out ?_)
      | (refine wpList_store_mid rfl 31 (.tmp 3) (.tmp 43) rfl (w.heap.size + 1) 0 zf rfl (by rw [HZF.out]; rfl) HT2.out HIF.out HOF.out ?_)
      | fail)
    generalize (w6.setCells w.heap.size 0 zo.toList).setCells (w.heap.size + 1) 0 zf.toList = wf at HV1 HV2 HBF ⊢
    refine bodyPost_ret (v := .tuple #[.agg zo, .agg zf, .int .i64 PE]) (by simp [results, Try.results12, asAddr, HV1.out, HV2.out]) rfl ?_
    rw [HEE.out.1, HEE.out.2.1, HEE.out.2.2]
    exact ⟨none, 0, 0, by rw [HZOC.out, HZFC.out], sees_nil _, (fun b hb => by cases hb), HBF.out⟩
  have hPE := Decidable.not_not.1 hPE
  subst hPE
  have HEZ : Hid (OE = 0) := HOE.out
  have HM1' : Hid (w6.heap[p]? = some (.cells (hdCells hd (.slice ao no co)) 74 (0, 0))) := (HB36.out.block p (Array.getElem?_eq_some_iff.1 HM1.out).1).trans HM1.out
  have HM2' : Hid (w6.heap[p + 1]? = some (.cells (dgCells D (.slice a2 n2 c2)) 33 (0, 0))) := (HB36.out.block (p + 1) (Array.getElem?_eq_some_iff.1 HM2.out).1).trans HM2.out
  have ct5 : w6.cell? ⟨p, 5, none⟩ = some (.int .u8 (hd.ttl : Int)) := by rw [cell_of_row _ _ _ _ _ _ HM1'.out]; rfl
  have c7 : w6.cell? ⟨p, 7, none⟩ = some (.int .u32 (hd.src : Int)) := by rw [cell_of_row _ _ _ _ _ _ HM1'.out]; rfl
  have c8 : w6.cell? ⟨p, 8, none⟩ = some (.int .u32 (hd.dst : Int)) := by rw [cell_of_row _ _ _ _ _ _ HM1'.out]; rfl
  obtain ⟨d0, d1, d2⟩ := dg_at HM2'.out
  obtain ⟨oc, hoc⟩ : ∃ oc : Array Value, oc = #[.int .u32 (hd.src : Int), .int .u32 (hd.dst : Int), .int .u16 (D.s : Int), .int .u16 (D.d : Int), .int .u8 (hd.ttl : Int), .int .i64 (RV : Int)] := ⟨_, rfl⟩
  obtain ⟨w7, hw7⟩ : ∃ w7, w7 = w6.alloc (.cells oc 26) := ⟨_, rfl⟩
  have hb67 : Below w6.heap.size w6 w7 := by rw [hw7]; exact (Below.refl _ _).alloc (Nat.le_refl _) _
  have hos : oc.size = 6 := by rw [hoc]; rfl
  have hr7 : w7.heap[w6.heap.size]? = some (.cells oc 26 (0, 0)) := by rw [hw7]; exact heap_alloc_new w6 _
  have hb17 := HB16.out.trans (hb67.mono HB16.out.size)
  have hsz := HS1.out
  have hq1 := HQL.out
  have h16 := HB16.out.size
  have hIO : IO w6.heap.size q w.heap.size oc fc (a5, n5, c5) (Tn.pfF RB).B w w7 :=
    ⟨hr7, (hb67.block q (Array.getElem?_eq_some_iff.1 HR6.out).1).trans HR6.out, ⟨_, (hb17.block _ (by omega)).trans HR0.out, rfl⟩, ⟨_, (hb17.block _ (by omega)).trans HR1.out, rfl⟩, HS6.out.below hb67, HB1.out.trans (hb17.mono HB1.out.size)⟩
  have HIOI := hid hIO
  have HNE : Hid (w6.heap.size ≠ w.heap.size ∧ w6.heap.size ≠ w.heap.size + 1 ∧ q ≠ w.heap.size ∧ q ≠ w.heap.size + 1) := ⟨by omega, by omega, by omega, by omega⟩
  have HNW2 : Hid (∀ b, a5 = some b → w.heap.size + 2 ≤ b.block) := fun b hb => by have := HNW.out b hb; omega
  have HOS := hid hos
  have HOI : Hid ((Try.prog.info? 26).map (·.size) = some oc.size) := by unfold Hid; rw [hos]; kernel_rfl
  have HOA : Hid (oc.all (·.oneCell') = true) := by unfold Hid; rw [hoc]; simp [Value.oneCell']
  have HW7 : Hid (w7 = w6.alloc (.cells #[.int .u32 (hd.src : Int), .int .u32 (hd.dst : Int), .int .u16 (D.s : Int), .int .u16 (D.d : Int), .int .u8 (hd.ttl : Int), .int .i64 (RV : Int)] 26)) := by unfold Hid; rw [hw7, hoc]
  have HOC2 : Hid (oc = ouCells OO) := by unfold Hid; rw [hoc, HPO.out HEZ.out]; rfl
  have HFC2 : Hid (fc = frCells OF (.slice a5 n5 c5)) := by unfold Hid; rw [HFC.out, HPF.out HEZ.out]
  have HFB : Hid (OF.B = (Tn.pfF RB).B) := by unfold Hid; rw [HPF.out HEZ.out]
  clear hoc hw7 hb67 hos hr7 hb17 hsz hq1 h16 hIO
  go_upto_region 11 with fail
  rw [← HW7.out]
  obtain ⟨pp, hpp⟩ : ∃ pp, pp = w6.heap.size := ⟨_, rfl⟩
  rw [← hpp] at HIOI HNE ⊢
  refine wp_region_all' 5 dstO (FO [.agg oc, .agg fc, .int .i64 0, .int .i64 0, .int .i64 0] w.heap.size oc fc) (IO pp q w.heap.size oc fc (a5, n5, c5) (Tn.pfF RB).B w) (RO w.heap.size) (by kernel_rfl) (by kernel_rfl) ⟨HIOI.out.pk, HIOI.out.dg, HIOI.out.hd, HIOI.out.dt, HIOI.out.sees.below ⟨rfl, rfl, rfl, Nat.le_refl _, fun _ _ => rfl⟩, HIOI.out.below.trans (Below.mono ⟨rfl, rfl, rfl, Nat.le_refl _, fun _ _ => rfl⟩ HIOI.out.below.size)⟩ (FO.keeps _ _ _ _ _ _) ?_ ?_
  · simp only [stepsAll]
    refine ⟨?_, ?_, ?_, ?_, ?_, trivial⟩
    · intro a u vs hI hold hdep
      exact wp_stillJ (ex_load _ ⟨pp, 0, none⟩ (.tmp 11) (.agg oc) rfl (hold 11 (dlO (by decide))) (load_rowAt hI.pk Try.underlying26 rfl HOI.out)) rfl (congrArg some (upd_eq _ _ _).symm) hI rfl
    · intro a u vs hI hold hdep
      exact wp_stillJ (ex_load _ ⟨q, 0, none⟩ (.tmp 10) (.agg fc) rfl (hold 10 (dlO (by decide))) (load_rowAt hI.dg Try.underlying31 rfl HIQ.out)) rfl (congrArg some (upd_eq _ _ _).symm) hI rfl
    · intro a u vs hI hold hdep
      have e1 : a.eval (.tmp 57) = .agg oc := by have h0 := hdep ⟨0, .data⟩ (by simp) rfl; exact (h0.2 57 rfl).trans (Option.some.inj h0.1).symm
      obtain ⟨C, hC1, hC2⟩ := hI.hd
      obtain ⟨g1, g2⟩ := hI.store1 HNE.out.1 HNE.out.2.2.1 (fun b hb => by have := HNW2.out b hb; omega) (Nat.le_refl _) HOS.out
      exact wp_store_mid 26 (.tmp 2) (.tmp 57) rfl w.heap.size 0 oc (hold 2 (dlO (by decide))) e1 (there_blk hC1 (by rw [hC2, HOS.out])) HOI.out HOA.out ⟨.int .i64 0, rfl, g1, g2, But.setsT _ _⟩
    · intro a u vs hI hold hdep
      have e1 : a.eval (.tmp 58) = .agg fc := by have h0 := hdep ⟨1, .data⟩ (by simp) rfl; exact (h0.2 58 rfl).trans (Option.some.inj h0.1).symm
      obtain ⟨C, hC1, hC2⟩ := hI.dt
      obtain ⟨g1, g2⟩ := hI.store2 HNE.out.2.1 HNE.out.2.2.2 (fun b hb => by have := HNW2.out b hb; omega) (Nat.le_refl _) HFS.out
      exact wp_store_mid 31 (.tmp 3) (.tmp 58) rfl (w.heap.size + 1) 0 fc (hold 3 (dlO (by decide))) e1 (there_blk hC1 (by rw [hC2, HFS.out])) HIQ.out HOQ.out ⟨.int .i64 0, rfl, g1, g2, But.setsT _ _⟩
    · intro a u vs hI hold hdep
      exact wp_stillJ (ex_assign (.const (.int .i64 0)) _ rfl rfl) rfl (congrArg some (upd_eq _ _ _).symm) hI rfl
  intro vs u hI hF
  have e4 : vs 4 = .int .i64 0 := (Option.some.inj (hF 4 (by decide))).symm
  have HU2 : Hid (u.heap[w.heap.size]? = some (.cells oc 26 (0, 0))) := hF 2 (by decide)
  have HU3 : Hid (u.heap[w.heap.size + 1]? = some (.cells fc 31 (0, 0))) := hF 3 (by decide)
  have HV1 := hid (load_row HU2.out Try.underlying26 rfl HOI.out)
  have HV2 := hid (load_row HU3.out Try.underlying31 rfl HIQ.out)
  have HII := hid hI
  clear hF hI
  generalize vs 0 = y0
  generalize vs 1 = y1
  generalize vs 2 = y2
  generalize vs 3 = y3
  simp only [putsO, List.range, List.range.loop, List.foldr, if_true, dstO, List.getD_cons_zero, List.getD_cons_succ, Act.put, e4, List.setIfInBounds_toArray, List.set_cons_succ, List.set_cons_zero]
  go_wp2_with fail
  refine bodyPost_ret (v := .tuple #[.agg oc, .agg fc, .int .i64 0]) (by simp [results, Try.results12, asAddr, HV1.out, HV2.out]) rfl ?_
  exact ⟨a5, n5, c5, by rw [HOC2.out, HFC2.out, HEZ.out], by rw [HFB.out]; exact HII.out.sees, fun b hb => by have := HNW2.out b hb; omega, HII.out.below⟩
end Go.Proofs.Ytcelcnafcfefhab.N

/-
  weftref7.Open.
-/
namespace Go.Proofs.Ytcelcnafcfefhab.N
open Go.ChangeShapes Go.WideShapes Go.ChangeAt Go.RowKit
set_option maxHeartbeats 16000000
set_option maxRecDepth 100000

theorem load_u8h {u : World} {p : Addr} {x : Int} (h : u.cell? p = some (.int .u8 x)) : (Instr.loadAt 5 (.pointer (some p))).run Try.prog u = .ok (.int .u8 x) u := by
  simp [Instr.loadAt, go_sem, h]
theorem field_hd3 (b : Nat) (u : World) : (Instr.fieldAt 74 (.pointer (some ⟨b, 0, none⟩)) 5).run Try.prog u = .ok (.pointer (some ⟨b, 5, none⟩)) u ∧ (Instr.fieldAt 74 (.pointer (some ⟨b, 0, none⟩)) 7).run Try.prog u = .ok (.pointer (some ⟨b, 7, none⟩)) u ∧ (Instr.fieldAt 74 (.pointer (some ⟨b, 0, none⟩)) 8).run Try.prog u = .ok (.pointer (some ⟨b, 8, none⟩)) u := ⟨by kernel_rfl, by kernel_rfl, by kernel_rfl⟩
theorem field_dg2 (b : Nat) (u : World) : (Instr.fieldAt 33 (.pointer (some ⟨b, 0, none⟩)) 0).run Try.prog u = .ok (.pointer (some ⟨b, 0, none⟩)) u ∧ (Instr.fieldAt 33 (.pointer (some ⟨b, 0, none⟩)) 1).run Try.prog u = .ok (.pointer (some ⟨b, 1, none⟩)) u := ⟨by kernel_rfl, by kernel_rfl⟩
theorem build_ou (a b c d e f : Int) (u : World) : (Instr.build 26 #[(0, .int .u32 a), (1, .int .u32 b), (2, .int .u16 c), (3, .int .u16 d), (4, .int .u8 e), (5, .int .i64 f)]).run Try.prog u = .ok (.agg #[.int .u32 a, .int .u32 b, .int .u16 c, .int .u16 d, .int .u8 e, .int .i64 f]) u := by
  simp [Instr.build, run_underlying Try.underlying26, go_sem]

/-- What holds all along the statement that lays the results down. -/
structure IQ (p q t r : Nat) (pk dc fc : Array Value) (v : Option Addr × Nat × Nat) (B : List Nat) (w u : World) : Prop where
  pk : u.heap[p]? = some (.cells pk 77 (0, 0))
  dg : u.heap[q]? = some (.cells dc 33 (0, 0))
  fr : u.heap[t]? = some (.cells fc 31 (0, 0))
  hd : ∃ C, u.heap[r]? = some (.cells C 26 (0, 0)) ∧ C.size = 6
  dt : ∃ C, u.heap[r + 1]? = some (.cells C 31 (0, 0)) ∧ C.size = 14
  sees : SeesB u (.slice v.1 v.2.1 v.2.2) B
  below : Below w.heap.size w u
theorem IQ.store1 {p q t r : Nat} {pk dc fc hc : Array Value} {v : Option Addr × Nat × Nat} {B : List Nat} {w u : World} (h : IQ p q t r pk dc fc v B w u) (hp : p ≠ r) (hq : q ≠ r) (ht : t ≠ r) (hv : ∀ a, v.1 = some a → a.block ≠ r) (hr : w.heap.size ≤ r) (hc6 : hc.size = 6) : (u.setCells r 0 hc.toList).heap[r]? = some (.cells hc 26 (0, 0)) ∧ IQ p q t r pk dc fc v B w (u.setCells r 0 hc.toList) := by
  obtain ⟨C, h1, h2⟩ := h.hd
  obtain ⟨C3, h3, h4⟩ := h.dt
  have b : But r u (u.setCells r 0 hc.toList) := But.setsT _ _
  have g : (u.setCells r 0 hc.toList).heap[r]? = some (.cells hc 26 (0, 0)) := row_put h1 (by rw [hc6, h2])
  exact ⟨g, ⟨(b.block p (Array.getElem?_eq_some_iff.1 h.pk).1 hp).trans h.pk, (b.block q (Array.getElem?_eq_some_iff.1 h.dg).1 hq).trans h.dg, (b.block t (Array.getElem?_eq_some_iff.1 h.fr).1 ht).trans h.fr, ⟨hc, g, hc6⟩, ⟨C3, (b.block (r + 1) (Array.getElem?_eq_some_iff.1 h3).1 (by omega)).trans h3, h4⟩, sees_set' h.sees hv, below_setCells' hr _ _ _ h.below⟩⟩
theorem IQ.store2 {p q t r : Nat} {pk dc fc : Array Value} {v : Option Addr × Nat × Nat} {B : List Nat} {w u : World} (h : IQ p q t r pk dc fc v B w u) (hp : p ≠ r + 1) (hq : q ≠ r + 1) (ht : t ≠ r + 1) (hv : ∀ a, v.1 = some a → a.block ≠ r + 1) (hr : w.heap.size ≤ r) (hf : fc.size = 14) : (u.setCells (r + 1) 0 fc.toList).heap[r + 1]? = some (.cells fc 31 (0, 0)) ∧ IQ p q t r pk dc fc v B w (u.setCells (r + 1) 0 fc.toList) := by
  obtain ⟨C, h1, h2⟩ := h.hd
  obtain ⟨C3, h3, h4⟩ := h.dt
  have b : But (r + 1) u (u.setCells (r + 1) 0 fc.toList) := But.setsT _ _
  have g : (u.setCells (r + 1) 0 fc.toList).heap[r + 1]? = some (.cells fc 31 (0, 0)) := row_put h3 (by rw [hf, h4])
  exact ⟨g, ⟨(b.block p (Array.getElem?_eq_some_iff.1 h.pk).1 hp).trans h.pk, (b.block q (Array.getElem?_eq_some_iff.1 h.dg).1 hq).trans h.dg, (b.block t (Array.getElem?_eq_some_iff.1 h.fr).1 ht).trans h.fr, ⟨C, (b.block r (Array.getElem?_eq_some_iff.1 h1).1 (by omega)).trans h1, h2⟩, ⟨fc, g, hf⟩, sees_set' h.sees hv, below_setCells' (by omega) _ _ _ h.below⟩⟩
def RQ (r j : Nat) (w w' : World) : Prop := if j = 16 then But r w w' else if j = 17 then But (r + 1) w w' else w'.heap = w.heap
def FQ (l : List Value) (r : Nat) (hc dc : Array Value) : Nat → (Nat → Value) → World → Prop
  | 16, _, w => w.heap[r]? = some (.cells hc 26 (0, 0))
  | 17, _, w => w.heap[r + 1]? = some (.cells dc 31 (0, 0))
  | i, vs, _ => l[i]? = some (vs i)
theorem RQ.at {r j k : Nat} {w w' : World} {o : Obj} (h : RQ r j w w') (hk : w.heap[k]? = some o) (h4 : j = 16 → k ≠ r) (h5 : j = 17 → k ≠ r + 1) : w'.heap[k]? = some o := by
  unfold RQ at h
  split at h
  · rename_i hj; exact (h.block k (Array.getElem?_eq_some_iff.1 hk).1 (h4 hj)).trans hk
  · split at h
    · rename_i hj; exact (h.block k (Array.getElem?_eq_some_iff.1 hk).1 (h5 hj)).trans hk
    · rw [h]; exact hk
theorem FQ.keeps (l : List Value) (r : Nat) (hc dc : Array Value) (ops : List Oper) (I : World → Prop) : ∀ (i j : Nat) (o : Oper) (vs : Nat → Value) (v : Value) (w w' : World), i ≠ j → ops[i]? = some o → (∀ e ∈ o.after, Region.binds .any e = true → e.on ≠ j) → FQ l r hc dc i vs w → I w → RQ r j w w' → FQ l r hc dc i (upd vs j v) w' := fun i j o vs v w w' hij _ _ h _ hr => by
  unfold FQ at h ⊢
  split at h
  · exact hr.at h (fun hj => absurd hj.symm hij) (fun _ => by omega)
  · exact hr.at h (fun _ => by omega) (fun hj => absurd hj.symm hij)
  · rw [upd_ne v hij]; exact h
theorem wp_stillQ {P : Program} {o : Oper} {a : Act} {w : World} {Q : Exit → Act → World → Prop} {F : Nat → (Nat → Value) → World → Prop} {I : World → Prop} {r : Nat} {vs : Nat → Value} {i : Nat} {d : Option Tmp} {v : Value} (hr : (execOp a.eval o).run P w = .ok (.value v) w) (ht : o.dst = d) (hv : F i (upd vs i v) w) (hI : I w) (hR : RQ r i w w) :
    o.wp P a w (fun a' w' => ∃ v', a' = a.put d v' ∧ F i (upd vs i v') w' ∧ I w' ∧ RQ r i w w') Q :=
  wp_val hr (by rw [ht]; exact ⟨v, rfl, hv, hI, hR⟩)
def dstQ (i : Nat) : Option Tmp := [some 84, some 85, some 86, some 87, some 88, some 89, some 90, some 91, some 92, some 93, some 94, some 95, some 96, some 97, some 98, some 99, none, none, some 4].getD i none
theorem dlQ {s : Nat} (h : some s ∉ [some 84, some 85, some 86, some 87, some 88, some 89, some 90, some 91, some 92, some 93, some 94, some 95, some 96, some 97, some 98, some 99, none, none, some 4]) : ∀ j, j < 19 → dstQ j ≠ some s := fun j hj e => h (by
  unfold dstQ at e
  rw [← e, List.getD_eq_getElem?_getD, List.getElem?_eq_getElem (by exact hj)]
  exact List.getElem_mem _)

theorem openR_any (v : Value) (L : List Nat) (w : World) (hv : SeesB w v L) (hl : L.length ≤ 140737488355328) :
    Calls Try.prog 26 #[v] w fun e w' => ∃ (a : Option Addr) (n c : Nat), e = .returned (.tuple #[.agg (ouCells (opO L)), .agg (frCells (opF L) (.slice a n c)), .int .i64 (opE L)]) ∧ SeesB w' (.slice a n c) (opF L).B ∧ (∀ b, a = some b → w.heap.size ≤ b.block) ∧ Below w.heap.size w w' := by
  obtain ⟨wa, hwa⟩ : ∃ wa, wa = w.alloc (.cells zeroOu 26) := ⟨_, rfl⟩
  obtain ⟨w1, hw1⟩ : ∃ w1, w1 = wa.alloc (.cells zeroF 31) := ⟨_, rfl⟩
  have hsa : wa.heap.size = w.heap.size + 1 := by rw [hwa]; simp
  have hs1 : w1.heap.size = w.heap.size + 2 := by rw [hw1]; simp [hsa]
  have hba : Below w.heap.size w wa := by rw [hwa]; exact (Below.refl _ _).alloc (Nat.le_refl _) _
  have hb1 : Below w.heap.size w w1 := by rw [hw1]; exact hba.alloc (by omega) _
  have hr0 : w1.heap[w.heap.size]? = some (.cells zeroOu 26 (0, 0)) := by rw [hw1, heap_alloc_old _ _ (by omega), hwa]; exact heap_alloc_new w _
  have hr1 : w1.heap[w.heap.size + 1]? = some (.cells zeroF 31 (0, 0)) := by rw [hw1, ← hsa]; exact heap_alloc_new wa _
  obtain ⟨av, nv, cv, rfl, HNV, hnv1, hnv2⟩ := hv.shape
  have HPA := hid (parse_ref _ L w1 (hv.below hb1) hl)
  have HPK := hid (fun (he : (parsed L).2.2 = 0) => parsed_ok hv.bytes he)
  have HCE : Hid (caE L = if (parsed L).2.2 ≠ 0 then (parsed L).2.2 else if (parsed L).1.mf = true ∨ (parsed L).1.off ≠ 0 then 75 else if (parsed L).1.proto ≠ 17 then 74 else Tn.puE (parsed L).1.src (parsed L).1.dst (parsed L).2.1) := rfl
  have HCD : Hid (caD L = Tn.puD (parsed L).1.src (parsed L).1.dst (parsed L).2.1) := rfl
  have HBY := hid hv.bytes
  have HR0 := hid hr0
  have HR1 := hid hr1
  have HB1 := hid hb1
  have HS1 := hid hs1
  have HW1 : Hid (w1 = (w.alloc (.cells #[.int .u32 0, .int .u32 0, .int .u16 0, .int .u16 0, .int .u8 0, .int .i64 0] 26)).alloc (.cells zeroF 31)) := by unfold Hid; rw [hw1, hwa]; rfl
  unfold zeroF at HW1
  obtain ⟨zo, hzo⟩ : ∃ zo : Array Value, zo = zeroOu := ⟨_, rfl⟩
  obtain ⟨zf, hzf⟩ : ∃ zf : Array Value, zf = zeroF := ⟨_, rfl⟩
  have HZO : Hid (zo = #[.int .u32 0, .int .u32 0, .int .u16 0, .int .u16 0, .int .u8 0, .int .i64 0]) := hzo
  have HZF : Hid (zf = zeroF) := hzf
  unfold zeroF at HZF
  have hzos : zo.size = 6 := by rw [hzo]; rfl
  have hzfs : zf.size = 14 := by rw [hzf]; rfl
  have HIO : Hid ((Try.prog.info? 26).map (·.size) = some zo.size) := by unfold Hid; rw [hzos]; kernel_rfl
  have HIF : Hid ((Try.prog.info? 31).map (·.size) = some zf.size) := by unfold Hid; rw [hzfs]; kernel_rfl
  have HOO : Hid (zo.all (·.oneCell') = true) := by unfold Hid; rw [hzo]; simp [zeroOu, Value.oneCell']
  have HOF : Hid (zf.all (·.oneCell') = true) := by unfold Hid; rw [hzf]; simp [zeroF, Value.oneCell']
  have HZOC : Hid (zo = ouCells ⟨0, 0, 0, 0, 0, 0⟩) := hzo
  have HZFC : Hid (zf = frCells Tn.noneF (.slice none 0 0)) := hzf
  have HEN : Hid (∀ u, Below w1.heap.size w1 u → u.there w.heap.size 0 zo.size ∧ (u.setCells w.heap.size 0 zo.toList).there (w.heap.size + 1) 0 zf.size ∧ (loadVar 26 ⟨w.heap.size, 0, none⟩).run Try.prog ((u.setCells w.heap.size 0 zo.toList).setCells (w.heap.size + 1) 0 zf.toList) = .ok (.agg zo) ((u.setCells w.heap.size 0 zo.toList).setCells (w.heap.size + 1) 0 zf.toList) ∧ (loadVar 31 ⟨w.heap.size + 1, 0, none⟩).run Try.prog ((u.setCells w.heap.size 0 zo.toList).setCells (w.heap.size + 1) 0 zf.toList) = .ok (.agg zf) ((u.setCells w.heap.size 0 zo.toList).setCells (w.heap.size + 1) 0 zf.toList)) := fun u hu => cells_endO hr0 hr1 hu hzos hzfs
  have HBB : Hid (∀ u, Below w1.heap.size w1 u → Below w.heap.size w ((u.setCells w.heap.size 0 zo.toList).setCells (w.heap.size + 1) 0 zf.toList)) := fun u hu => below_setCells' (by omega) _ _ _ (below_setCells' (Nat.le_refl _) _ _ _ (hb1.trans (hu.mono hb1.size)))
  have HBAD : Hid (∀ e, opE L = e → e ≠ 0 → opE L = e ∧ opO L = ⟨0, 0, 0, 0, 0, 0⟩ ∧ opF L = Tn.noneF) := fun e he h0 => ⟨he, by unfold opO; rw [if_neg (by rw [he]; exact h0)], by unfold opF; rw [if_neg (by rw [he]; exact h0)]⟩
  have HOE : Hid (opE L = if caE L ≠ 0 then caE L else if rhE (caD L).B ≠ 0 then rhE (caD L).B else Tn.pfE (rhB (caD L).B)) := rfl
  have HGO : Hid (opE L = 0 → opO L = ⟨(parsed L).1.src, (parsed L).1.dst, (caD L).s, (caD L).d, (parsed L).1.ttl, (rhV (caD L).B : Int)⟩ ∧ opF L = Tn.pfF (rhB (caD L).B)) := fun h => ⟨by unfold opO; rw [if_pos h], by unfold opF; rw [if_pos h]⟩
  clear hwa hw1 hsa hs1 hba hb1 hr0 hr1 hv hzo hzf hzos hzfs
  generalize opE L = OE at *
  generalize opO L = OO at *
  generalize opF L = OF at *
  generalize caE L = CE at *
  generalize caD L = CD at *
  generalize parsed L = P at *
  obtain ⟨hd, B, E⟩ := P
  simp only at *
  go_enter Try.func26, Try.ntmps26
  go_upto_region 1 with fail
  rw [← HW1.out]
  go_wp2_with fail
  refine HPA.out.mono ?_
  rintro _ w2 ⟨vo, v2, rfl, hso, hs2, hb2⟩
  obtain ⟨ao, no, co, rfl, _, _, _⟩ := hso.shape
  obtain ⟨a2, n2, c2, rfl, _, _, _⟩ := hs2.shape
  obtain ⟨pa, hpa⟩ : ∃ pa, pa = pkCells hd (.slice ao no co) (.slice a2 n2 c2) := ⟨_, rfl⟩
  obtain ⟨p, hp⟩ : ∃ p, p = w2.heap.size := ⟨_, rfl⟩
  obtain ⟨w3, hw3⟩ : ∃ w3, w3 = (w2.alloc (.cells zeroPk 77)).setCells p 0 pa.toList := ⟨_, rfl⟩
  have hps : pa.size = 11 := by rw [hpa]; rfl
  have HIP : Hid ((Try.prog.info? 77).map (·.size) = some pa.size) := by unfold Hid; rw [hps]; kernel_rfl
  have hrp : (w2.alloc (.cells zeroPk 77)).heap[p]? = some (.cells zeroPk 77 (0, 0)) := by rw [hp]; exact heap_alloc_new w2 _
  have HTP : Hid ((w2.alloc (.cells zeroPk 77)).there p 0 pa.size) := there_blk hrp (by rw [hps]; rfl)
  have HOP : Hid (pa.all (·.oneCell') = true) := by unfold Hid; rw [hpa]; simp [pkCells, Value.oneCell']
  have hr3 : w3.heap[p]? = some (.cells (pkCells hd (.slice ao no co) (.slice a2 n2 c2)) 77 (0, 0)) := by rw [hw3, ← hpa]; exact row_put hrp (by rw [hps]; rfl)
  have hb23 : Below w2.heap.size w2 w3 := by rw [hw3]; exact below_setCells' (by omega) _ _ _ ((Below.refl _ _).alloc (Nat.le_refl _) _)
  have hb13 := hb2.trans (hb23.mono hb2.size)
  have HLH := hid (pk_loadH hr3)
  have HR3 := hid hr3
  have HB13 := hid hb13
  have HS3 := hid (hs2.below hb23)
  have HW3 := hid hw3
  have HP := hid hp
  have HPL : Hid (w1.heap.size ≤ p) := by unfold Hid; rw [hp]; exact hb2.size
  unfold zeroPk at HW3 HTP
  have c3 : w3.cell? ⟨p, 3, none⟩ = some (.bool hd.mf) := pk_at hr3 3 (by decide)
  have c4 : w3.cell? ⟨p, 4, none⟩ = some (.int .i64 hd.off) := pk_at hr3 4 (by decide)
  have c6 : w3.cell? ⟨p, 6, none⟩ = some (.int .u8 (hd.proto : Int)) := pk_at hr3 6 (by decide)
  have c7 : w3.cell? ⟨p, 7, none⟩ = some (.int .u32 (hd.src : Int)) := pk_at hr3 7 (by decide)
  have c8 : w3.cell? ⟨p, 8, none⟩ = some (.int .u32 (hd.dst : Int)) := pk_at hr3 8 (by decide)
  have c10 : w3.cell? ⟨p, 10, none⟩ = some (.slice a2 n2 c2) := pk_at hr3 10 (by decide)
  rw [← hpa]
  clear hpa hp hw3 hps hrp hr3 hb23 hb2 hb13 hso hs2 HPA
  go_upto_region 2 with (first
    | (rw [← HP.out]; refine wpList_store_mid rfl 77 (.tmp 5) (.tmp 13) rfl p 0 pa rfl rfl HTP.out HIP.out HOP.out ?_; rw [← HW3.out])
    | fail)
  have HBW := HB13
  by_cases hE : E ≠ 0
  · have hCE : CE = E := by rw [HCE.out, if_pos hE]
    have HEE := hid (HBAD.out E (by rw [HOE.out, if_pos (by rw [hCE]; exact hE), hCE]) hE)
    have q1 : (E == 0) = false := by simp [hE]
    have q2 : (E != 0) = true := by simp [hE]
    clear hCE
    obtain ⟨t1, t2, t3, t4⟩ := HEN.out w3 (HBW.out)
    have HT1 := hid t1
    have HT2 := hid t2
    have HV1 := hid t3
    have HV2 := hid t4
    have HBF := hid (HBB.out w3 (HBW.out))
    clear t1 t2 t3 t4
    go_wp2_with (first
      | (refine wpList_store_mid rfl 26 (.tmp 2) (.tmp 17) rfl w.heap.size 0 zo rfl (by rw [HZO.out]; rfl) HT1.out HIO.out HOO.out ?_)
      | (refine wpList_store_mid rfl 31 (.tmp 3) (.tmp 18) rfl (w.heap.size + 1) 0 zf rfl (by rw [HZF.out]; rfl) HT2.out HIF.out HOF.out ?_)
      | fail)
    generalize (w3.setCells w.heap.size 0 zo.toList).setCells (w.heap.size + 1) 0 zf.toList = wf at HV1 HV2 HBF ⊢
    refine bodyPost_ret (v := .tuple #[.agg zo, .agg zf, .int .i64 E]) (by simp [results, Try.results26, asAddr, HV1.out, HV2.out]) rfl ?_
    rw [HEE.out.1, HEE.out.2.1, HEE.out.2.2]
    exact ⟨none, 0, 0, by rw [HZOC.out, HZFC.out], sees_nil _, (fun b hb => by cases hb), HBF.out⟩
  have hE := Decidable.not_not.1 hE
  subst hE
  have hok := HPK.out rfl
  have hpr := hok.proto
  have hof := hok.off
  have hsr := hok.src
  have hds := hok.dst
  rw [if_neg (by simp)] at HCE
  by_cases hm : hd.mf = true ∨ hd.off ≠ 0
  · have hCE : CE = 75 := by rw [HCE.out, if_pos hm]
    have HEE := hid (HBAD.out 75 (by rw [HOE.out, if_pos (by rw [hCE]; decide), hCE]) (by decide))
    clear hok hCE
    by_cases hmf : hd.mf = true
    · rw [hmf] at c3
      obtain ⟨t1, t2, t3, t4⟩ := HEN.out w3 (HBW.out)
      have HT1 := hid t1
      have HT2 := hid t2
      have HV1 := hid t3
      have HV2 := hid t4
      have HBF := hid (HBB.out w3 (HBW.out))
      clear t1 t2 t3 t4
      go_wp2_with (first
        | (refine wpList_store_mid rfl 26 (.tmp 2) (.tmp 29) rfl w.heap.size 0 zo rfl (by rw [HZO.out]; rfl) HT1.out HIO.out HOO.out ?_)
        | (refine wpList_store_mid rfl 31 (.tmp 3) (.tmp 30) rfl (w.heap.size + 1) 0 zf rfl (by rw [HZF.out]; rfl) HT2.out HIF.out HOF.out ?_)
        | fail)
      generalize (w3.setCells w.heap.size 0 zo.toList).setCells (w.heap.size + 1) 0 zf.toList = wf at HV1 HV2 HBF ⊢
      refine bodyPost_ret (v := .tuple #[.agg zo, .agg zf, .int .i64 75]) (by simp [results, Try.results26, asAddr, HV1.out, HV2.out]) rfl ?_
      rw [HEE.out.1, HEE.out.2.1, HEE.out.2.2]
      exact ⟨none, 0, 0, by rw [HZOC.out, HZFC.out], sees_nil _, (fun b hb => by cases hb), HBF.out⟩
    · have hoff : hd.off ≠ 0 := hm.resolve_left hmf
      rw [Bool.eq_false_iff.2 hmf] at c3
      have q1 : (hd.off == 0) = false := by simp [hoff]
      have q2 : (hd.off != 0) = true := by simp [hoff]
      obtain ⟨t1, t2, t3, t4⟩ := HEN.out w3 (HBW.out)
      have HT1 := hid t1
      have HT2 := hid t2
      have HV1 := hid t3
      have HV2 := hid t4
      have HBF := hid (HBB.out w3 (HBW.out))
      clear t1 t2 t3 t4
      go_wp2_with (first
        | (refine wpList_store_mid rfl 26 (.tmp 2) (.tmp 29) rfl w.heap.size 0 zo rfl (by rw [HZO.out]; rfl) HT1.out HIO.out HOO.out ?_)
        | (refine wpList_store_mid rfl 31 (.tmp 3) (.tmp 30) rfl (w.heap.size + 1) 0 zf rfl (by rw [HZF.out]; rfl) HT2.out HIF.out HOF.out ?_)
        | fail)
      generalize (w3.setCells w.heap.size 0 zo.toList).setCells (w.heap.size + 1) 0 zf.toList = wf at HV1 HV2 HBF ⊢
      refine bodyPost_ret (v := .tuple #[.agg zo, .agg zf, .int .i64 75]) (by simp [results, Try.results26, asAddr, HV1.out, HV2.out]) rfl ?_
      rw [HEE.out.1, HEE.out.2.1, HEE.out.2.2]
      exact ⟨none, 0, 0, by rw [HZOC.out, HZFC.out], sees_nil _, (fun b hb => by cases hb), HBF.out⟩
  have hmf : hd.mf = false := Bool.eq_false_iff.2 fun h => hm (.inl h)
  have hoff : hd.off = 0 := Decidable.not_not.1 fun h => hm (.inr h)
  rw [if_neg hm] at HCE
  rw [hmf] at c3
  rw [hoff] at c4
  by_cases hpn : hd.proto ≠ 17
  · have hCE : CE = 74 := by rw [HCE.out, if_pos hpn]
    have HEE := hid (HBAD.out 74 (by rw [HOE.out, if_pos (by rw [hCE]; decide), hCE]) (by decide))
    have q1 : ((hd.proto : Int) == 17) = false := by simp; omega
    have q2 : ((hd.proto : Int) != 17) = true := by simp; omega
    clear hok hm hmf hoff hpn hCE
    obtain ⟨t1, t2, t3, t4⟩ := HEN.out w3 (HBW.out)
    have HT1 := hid t1
    have HT2 := hid t2
    have HV1 := hid t3
    have HV2 := hid t4
    have HBF := hid (HBB.out w3 (HBW.out))
    clear t1 t2 t3 t4
    go_wp2_with (first
      | (refine wpList_store_mid rfl 26 (.tmp 2) (.tmp 35) rfl w.heap.size 0 zo rfl (by rw [HZO.out]; rfl) HT1.out HIO.out HOO.out ?_)
      | (refine wpList_store_mid rfl 31 (.tmp 3) (.tmp 36) rfl (w.heap.size + 1) 0 zf rfl (by rw [HZF.out]; rfl) HT2.out HIF.out HOF.out ?_)
      | fail)
    generalize (w3.setCells w.heap.size 0 zo.toList).setCells (w.heap.size + 1) 0 zf.toList = wf at HV1 HV2 HBF ⊢
    refine bodyPost_ret (v := .tuple #[.agg zo, .agg zf, .int .i64 74]) (by simp [results, Try.results26, asAddr, HV1.out, HV2.out]) rfl ?_
    rw [HEE.out.1, HEE.out.2.1, HEE.out.2.2]
    exact ⟨none, 0, 0, by rw [HZOC.out, HZFC.out], sees_nil _, (fun b hb => by cases hb), HBF.out⟩
  have hpn := Decidable.not_not.1 hpn
  rw [if_neg (by rw [hpn]; decide)] at HCE
  have c6' : w3.cell? ⟨p, 6, none⟩ = some (.int .u8 17) := by rw [c6, hpn]; rfl
  have X3 := hid (parseUR_any _ B hd.src hd.dst w3 HS3.out hsr hds)
  rw [← HCE.out, ← HCD.out] at X3
  clear hok hm hmf hoff hpn hpr hof c6 HCE HCD HPK
  go_wp2_with fail
  refine X3.out.mono ?_
  rintro _ w4 ⟨a4, n4, k4, rfl, hs4, hnew, hb4⟩
  obtain ⟨dc, hdc⟩ : ∃ dc, dc = dgCells CD (.slice a4 n4 k4) := ⟨_, rfl⟩
  obtain ⟨q, hq⟩ : ∃ q, q = w4.heap.size := ⟨_, rfl⟩
  obtain ⟨w5, hw5⟩ : ∃ w5, w5 = (w4.alloc (.cells zeroD 33)).setCells q 0 dc.toList := ⟨_, rfl⟩
  have hds3 : dc.size = 3 := by rw [hdc]; rfl
  have HIQ : Hid ((Try.prog.info? 33).map (·.size) = some dc.size) := by unfold Hid; rw [hds3]; kernel_rfl
  have hrq : (w4.alloc (.cells zeroD 33)).heap[q]? = some (.cells zeroD 33 (0, 0)) := by rw [hq]; exact heap_alloc_new w4 _
  have HTQ : Hid ((w4.alloc (.cells zeroD 33)).there q 0 dc.size) := there_blk hrq (by rw [hds3]; rfl)
  have HOQ : Hid (dc.all (·.oneCell') = true) := by unfold Hid; rw [hdc]; simp [dgCells, Value.oneCell']
  have hr5 : w5.heap[q]? = some (.cells (dgCells CD (.slice a4 n4 k4)) 33 (0, 0)) := by rw [hw5, ← hdc]; exact row_put hrq (by rw [hds3]; rfl)
  have hb45 : Below w4.heap.size w4 w5 := by rw [hw5]; exact below_setCells' (by omega) _ _ _ ((Below.refl _ _).alloc (Nat.le_refl _) _)
  have hb35 := hb4.trans (hb45.mono hb4.size)
  have HB35 := hid hb35
  have HBW := hid (HB13.out.trans (hb35.mono HB13.out.size))
  have HR5 := hid hr5
  have HS5 := hid (hs4.below hb45)
  have d2 : w5.cell? ⟨q, 2, none⟩ = some (.slice a4 n4 k4) := (dg_at hr5).2.2
  have HW5 := hid hw5
  have HQ := hid hq
  have HQL : Hid (w1.heap.size ≤ q) := by unfold Hid; rw [hq]; exact Nat.le_trans HB13.out.size hb4.size
  unfold zeroD at HW5 HTQ
  rw [← hdc]
  clear hdc hq hw5 hds3 hrq hr5 hb45 hb35 hs4 hnew hb4 X3 c3 c4 c6' c7 c8 c10
  go_upto_region 9 with (first
    | (rw [← HQ.out]; refine wpList_store_mid rfl 33 (.tmp 7) (.tmp 47) rfl q 0 dc rfl rfl HTQ.out HIQ.out HOQ.out ?_; rw [← HW5.out])
    | fail)
  by_cases hU : CE ≠ 0
  · have HEE := hid (HBAD.out CE (by rw [HOE.out, if_pos hU]) hU)
    have q1 : (CE == 0) = false := by simp [hU]
    have q2 : (CE != 0) = true := by simp [hU]
    obtain ⟨t1, t2, t3, t4⟩ := HEN.out w5 (HBW.out)
    have HT1 := hid t1
    have HT2 := hid t2
    have HV1 := hid t3
    have HV2 := hid t4
    have HBF := hid (HBB.out w5 (HBW.out))
    clear t1 t2 t3 t4
    go_wp2_with (first
      | (refine wpList_store_mid rfl 26 (.tmp 2) (.tmp 51) rfl w.heap.size 0 zo rfl (by rw [HZO.out]; rfl) HT1.out HIO.out HOO.out ?_)
      | (refine wpList_store_mid rfl 31 (.tmp 3) (.tmp 52) rfl (w.heap.size + 1) 0 zf rfl (by rw [HZF.out]; rfl) HT2.out HIF.out HOF.out ?_)
      | fail)
    generalize (w5.setCells w.heap.size 0 zo.toList).setCells (w.heap.size + 1) 0 zf.toList = wf at HV1 HV2 HBF ⊢
    refine bodyPost_ret (v := .tuple #[.agg zo, .agg zf, .int .i64 CE]) (by simp [results, Try.results26, asAddr, HV1.out, HV2.out]) rfl ?_
    rw [HEE.out.1, HEE.out.2.1, HEE.out.2.2]
    exact ⟨none, 0, 0, by rw [HZOC.out, HZFC.out], sees_nil _, (fun b hb => by cases hb), HBF.out⟩
  have hU := Decidable.not_not.1 hU
  subst hU
  rw [if_neg (by simp)] at HOE
  obtain ⟨_, n4', _, hv4, HN4, hn41, hn42⟩ := HS5.out.shape
  obtain ⟨rfl, rfl, rfl⟩ : _ ∧ n4 = n4' ∧ _ := by simpa using hv4
  clear hv4
  by_cases hA : n4 < 8
  · have hre : rhE CD.B = 76 := by unfold rhE; rw [if_pos (by have := HN4.out; omega)]
    have HEE := hid (HBAD.out 76 (by rw [HOE.out, hre, if_pos (by decide)]) (by decide))
    have hA' : (n4 : Int) < 8 := by omega
    clear hre
    obtain ⟨t1, t2, t3, t4⟩ := HEN.out w5 (HBW.out)
    have HT1 := hid t1
    have HT2 := hid t2
    have HV1 := hid t3
    have HV2 := hid t4
    have HBF := hid (HBB.out w5 (HBW.out))
    clear t1 t2 t3 t4
    go_wp2_with (first
      | (refine wpList_store_mid rfl 26 (.tmp 2) (.tmp 58) rfl w.heap.size 0 zo rfl (by rw [HZO.out]; rfl) HT1.out HIO.out HOO.out ?_)
      | (refine wpList_store_mid rfl 31 (.tmp 3) (.tmp 59) rfl (w.heap.size + 1) 0 zf rfl (by rw [HZF.out]; rfl) HT2.out HIF.out HOF.out ?_)
      | fail)
    generalize (w5.setCells w.heap.size 0 zo.toList).setCells (w.heap.size + 1) 0 zf.toList = wf at HV1 HV2 HBF ⊢
    refine bodyPost_ret (v := .tuple #[.agg zo, .agg zf, .int .i64 76]) (by simp [results, Try.results26, asAddr, HV1.out, HV2.out]) rfl ?_
    rw [HEE.out.1, HEE.out.2.1, HEE.out.2.2]
    exact ⟨none, 0, 0, by rw [HZOC.out, HZFC.out], sees_nil _, (fun b hb => by cases hb), HBF.out⟩
  have hA' : ¬ (n4 : Int) < 8 := by omega
  obtain ⟨g, off, hao, hg, e0⟩ := HS5.out.atB 0 (by omega)
  have hb0 := byt_lt HS5.out.bytes 0
  rw [Nat.add_zero] at e0
  subst hao
  by_cases hz : byt CD.B 0 / 8 % 2 = 0
  · have hre : rhE CD.B = 77 := by unfold rhE; rw [if_neg (by have := HN4.out; omega), if_pos hz]
    have HEE := hid (HBAD.out 77 (by rw [HOE.out, hre, if_pos (by decide)]) (by decide))
    generalize byt CD.B 0 = b0 at *
    clear hre
    obtain ⟨t1, t2, t3, t4⟩ := HEN.out w5 (HBW.out)
    have HT1 := hid t1
    have HT2 := hid t2
    have HV1 := hid t3
    have HV2 := hid t4
    have HBF := hid (HBB.out w5 (HBW.out))
    clear t1 t2 t3 t4
    go_wp2_with (first
      | (refine wpList_store_mid rfl 26 (.tmp 2) (.tmp 67) rfl w.heap.size 0 zo rfl (by rw [HZO.out]; rfl) HT1.out HIO.out HOO.out ?_)
      | (refine wpList_store_mid rfl 31 (.tmp 3) (.tmp 68) rfl (w.heap.size + 1) 0 zf rfl (by rw [HZF.out]; rfl) HT2.out HIF.out HOF.out ?_)
      | fail)
    generalize (w5.setCells w.heap.size 0 zo.toList).setCells (w.heap.size + 1) 0 zf.toList = wf at HV1 HV2 HBF ⊢
    refine bodyPost_ret (v := .tuple #[.agg zo, .agg zf, .int .i64 77]) (by simp [results, Try.results26, asAddr, HV1.out, HV2.out]) rfl ?_
    rw [HEE.out.1, HEE.out.2.1, HEE.out.2.2]
    exact ⟨none, 0, 0, by rw [HZOC.out, HZFC.out], sees_nil _, (fun b hb => by cases hb), HBF.out⟩
  have hre : rhE CD.B = 0 := by unfold rhE; rw [if_neg (by have := HN4.out; omega), if_neg hz]
  have hrv : rhV CD.B = (byt CD.B 4 * 256 + byt CD.B 5) * 256 + byt CD.B 6 := by unfold rhV; rw [if_pos hre]
  have hrb : rhB CD.B = CD.B.drop 8 := by unfold rhB; rw [if_pos hre]
  rw [hre, if_neg (by simp), hrb] at HOE
  have hnum : numN CD.B 4 3 = rhV CD.B := by rw [hrv]; simp [numN]
  rw [hrb] at HGO
  obtain ⟨a8, HS8, k8⟩ := HS5.out.low 8 8 rfl (by omega)
  have XP := hid (parseFR_any _ (CD.B.drop 8) w5 HS8.out)
  have HFO : Hid ((Tn.pfF (CD.B.drop 8)).Ok) := pfF_ok HS8.out.bytes
  have HNU : Hid (∀ u, Below w5.heap.size w5 u → Calls Try.prog 55 #[.slice (some ⟨g, off, none⟩) n4 k4, .int .i64 4, .int .i64 3] u fun e w' => e = .returned (.int .i64 (rhV CD.B : Nat)) ∧ Below u.heap.size u w') := fun u hu => by
    have h0 := numberR_any _ CD.B 4 3 u (HS5.out.below hu) (by omega) (by have := HN4.out; omega)
    rw [hnum] at h0
    exact h0
  have hrvl : rhV CD.B < 16777216 := by
    have h4 := byt_lt HS5.out.bytes 4
    have h5 := byt_lt HS5.out.bytes 5
    have h6 := byt_lt HS5.out.bytes 6
    rw [hrv]; omega
  generalize rhV CD.B = RV at *
  generalize byt CD.B 0 = b0 at *
  generalize CD.B.drop 8 = RB at *
  clear hre hrv hrb hnum HS8
  go_wp2_with fail
  refine XP.out.mono ?_
  rintro _ w6 ⟨a6, n6, c6, rfl, hs6, hn6, hb6⟩
  obtain ⟨fc, hfc⟩ : ∃ fc, fc = frCells (Tn.pfF RB) (.slice a6 n6 c6) := ⟨_, rfl⟩
  obtain ⟨t, ht⟩ : ∃ t, t = w6.heap.size := ⟨_, rfl⟩
  obtain ⟨w7, hw7⟩ : ∃ w7, w7 = (w6.alloc (.cells zeroF 31)).setCells t 0 fc.toList := ⟨_, rfl⟩
  have hfs : fc.size = 14 := by rw [hfc]; exact frCells_size HFO.out _
  have HIT : Hid ((Try.prog.info? 31).map (·.size) = some fc.size) := by unfold Hid; rw [hfs]; kernel_rfl
  have hrt : (w6.alloc (.cells zeroF 31)).heap[t]? = some (.cells zeroF 31 (0, 0)) := by rw [ht]; exact heap_alloc_new w6 _
  have HTT : Hid ((w6.alloc (.cells zeroF 31)).there t 0 fc.size) := there_blk hrt (by rw [hfs]; rfl)
  have HOT : Hid (fc.all (·.oneCell') = true) := by unfold Hid; rw [hfc]; exact frc_one
  have hr7 : w7.heap[t]? = some (.cells fc 31 (0, 0)) := by rw [hw7]; exact row_put hrt (by rw [hfs]; rfl)
  have hb67 : Below w6.heap.size w6 w7 := by rw [hw7]; exact below_setCells' (by omega) _ _ _ ((Below.refl _ _).alloc (Nat.le_refl _) _)
  have HB57 := hid (hb6.trans (hb67.mono hb6.size))
  have HB15 := HBW
  have HBW := hid (HB15.out.trans (HB57.out.mono HB15.out.size))
  have HS7 := hid (hs6.below hb67)
  have HR7 := hid hr7
  have HFS := hid hfs
  have HFC := hid hfc
  have HTL : Hid (w1.heap.size ≤ t) := by unfold Hid; rw [ht]; exact Nat.le_trans HB15.out.size hb6.size
  have HNW : Hid (∀ b, a6 = some b → w1.heap.size ≤ b.block) := fun b hb => Nat.le_trans HB15.out.size (hn6 b hb)
  have HW7 := hid hw7
  have HT := hid ht
  unfold zeroF at HW7 HTT
  rw [← hfc]
  clear hfc ht hw7 hfs hrt hr7 hb67 hs6 hn6 hb6 XP d2 e0 k8
  go_upto_region 16 with (first
    | (rw [← HT.out]; refine wpList_store_mid rfl 31 (.tmp 8) (.tmp 74) rfl t 0 fc rfl rfl HTT.out HIT.out HOT.out ?_; rw [← HW7.out])
    | fail)
  have HPF : Hid (OE = 0 → OF = Tn.pfF RB) := fun h => (HGO.out h).2
  have HPO : Hid (OE = 0 → OO = ⟨hd.src, hd.dst, CD.s, CD.d, hd.ttl, (RV : Int)⟩) := fun h => (HGO.out h).1
  generalize Tn.pfE RB = PE at *
  by_cases hPE : PE ≠ 0
  · have HEE := hid (HBAD.out PE HOE.out hPE)
    have q1 : (PE == 0) = false := by simp [hPE]
    have q2 : (PE != 0) = true := by simp [hPE]
    obtain ⟨t1, t2, t3, t4⟩ := HEN.out w7 (HBW.out)
    have HT1 := hid t1
    have HT2 := hid t2
    have HV1 := hid t3
    have HV2 := hid t4
    have HBF := hid (HBB.out w7 (HBW.out))
    clear t1 t2 t3 t4
    go_wp2_with (first
      | (refine wpList_store_mid rfl 26 (.tmp 2) (.tmp 78) rfl w.heap.size 0 zo rfl (by rw [HZO.out]; rfl) HT1.out HIO.out HOO.out ?_)
      | (refine wpList_store_mid rfl 31 (.tmp 3) (.tmp 79) rfl (w.heap.size + 1) 0 zf rfl (by rw [HZF.out]; rfl) HT2.out HIF.out HOF.out ?_)
      | fail)
    generalize (w7.setCells w.heap.size 0 zo.toList).setCells (w.heap.size + 1) 0 zf.toList = wf at HV1 HV2 HBF ⊢
    refine bodyPost_ret (v := .tuple #[.agg zo, .agg zf, .int .i64 PE]) (by simp [results, Try.results26, asAddr, HV1.out, HV2.out]) rfl ?_
    rw [HEE.out.1, HEE.out.2.1, HEE.out.2.2]
    exact ⟨none, 0, 0, by rw [HZOC.out, HZFC.out], sees_nil _, (fun b hb => by cases hb), HBF.out⟩
  have hPE := Decidable.not_not.1 hPE
  subst hPE
  have HEZ : Hid (OE = 0) := HOE.out
  have f2 : w7.cell? ⟨q, 2, none⟩ = some (.slice (some ⟨g, off, none⟩) n4 k4) := (dg_at ((HB57.out.block q (Array.getElem?_eq_some_iff.1 HR5.out).1).trans HR5.out)).2.2
  have XN := hid (HNU.out w7 HB57.out)
  go_wp2_with fail
  refine XN.out.mono ?_
  rintro _ w8 ⟨rfl, hb8⟩
  obtain ⟨oc, hoc⟩ : ∃ oc : Array Value, oc = #[.int .u32 (hd.src : Int), .int .u32 (hd.dst : Int), .int .u16 (CD.s : Int), .int .u16 (CD.d : Int), .int .u8 (hd.ttl : Int), .int .i64 (RV : Int)] := ⟨_, rfl⟩
  have hos : oc.size = 6 := by rw [hoc]; rfl
  have hb58 := HB57.out.trans (hb8.mono HB57.out.size)
  have hb38 := HB35.out.trans (hb58.mono HB35.out.size)
  have hb18 := HBW.out.trans (hb8.mono HBW.out.size)
  have hsz := HS1.out
  have h1 := HPL.out
  have h2 := HTL.out
  have h13 := HB13.out.size
  have hql := Array.getElem?_eq_some_iff.1 HR5.out
  have hIQ : IQ p q t w.heap.size (pkCells hd (.slice ao no co) (.slice a2 n2 c2)) (dgCells CD (.slice (some ⟨g, off, none⟩) n4 k4)) fc (a6, n6, c6) (Tn.pfF RB).B w w8 :=
    ⟨(hb38.block p (Array.getElem?_eq_some_iff.1 HR3.out).1).trans HR3.out, (hb58.block q hql.1).trans HR5.out, (hb8.block t (Array.getElem?_eq_some_iff.1 HR7.out).1).trans HR7.out, ⟨_, (hb18.block _ (by omega)).trans HR0.out, rfl⟩, ⟨_, (hb18.block _ (by omega)).trans HR1.out, rfl⟩, HS7.out.below hb8, HB1.out.trans (hb18.mono HB1.out.size)⟩
  have HIQQ := hid hIQ
  have HNE : Hid (p ≠ w.heap.size ∧ p ≠ w.heap.size + 1 ∧ q ≠ w.heap.size ∧ q ≠ w.heap.size + 1 ∧ t ≠ w.heap.size ∧ t ≠ w.heap.size + 1) := by
    have h3 := HQL.out
    exact ⟨by omega, by omega, by omega, by omega, by omega, by omega⟩
  have HNW2 : Hid (∀ b, a6 = some b → w.heap.size + 2 ≤ b.block) := fun b hb => by have := HNW.out b hb; omega
  have HOS := hid hos
  have HOC := hid hoc
  have HOI : Hid ((Try.prog.info? 26).map (·.size) = some oc.size) := by unfold Hid; rw [hos]; kernel_rfl
  have HOA : Hid (oc.all (·.oneCell') = true) := by unfold Hid; rw [hoc]; simp [Value.oneCell']
  have HOC2 : Hid (oc = ouCells OO) := by unfold Hid; rw [hoc, HPO.out HEZ.out]; rfl
  have HFC2 : Hid (fc = frCells OF (.slice a6 n6 c6)) := by unfold Hid; rw [HFC.out, HPF.out HEZ.out]
  have HFB : Hid (OF.B = (Tn.pfF RB).B) := by unfold Hid; rw [HPF.out HEZ.out]
  clear hoc hos hb58 hb38 hb18 hsz h1 h2 h13 hql hIQ hb8 XN f2
  go_upto_region 19 with fail
  refine wp_region_all' 19 dstQ (FQ [.pointer (some ⟨p, 0, none⟩), .pointer (some ⟨p, 7, none⟩), .int .u32 (hd.src : Int), .pointer (some ⟨p, 0, none⟩), .pointer (some ⟨p, 8, none⟩), .int .u32 (hd.dst : Int), .pointer (some ⟨q, 0, none⟩), .int .u16 (CD.s : Int), .pointer (some ⟨q, 1, none⟩), .int .u16 (CD.d : Int), .pointer (some ⟨p, 0, none⟩), .pointer (some ⟨p, 5, none⟩), .int .u8 (hd.ttl : Int), .int .i64 (RV : Int), .agg oc, .agg fc, .int .i64 0, .int .i64 0, .int .i64 0] w.heap.size oc fc) (IQ p q t w.heap.size (pkCells hd (.slice ao no co) (.slice a2 n2 c2)) (dgCells CD (.slice (some ⟨g, off, none⟩) n4 k4)) fc (a6, n6, c6) (Tn.pfF RB).B w) (RQ w.heap.size) (by kernel_rfl) (by kernel_rfl) ⟨HIQQ.out.pk, HIQQ.out.dg, HIQQ.out.fr, HIQQ.out.hd, HIQQ.out.dt, HIQQ.out.sees.below ⟨rfl, rfl, rfl, Nat.le_refl _, fun _ _ => rfl⟩, HIQQ.out.below.trans (Below.mono ⟨rfl, rfl, rfl, Nat.le_refl _, fun _ _ => rfl⟩ HIQQ.out.below.size)⟩ (FQ.keeps _ _ _ _ _ _) ?_ ?_
  · simp only [stepsAll]
    refine ⟨?_, ?_, ?_, ?_, ?_, ?_, ?_, ?_, ?_, ?_, ?_, ?_, ?_, ?_, ?_, ?_, ?_, ?_, ?_, trivial⟩
    · intro a u vs hI hold hdep
      exact wp_stillQ (ex_field _ ⟨p, 0, none⟩ (.tmp 5) 0 _ rfl (hold 5 (dlQ (by decide))) (field_pk0 _ u)) rfl (congrArg some (upd_eq _ _ _).symm) hI rfl
    · intro a u vs hI hold hdep
      have e0 : a.eval (.tmp 84) = .pointer (some ⟨p, 0, none⟩) := by have h0 := hdep ⟨0, .data⟩ (by simp) rfl; exact (h0.2 84 rfl).trans (Option.some.inj h0.1).symm
      exact wp_stillQ (ex_field _ ⟨p, 0, none⟩ (.tmp 84) 7 _ rfl e0 (field_hd3 _ u).2.1) rfl (congrArg some (upd_eq _ _ _).symm) hI rfl
    · intro a u vs hI hold hdep
      have e1 : a.eval (.tmp 85) = .pointer (some ⟨p, 7, none⟩) := by have h0 := hdep ⟨1, .data⟩ (by simp) rfl; exact (h0.2 85 rfl).trans (Option.some.inj h0.1).symm
      exact wp_stillQ (ex_load _ ⟨p, 7, none⟩ (.tmp 85) _ rfl e1 (load_ad (pk_at hI.pk 7 (by decide)))) rfl (congrArg some (upd_eq _ _ _).symm) hI rfl
    · intro a u vs hI hold hdep
      exact wp_stillQ (ex_field _ ⟨p, 0, none⟩ (.tmp 5) 0 _ rfl (hold 5 (dlQ (by decide))) (field_pk0 _ u)) rfl (congrArg some (upd_eq _ _ _).symm) hI rfl
    · intro a u vs hI hold hdep
      have e3 : a.eval (.tmp 87) = .pointer (some ⟨p, 0, none⟩) := by have h0 := hdep ⟨3, .data⟩ (by simp) rfl; exact (h0.2 87 rfl).trans (Option.some.inj h0.1).symm
      exact wp_stillQ (ex_field _ ⟨p, 0, none⟩ (.tmp 87) 8 _ rfl e3 (field_hd3 _ u).2.2) rfl (congrArg some (upd_eq _ _ _).symm) hI rfl
    · intro a u vs hI hold hdep
      have e4 : a.eval (.tmp 88) = .pointer (some ⟨p, 8, none⟩) := by have h0 := hdep ⟨4, .data⟩ (by simp) rfl; exact (h0.2 88 rfl).trans (Option.some.inj h0.1).symm
      exact wp_stillQ (ex_load _ ⟨p, 8, none⟩ (.tmp 88) _ rfl e4 (load_ad (pk_at hI.pk 8 (by decide)))) rfl (congrArg some (upd_eq _ _ _).symm) hI rfl
    · intro a u vs hI hold hdep
      exact wp_stillQ (ex_field _ ⟨q, 0, none⟩ (.tmp 7) 0 _ rfl (hold 7 (dlQ (by decide))) (field_dg2 _ u).1) rfl (congrArg some (upd_eq _ _ _).symm) hI rfl
    · intro a u vs hI hold hdep
      have e6 : a.eval (.tmp 90) = .pointer (some ⟨q, 0, none⟩) := by have h0 := hdep ⟨6, .data⟩ (by simp) rfl; exact (h0.2 90 rfl).trans (Option.some.inj h0.1).symm
      exact wp_stillQ (ex_load _ ⟨q, 0, none⟩ (.tmp 90) _ rfl e6 (load_u16 (dg_at hI.dg).1)) rfl (congrArg some (upd_eq _ _ _).symm) hI rfl
    · intro a u vs hI hold hdep
      exact wp_stillQ (ex_field _ ⟨q, 0, none⟩ (.tmp 7) 1 _ rfl (hold 7 (dlQ (by decide))) (field_dg2 _ u).2) rfl (congrArg some (upd_eq _ _ _).symm) hI rfl
    · intro a u vs hI hold hdep
      have e8 : a.eval (.tmp 92) = .pointer (some ⟨q, 1, none⟩) := by have h0 := hdep ⟨8, .data⟩ (by simp) rfl; exact (h0.2 92 rfl).trans (Option.some.inj h0.1).symm
      exact wp_stillQ (ex_load _ ⟨q, 1, none⟩ (.tmp 92) _ rfl e8 (load_u16 (dg_at hI.dg).2.1)) rfl (congrArg some (upd_eq _ _ _).symm) hI rfl
    · intro a u vs hI hold hdep
      exact wp_stillQ (ex_field _ ⟨p, 0, none⟩ (.tmp 5) 0 _ rfl (hold 5 (dlQ (by decide))) (field_pk0 _ u)) rfl (congrArg some (upd_eq _ _ _).symm) hI rfl
    · intro a u vs hI hold hdep
      have e10 : a.eval (.tmp 94) = .pointer (some ⟨p, 0, none⟩) := by have h0 := hdep ⟨10, .data⟩ (by simp) rfl; exact (h0.2 94 rfl).trans (Option.some.inj h0.1).symm
      exact wp_stillQ (ex_field _ ⟨p, 0, none⟩ (.tmp 94) 5 _ rfl e10 (field_hd3 _ u).1) rfl (congrArg some (upd_eq _ _ _).symm) hI rfl
    · intro a u vs hI hold hdep
      have e11 : a.eval (.tmp 95) = .pointer (some ⟨p, 5, none⟩) := by have h0 := hdep ⟨11, .data⟩ (by simp) rfl; exact (h0.2 95 rfl).trans (Option.some.inj h0.1).symm
      exact wp_stillQ (ex_load _ ⟨p, 5, none⟩ (.tmp 95) _ rfl e11 (load_u8h (pk_at hI.pk 5 (by decide)))) rfl (congrArg some (upd_eq _ _ _).symm) hI rfl
    · intro a u vs hI hold hdep
      exact wp_stillQ (ex_move (.tmp 9) _ rfl (hold 9 (dlQ (by decide)))) rfl (congrArg some (upd_eq _ _ _).symm) hI rfl
    · intro a u vs hI hold hdep
      have e2 : a.eval (.tmp 86) = .int .u32 (hd.src : Int) := by have h0 := hdep ⟨2, .data⟩ (by simp) rfl; exact (h0.2 86 rfl).trans (Option.some.inj h0.1).symm
      have e5 : a.eval (.tmp 89) = .int .u32 (hd.dst : Int) := by have h0 := hdep ⟨5, .data⟩ (by simp) rfl; exact (h0.2 89 rfl).trans (Option.some.inj h0.1).symm
      have e7 : a.eval (.tmp 91) = .int .u16 (CD.s : Int) := by have h0 := hdep ⟨7, .data⟩ (by simp) rfl; exact (h0.2 91 rfl).trans (Option.some.inj h0.1).symm
      have e9 : a.eval (.tmp 93) = .int .u16 (CD.d : Int) := by have h0 := hdep ⟨9, .data⟩ (by simp) rfl; exact (h0.2 93 rfl).trans (Option.some.inj h0.1).symm
      have e12 : a.eval (.tmp 96) = .int .u8 (hd.ttl : Int) := by have h0 := hdep ⟨12, .data⟩ (by simp) rfl; exact (h0.2 96 rfl).trans (Option.some.inj h0.1).symm
      have e13 : a.eval (.tmp 97) = .int .i64 (RV : Int) := by have h0 := hdep ⟨13, .data⟩ (by simp) rfl; exact (h0.2 97 rfl).trans (Option.some.inj h0.1).symm
      exact wp_stillQ (ex_build _ _ #[(0, .int .u32 (hd.src : Int)), (1, .int .u32 (hd.dst : Int)), (2, .int .u16 (CD.s : Int)), (3, .int .u16 (CD.d : Int)), (4, .int .u8 (hd.ttl : Int)), (5, .int .i64 (RV : Int))] (.agg oc) rfl (by simp only [List.map_toArray, List.map_cons, List.map_nil, e2, e5, e7, e9, e12, e13]) (by rw [HOC.out]; exact build_ou _ _ _ _ _ _ u)) rfl (congrArg some (upd_eq _ _ _).symm) hI rfl
    · intro a u vs hI hold hdep
      exact wp_stillQ (ex_load _ ⟨t, 0, none⟩ (.tmp 8) (.agg fc) rfl (hold 8 (dlQ (by decide))) (load_rowAt hI.fr Try.underlying31 rfl HIT.out)) rfl (congrArg some (upd_eq _ _ _).symm) hI rfl
    · intro a u vs hI hold hdep
      have e14 : a.eval (.tmp 98) = .agg oc := by have h0 := hdep ⟨14, .data⟩ (by simp) rfl; exact (h0.2 98 rfl).trans (Option.some.inj h0.1).symm
      obtain ⟨C, hC1, hC2⟩ := hI.hd
      obtain ⟨g1, g2⟩ := hI.store1 HNE.out.1 HNE.out.2.2.1 HNE.out.2.2.2.2.1 (fun b hb => by have := HNW2.out b hb; omega) (Nat.le_refl _) HOS.out
      exact wp_store_mid 26 (.tmp 2) (.tmp 98) rfl w.heap.size 0 oc (hold 2 (dlQ (by decide))) e14 (there_blk hC1 (by rw [hC2, HOS.out])) HOI.out HOA.out ⟨.int .i64 0, rfl, g1, g2, But.setsT _ _⟩
    · intro a u vs hI hold hdep
      have e15 : a.eval (.tmp 99) = .agg fc := by have h0 := hdep ⟨15, .data⟩ (by simp) rfl; exact (h0.2 99 rfl).trans (Option.some.inj h0.1).symm
      obtain ⟨C, hC1, hC2⟩ := hI.dt
      obtain ⟨g1, g2⟩ := hI.store2 HNE.out.2.1 HNE.out.2.2.2.1 HNE.out.2.2.2.2.2 (fun b hb => by have := HNW2.out b hb; omega) (Nat.le_refl _) HFS.out
      exact wp_store_mid 31 (.tmp 3) (.tmp 99) rfl (w.heap.size + 1) 0 fc (hold 3 (dlQ (by decide))) e15 (there_blk hC1 (by rw [hC2, HFS.out])) HIT.out HOT.out ⟨.int .i64 0, rfl, g1, g2, But.setsT _ _⟩
    · intro a u vs hI hold hdep
      exact wp_stillQ (ex_assign (.const (.int .i64 0)) _ rfl rfl) rfl (congrArg some (upd_eq _ _ _).symm) hI rfl
  intro vs u hI hF
  have e18 : vs 18 = .int .i64 0 := (Option.some.inj (hF 18 (by decide))).symm
  have HU2 : Hid (u.heap[w.heap.size]? = some (.cells oc 26 (0, 0))) := hF 16 (by decide)
  have HU3 : Hid (u.heap[w.heap.size + 1]? = some (.cells fc 31 (0, 0))) := hF 17 (by decide)
  have HV1 := hid (load_row HU2.out Try.underlying26 rfl HOI.out)
  have HV2 := hid (load_row HU3.out Try.underlying31 rfl HIT.out)
  have HII := hid hI
  clear hF hI
  generalize vs 0 = y0
  generalize vs 1 = y1
  generalize vs 2 = y2
  generalize vs 3 = y3
  generalize vs 4 = y4
  generalize vs 5 = y5
  generalize vs 6 = y6
  generalize vs 7 = y7
  generalize vs 8 = y8
  generalize vs 9 = y9
  generalize vs 10 = y10
  generalize vs 11 = y11
  generalize vs 12 = y12
  generalize vs 13 = y13
  generalize vs 14 = y14
  generalize vs 15 = y15
  generalize vs 16 = y16
  generalize vs 17 = y17
  simp only [putsO, List.range, List.range.loop, List.foldr, if_true, dstQ, List.getD_cons_zero, List.getD_cons_succ, Act.put, e18, List.setIfInBounds_toArray, List.set_cons_succ, List.set_cons_zero]
  go_wp2_with fail
  refine bodyPost_ret (v := .tuple #[.agg oc, .agg fc, .int .i64 0]) (by simp [results, Try.results26, asAddr, HV1.out, HV2.out]) rfl ?_
  exact ⟨a6, n6, c6, by rw [HOC2.out, HFC2.out, HEZ.out], by rw [HFB.out]; exact HII.out.sees, fun b hb => by have := HNW2.out b hb; omega, HII.out.below⟩
end Go.Proofs.Ytcelcnafcfefhab.N

/-
  TunnelOpens: the walk.
-/
namespace Go.Proofs.Ytcelcnafcfefhab.N
open Go.ChangeShapes Go.WideShapes Go.ChangeAt Go.RowKit
set_option maxHeartbeats 8000000
set_option maxRecDepth 100000

theorem lay2 (w2 : World) (oc fc : Array Value) (ho : oc.size = 6) (hf : fc.size = 14) (p : Nat) (hp : p = w2.heap.size) : ∃ wb wc w3 : World, Hid (wb = (w2.alloc (.cells zeroOu 26)).alloc (.cells zeroF 31)) ∧ Hid (wc = wb.setCells p 0 oc.toList) ∧ Hid (w3 = wc.setCells (p + 1) 0 fc.toList) ∧ Hid (wb.there p 0 oc.size) ∧ Hid (wc.there (p + 1) 0 fc.size) ∧ w3.heap[p]? = some (.cells oc 26 (0, 0)) ∧ w3.heap[p + 1]? = some (.cells fc 31 (0, 0)) ∧ Below w2.heap.size w2 w3 := by
  obtain ⟨wb, hwb⟩ : ∃ wb, wb = (w2.alloc (.cells zeroOu 26)).alloc (.cells zeroF 31) := ⟨_, rfl⟩
  obtain ⟨wc, hwc⟩ : ∃ wc, wc = wb.setCells p 0 oc.toList := ⟨_, rfl⟩
  obtain ⟨w3, hw3⟩ : ∃ w3, w3 = wc.setCells (p + 1) 0 fc.toList := ⟨_, rfl⟩
  have g1 : wb.heap[p]? = some (.cells zeroOu 26 (0, 0)) := by rw [hwb, heap_alloc_old _ _ (by rw [hp]; simp), hp]; exact heap_alloc_new w2 _
  have g2 : wb.heap[p + 1]? = some (.cells zeroF 31 (0, 0)) := by
    have h0 : (w2.alloc (.cells zeroOu 26)).heap.size = p + 1 := by rw [hp]; simp
    rw [hwb, ← h0]; exact heap_alloc_new _ _
  have bC : But p wb wc := by rw [hwc]; exact But.setsT _ _
  have k1 : wc.heap[p]? = some (.cells oc 26 (0, 0)) := by rw [hwc]; exact row_put g1 (by rw [ho]; rfl)
  have k2 := (bC.block (p + 1) (Array.getElem?_eq_some_iff.1 g2).1 (by omega)).trans g2
  have bD : But (p + 1) wc w3 := by rw [hw3]; exact But.setsT _ _
  have m1 := (bD.block p (Array.getElem?_eq_some_iff.1 k1).1 (by omega)).trans k1
  have m2 : w3.heap[p + 1]? = some (.cells fc 31 (0, 0)) := by rw [hw3]; exact row_put k2 (by rw [hf]; rfl)
  have hb2b : Below w2.heap.size w2 wb := by rw [hwb]; exact ((Below.refl _ _).alloc (Nat.le_refl _) _).alloc (by simp) _
  have hb23 : Below w2.heap.size w2 w3 := by rw [hw3, hwc]; exact below_setCells' (by omega) _ _ _ (below_setCells' (by omega) _ _ _ hb2b)
  exact ⟨wb, wc, w3, hwb, hwc, hw3, there_blk g1 (by rw [ho]; rfl), there_blk k2 (by rw [hf]; rfl), m1, m2, hb23⟩

theorem opF_ok (L : List Nat) (hL : ∀ x ∈ L, x < 256) : (opF L).Ok := by
  have h1 : ∀ x ∈ (parsed L).2.1, x < 256 := fun x hx => by
    unfold parsed at hx
    split at hx
    · exact hL x (List.mem_of_mem_take (List.mem_of_mem_drop hx))
    · simp at hx
  have h2 : ∀ x ∈ (caD L).B, x < 256 := fun x hx => by
    unfold caD Tn.puD at hx
    split at hx
    · exact h1 x (List.mem_of_mem_take (List.mem_of_mem_drop hx))
    · simp [Tn.none0] at hx
  have h3 : ∀ x ∈ rhB (caD L).B, x < 256 := fun x hx => by
    unfold rhB at hx
    split at hx
    · exact h2 x (List.mem_of_mem_drop hx)
    · simp at hx
  unfold opF
  split
  · exact pfF_ok h3
  · exact ⟨rfl, rfl, by decide⟩

theorem eqO (o : Ou) (u : World) : (Op.equalIn 10000 26 (.agg (ouCells o)) (.agg (ouCells o))).run Try.prog u = .ok true u := by
  unfold ouCells
  simp [go_sem]

theorem ou_one (o : Ou) : (ouCells o).all (·.oneCell') = true := by
  unfold ouCells
  simp [Value.oneCell']

theorem tunnelOpens_walk (v : Value) (Ls : List (List Nat)) (w : World) (hv : SeesBB w v Ls) (hl : ∀ l ∈ Ls, l.length ≤ reachBytes) :
    Calls Try.prog 6 #[v] w fun e w' => e = .returned (.bool true) ∧ Below w.heap.size w w' := by
  obtain ⟨ar, n1, cap1, rfl, HN1, hn1, hc1⟩ := hv.shape
  have HR : Hid (∀ (j : Nat) (u : World), j < n1 → Below w.heap.size w u → ∃ (g off : Nat) (x : Value) (l : List Nat), ar = some ⟨g, off, none⟩ ∧ u.cell? ⟨g, off + j, none⟩ = some x ∧ SeesB w x l ∧ l.length ≤ 140737488351232) := fun j u hj hu => by
    obtain ⟨g, off, x, l, h1, hg, h3, h4, h5⟩ := hv.at j hj
    have hm := hl l (List.mem_of_getElem? h5.out)
    unfold reachBytes at hm
    exact ⟨g, off, x, l, h1, (hu.cell (p := ⟨g, off + j, none⟩) hg).trans h3, h4, by omega⟩
  have HBE := hid (begun_any w)
  unfold maxLen at hc1
  clear hv hl
  go_enter Try.func6, Try.ntmps6
  go_wp2_with fail
  refine HBE.out.mono ?_
  rintro _ w1 ⟨rfl, hb1⟩
  go_wp2_with fail
  go_loopw [4, 5, 6, 7, 8, 9, 10, 11, 12] (fun i _ _ _ _ _ _ _ _ wv => ∃ (k : Nat) (wr : World), i = .int .i64 (k : Int) ∧ k ≤ n1 ∧ wr = wv ∧ Below w.heap.size w wr) (fun i _ _ _ _ _ _ _ _ _ => n1 - (intOf i).toNat)
  case atStart => exact ⟨0, _, rfl, by omega, rfl, hb1⟩
  case round =>
    clear hb1
    obtain ⟨k, wr, rfl, hk, rfl, hb⟩ := hrel
    by_cases hlt : k < n1
    · obtain ⟨g, off, x, L, rfl, hc, hsx, hlL⟩ := HR.out k wr hlt hb
      obtain ⟨ab, nb, capb, rfl, HNB, hnb1, hnb2⟩ := hsx.shape
      unfold maxLen at hnb2
      have HRO := hid (roomy_any _ L wr (hsx.below hb) (by omega))
      have b0 : (k : Int) < (n1 : Int) := by omega
      have b1 : (0 : Int) ≤ (k : Int) := by omega
      have HSX := hid hsx
      have HLL := hid hlL
      have HB := hid hb
      clear hsx hlL hb
      go_wp2_with fail
      refine HRO.out.mono ?_
      rintro _ w9 ⟨l9, rfl, ho9, hb9⟩
      have hbm : ∀ y ∈ L ++ mkN 70, y < 256 := fun y hy => (List.mem_append.1 hy).elim (HSX.out.bytes y) (mkN_bytes y)
      obtain ⟨ap, np, cp, rfl, hsr, hsc, kcut⟩ := room_cut ho9 hbm
      rw [← HNB.out] at hsc kcut
      have HB9 := hid (HB.out.trans (hb9.mono HB.out.size))
      have X9 := hid (open_any _ L w9 hsc (by have := HLL.out; omega))
      have HSR9 := hid hsr
      have hnp : nb ≤ np := by obtain ⟨_, _, hv, h1, _⟩ := hsc; simp at hv; omega
      clear hb9 hsc hsr ho9 hbm HRO hc
      go_wp2_with fail
      refine X9.out.mono ?_
      rintro _ w10 ⟨a10, n10, c10, rfl, hs10, _, hb10⟩
      obtain ⟨oc, hoc⟩ : ∃ oc, oc = ouCells (opO L) := ⟨_, rfl⟩
      obtain ⟨fc, hfc⟩ : ∃ fc, fc = frCells (opF L) (.slice a10 n10 c10) := ⟨_, rfl⟩
      have hFO := opF_ok L HSX.out.bytes
      have hos : oc.size = 6 := by rw [hoc]; rfl
      have hfs : fc.size = 14 := by rw [hfc]; exact frCells_size hFO _
      obtain ⟨wb, wc, w11, HWB, HWC, HW11, HT1, HT2, hr1, hr2, hb11⟩ := lay2 w10 oc fc hos hfs w10.heap.size rfl
      have HIO : Hid ((Try.prog.info? 26).map (·.size) = some oc.size) := by unfold Hid; rw [hos]; kernel_rfl
      have HIF : Hid ((Try.prog.info? 31).map (·.size) = some fc.size) := by unfold Hid; rw [hfs]; kernel_rfl
      have HOO : Hid (oc.all (·.oneCell') = true) := by unfold Hid; rw [hoc]; exact ou_one _
      have HOF : Hid (fc.all (·.oneCell') = true) := by unfold Hid; rw [hfc]; exact frc_one
      have hb911 : Below w9.heap.size w9 w11 := hb10.trans (hb11.mono hb10.size)
      have HB11 : Hid (Below w.heap.size w w11) := HB9.out.trans (hb911.mono HB9.out.size)
      have XR := hid (openR_any _ L w11 (HSX.out.below HB11.out) (by have := HLL.out; omega))
      have HS11 := hid (hs10.below hb11)
      have HSR11 := hid (HSR9.out.below hb911)
      have HR1 := hid hr1
      have HR2 := hid hr2
      have HOC := hid hoc
      have HFC := hid hfc
      have HFO := hid hFO
      rw [← hoc, ← hfc]
      generalize opE L = E at *
      clear hoc hfc hFO hb11 hb10 hb911 hs10 hr1 hr2 X9 HB9 HSR9 kcut hnp
      have HTL1 : Hid (((w10.alloc (.cells #[.int .u32 0, .int .u32 0, .int .u16 0, .int .u16 0, .int .u8 0, .int .i64 0] 26)).alloc (.cells #[.int .u8 0, .int .u8 0, .int .u8 0, .int .u8 0, .int .u8 0, .int .u8 0, .int .u8 0, .int .u8 0, .int .u8 0, .int .u8 0, .int .u8 0, .int .u8 0, .int .u16 0, .slice none 0 0] 31)).there w10.heap.size 0 oc.size) := by have h := HT1.out; rw [HWB.out] at h; exact h
      have HTL2 : Hid ((((w10.alloc (.cells #[.int .u32 0, .int .u32 0, .int .u16 0, .int .u16 0, .int .u8 0, .int .i64 0] 26)).alloc (.cells #[.int .u8 0, .int .u8 0, .int .u8 0, .int .u8 0, .int .u8 0, .int .u8 0, .int .u8 0, .int .u8 0, .int .u8 0, .int .u8 0, .int .u8 0, .int .u8 0, .int .u16 0, .slice none 0 0] 31)).setCells w10.heap.size 0 oc.toList).there (w10.heap.size + 1) 0 fc.size) := by have h := HT2.out; rw [HWC.out, HWB.out] at h; exact h
      have HWL : Hid (w11 = (((w10.alloc (.cells #[.int .u32 0, .int .u32 0, .int .u16 0, .int .u16 0, .int .u8 0, .int .i64 0] 26)).alloc (.cells #[.int .u8 0, .int .u8 0, .int .u8 0, .int .u8 0, .int .u8 0, .int .u8 0, .int .u8 0, .int .u8 0, .int .u8 0, .int .u8 0, .int .u8 0, .int .u8 0, .int .u16 0, .slice none 0 0] 31)).setCells w10.heap.size 0 oc.toList).setCells (w10.heap.size + 1) 0 fc.toList) := by have h := HW11.out; rw [HWC.out, HWB.out] at h; exact h
      clear HT1 HT2 HWB HWC HW11
      go_upto_region 10 with (first
        | (refine wpList_store_mid rfl 26 (.tmp 7) (.tmp 36) rfl w10.heap.size 0 oc rfl rfl HTL1.out HIO.out HOO.out ?_)
        | (refine wpList_store_mid rfl 31 (.tmp 8) (.tmp 37) rfl (w10.heap.size + 1) 0 fc rfl rfl HTL2.out HIF.out HOF.out ?_)
        | fail)
      rw [← HWL.out]
      clear HTL1 HTL2 HWL
      go_wp2_with fail
      refine XR.out.mono ?_
      rintro _ w12 ⟨a12, n12, c12, rfl, hs12, _, hb12⟩
      obtain ⟨fd, hfd⟩ : ∃ fd, fd = frCells (opF L) (.slice a12 n12 c12) := ⟨_, rfl⟩
      have hfds : fd.size = 14 := by rw [hfd]; exact frCells_size HFO.out _
      obtain ⟨wb, wc, w13, HWB, HWC, HW11, HT1, HT2, hr3, hr4, hb13⟩ := lay2 w12 oc fd hos hfds w12.heap.size rfl
      have HIF : Hid ((Try.prog.info? 31).map (·.size) = some fd.size) := by unfold Hid; rw [hfds]; kernel_rfl
      have HOF : Hid (fd.all (·.oneCell') = true) := by unfold Hid; rw [hfd]; exact frc_one
      have hb1113 : Below w11.heap.size w11 w13 := hb12.trans (hb13.mono hb12.size)
      have HB13 : Hid (Below w.heap.size w w13) := HB11.out.trans (hb1113.mono HB11.out.size)
      have hl1 := (Array.getElem?_eq_some_iff.1 HR1.out).1
      have hl2 := (Array.getElem?_eq_some_iff.1 HR2.out).1
      have HL7 : Hid ((Instr.loadAt 26 (.pointer (some ⟨w10.heap.size, 0, none⟩))).run Try.prog w13 = .ok (.agg oc) w13) := load_rowAt ((hb1113.block _ hl1).trans HR1.out) Try.underlying26 rfl HIO.out
      have HL10 : Hid ((Instr.loadAt 26 (.pointer (some ⟨w12.heap.size, 0, none⟩))).run Try.prog w13 = .ok (.agg oc) w13) := load_rowAt hr3 Try.underlying26 rfl HIO.out
      have HL8 : Hid ((Instr.loadAt 31 (.pointer (some ⟨w10.heap.size + 1, 0, none⟩))).run Try.prog w13 = .ok (.agg fc) w13) := load_rowAt ((hb1113.block _ hl2).trans HR2.out) Try.underlying31 rfl (by rw [hfs]; kernel_rfl)
      have HL11 : Hid ((Instr.loadAt 31 (.pointer (some ⟨w12.heap.size + 1, 0, none⟩))).run Try.prog w13 = .ok (.agg fd) w13) := load_rowAt hr4 Try.underlying31 rfl HIF.out
      have hq : ∀ u : World, (Op.equalIn 10000 26 (.agg oc) (.agg oc)).run Try.prog u = .ok true u := fun u => by rw [HOC.out]; exact eqO _ u
      have HSF : Hid (Calls Try.prog 27 #[.agg fc, .agg fd] w13 fun e w' => e = .returned (.bool true) ∧ Below w13.heap.size w13 w') := by
        unfold Hid
        rw [HFC.out, hfd]
        exact sameFrame_self _ _ _ w13 HFO.out (HS11.out.below hb1113) (hs12.below hb13)
      have HKP : Hid (∀ u, Below w13.heap.size w13 u → Calls Try.prog 23 #[.slice ap np cp, .slice ab nb capb] u fun e w' => e = .returned (.bool true) ∧ Below u.heap.size u w') := fun u hu =>
        kept_any _ _ L u ((HSR11.out.below hb1113).below hu) (HSX.out.below (HB13.out.trans (hu.mono HB13.out.size))) HLL.out
      rw [← show oc = _ from HOC.out, ← hfd]
      clear hfd hb12 hb13 hb1113 hs12 hr3 hr4 hl1 hl2
      have HTL1 : Hid (((w12.alloc (.cells #[.int .u32 0, .int .u32 0, .int .u16 0, .int .u16 0, .int .u8 0, .int .i64 0] 26)).alloc (.cells #[.int .u8 0, .int .u8 0, .int .u8 0, .int .u8 0, .int .u8 0, .int .u8 0, .int .u8 0, .int .u8 0, .int .u8 0, .int .u8 0, .int .u8 0, .int .u8 0, .int .u16 0, .slice none 0 0] 31)).there w12.heap.size 0 oc.size) := by have h := HT1.out; rw [HWB.out] at h; exact h
      have HTL2 : Hid ((((w12.alloc (.cells #[.int .u32 0, .int .u32 0, .int .u16 0, .int .u16 0, .int .u8 0, .int .i64 0] 26)).alloc (.cells #[.int .u8 0, .int .u8 0, .int .u8 0, .int .u8 0, .int .u8 0, .int .u8 0, .int .u8 0, .int .u8 0, .int .u8 0, .int .u8 0, .int .u8 0, .int .u8 0, .int .u16 0, .slice none 0 0] 31)).setCells w12.heap.size 0 oc.toList).there (w12.heap.size + 1) 0 fd.size) := by have h := HT2.out; rw [HWC.out, HWB.out] at h; exact h
      have HWL : Hid (w13 = (((w12.alloc (.cells #[.int .u32 0, .int .u32 0, .int .u16 0, .int .u16 0, .int .u8 0, .int .i64 0] 26)).alloc (.cells #[.int .u8 0, .int .u8 0, .int .u8 0, .int .u8 0, .int .u8 0, .int .u8 0, .int .u8 0, .int .u8 0, .int .u8 0, .int .u8 0, .int .u8 0, .int .u8 0, .int .u16 0, .slice none 0 0] 31)).setCells w12.heap.size 0 oc.toList).setCells (w12.heap.size + 1) 0 fd.toList) := by have h := HW11.out; rw [HWC.out, HWB.out] at h; exact h
      clear HT1 HT2 HWB HWC HW11
      go_upto_region 11 with (first
        | (refine wpList_store_mid rfl 26 (.tmp 10) (.tmp 42) rfl w12.heap.size 0 oc rfl rfl HTL1.out HIO.out HOO.out ?_)
        | (refine wpList_store_mid rfl 31 (.tmp 11) (.tmp 43) rfl (w12.heap.size + 1) 0 fd rfl rfl HTL2.out HIF.out HOF.out ?_)
        | fail)
      rw [← HWL.out]
      clear HTL1 HTL2 HWL
      go_wp2_with (first
        | (refine wpList_ld 26 ⟨w10.heap.size, 0, none⟩ (.tmp 7) rfl rfl HL7.out rfl ?_)
        | (refine wpList_ld 26 ⟨w12.heap.size, 0, none⟩ (.tmp 10) rfl rfl HL10.out rfl ?_)
        | (refine wpList_ld 31 ⟨w10.heap.size + 1, 0, none⟩ (.tmp 8) rfl rfl HL8.out rfl ?_)
        | (refine wpList_ld 31 ⟨w12.heap.size + 1, 0, none⟩ (.tmp 11) rfl rfl HL11.out rfl ?_)
        | fail)
      refine HSF.out.mono ?_
      rintro _ w14 ⟨rfl, hb14⟩
      have HK2 := hid (HKP.out w14 hb14)
      have HB14 : Hid (Below w.heap.size w w14) := HB13.out.trans (hb14.mono HB13.out.size)
      clear hb14
      go_wp2_with fail
      refine HK2.out.mono ?_
      rintro _ w15 ⟨rfl, hb15⟩
      have HB15 : Hid (Below w.heap.size w w15) := HB14.out.trans (hb15.mono HB14.out.size)
      clear hb15
      go_wp2_with fail
      go_roundw
      case rel => exact ⟨k + 1, _, by go_num, by omega, rfl, HB15.out⟩
      case measure => simp [intOf]; omega
    · have b0 : ¬ (k : Int) < (n1 : Int) := by omega
      go_wp2_with fail
      go_ret
      exact ⟨rfl, hb⟩
end Go.Proofs.Ytcelcnafcfefhab.N
