/-
  Frames in memory; tunnel.BuildFrame.
-/
import Derived.Test.YtcelcnafcfefhaaTG
namespace Go.Proofs.Ytcelcnafcfefhaa.N
open Go.ChangeShapes Go.WideShapes Go.ChangeAt Go.RowKit
set_option maxHeartbeats 8000000
set_option maxRecDepth 100000

/-- A frame's cells. -/
def frc (D S : List Nat) (ty : Nat) (vb : Value) : List Value := bs D ++ (bs S ++ [.int .u16 (ty : Int), vb])
def frCells (f : Tn.Fr) (vb : Value) : Array Value := (frc f.dst f.src f.ty vb).toArray

theorem bs_len (L : List Nat) : (bs L).length = L.length := by simp [bs]

theorem frc_len {D S : List Nat} (hD : D.length = 6) (hS : S.length = 6) (ty : Nat) (vb : Value) : (frc D S ty vb).length = 14 := by
  unfold frc
  rw [List.length_append, List.length_append, bs_len, bs_len, hD, hS]
  rfl

theorem frc_ty {D S : List Nat} (hD : D.length = 6) (hS : S.length = 6) (ty : Nat) (vb : Value) : (frc D S ty vb)[12]? = some (.int .u16 (ty : Int)) ∧ (frc D S ty vb)[13]? = some vb := by
  unfold frc
  constructor
  · rw [List.getElem?_append_right (by rw [bs_len, hD]; omega), bs_len, hD, List.getElem?_append_right (by rw [bs_len, hS]; omega), bs_len, hS]
    rfl
  · rw [List.getElem?_append_right (by rw [bs_len, hD]; omega), bs_len, hD, List.getElem?_append_right (by rw [bs_len, hS]; omega), bs_len, hS]
    rfl

theorem bs_get {L : List Nat} {j : Nat} (h : j < L.length) : (bs L)[j]? = some (.int .u8 (L[j] : Int)) := by
  simp [bs, h]

theorem frc_dst {D S : List Nat} (hD : D.length = 6) (ty : Nat) (vb : Value) (j : Nat) (hj : j < 6) : (frc D S ty vb)[j]? = (bs D)[j]? := by
  unfold frc
  rw [List.getElem?_append_left (by rw [bs_len, hD]; exact hj)]

theorem frc_src {D S : List Nat} (hD : D.length = 6) (hS : S.length = 6) (ty : Nat) (vb : Value) (j : Nat) (hj : j < 6) : (frc D S ty vb)[6 + j]? = (bs S)[j]? := by
  unfold frc
  rw [List.getElem?_append_right (by rw [bs_len, hD]; omega), bs_len, hD, Nat.add_sub_cancel_left, List.getElem?_append_left (by rw [bs_len, hS]; exact hj)]

theorem cell_fr {u : World} {n : Nat} {C : List Value} {t : TypeId} (hb : u.heap[n]? = some (.cells C.toArray t (0, 0))) (j : Nat) : u.cell? ⟨n, j, none⟩ = C[j]? := by
  rw [cell_of_row _ _ _ _ _ _ hb]
  simp

theorem fr_at {u : World} {n : Nat} {f : Tn.Fr} {vb : Value} {t : TypeId} (hok : f.Ok) (hb : u.heap[n]? = some (.cells (frCells f vb) t (0, 0))) :
    u.cell? ⟨n, 12, none⟩ = some (.int .u16 (f.ty : Int)) ∧ u.cell? ⟨n, 13, none⟩ = some vb := by
  have h := frc_ty hok.dst hok.src f.ty vb
  exact ⟨(cell_fr hb 12).trans h.1, (cell_fr hb 13).trans h.2⟩

structure FrB (f : Tn.Fr) : Prop where
  ok : f.Ok
  dst : ∀ x ∈ f.dst, x < 256
  src : ∀ x ∈ f.src, x < 256

theorem fr_dst {u : World} {n : Nat} {f : Tn.Fr} {vb : Value} {t : TypeId} (hf : FrB f) (hb : u.heap[n]? = some (.cells (frCells f vb) t (0, 0))) : SeesB u (.slice (some ⟨n, 0, none⟩) 6 6) f.dst := by
  refine ⟨some ⟨n, 0, none⟩, 6, by rw [hf.ok.dst], ⟨by rw [hf.ok.dst]; exact Nat.le_refl _, fun h => by cases h⟩, by unfold maxLen; omega, fun j hj => ⟨n, 0, rfl, (Array.getElem?_eq_some_iff.1 hb).1, ?_, hf.dst _ (List.getElem_mem _)⟩⟩
  rw [Nat.zero_add, cell_fr hb j, frc_dst hf.ok.dst f.ty vb j (by rw [← hf.ok.dst]; exact hj), bs_get hj]

theorem fr_src {u : World} {n : Nat} {f : Tn.Fr} {vb : Value} {t : TypeId} (hf : FrB f) (hb : u.heap[n]? = some (.cells (frCells f vb) t (0, 0))) : SeesB u (.slice (some ⟨n, 6, none⟩) 6 6) f.src := by
  refine ⟨some ⟨n, 6, none⟩, 6, by rw [hf.ok.src], ⟨by rw [hf.ok.src]; exact Nat.le_refl _, fun h => by cases h⟩, by unfold maxLen; omega, fun j hj => ⟨n, 6, rfl, (Array.getElem?_eq_some_iff.1 hb).1, ?_, hf.src _ (List.getElem_mem _)⟩⟩
  rw [cell_fr hb (6 + j), frc_src hf.ok.dst hf.ok.src f.ty vb j (by rw [← hf.ok.src]; exact hj), bs_get hj]

def Z14 : Array Value := #[.int .u8 0, .int .u8 0, .int .u8 0, .int .u8 0, .int .u8 0, .int .u8 0, .int .u8 0, .int .u8 0, .int .u8 0, .int .u8 0, .int .u8 0, .int .u8 0, .int .u8 0, .int .u8 0]

theorem splice_mid {A B C D : List Value} (h : D.length = B.length) : splice (A ++ (B ++ C)) A.length D = A ++ (D ++ C) := by
  unfold splice
  rw [List.take_left, List.drop_append, List.drop_eq_nil_of_le (by omega), List.nil_append, Nat.add_sub_cancel_left, h, List.drop_left]

theorem one_bs {L : List Nat} : ∀ v ∈ bs L, v.oneCell' = true := fun v hv => by
  obtain ⟨y, _, rfl⟩ := List.mem_map.1 hv
  rfl

theorem frL_bytes {f : Tn.Fr} (hf : FrB f) (hB : ∀ x ∈ f.B, x < 256) : ∀ x ∈ Tn.frL f, x < 256 := fun x hx => by
  simp only [Tn.frL, Tn.be2, List.mem_append, List.mem_cons, List.not_mem_nil, or_false] at hx
  rcases hx with ((h | h) | h) | h
  · exact hf.dst x h
  · exact hf.src x h
  · omega
  · exact hB x h

theorem bf_bad {f : Tn.Fr} {e : Int} (h : Tn.bfE f = e) (he : e ≠ 0) : Tn.bfE f = e ∧ Tn.bfL f = [] := ⟨h, by unfold Tn.bfL; rw [if_neg (by rw [h]; exact he)]⟩

theorem buildF_any (f : Tn.Fr) (vb : Value) (w : World) (hf : FrB f) (hvb : SeesB w vb f.B) :
    Calls Try.prog 33 #[.agg (frCells f vb)] w fun e w' => ∃ ao n cap, e = .returned (.tuple #[.slice ao n cap, .int .i64 (Tn.bfE f)]) ∧ SeesB w' (.slice ao n cap) (Tn.bfL f) ∧ (Tn.bfE f = 0 → ∃ g, ao = some ⟨g, 0, none⟩ ∧ cap = n ∧ Blk w' g (Tn.bfL f) ∧ w.heap.size ≤ g) ∧ Below w.heap.size w w' := by
  obtain ⟨ab, nb, capb, rfl, HNB, hnb1, hnb2⟩ := hvb.shape
  unfold maxLen at hnb2
  obtain ⟨w1, hw1⟩ : ∃ w1, w1 = w.alloc (.cells (frCells f (.slice ab nb capb)) 41) := ⟨_, rfl⟩
  have hs1 : w1.heap.size = w.heap.size + 1 := by rw [hw1]; simp
  have hb1 : Below w.heap.size w w1 := by rw [hw1]; exact (Below.refl _ _).alloc (Nat.le_refl _) _
  have hr1 : w1.heap[w.heap.size]? = some (.cells (frCells f (.slice ab nb capb)) 41 (0, 0)) := by rw [hw1]; exact heap_alloc_new w _
  obtain ⟨c12, c13⟩ := fr_at hf.ok hr1
  have HW1 := hid hw1
  have HB1 := hid hb1
  have HBY := hid hvb.bytes
  have hty := hf.ok.ty
  have HCT := hid (fun u => checkType_any f.ty u hty)
  by_cases hbig : 65485 < nb
  · have HE := hid (bf_bad (f := f) (e := 2) (by unfold Tn.bfE; rw [if_pos (by rw [← HNB.out]; exact hbig)]) (by decide))
    generalize frCells f (.slice ab nb capb) = fr at *
    clear hw1 hs1 hb1 hvb hr1
    go_enter Try.func33, Try.ntmps33
    go_upto_region 1 with fail
    rw [← HW1.out]
    go_wp2_with fail
    refine bodyPost_ret (results_tmp2 Try.results33 _ _ _) rfl ?_
    rw [HE.out.1, HE.out.2]
    exact ⟨_, _, _, rfl, sees_nil _, (fun h => absurd h (by decide)), HB1.out⟩
  have hbig' : f.B.length ≤ 65485 := by rw [← HNB.out]; omega
  have hbe : Tn.bfE f = Tn.tyE f.ty := by unfold Tn.bfE; rw [if_neg (by omega)]
  by_cases ht : Tn.tyE f.ty = 0
  · have hL : Tn.bfL f = f.dst ++ (f.src ++ Tn.be2 f.ty) ++ f.B := by unfold Tn.bfL; rw [if_pos (by rw [hbe, ht])]; simp [Tn.frL]
    have HLB : Hid (∀ y ∈ f.dst ++ (f.src ++ Tn.be2 f.ty) ++ f.B, y < 256) := by
      unfold Hid
      rw [← hL]
      unfold Tn.bfL
      rw [if_pos (by rw [hbe, ht])]
      exact frL_bytes hf HBY.out
    have HLL : Hid ((f.dst ++ (f.src ++ Tn.be2 f.ty) ++ f.B).length = 14 + nb) := by
      unfold Hid
      rw [List.length_append, List.length_append, List.length_append, hf.ok.dst, hf.ok.src, HNB.out]
      rfl
    rw [hbe, hL]
    rw [ht] at HCT ⊢
    obtain ⟨w2, hw2⟩ : ∃ w2, w2 = w1.alloc (.cells Z14 106) := ⟨_, rfl⟩
    obtain ⟨h, hh⟩ : ∃ h, h = w1.heap.size := ⟨_, rfl⟩
    have hb2 : Below h w1 w2 := by rw [hw2, hh]; exact (Below.refl _ _).alloc (Nat.le_refl _) _
    have hB2 : BlkT 106 w2 h [0, 0, 0, 0, 0, 0, 0, 0, 0, 0, 0, 0, 0, 0] := by rw [hw2, hh]; exact heap_alloc_new w1 _
    have HRW : Hid (∀ u, Below h w1 u → u.heap[w.heap.size]? = some (.cells (frCells f (.slice ab nb capb)) 41 (0, 0))) := fun u hu => (hu.block _ (by omega)).trans hr1
    have HBW : Hid (∀ u, Below h w1 u → Below w.heap.size w u) := fun u hu => hb1.trans (hu.mono (by omega))
    have HCE : Hid (∀ u, Below h w1 u → u.cell? ⟨w.heap.size, 12, none⟩ = some (.int .u16 (f.ty : Int)) ∧ u.cell? ⟨w.heap.size, 13, none⟩ = some (.slice ab nb capb)) := fun u hu => fr_at hf.ok (HRW.out u hu)
    have HW2 : Hid (w2 = w1.alloc (.cells Z14 106)) := hw2
    unfold Z14 at HW2
    have HH := hid hh
    have HHW : Hid (h = w.heap.size + 1) := by unfold Hid; omega
    have HVB := hid hvb
    have HF := hid hf
    have HB2 := hid hb2
    obtain ⟨X0, hX0⟩ : ∃ X0, X0 = bs [0, 0, 0, 0, 0, 0, 0, 0, 0, 0, 0, 0, 0, 0] := ⟨_, rfl⟩
    have HG2 : Hid (w2.heap[h]? = some (.cells X0.toArray 106 (0, 0))) := by unfold Hid; rw [hX0]; exact hB2
    have HX0 := hid hX0
    have HX0L : Hid (X0.length = 14) := by unfold Hid; rw [hX0]; rfl
    obtain ⟨O1, hO1⟩ : ∃ O1, O1 = bs f.dst := ⟨_, rfl⟩
    have HO1 := hid hO1
    have HO1L : Hid (O1.length = 6) := by unfold Hid; rw [hO1, bs_len, hf.ok.dst]
    have HO11 : Hid (∀ v ∈ O1, v.oneCell' = true) := by unfold Hid; rw [hO1]; exact one_bs
    obtain ⟨O2, hO2⟩ : ∃ O2, O2 = bs f.src := ⟨_, rfl⟩
    have HO2 := hid hO2
    have HO2L : Hid (O2.length = 6) := by unfold Hid; rw [hO2, bs_len, hf.ok.src]
    have HO21 : Hid (∀ v ∈ O2, v.oneCell' = true) := by unfold Hid; rw [hO2]; exact one_bs
    have HP1 : Hid (∀ u, Below h w1 u → ∀ j v, O1[j]? = some v → u.cell? ((⟨w.heap.size, 0, none⟩ : Addr).add j) = some v) := fun u hu j v hv => by
      rw [HO1.out] at hv
      obtain ⟨ad, ha, hc⟩ := (fr_dst HF.out (HRW.out u hu)).src (by rw [bs_len, HF.out.ok.dst]; omega)
      cases ha
      exact hc j v hv
    have HP2 : Hid (∀ u, Below h w1 u → ∀ j v, O2[j]? = some v → u.cell? ((⟨w.heap.size, 6, none⟩ : Addr).add j) = some v) := fun u hu j v hv => by
      rw [HO2.out] at hv
      obtain ⟨ad, ha, hc⟩ := (fr_src HF.out (HRW.out u hu)).src (by rw [bs_len, HF.out.ok.src]; omega)
      cases ha
      exact hc j v hv
    have hbig3 : nb ≤ 65485 := by omega
    generalize frCells f (.slice ab nb capb) = fr at *
    clear hw1 hs1 hb1 hvb hr1 hw2 hh hb2 hB2 hL hbe ht hX0 hO1 hO2 hbig'
    go_enter Try.func33, Try.ntmps33
    go_upto_region 1 with fail
    rw [← HW1.out]
    go_wp2_with fail
    refine (HCT.out _).mono ?_
    rintro _ wy ⟨rfl, hwy⟩
    subst hwy
    go_upto_region 7 with fail
    rw [← HW2.out, ← HH.out]
    go_cut [] from 6 (fun wx => Hid (wx.heap[h]? = some (.cells (splice X0 0 O1).toArray 106 (0, 0))) ∧ Below h wy wx)
    case first =>
      have HBD := hid (below_drew HB2.out)
      have HPS : Hid (0 < O1.length → ∃ ad, some (⟨w.heap.size, 0, none⟩ : Addr) = some ad ∧ ∀ j v, O1[j]? = some v → w2.drew.cell? (ad.add j) = some v) := fun _ => ⟨_, rfl, HP1.out _ HBD.out⟩
      have HMN : Hid (O1.length = Nat.min 6 14) := HO1L.out
      have HFT : Hid (0 + O1.length ≤ X0.length) := by unfold Hid; rw [HO1L.out, HX0L.out]; omega
      go_region_law (first
        | (refine step_copy_splice rfl (.tmp 16) (.tmp 18) 25 25 rfl 5 Try.underlying25 size5 (some ⟨h, 0, none⟩) (some ⟨w.heap.size, 0, none⟩) 14 14 6 6 rfl rfl h 0 X0 106 HG2.out O1 HMN.out (fun hp => ⟨rfl, HPS.out hp⟩) HFT.out HO11.out h wy HBD.out (Nat.le_refl _) ?_; intro w5 hg5 hb5)
        | fail)
      all_goals (
        go_wp2_with fail
        go_meet
        case rel => exact ⟨hg5, hb5⟩)
    case rest =>
    obtain ⟨HG3, hb3⟩ := hcut
    obtain ⟨w3, hw3⟩ : ∃ w3, w3 = wc := ⟨_, rfl⟩
    rw [← hw3] at HG3 hb3 ⊢
    clear hw3
    obtain ⟨X1, hX1⟩ : ∃ X1, X1 = splice X0 0 O1 := ⟨_, rfl⟩
    rw [← hX1] at HG3
    have HX1L : Hid (X1.length = 14) := by unfold Hid; rw [hX1, length_splice _ _ _ (by rw [HO1L.out, HX0L.out]; omega), HX0L.out]
    have HX1 := hid hX1
    have HB3 := hid hb3
    clear hX1 hb3
    go_upto_region 8 with fail
    go_cut [] from 6 (fun wx => Hid (wx.heap[h]? = some (.cells (splice X1 6 O2).toArray 106 (0, 0))) ∧ Below h wy wx)
    case first =>
      have HBD := hid (below_drew HB3.out)
      have HPS : Hid (0 < O2.length → ∃ ad, some (⟨w.heap.size, 6, none⟩ : Addr) = some ad ∧ ∀ j v, O2[j]? = some v → w3.drew.cell? (ad.add j) = some v) := fun _ => ⟨_, rfl, HP2.out _ HBD.out⟩
      have HMN : Hid (O2.length = Nat.min 6 8) := HO2L.out
      have HFT : Hid (6 + O2.length ≤ X1.length) := by unfold Hid; rw [HO2L.out, HX1L.out]; omega
      go_region_law (first
        | (refine step_copy_splice rfl (.tmp 20) (.tmp 22) 25 25 rfl 5 Try.underlying25 size5 (some ⟨h, 6, none⟩) (some ⟨w.heap.size, 6, none⟩) 8 8 6 6 rfl rfl h 6 X1 106 HG3.out O2 HMN.out (fun hp => ⟨rfl, HPS.out hp⟩) HFT.out HO21.out h wy HBD.out (Nat.le_refl _) ?_; intro w5 hg5 hb5)
        | fail)
      all_goals (
        go_wp2_with fail
        go_meet
        case rel => exact ⟨hg5, hb5⟩)
    case rest =>
    obtain ⟨HG4, hb4⟩ := hcut
    obtain ⟨w4, hw4⟩ : ∃ w4, w4 = wc := ⟨_, rfl⟩
    rw [← hw4] at HG4 hb4 ⊢
    clear hw4
    have hX2 : splice X1 6 O2 = bs (f.dst ++ (f.src ++ [0, 0])) := by
      have e1 : X1 = O1 ++ (bs [0, 0, 0, 0, 0, 0] ++ bs [0, 0]) := by
        rw [HX1.out, HX0.out]
        show splice ([] ++ (bs [0, 0, 0, 0, 0, 0] ++ (bs [0, 0, 0, 0, 0, 0] ++ bs [0, 0]))) ([] : List Value).length O1 = _
        rw [splice_mid (by rw [HO1L.out]; rfl)]
        rfl
      have e2 : splice X1 6 O2 = O1 ++ (O2 ++ bs [0, 0]) := by
        rw [e1, ← HO1L.out, splice_mid (by rw [HO2L.out]; rfl)]
      rw [e2, HO1.out, HO2.out]
      simp [bs]
    have hB4 : BlkT 106 w4 h (f.dst ++ (f.src ++ [0, 0])) := by unfold BlkT; rw [← hX2]; exact HG4.out
    have hlen4 : (f.dst ++ (f.src ++ [0, 0])).length = 14 := by rw [List.length_append, List.length_append, HF.out.ok.dst, HF.out.ok.src]; rfl
    have HC4 := hid (twrite16_any 106 h 12 2 f.ty _ w4.drew (show BlkT 106 w4.drew h _ from hB4) (by rw [hlen4]; omega) hty)
    have HSET : Hid (((f.dst ++ (f.src ++ [0, 0])).set 12 (f.ty / 256 % 256)).set (12 + 1) (f.ty % 256) = f.dst ++ (f.src ++ Tn.be2 f.ty)) := by
      unfold Hid
      have hd6 := HF.out.ok.dst
      have hs6 := HF.out.ok.src
      rw [List.set_append_right _ _ (by omega), List.set_append_right _ _ (by omega), hd6, List.set_append_right _ _ (by omega), List.set_append_right _ _ (by omega), hs6]
      rfl
    rw [HSET.out] at HC4
    have HB4 := hid hb4
    obtain ⟨d12, d13⟩ := HCE.out _ hb4
    clear HG4 hX2 hB4 hlen4 hb4
    go_upto_region 9 with fail
    go_cut [] from 6 (fun wx => Hid (BlkT 106 wx h (f.dst ++ (f.src ++ Tn.be2 f.ty))) ∧ Below h wy wx)
    case first =>
      go_region_with (first | (go_at_call 22; refine HC4.out.mono ?_; rintro _ w5 ⟨rfl, hB5, hu5⟩) | fail)
      all_goals (
        go_wp2_with fail
        go_meet
        case rel => exact ⟨hB5, hu5.below (below_drew HB4.out) (Nat.le_trans (Nat.le_of_eq HH.out) HB4.out.size) (Nat.le_refl _)⟩)
    case rest =>
    obtain ⟨HB5, hb5⟩ := hcut
    obtain ⟨w5, hw5⟩ : ∃ w5, w5 = wc := ⟨_, rfl⟩
    rw [← hw5] at HB5 hb5 ⊢
    clear hw5 HC4 d12 d13
    obtain ⟨d12, d13⟩ := HCE.out _ hb5
    have hlen5 : (f.dst ++ (f.src ++ Tn.be2 f.ty)).length = 14 := by rw [List.length_append, List.length_append, HF.out.ok.dst, HF.out.ok.src]; rfl
    have hs14 : SeesB w5 (.slice (some ⟨h, 0, none⟩) 14 14) (f.dst ++ (f.src ++ Tn.be2 f.ty)) := by
      have := HB5.out.sees (fun y hy => HLB.out y (List.mem_append_left _ hy)) 0 14 14 (by rw [hlen5]; omega) (Nat.le_refl _) (by unfold maxLen; omega)
      rwa [List.drop_zero, List.take_of_length_le (Nat.le_of_eq hlen5)] at this
    have HBZ := hid (HBW.out _ hb5)
    obtain ⟨k, hk⟩ : ∃ k, k = 14 + nb := ⟨_, rfl⟩
    have HJ : Hid (Calls Try.prog 26 #[.slice (some ⟨h, 0, none⟩) 14 14, .slice ab nb capb] w5.drew fun e w' => ∃ g, e = .returned (.slice (some ⟨g, 0, none⟩) k k) ∧ Blk w' g (f.dst ++ (f.src ++ Tn.be2 f.ty) ++ f.B) ∧ w5.heap.size ≤ g ∧ Below w5.heap.size w5 w') := by
      refine (join_any _ _ _ _ w5.drew (sees_drew hs14) (sees_drew (HVB.out.below (HBW.out _ hb5))) (by rw [hlen5, ← HNB.out]; omega)).mono ?_
      rintro e u ⟨g, k', rfl, hk', hB, hg, hb⟩
      exact ⟨g, by rw [hk', HLL.out, hk], hB, hg, (below_drew (Below.refl _ _)).trans hb⟩
    have HK : Hid ((f.dst ++ (f.src ++ Tn.be2 f.ty) ++ f.B).length = k) := by unfold Hid; rw [HLL.out, hk]
    have hk2 : k ≤ 65499 := by omega
    clear hs14 hlen5 hb5 HB5 hk
    go_upto_region 10 with fail
    go_region_with (first | (go_at_call 26; refine HJ.out.mono ?_; rintro _ w7 ⟨g, rfl, hB7, hg7, hb7⟩) | fail)
    all_goals (
      go_wp2_with fail
      refine bodyPost_ret (results_tmp2 Try.results33 _ _ _) rfl ?_
      exact ⟨_, _, _, rfl, sees_blk hB7 HK.out (by omega) HLB.out, fun _ => ⟨g, rfl, rfl, hB7, Nat.le_trans HBZ.out.size hg7⟩, HBZ.out.trans (hb7.mono HBZ.out.size)⟩)
  · have HE := hid (bf_bad (f := f) (e := Tn.tyE f.ty) hbe ht)
    generalize frCells f (.slice ab nb capb) = fr at *
    generalize Tn.tyE f.ty = E at *
    have q1 : (E == 0) = false := by simp [ht]
    have q2 : (E != 0) = true := by simp [ht]
    have hbig3 : nb ≤ 65485 := by omega
    clear hw1 hs1 hb1 hvb hr1 hbe
    go_enter Try.func33, Try.ntmps33
    go_upto_region 1 with fail
    rw [← HW1.out]
    go_wp2_with fail
    refine (HCT.out _).mono ?_
    rintro _ wy ⟨rfl, hwy⟩
    subst hwy
    go_wp2_with fail
    refine bodyPost_ret (results_tmp2 Try.results33 _ _ _) rfl ?_
    rw [HE.out.1, HE.out.2]
    exact ⟨_, _, _, rfl, sees_nil _, (fun h => absurd h ht), HB1.out⟩
end Go.Proofs.Ytcelcnafcfefhaa.N
