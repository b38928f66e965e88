import Derived.Test.YtcelcnafcfefhaaTL
import Derived.Test.YtcelcnafcfefhaaNWF
import Derived.Test.YtcelcnafcfefhaaNBD
import Derived.Test.YtcelcnafcfefhaaTG
import Derived.Test.YtcelcnafcfefhaaTF
import Derived.Test.YtcelcnafcfefhaaNY
import Derived.Test.YtcelcnafcfefhaaLW
import Derived.Test.YtcelcnafcfefhaaNWC
import Derived.Test.YtcelcnafcfefhaaNO
import Derived.Test.YtcelcnafcfefhaaTC
import Derived.OpenShut
/-
  tunnel: mix, portOf, packetKey, frameKey, Flow.
-/
namespace Go.Proofs.Ytcelcnafcfefhaa.N
open Go.ChangeShapes Go.WideShapes Go.ChangeAt Go.RowKit
set_option maxHeartbeats 8000000
set_option maxRecDepth 100000

theorem mix_lt (L : List Nat) : ∀ h, h < 65521 → Tn.mix h L < 65521 := by
  induction L with
  | nil => intro h hh; exact hh
  | cons x L ih => intro h _; exact ih _ (Nat.mod_lt _ (by omega))

theorem mix_any (v : Value) (L : List Nat) (w : World) (hv : SeesB w v L) :
    Calls Try.prog 69 #[v] w fun e w' => e = .returned (.int .u32 ((Tn.mix 1 L : Nat) : Int)) ∧ w' = w := by
  obtain ⟨ao, n, cap, rfl, HN, hn1, hn2⟩ := hv.shape
  unfold maxLen at hn2
  have HV := hid hv
  have HBY := hid hv.bytes
  obtain ⟨M0, hM0⟩ : ∃ M0, M0 = Tn.mix 1 L := ⟨_, rfl⟩
  have HM := hid hM0
  rw [← hM0]
  clear hv hM0
  go_enter Try.func69, Try.ntmps69
  go_wp2_with fail
  go_loopw [3, 5, 8] (fun t _ i wv => ∃ (k h : Nat) (wr : World), i = .int .i64 (k : Int) ∧ t = .int .u32 (h : Int) ∧ k ≤ n ∧ h < 65521 ∧ Hid (Tn.mix h (L.drop k) = M0) ∧ wr = wv ∧ wr = w) (fun _ _ i _ => n - (intOf i).toNat)
  case atStart => exact ⟨0, 1, _, rfl, rfl, by omega, by omega, HM.out.symm, rfl, rfl⟩
  case round =>
    obtain ⟨k, h, wr, rfl, rfl, hk, hh, HK, rfl, rfl⟩ := hrel
    by_cases hlt : k < n
    · obtain ⟨g, off, rfl, _, hc⟩ := HV.out.atB k hlt
      have hx := byt_lt HBY.out k
      have HNX : Hid (Tn.mix ((h * 251 + byt L k + 1) % 65521) (L.drop (k + 1)) = M0) := by
        unfold Hid
        rw [← HK.out]
        have hkl : k < L.length := by rw [← HN.out]; exact hlt
        rw [List.drop_eq_getElem_cons hkl, Tn.mix]
        simp [byt, hkl]
      generalize byt L k = x at *
      have b0 : (k : Int) < (n : Int) := by omega
      have b1 : (0 : Int) ≤ (k : Int) := by omega
      have hml : (h * 251 + x + 1) % 65521 < 65521 := Nat.mod_lt _ (by omega)
      go_wp2_with fail
      go_roundw
      case rel => exact ⟨k + 1, (h * 251 + x + 1) % 65521, _, by go_num, by go_num, by omega, hml, HNX, rfl, rfl⟩
      case measure => simp [intOf]; omega
    · obtain rfl : k = n := by omega
      have hM : h = M0 := by
        have := HK.out
        rwa [List.drop_eq_nil_of_le (by rw [← HN.out]; exact Nat.le_refl _)] at this
      subst hM
      go_wp2_with fail
      go_ret
      exact ⟨rfl, rfl⟩

theorem portOf_any (v : Value) (L : List Nat) (w : World) (hv : SeesB w v L) :
    Calls Try.prog 42 #[v] w fun e w' => e = .returned (.int .u16 ((Tn.port L : Nat) : Int)) ∧ w' = w := by
  have HX := hid (mix_any v L w hv)
  have hm := mix_lt L 1 (by omega)
  have hp : Tn.port L = 49152 + Tn.mix 1 L % 16384 := by unfold Tn.port; rw [Nat.mod_eq_of_lt hm]
  rw [hp]
  obtain ⟨ao, n, cap, rfl, _, _, _⟩ := hv.shape
  generalize Tn.mix 1 L = m at *
  have e1 : ((49152 + m % 16384 : Nat) : Int) = 49152 + (m : Int) % 16384 := by omega
  rw [e1]
  clear hv hp e1
  go_enter Try.func42, Try.ntmps42
  go_wp2_with fail
  refine HX.out.mono ?_
  rintro _ w2 ⟨rfl, rfl⟩
  go_wp2_with fail
  go_ret
  exact ⟨ret_int (by omega), rfl⟩

def Z9 : Array Value := #[.int .u8 0, .int .u8 0, .int .u8 0, .int .u8 0, .int .u8 0, .int .u8 0, .int .u8 0, .int .u8 0, .int .u8 0]

theorem packetKey_any (h : Hd) (vo : Value) (w : World) (hok : h.Ok) :
    Calls Try.prog 43 #[.agg (hdCells h vo)] w fun e w' => ∃ g, e = .returned (.slice (some ⟨g, 0, none⟩) 9 9) ∧ SeesB w' (.slice (some ⟨g, 0, none⟩) 9 9) (Tn.be4 h.src ++ Tn.be4 h.dst ++ [h.proto]) ∧ Below w.heap.size w w' := by
  obtain ⟨hc, hhc⟩ : ∃ hc, hc = hdCells h vo := ⟨_, rfl⟩
  obtain ⟨w1, hw1⟩ : ∃ w1, w1 = w.alloc (.cells hc 50) := ⟨_, rfl⟩
  obtain ⟨w2, hw2⟩ : ∃ w2, w2 = w1.alloc (.cells Z9 117) := ⟨_, rfl⟩
  obtain ⟨g, hg⟩ : ∃ g, g = w1.heap.size := ⟨_, rfl⟩
  have hs1 : w1.heap.size = w.heap.size + 1 := by rw [hw1]; simp
  have hb1 : Below w.heap.size w w1 := by rw [hw1]; exact (Below.refl _ _).alloc (Nat.le_refl _) _
  have hb2 : Below g w1 w2 := by rw [hw2, hg]; exact (Below.refl _ _).alloc (Nat.le_refl _) _
  have hr1 : w1.heap[w.heap.size]? = some (.cells (hdCells h vo) 50 (0, 0)) := by rw [hw1, ← hhc]; exact heap_alloc_new w _
  have hB2 : BlkT 117 w2 g [0, 0, 0, 0, 0, 0, 0, 0, 0] := by rw [hw2, hg]; exact heap_alloc_new w1 _
  have hs2 : w2.heap.size = g + 1 := by rw [hw2, hg]; simp
  have HC : Hid (∀ u, Below g w1 u → u.cell? ⟨w.heap.size, 6, none⟩ = some (.int .u8 (h.proto : Int)) ∧ u.cell? ⟨w.heap.size, 7, none⟩ = some (.int .u32 (h.src : Int)) ∧ u.cell? ⟨w.heap.size, 8, none⟩ = some (.int .u32 (h.dst : Int))) := fun u hu => by
    have hr := (hu.block w.heap.size (by omega)).trans hr1
    obtain ⟨_, _, _, _, _, _, h6, h7, h8, _⟩ := hd_at hr
    exact ⟨h6, h7, h8⟩
  have HBW : Hid (∀ u, Below g w1 u → Below w.heap.size w u) := fun u hu => hb1.trans (hu.mono (by omega))
  have HBT : Hid (∀ u u', Below g w1 u → g < u.heap.size → But g u u' → Below g w1 u' ∧ g < u'.heap.size) := fun u u' hu hs hb => ⟨hb.below hu (Nat.le_of_lt hs) (Nat.le_refl _), Nat.lt_of_lt_of_le hs hb.size⟩
  have HC1 := hid (twrite32_any 117 g 0 9 h.src _ w2.drew (show BlkT 117 w2.drew g _ from hB2) (by simp) hok.src)
  have HC2 : Hid (∀ u, BlkT 117 u g (Tn.be4 h.src ++ [0, 0, 0, 0, 0]) → Calls Try.prog 52 #[.slice (some ⟨g, 4, none⟩) 4 5, .int .u32 (h.dst : Int)] u fun e w' => e = .returned (.tuple #[]) ∧ BlkT 117 w' g (Tn.be4 h.src ++ Tn.be4 h.dst ++ [0]) ∧ But g u w') := fun u hB => twrite32_any 117 g 4 5 h.dst _ u hB (by simp [Tn.be4]) hok.dst
  have HB2 := hid hb2
  have HS2 : Hid (g < w2.heap.size) := by unfold Hid; omega
  have HW1 := hid hw1
  have HW2 := hid hw2
  unfold Z9 at HW2
  have HG := hid hg
  have HBYT : Hid (∀ y ∈ Tn.be4 h.src ++ Tn.be4 h.dst ++ [h.proto], y < 256) := fun y hy => by
    simp only [Tn.be4, List.mem_append, List.mem_cons, List.not_mem_nil, or_false] at hy
    have := hok.proto
    omega
  have hpr := hok.proto
  rw [← hhc]
  clear hw1 hw2 hg hs1 hb1 hb2 hr1 hB2 hs2 hhc
  go_enter Try.func43, Try.ntmps43
  go_upto_region 1 with fail
  rw [← HW1.out]
  go_upto_region 2 with fail
  rw [← HW2.out, ← HG.out]
  obtain ⟨d6, d7, d8⟩ := HC.out _ HB2.out
  go_cut [] from 4 (fun wx => Hid (BlkT 117 wx g (Tn.be4 h.src ++ [0, 0, 0, 0, 0])) ∧ Hid (Below g w1 wx ∧ g < wx.heap.size))
  case first =>
    go_region_with (first | (go_at_call 52; refine HC1.out.mono ?_; rintro _ w4 ⟨rfl, hB4, hu4⟩) | fail)
    all_goals (
      go_wp2_with fail
      go_meet
      case rel => exact ⟨hB4, HBT.out _ _ (below_drew HB2.out) HS2.out hu4⟩)
  case rest =>
  obtain ⟨HB3, HW3⟩ := hcut
  obtain ⟨w3, hw3⟩ : ∃ w3, w3 = wc := ⟨_, rfl⟩
  rw [← hw3] at HB3 HW3 ⊢
  clear hw3 HC1 d6 d7 d8
  obtain ⟨d6, d7, d8⟩ := HC.out _ HW3.out.1
  have X2 := hid (HC2.out w3.drew (show BlkT 117 w3.drew g _ from HB3.out))
  clear HC2 HB3
  go_upto_region 3 with fail
  go_cut [] from 4 (fun wx => Hid (BlkT 117 wx g (Tn.be4 h.src ++ Tn.be4 h.dst ++ [0])) ∧ Hid (Below g w1 wx ∧ g < wx.heap.size))
  case first =>
    go_region_with (first | (go_at_call 52; refine X2.out.mono ?_; rintro _ w4 ⟨rfl, hB4, hu4⟩) | fail)
    all_goals (
      go_wp2_with fail
      go_meet
      case rel => exact ⟨hB4, HBT.out _ _ (below_drew HW3.out.1) HW3.out.2 hu4⟩)
  case rest =>
  obtain ⟨HB4, HW4⟩ := hcut
  obtain ⟨w4, hw4⟩ : ∃ w4, w4 = wc := ⟨_, rfl⟩
  rw [← hw4] at HB4 HW4 ⊢
  clear hw4 X2 d6 d7 d8
  obtain ⟨d6, d7, d8⟩ := HC.out _ HW4.out.1
  have hlen4 : (Tn.be4 h.src ++ Tn.be4 h.dst ++ [0]).length = 9 := rfl
  have c8 := HB4.out.cell 8 (by rw [hlen4]; omega)
  have f8 := HB4.out.free 8
  have hB5 := HB4.out.set 8 h.proto
  have hu5 := But.set g 8 w4 (.int .u8 (h.proto : Int))
  have eL : (Tn.be4 h.src ++ Tn.be4 h.dst ++ [0]).set 8 h.proto = Tn.be4 h.src ++ Tn.be4 h.dst ++ [h.proto] := rfl
  rw [eL] at hB5
  obtain ⟨w5, hw5⟩ : ∃ w5, w5 = w4.setCell ⟨g, 8, none⟩ (.int .u8 (h.proto : Int)) := ⟨_, rfl⟩
  rw [← hw5] at hB5 hu5
  have HSE : Hid (SeesB w5 (.slice (some ⟨g, 0, none⟩) 9 9) (Tn.be4 h.src ++ Tn.be4 h.dst ++ [h.proto])) := hB5.sees HBYT.out 0 9 9 (Nat.le_refl 9) (Nat.le_refl _) (by unfold maxLen; omega)
  have HBE := hid (HBW.out _ (HBT.out _ _ HW4.out.1 HW4.out.2 hu5).1)
  have HW5 := hid hw5
  generalize byt _ 8 = y8 at c8
  clear hB5 hu5 hw5 eL hlen4
  go_upto_region 5 with fail
  rw [← HW5.out]
  go_wp2_with fail
  go_ret
  exact ⟨g, rfl, HSE.out, HBE.out⟩

theorem frameKey_any (f : Tn.Fr) (vb : Value) (w : World) (hf : FrB f) :
    Calls Try.prog 44 #[.agg (frCells f vb)] w fun e w' => ∃ g, e = .returned (.slice (some ⟨g, 0, none⟩) 12 12) ∧ SeesB w' (.slice (some ⟨g, 0, none⟩) 12 12) (f.src ++ f.dst) ∧ Below w.heap.size w w' := by
  obtain ⟨fr, hfr⟩ : ∃ fr, fr = frCells f vb := ⟨_, rfl⟩
  obtain ⟨w1, hw1⟩ : ∃ w1, w1 = w.alloc (.cells fr 41) := ⟨_, rfl⟩
  obtain ⟨w2, hw2⟩ : ∃ w2, w2 = w1.alloc (.cells Z12 71) := ⟨_, rfl⟩
  obtain ⟨h, hh⟩ : ∃ h, h = w1.heap.size := ⟨_, rfl⟩
  have hs1 : w1.heap.size = w.heap.size + 1 := by rw [hw1]; simp
  have hb1 : Below w.heap.size w w1 := by rw [hw1]; exact (Below.refl _ _).alloc (Nat.le_refl _) _
  have hb2 : Below h w1 w2 := by rw [hw2, hh]; exact (Below.refl _ _).alloc (Nat.le_refl _) _
  have hr1 : w1.heap[w.heap.size]? = some (.cells (frCells f vb) 41 (0, 0)) := by rw [hw1, ← hfr]; exact heap_alloc_new w _
  have hB2 : BlkT 71 w2 h [0, 0, 0, 0, 0, 0, 0, 0, 0, 0, 0, 0] := by rw [hw2, hh]; exact heap_alloc_new w1 _
  have HRW : Hid (∀ u, Below h w1 u → u.heap[w.heap.size]? = some (.cells (frCells f vb) 41 (0, 0))) := fun u hu => (hu.block _ (by omega)).trans hr1
  have HBW : Hid (∀ u, Below h w1 u → Below w.heap.size w u) := fun u hu => hb1.trans (hu.mono (by omega))
  have HW1 := hid hw1
  have HW2 := hid hw2
  unfold Z12 at HW2
  have HH := hid hh
  have HB2 := hid hb2
  have HF := hid hf
  obtain ⟨X0, hX0⟩ : ∃ X0, X0 = bs [0, 0, 0, 0, 0, 0, 0, 0, 0, 0, 0, 0] := ⟨_, rfl⟩
  have HG2 : Hid (w2.heap[h]? = some (.cells X0.toArray 71 (0, 0))) := by unfold Hid; rw [hX0]; exact hB2
  have HX0 := hid hX0
  have HX0L : Hid (X0.length = 12) := by unfold Hid; rw [hX0]; rfl
  obtain ⟨O1, hO1⟩ : ∃ O1, O1 = bs f.src := ⟨_, rfl⟩
  have HO1 := hid hO1
  have HO1L : Hid (O1.length = 6) := by unfold Hid; rw [hO1, bs_len, hf.ok.src]
  have HO11 : Hid (∀ v ∈ O1, v.oneCell' = true) := by unfold Hid; rw [hO1]; exact one_bs
  obtain ⟨O2, hO2⟩ : ∃ O2, O2 = bs f.dst := ⟨_, rfl⟩
  have HO2 := hid hO2
  have HO2L : Hid (O2.length = 6) := by unfold Hid; rw [hO2, bs_len, hf.ok.dst]
  have HO21 : Hid (∀ v ∈ O2, v.oneCell' = true) := by unfold Hid; rw [hO2]; exact one_bs
  have HP1 : Hid (∀ u, Below h w1 u → ∀ j v, O1[j]? = some v → u.cell? ((⟨w.heap.size, 6, none⟩ : Addr).add j) = some v) := fun u hu j v hv => by
    rw [HO1.out] at hv
    obtain ⟨ad, ha, hc⟩ := (fr_src HF.out (HRW.out u hu)).src (by rw [bs_len, HF.out.ok.src]; omega)
    cases ha
    exact hc j v hv
  have HP2 : Hid (∀ u, Below h w1 u → ∀ j v, O2[j]? = some v → u.cell? ((⟨w.heap.size, 0, none⟩ : Addr).add j) = some v) := fun u hu j v hv => by
    rw [HO2.out] at hv
    obtain ⟨ad, ha, hc⟩ := (fr_dst HF.out (HRW.out u hu)).src (by rw [bs_len, HF.out.ok.dst]; omega)
    cases ha
    exact hc j v hv
  rw [← hfr]
  clear hw1 hw2 hh hs1 hb1 hb2 hr1 hB2 hX0 hO1 hO2 hfr
  go_enter Try.func44, Try.ntmps44
  go_upto_region 1 with fail
  rw [← HW1.out]
  go_upto_region 2 with fail
  rw [← HW2.out, ← HH.out]
  go_cut [] from 4 (fun wx => Hid (wx.heap[h]? = some (.cells (splice X0 0 O1).toArray 71 (0, 0))) ∧ Below h w1 wx)
  case first =>
    have HBD := hid (below_drew HB2.out)
    have HPS : Hid (0 < O1.length → ∃ ad, some (⟨w.heap.size, 6, none⟩ : Addr) = some ad ∧ ∀ j v, O1[j]? = some v → w2.drew.cell? (ad.add j) = some v) := fun _ => ⟨_, rfl, HP1.out _ HBD.out⟩
    have HMN : Hid (O1.length = Nat.min 6 6) := HO1L.out
    have HFT : Hid (0 + O1.length ≤ X0.length) := by unfold Hid; rw [HO1L.out, HX0L.out]; omega
    go_region_law (first
      | (refine step_copy_splice rfl (.tmp 4) (.tmp 6) 25 25 rfl 5 Try.underlying25 size5 (some ⟨h, 0, none⟩) (some ⟨w.heap.size, 6, none⟩) 6 12 6 6 rfl rfl h 0 X0 71 HG2.out O1 HMN.out (fun hp => ⟨rfl, HPS.out hp⟩) HFT.out HO11.out h w1 HBD.out (Nat.le_refl _) ?_; intro w5 hg5 hb5)
      | fail)
    all_goals (
      go_wp2_with fail
      go_meet
      case rel => exact ⟨hg5, hb5⟩)
  case rest =>
  obtain ⟨HG3, hb3⟩ := hcut
  obtain ⟨w3, hw3⟩ : ∃ w3, w3 = wc := ⟨_, rfl⟩
  rw [← hw3] at HG3 hb3 ⊢
  clear hw3
  obtain ⟨X1, hX1⟩ : ∃ X1, X1 = splice X0 0 O1 := ⟨_, rfl⟩
  rw [← hX1] at HG3
  have HX1L : Hid (X1.length = 12) := by unfold Hid; rw [hX1, length_splice _ _ _ (by rw [HO1L.out, HX0L.out]; omega), HX0L.out]
  have HX1 := hid hX1
  have HB3 := hid hb3
  clear hX1 hb3
  go_upto_region 3 with fail
  go_cut [] from 4 (fun wx => Hid (wx.heap[h]? = some (.cells (splice X1 6 O2).toArray 71 (0, 0))) ∧ Below h w1 wx)
  case first =>
    have HBD := hid (below_drew HB3.out)
    have HPS : Hid (0 < O2.length → ∃ ad, some (⟨w.heap.size, 0, none⟩ : Addr) = some ad ∧ ∀ j v, O2[j]? = some v → w3.drew.cell? (ad.add j) = some v) := fun _ => ⟨_, rfl, HP2.out _ HBD.out⟩
    have HMN : Hid (O2.length = Nat.min 6 6) := HO2L.out
    have HFT : Hid (6 + O2.length ≤ X1.length) := by unfold Hid; rw [HO2L.out, HX1L.out]; omega
    go_region_law (first
      | (refine step_copy_splice rfl (.tmp 8) (.tmp 10) 25 25 rfl 5 Try.underlying25 size5 (some ⟨h, 6, none⟩) (some ⟨w.heap.size, 0, none⟩) 6 6 6 6 rfl rfl h 6 X1 71 HG3.out O2 HMN.out (fun hp => ⟨rfl, HPS.out hp⟩) HFT.out HO21.out h w1 HBD.out (Nat.le_refl _) ?_; intro w5 hg5 hb5)
      | fail)
    all_goals (
      go_wp2_with fail
      go_meet
      case rel => exact ⟨hg5, hb5⟩)
  case rest =>
  obtain ⟨HG4, hb4⟩ := hcut
  obtain ⟨w4, hw4⟩ : ∃ w4, w4 = wc := ⟨_, rfl⟩
  rw [← hw4] at HG4 hb4 ⊢
  clear hw4
  have hX2 : splice X1 6 O2 = bs (f.src ++ f.dst) := by
    have e1 : X1 = O1 ++ (bs [0, 0, 0, 0, 0, 0] ++ []) := by
      rw [HX1.out, HX0.out]
      show splice ([] ++ (bs [0, 0, 0, 0, 0, 0] ++ bs [0, 0, 0, 0, 0, 0])) ([] : List Value).length O1 = _
      rw [splice_mid (by rw [HO1L.out]; rfl)]
      rfl
    have e2 : splice X1 6 O2 = O1 ++ (O2 ++ []) := by
      rw [e1, ← HO1L.out, splice_mid (by rw [HO2L.out]; rfl)]
    rw [e2, HO1.out, HO2.out]
    simp [bs]
  have hB4 : BlkT 71 w4 h (f.src ++ f.dst) := by unfold BlkT; rw [← hX2]; exact HG4.out
  have hlen4 : (f.src ++ f.dst).length = 12 := by rw [List.length_append, HF.out.ok.dst, HF.out.ok.src]
  have hsee : SeesB w4 (.slice (some ⟨h, 0, none⟩) 12 12) (f.src ++ f.dst) := by
    have := hB4.sees (fun y hy => (List.mem_append.1 hy).elim (HF.out.src y) (HF.out.dst y)) 0 12 12 (by rw [hlen4]; omega) (Nat.le_refl _) (by unfold maxLen; omega)
    rwa [List.drop_zero, List.take_of_length_le (Nat.le_of_eq hlen4)] at this
  have HSE := hid hsee
  have HBE := hid (HBW.out _ hb4)
  clear hX2 hB4 hlen4 hsee hb4
  go_wp2_with fail
  go_ret
  exact ⟨h, rfl, HSE.out, HBE.out⟩

/-- What a frame's flow hangs on. -/
def keyL (f : Tn.Fr) : List Nat := if f.ty = 2048 ∧ (parsed f.B).2.2 = 0 then Tn.be4 (parsed f.B).1.src ++ Tn.be4 (parsed f.B).1.dst ++ [(parsed f.B).1.proto] else f.src ++ f.dst

def zeroPk : Array Value := #[.int .u8 0, .int .u16 0, .bool false, .bool false, .int .i64 0, .int .u8 0, .int .u8 0, .int .u32 0, .int .u32 0, .slice none 0 0, .slice none 0 0]

theorem parsed_ok {L : List Nat} (hb : ∀ x ∈ L, x < 256) (he : (parsed L).2.2 = 0) : (parsed L).1.Ok := by
  have hp : parsed L = (rdH (L.take (exam L true).2.1) (exam L true).1, (L.take (exam L true).2.1).drop (exam L true).1, 0) := by
    unfold parsed at he ⊢
    split at he
    · rename_i h; rw [if_pos h]
    · rename_i h; exact absurd he h
  rw [hp]
  have hx : ∀ x ∈ L.take (exam L true).2.1, x < 256 := fun x hx => hb x (List.mem_of_mem_take hx)
  generalize L.take (exam L true).2.1 = X at *
  generalize (exam L true).1 = k at *
  have b := fun i => byt_lt hx i
  have w := fun i => w16_lt hx i
  refine ⟨b 1, w 4, ?_, b 8, b 9, ?_, ?_⟩
  · show -9223372036854775808 ≤ ((w16 X 6 % 8192 * 8 : Nat) : Int) ∧ ((w16 X 6 % 8192 * 8 : Nat) : Int) ≤ 9223372036854775807
    omega
  · show w32 X 12 < 4294967296
    unfold w32
    have h1 := w 12
    have h2 := w (12 + 2)
    omega
  · show w32 X 16 < 4294967296
    unfold w32
    have h1 := w 16
    have h2 := w (16 + 2)
    omega


theorem flow_any (f : Tn.Fr) (vb : Value) (w : World) (hf : FrB f) (hvb : SeesB w vb f.B) (hl : f.B.length ≤ 140737488355328) :
    Calls Try.prog 16 #[.agg (frCells f vb)] w fun e w' => e = .returned (.int .u16 ((Tn.port (keyL f) : Nat) : Int)) ∧ Below w.heap.size w w' := by
  obtain ⟨ab, nb, capb, rfl, HNB, hnb1, hnb2⟩ := hvb.shape
  obtain ⟨fr, hfr⟩ : ∃ fr, fr = frCells f (.slice ab nb capb) := ⟨_, rfl⟩
  obtain ⟨w1, hw1⟩ : ∃ w1, w1 = w.alloc (.cells fr 41) := ⟨_, rfl⟩
  have hs1 : w1.heap.size = w.heap.size + 1 := by rw [hw1]; simp
  have hb1 : Below w.heap.size w w1 := by rw [hw1]; exact (Below.refl _ _).alloc (Nat.le_refl _) _
  have hr1 : w1.heap[w.heap.size]? = some (.cells (frCells f (.slice ab nb capb)) 41 (0, 0)) := by rw [hw1, ← hfr]; exact heap_alloc_new w _
  obtain ⟨c12, c13⟩ := fr_at hf.ok hr1
  have hty := hf.ok.ty
  have HLD : Hid (∀ u, Below w1.heap.size w1 u → (Instr.loadAt 41 (.pointer (some ⟨w.heap.size, 0, none⟩))).run Try.prog u = .ok (.agg fr) u) := fun u hu => by
    rw [hfr]
    exact load_rowAt ((hu.block _ (by omega)).trans hr1) Try.underlying41 rfl (by
      have : (frCells f (.slice ab nb capb)).size = 14 := by unfold frCells; simp only [List.size_toArray]; exact frc_len hf.ok.dst hf.ok.src _ _
      rw [this]; exact (show (Try.prog.info? 41).map (·.size) = some 14 from by kernel_rfl))
  have HFK : Hid (∀ u, Below w1.heap.size w1 u → Calls Try.prog 44 #[.agg fr] u fun e w' => ∃ g, e = .returned (.slice (some ⟨g, 0, none⟩) 12 12) ∧ SeesB w' (.slice (some ⟨g, 0, none⟩) 12 12) (f.src ++ f.dst) ∧ Below u.heap.size u w') := fun u _ => by rw [hfr]; exact frameKey_any f _ u hf
  have HPO := hid (fun (v : Value) (L : List Nat) (u : World) (h : SeesB u v L) => portOf_any v L u h)
  have HPA := hid (parse_code _ f.B w1 (hvb.below hb1) hl)
  have HBY := hid hvb.bytes
  have HB1 := hid hb1
  have HW1 := hid hw1
  rw [← hfr]
  clear hw1 hs1 hb1 hr1 hfr hvb
  have HTAIL : Hid (keyL f = f.src ++ f.dst → ∀ u, Below w1.heap.size w1 u → True) := fun _ _ _ => trivial
  by_cases h1 : f.ty = 2048
  · have HK : Hid (keyL f = if (parsed f.B).2.2 = 0 then Tn.be4 (parsed f.B).1.src ++ Tn.be4 (parsed f.B).1.dst ++ [(parsed f.B).1.proto] else f.src ++ f.dst) := by unfold Hid keyL; simp [h1]
    have HPK := hid (fun (he : (parsed f.B).2.2 = 0) (vo : Value) (u : World) => packetKey_any (parsed f.B).1 vo u (parsed_ok HBY.out he))
    rw [h1] at c12
    obtain ⟨KL, hKL⟩ : ∃ KL, KL = keyL f := ⟨_, rfl⟩
    rw [← hKL] at HK ⊢
    generalize parsed f.B = P at *
    obtain ⟨hd, B, E⟩ := P
    simp only at *
    clear hKL h1
    go_enter Try.func16, Try.ntmps16
    go_upto_region 1 with fail
    rw [← HW1.out]
    go_wp2_with fail
    refine HPA.out.mono ?_
    rintro _ w2 ⟨vo, v2, rfl, hso, hs2, hb2⟩
    obtain ⟨ao, no, co, rfl, _, _, _⟩ := hso.shape
    obtain ⟨a2, n2, c2, rfl, _, _, _⟩ := hs2.shape
    obtain ⟨pa, hpa⟩ : ∃ pa, pa = pkCells hd (.slice ao no co) (.slice a2 n2 c2) := ⟨_, rfl⟩
    obtain ⟨p, hp⟩ : ∃ p, p = w2.heap.size := ⟨_, rfl⟩
    obtain ⟨w3, hw3⟩ : ∃ w3, w3 = (w2.alloc (.cells zeroPk 52)).setCells p 0 pa.toList := ⟨_, rfl⟩
    have hps : pa.size = 11 := by rw [hpa]; rfl
    have HIP : Hid ((Try.prog.info? 52).map (·.size) = some pa.size) := by unfold Hid; rw [hps]; kernel_rfl
    have hrp : (w2.alloc (.cells zeroPk 52)).heap[p]? = some (.cells zeroPk 52 (0, 0)) := by rw [hp]; exact heap_alloc_new w2 _
    have HTP : Hid ((w2.alloc (.cells zeroPk 52)).there p 0 pa.size) := there_blk hrp (by rw [hps]; rfl)
    have HOP : Hid (pa.all (·.oneCell') = true) := by unfold Hid; rw [hpa]; simp [pkCells, Value.oneCell']
    have hr3 : w3.heap[p]? = some (.cells (pkCells hd (.slice ao no co) (.slice a2 n2 c2)) 52 (0, 0)) := by rw [hw3, ← hpa]; exact row_put hrp (by rw [hps]; rfl)
    have hb23 : Below w2.heap.size w2 w3 := by rw [hw3]; exact below_setCells' (by omega) _ _ _ ((Below.refl _ _).alloc (Nat.le_refl _) _)
    have hb13 := hb2.trans (hb23.mono hb2.size)
    have HLH := hid (pk_loadH hr3)
    have HB13 := hid hb13
    have HL3 := hid (HLD.out w3 hb13)
    have HW3 := hid hw3
    have HP := hid hp
    unfold zeroPk at HW3 HTP
    obtain ⟨hc, hhc⟩ : ∃ hc, hc = hdCells hd (.slice ao no co) := ⟨_, rfl⟩
    rw [← hhc] at HLH
    have HHC := hid hhc
    rw [← hpa]
    clear hpa hp hw3 hps hrp hr3 hb23 hb2 hb13 hso hs2 HPA hhc
    go_upto_region 3 with (first
      | (rw [← HP.out]; refine wpList_store_mid rfl 52 (.tmp 3) (.tmp 12) rfl p 0 pa rfl rfl HTP.out HIP.out HOP.out ?_; rw [← HW3.out])
      | fail)
    by_cases hE : E = 0
    · subst hE
      have hKL : KL = Tn.be4 hd.src ++ Tn.be4 hd.dst ++ [hd.proto] := by rw [HK.out, if_pos rfl]
      have X3 := hid (HPK.out rfl (.slice ao no co) w3)
      rw [← HHC.out, ← hKL] at X3
      clear hKL
      go_wp2_with (first
        | (refine wpList_ld 50 ⟨p, 0, none⟩ _ rfl rfl HLH.out rfl ?_)
        | fail)
      refine X3.out.mono ?_
      rintro _ w4 ⟨g, rfl, hs4, hb4⟩
      have X4 := hid (HPO.out _ KL w4 hs4)
      have HB4 := hid (HB13.out.trans (hb4.mono HB13.out.size))
      clear hs4 hb4 X3
      go_wp2_with fail
      refine X4.out.mono ?_
      rintro _ w5 ⟨rfl, rfl⟩
      go_wp2_with fail
      go_ret
      exact ⟨rfl, HB1.out.trans (HB4.out.mono HB1.out.size)⟩
    · have hKL : KL = f.src ++ f.dst := by rw [HK.out, if_neg hE]
      have q1 : (E == 0) = false := by simp [hE]
      have X3 := hid (HFK.out w3 HB13.out)
      rw [← hKL] at X3
      clear hKL
      go_wp2_with (first
        | (refine wpList_ld 41 ⟨w.heap.size, 0, none⟩ _ rfl rfl HL3.out rfl ?_)
        | fail)
      refine X3.out.mono ?_
      rintro _ w4 ⟨g, rfl, hs4, hb4⟩
      have X4 := hid (HPO.out _ KL w4 hs4)
      have HB4 := hid (HB13.out.trans (hb4.mono HB13.out.size))
      clear hs4 hb4 X3
      go_wp2_with fail
      refine X4.out.mono ?_
      rintro _ w5 ⟨rfl, rfl⟩
      go_wp2_with fail
      go_ret
      exact ⟨rfl, HB1.out.trans (HB4.out.mono HB1.out.size)⟩
  · have HK : Hid (keyL f = f.src ++ f.dst) := by unfold Hid keyL; simp [h1]
    obtain ⟨KL, hKL⟩ : ∃ KL, KL = keyL f := ⟨_, rfl⟩
    rw [← hKL] at HK ⊢
    have q1 : ((f.ty : Int) == 2048) = false := by simp; omega
    have X3 := hid (HFK.out w1 (Below.refl _ _))
    rw [← HK.out] at X3
    have HL1 := hid (HLD.out w1 (Below.refl _ _))
    clear hKL
    go_enter Try.func16, Try.ntmps16
    go_upto_region 1 with fail
    rw [← HW1.out]
    go_wp2_with (first
      | (refine wpList_ld 41 ⟨w.heap.size, 0, none⟩ _ rfl rfl HL1.out rfl ?_)
      | fail)
    refine X3.out.mono ?_
    rintro _ w4 ⟨g, rfl, hs4, hb4⟩
    have X4 := hid (HPO.out _ KL w4 hs4)
    have HB4 := hid hb4
    clear hs4 hb4 X3
    go_wp2_with fail
    refine X4.out.mono ?_
    rintro _ w5 ⟨rfl, rfl⟩
    go_wp2_with fail
    go_ret
    exact ⟨rfl, HB1.out.trans (HB4.out.mono HB1.out.size)⟩
end Go.Proofs.Ytcelcnafcfefhaa.N

namespace Go.Proofs.Ytcelcnafcfefhaa.N
open Go.ChangeShapes Go.WideShapes Go.ChangeAt Go.RowKit
set_option maxHeartbeats 1000000
set_option maxRecDepth 100000

theorem built_bytes {h : Hd} {B : List Nat} (hok : h.Ok) (ho : ∀ x ∈ h.opts, x < 256) (hb : ∀ x ∈ B, x < 256) : ∀ x ∈ builtL h B, x < 256 := by
  unfold builtL
  by_cases he : refE h B.length = 0
  · rw [if_pos he]
    obtain ⟨r1, r2, r3⟩ := refE_ok he
    obtain ⟨l1, l2⟩ := area_len r1
    obtain ⟨f, hf, hf1⟩ : ∃ f : Nat, h.off = (f : Int) ∧ f ≤ 65528 := by
      unfold M.pieceOk at r2
      simp at r2
      exact ⟨h.off.toNat, by omega, by omega⟩
    intro x hx
    rcases List.mem_append.1 hx with hx | hx
    · exact hdBytes_ok hok ho l1 hf hf1 (by unfold lenOfPk; omega) (M.csum_lt _) x hx
    · exact hb x hx
  · rw [if_neg he]
    intro x hx; cases hx

/-- The program's Build. -/
theorem build_code (h : Hd) (vo vb : Value) (B : List Nat) (w : World) (hok : h.Ok) (hvo : SeesB w vo h.opts) (hvb : SeesB w vb B) (hlo : h.opts.length ≤ 140737488355328) (hlb : B.length ≤ 140737488355328) :
    Calls Try.prog 15 #[.agg (pkCells h vo vb)] w fun e w' => ∃ ao n cap, e = .returned (.tuple #[.slice ao n cap, .int .i64 (refE h B.length)]) ∧ SeesB w' (.slice ao n cap) (builtL h B) ∧ Below w.heap.size w w' := by
  by_cases he : refE h B.length = 0
  · rw [he]
    exact build_good h vo vb B w hok hvo hvb he
  · refine (build_bad h vo vb B w hok hvo hvb hlo hlb he).mono ?_
    rintro e w' ⟨rfl, hb⟩
    refine ⟨none, 0, 0, rfl, ?_, hb⟩
    unfold builtL
    rw [if_neg he]
    exact sees_nil _

end Go.Proofs.Ytcelcnafcfefhaa.N


/-
  weftref7.ParseUDP.
-/
namespace Go.Proofs.Ytcelcnafcfefhaa.N
open Go.ChangeShapes Go.WideShapes Go.ChangeAt Go.RowKit
set_option maxHeartbeats 8000000
set_option maxRecDepth 100000

theorem below_ext {w w' : World} {base : Nat} {v : Value} {L : List Nat} (h : OwnB w base v L) (hb : Below w.heap.size w w') : OwnB w' base v L := h.below hb

theorem OwnB.new {w : World} {base : Nat} {ao : Option Addr} {n cap : Nat} {L : List Nat} (h : OwnB w base (.slice ao n cap) L) : ∀ a, ao = some a → base ≤ a.block := fun a ha => by
  rcases h.2 with ⟨h1, _⟩ | ⟨g, cap', cur, h1, hb, _⟩
  · simp at h1
    rw [h1.1] at ha
    cases ha
  · simp at h1
    rw [h1.1] at ha
    cases ha
    exact hb

theorem parseUR_any (v : Value) (L : List Nat) (src dst : Nat) (w : World) (hv : SeesB w v L) (hs : src < 4294967296) (hd : dst < 4294967296) :
    Calls Try.prog 36 #[.int .u32 (src : Int), .int .u32 (dst : Int), v] w fun e w' => ∃ ao n cap, e = .returned (.tuple #[.agg (dgCells (Tn.puD src dst L) (.slice ao n cap)), .int .i64 (Tn.puE src dst L)]) ∧ SeesB w' (.slice ao n cap) (Tn.puD src dst L).B ∧ (∀ a, ao = some a → w.heap.size ≤ a.block) ∧ Below w.heap.size w w' := by
  obtain ⟨w1, hw1⟩ : ∃ w1, w1 = w.alloc (.cells zeroD 27) := ⟨_, rfl⟩
  have hs1 : w1.heap.size = w.heap.size + 1 := by rw [hw1]; simp
  have hb1 : Below w.heap.size w w1 := by rw [hw1]; exact (Below.refl _ _).alloc (Nat.le_refl _) _
  have hr1 : w1.heap[w.heap.size]? = some (.cells zeroD 27 (0, 0)) := by rw [hw1]; exact heap_alloc_new w _
  obtain ⟨ao, n, cap, rfl, HN, hn1, hn2⟩ := hv.shape
  unfold maxLen at hn2
  have HV1 := hid (hv.below hb1)
  have HBY := hid hv.bytes
  have HI : Hid (∀ zz : Array Value, zz.size = 3 → (Try.prog.info? 27).map (·.size) = some zz.size) := fun zz hz => by rw [hz]; kernel_rfl
  have HCE : Hid (∀ (zz : Array Value) (u : World), zz.size = 3 → Below w1.heap.size w1 u → u.there w.heap.size 0 zz.size ∧ (loadVar 27 ⟨w.heap.size, 0, none⟩).run Try.prog (u.setCells w.heap.size 0 zz.toList) = .ok (.agg zz) (u.setCells w.heap.size 0 zz.toList)) := fun zz u hz hb =>
    cell_end hr1 hb (by rw [hz]; rfl) Try.underlying27 rfl (HI.out zz hz)
  have HBW : Hid (∀ u, Below w1.heap.size w1 u → Below w.heap.size w u) := fun u hu => hb1.trans (hu.mono hb1.size)
  have HBF0 : Hid (∀ (zz : Array Value) (u : World), Below w1.heap.size w1 u → Below w.heap.size w (u.setCells w.heap.size 0 zz.toList)) := fun zz u hu => below_setCells' (Nat.le_refl _) _ _ _ (HBW.out u hu)
  have HW1 : Hid (w1 = w.alloc (.cells #[.int .u16 0, .int .u16 0, .slice none 0 0] 27)) := hw1
  obtain ⟨zz, hzz⟩ : ∃ zz : Array Value, zz = zeroD := ⟨_, rfl⟩
  have HZ : Hid (zz = #[.int .u16 0, .int .u16 0, .slice none 0 0]) := hzz
  have HZS : Hid (zz.size = 3) := by unfold Hid; rw [hzz]; rfl
  have HONE : Hid (zz.all (·.oneCell') = true) := by unfold Hid; rw [hzz]; simp [zeroD, Value.oneCell']
  have HZC : Hid (zz = dgCells Tn.none0 (.slice none 0 0)) := hzz
  have HINF := hid (HI.out zz HZS.out)
  have HS1 := hid hs1
  have HNU : Hid (∀ (p : Nat) (u : World), p + 2 ≤ n → Below w1.heap.size w1 u → Calls Try.prog 56 #[.slice ao n cap, .int .i64 (p : Int), .int .i64 2] u fun e w' => e = .returned (.int .i64 ((Tn.num2 L p : Nat) : Int)) ∧ Below u.heap.size u w') := fun p u hp hu => by
    have := numberR_any _ L p 2 u (HV1.out.below hu) (by omega) (by have := HN.out; omega)
    rw [numN_two] at this
    exact this
  have HN16 : Hid (∀ p, Tn.num2 L p < 65536) := fun p => by
    rw [num2_byt]
    have h1 := byt_lt HBY.out p
    have h2 := byt_lt HBY.out (p + 1)
    omega
  clear hzz hw1 hs1 hb1 hr1 hv
  by_cases hA : 65535 < n
  · have HE := hid (pu_bad (src := src) (dst := dst) (L := L) (e := 2) (by unfold Tn.puE; rw [if_pos (by have := HN.out; omega)]) (by decide))
    have hA' : (65535 : Int) < (n : Int) := by omega
    go_enter Try.func36, Try.ntmps36
    go_upto_region 1 with fail
    rw [← HW1.out]
    obtain ⟨q1, q2⟩ := HCE.out zz w1 HZS.out (Below.refl _ _)
    have HTU := hid q1
    have HLV := hid q2
    have HBF := hid (HBF0.out zz w1 (Below.refl _ _))
    clear q1 q2
    go_wp2_with (first
      | (refine wpList_store_mid rfl 27 (.tmp 6) (.tmp 17) rfl w.heap.size 0 zz rfl (by rw [HZ.out]; rfl) HTU.out HINF.out HONE.out ?_)
      | fail)
    generalize w1.setCells w.heap.size 0 zz.toList = wf at HLV HBF ⊢
    refine bodyPost_ret (v := .tuple #[.agg zz, .int .i64 2]) (by simp [results, Try.results36, asAddr, HLV.out]) rfl ?_
    rw [HE.out.1, HE.out.2]
    exact ⟨none, 0, 0, by rw [HZC.out], sees_nil _, (fun a ha => by cases ha), HBF.out⟩
  have hA' : ¬ (65535 : Int) < (n : Int) := by omega
  by_cases hB : n < 8
  · have HE := hid (pu_bad (src := src) (dst := dst) (L := L) (e := 72) (by unfold Tn.puE; rw [if_neg (by have := HN.out; omega), if_pos (by have := HN.out; omega)]) (by decide))
    have hB' : (n : Int) < 8 := by omega
    go_enter Try.func36, Try.ntmps36
    go_upto_region 1 with fail
    rw [← HW1.out]
    obtain ⟨q1, q2⟩ := HCE.out zz w1 HZS.out (Below.refl _ _)
    have HTU := hid q1
    have HLV := hid q2
    have HBF := hid (HBF0.out zz w1 (Below.refl _ _))
    clear q1 q2
    go_wp2_with (first
      | (refine wpList_store_mid rfl 27 (.tmp 6) (.tmp 21) rfl w.heap.size 0 zz rfl (by rw [HZ.out]; rfl) HTU.out HINF.out HONE.out ?_)
      | fail)
    generalize w1.setCells w.heap.size 0 zz.toList = wf at HLV HBF ⊢
    refine bodyPost_ret (v := .tuple #[.agg zz, .int .i64 72]) (by simp [results, Try.results36, asAddr, HLV.out]) rfl ?_
    rw [HE.out.1, HE.out.2]
    exact ⟨none, 0, 0, by rw [HZC.out], sees_nil _, (fun a ha => by cases ha), HBF.out⟩
  have hB' : ¬ (n : Int) < 8 := by omega
  have X1 := hid (HNU.out 4 w1 (by omega) (Below.refl _ _))
  have HPE : Hid (Tn.puE src dst L = if Tn.num2 L 4 < 8 ∨ n < Tn.num2 L 4 then 72 else if Tn.num2 L 6 ≠ 0 ∧ M.csum (Tn.cov src dst L (Tn.num2 L 4)) ≠ 0 then 73 else 0) := by
    unfold Hid Tn.puE
    rw [if_neg (by have := HN.out; omega), if_neg (by have := HN.out; omega), ← HN.out]
  have hlen16 : Tn.num2 L 4 < 65536 := HN16.out 4
  have HPD : Hid (Tn.puE src dst L = 0 → Tn.puD src dst L = ⟨Tn.num2 L 0, Tn.num2 L 2, (L.take (Tn.num2 L 4)).drop 8⟩) := fun h => by unfold Tn.puD; rw [if_pos h]
  obtain ⟨len, hlen⟩ : ∃ len, len = Tn.num2 L 4 := ⟨_, rfl⟩
  rw [← hlen] at X1 HPE hlen16 HPD
  by_cases hC : len < 8
  · have HE := hid (pu_bad (src := src) (dst := dst) (L := L) (e := 72) (by rw [HPE.out, if_pos (.inl hC)]) (by decide))
    have hC' : (len : Int) < 8 := by omega
    go_enter Try.func36, Try.ntmps36
    go_upto_region 1 with fail
    rw [← HW1.out]
    go_wp2_with fail
    refine X1.out.mono ?_
    rintro _ w2 ⟨rfl, hb2⟩
    obtain ⟨q1, q2⟩ := HCE.out zz w2 HZS.out hb2
    have HTU := hid q1
    have HLV := hid q2
    have HBF := hid (HBF0.out zz w2 hb2)
    clear q1 q2
    go_wp2_with (first
      | (refine wpList_store_mid rfl 27 (.tmp 6) (.tmp 32) rfl w.heap.size 0 zz rfl (by rw [HZ.out]; rfl) HTU.out HINF.out HONE.out ?_)
      | fail)
    generalize w2.setCells w.heap.size 0 zz.toList = wf at HLV HBF ⊢
    refine bodyPost_ret (v := .tuple #[.agg zz, .int .i64 72]) (by simp [results, Try.results36, asAddr, HLV.out]) rfl ?_
    rw [HE.out.1, HE.out.2]
    exact ⟨none, 0, 0, by rw [HZC.out], sees_nil _, (fun a ha => by cases ha), HBF.out⟩
  have hC' : ¬ (len : Int) < 8 := by omega
  by_cases hD : n < len
  · have HE := hid (pu_bad (src := src) (dst := dst) (L := L) (e := 72) (by rw [HPE.out, if_pos (.inr hD)]) (by decide))
    have hD' : (n : Int) < (len : Int) := by omega
    go_enter Try.func36, Try.ntmps36
    go_upto_region 1 with fail
    rw [← HW1.out]
    go_wp2_with fail
    refine X1.out.mono ?_
    rintro _ w2 ⟨rfl, hb2⟩
    obtain ⟨q1, q2⟩ := HCE.out zz w2 HZS.out hb2
    have HTU := hid q1
    have HLV := hid q2
    have HBF := hid (HBF0.out zz w2 hb2)
    clear q1 q2
    go_wp2_with (first
      | (refine wpList_store_mid rfl 27 (.tmp 6) (.tmp 32) rfl w.heap.size 0 zz rfl (by rw [HZ.out]; rfl) HTU.out HINF.out HONE.out ?_)
      | fail)
    generalize w2.setCells w.heap.size 0 zz.toList = wf at HLV HBF ⊢
    refine bodyPost_ret (v := .tuple #[.agg zz, .int .i64 72]) (by simp [results, Try.results36, asAddr, HLV.out]) rfl ?_
    rw [HE.out.1, HE.out.2]
    exact ⟨none, 0, 0, by rw [HZC.out], sees_nil _, (fun a ha => by cases ha), HBF.out⟩
  have hD' : ¬ (n : Int) < (len : Int) := by omega
  rw [if_neg (by omega)] at HPE
  have HX6 := hid (fun (u : World) (hu : Below w1.heap.size w1 u) => HNU.out 6 u (by omega) hu)
  have HX0 := hid (fun (u : World) (hu : Below w1.heap.size w1 u) => HNU.out 0 u (by omega) hu)
  have HX2 := hid (fun (u : World) (hu : Below w1.heap.size w1 u) => HNU.out 2 u (by omega) hu)
  have HCO : Hid (∀ u, Below w1.heap.size w1 u → Calls Try.prog 60 #[.int .u32 (src : Int), .int .u32 (dst : Int), .slice ao n cap, .int .i64 (len : Int)] u fun e w' => ∃ l', e = .returned l' ∧ OwnB w' u.heap.size l' (Tn.cov src dst L len) ∧ Below u.heap.size u w') := fun u hu =>
    coveredR_any src dst len _ L u hs hd (HV1.out.below hu) (by have := HN.out; omega) hlen16
  have HJO : Hid (∀ u, Below w1.heap.size w1 u → Calls Try.prog 58 #[.slice none 0 0, .slice ao n cap, .int .i64 8, .int .i64 (len : Int)] u fun e w' => ∃ a2 n2 c2, e = .returned (.slice a2 n2 c2) ∧ SeesB w' (.slice a2 n2 c2) ((L.take len).drop 8) ∧ (∀ a, a2 = some a → u.heap.size ≤ a.block) ∧ Below u.heap.size u w') := fun u hu => by
    refine (joinedR_any (.slice none 0 0) _ [] L 8 len u u (Below.refl _ _) (ownB_nil _ _) (HV1.out.below hu) (by omega) (by have := HN.out; omega) (by simp; omega)).mono ?_
    rintro e w' ⟨l', rfl, ho, hb⟩
    rw [List.nil_append] at ho
    have hsee := ho.sees (fun x hx => HBY.out x (List.mem_of_mem_take (List.mem_of_mem_drop hx)))
    obtain ⟨a2, n2, c2, rfl, _, _, _⟩ := hsee.shape
    exact ⟨a2, n2, c2, rfl, hsee, ho.new, hb⟩
  have hcb : ∀ y ∈ Tn.cov src dst L len, y < 256 := fun y hy => by
    simp only [Tn.cov, Tn.be4, Tn.be2, List.mem_append, List.mem_cons, List.not_mem_nil, or_false] at hy
    rcases hy with (((h | h) | h) | h) | h
    · omega
    · omega
    · omega
    · omega
    · exact HBY.out y (List.mem_of_mem_take h)
  have HSM : Hid (∀ (a7 : Option Addr) (n7 c7 : Nat) (w7 : World), SeesB w7 (.slice a7 n7 c7) (Tn.cov src dst L len) → Calls Try.prog 61 #[.slice (some ⟨w7.heap.size, 0, none⟩) 1 1] (w7.alloc (.cells #[.slice a7 n7 c7] 25)) fun e w' => e = .returned (.int .u16 ((M.csum (Tn.cov src dst L len) : Nat) : Int)) ∧ Below w7.heap.size w7 w') := fun a7 n7 c7 w7 hs7 => by
    have hbb := seesBB_one (w := w7) rfl _ _ hs7 25
    have HSM0 := sum_ref _ _ _ hbb (by simp [Tn.cov_len]; omega)
    rw [show [Tn.cov src dst L len].flatten = Tn.cov src dst L len by simp] at HSM0
    refine HSM0.mono ?_
    rintro e w' ⟨rfl, hb⟩
    have hbA : Below w7.heap.size w7 (w7.alloc (.cells #[.slice a7 n7 c7] 25)) := (Below.refl w7.heap.size w7).alloc (Nat.le_refl _) _
    exact ⟨rfl, hbA.trans (hb.mono hbA.size)⟩
  have hcl := M.csum_lt (Tn.cov src dst L len)
  have HCB := hid hcb
  have hm0 := HN16.out 0
  have hm2 := HN16.out 2
  have hm6 := HN16.out 6
  clear hlen hcb HNU HN16
  generalize M.csum (Tn.cov src dst L len) = cs at *
  generalize (L.take len).drop 8 = B at *
  generalize Tn.cov src dst L len = CV at *
  generalize Tn.num2 L 6 = m6 at *
  generalize Tn.num2 L 0 = m0 at *
  generalize Tn.num2 L 2 = m2 at *
  go_enter Try.func36, Try.ntmps36
  go_upto_region 1 with fail
  rw [← HW1.out]
  go_wp2_with fail
  refine X1.out.mono ?_
  rintro _ w2 ⟨rfl, hb2⟩
  have X6 := hid (HX6.out w2 hb2)
  have HB2 := hid hb2
  clear hb2 X1
  go_wp2_with fail
  refine X6.out.mono ?_
  rintro _ w3 ⟨rfl, hb3⟩
  have HB3 := hid (HB2.out.trans (hb3.mono HB2.out.size))
  clear hb3 X6
  by_cases hU : m6 ≠ 0 ∧ cs ≠ 0
  · obtain ⟨hm6, hc0⟩ := hU
    have HE := hid (pu_bad (src := src) (dst := dst) (L := L) (e := 73) (by rw [HPE.out, if_pos ⟨hm6, hc0⟩]) (by decide))
    have r1 : ((m6 : Int) == 0) = false := by simp; omega
    have r2 : ((cs : Int) == 0) = false := by simp; omega
    have r3 : ¬ (m6 : Int) = 0 := by omega
    have r4 : ¬ (cs : Int) = 0 := by omega
    have r5 : ((cs : Int) != 0) = true := by simp; omega
    have r6 : ((m6 : Int) != 0) = true := by simp; omega
    go_wp2_with fail
    refine (HCO.out _ HB3.out).mono ?_
    rintro _ w4 ⟨l4, rfl, ho4, hb4⟩
    have hs4 := ho4.sees HCB.out
    obtain ⟨a4, n4, c4, rfl, _, _, _⟩ := hs4.shape
    have X7 := hid (HSM.out a4 n4 c4 w4 hs4)
    have HB4 := hid (HB3.out.trans (hb4.mono HB3.out.size))
    clear hb4 hs4 ho4
    go_wp2_with fail
    refine X7.out.mono ?_
    rintro _ w5 ⟨rfl, hb5⟩
    have hb15 := HB4.out.trans (hb5.mono HB4.out.size)
    clear hb5 X7
    obtain ⟨q1, q2⟩ := HCE.out zz w5 HZS.out hb15
    have HTU := hid q1
    have HLV := hid q2
    have HBF := hid (HBF0.out zz w5 hb15)
    clear q1 q2
    go_wp2_with (first
      | (refine wpList_store_mid rfl 27 (.tmp 6) (.tmp 47) rfl w.heap.size 0 zz rfl (by rw [HZ.out]; rfl) HTU.out HINF.out HONE.out ?_)
      | fail)
    generalize w5.setCells w.heap.size 0 zz.toList = wf at HLV HBF ⊢
    refine bodyPost_ret (v := .tuple #[.agg zz, .int .i64 73]) (by simp [results, Try.results36, asAddr, HLV.out]) rfl ?_
    rw [HE.out.1, HE.out.2]
    exact ⟨none, 0, 0, by rw [HZC.out], sees_nil _, (fun a ha => by cases ha), HBF.out⟩
  have HPE2 : Hid (Tn.puE src dst L = 0) := by unfold Hid; rw [HPE.out, if_neg hU]
  have HD := hid (HPD.out HPE2.out)
  go_upto_if 36 with fail
  go_cut [10, 11] from 14 (fun _ _ wx => Hid (Below w1.heap.size w1 wx))
  case first =>
    by_cases hm6 : m6 = 0
    · subst hm6
      go_wp2_with fail
      go_meet
      case rel => exact HB3.out
    · have hc0 : cs = 0 := Decidable.byContradiction fun h => hU ⟨hm6, h⟩
      subst hc0
      have r1 : ((m6 : Int) == 0) = false := by simp; omega
      have r3 : ¬ (m6 : Int) = 0 := by omega
      have r6 : ((m6 : Int) != 0) = true := by simp; omega
      go_wp2_with fail
      refine (HCO.out _ HB3.out).mono ?_
      rintro _ w4 ⟨l4, rfl, ho4, hb4⟩
      have hs4 := ho4.sees HCB.out
      obtain ⟨a4, n4, c4, rfl, _, _, _⟩ := hs4.shape
      have X7 := hid (HSM.out a4 n4 c4 w4 hs4)
      have HB4 := hid (HB3.out.trans (hb4.mono HB3.out.size))
      clear hb4 hs4 ho4
      go_wp2_with fail
      refine X7.out.mono ?_
      rintro _ w5 ⟨rfl, hb5⟩
      have HB5 := hid (HB4.out.trans (hb5.mono HB4.out.size))
      clear hb5 X7
      go_wp2_with fail
      go_meet
      case rel => exact HB5.out
  case rest =>
  have HB5 := hcut
  obtain ⟨w5, hw5⟩ : ∃ w5, w5 = wc := ⟨_, rfl⟩
  rw [← hw5] at HB5 ⊢
  have X0 := hid (HX0.out w5 HB5.out)
  clear hw5 hcut HSM HCO HX6 HPE HPD HX0
  go_wp2_with fail
  refine X0.out.mono ?_
  rintro _ w6 ⟨rfl, hb6⟩
  have HB6 := hid (HB5.out.trans (hb6.mono HB5.out.size))
  have X2 := hid (HX2.out w6 HB6.out)
  clear hb6 X0 HX2
  go_wp2_with fail
  refine X2.out.mono ?_
  rintro _ w7 ⟨rfl, hb7⟩
  have HB7 := hid (HB6.out.trans (hb7.mono HB6.out.size))
  have XJ := hid (HJO.out w7 HB7.out)
  clear hb7 X2 HJO
  go_wp2_with fail
  refine XJ.out.mono ?_
  rintro _ w8 ⟨a8, n8, c8, rfl, hs8, hn8, hb8⟩
  have hb18 := HB7.out.trans (hb8.mono HB7.out.size)
  obtain ⟨yy, hyy⟩ : ∃ yy : Array Value, yy = dgCells ⟨m0, m2, B⟩ (.slice a8 n8 c8) := ⟨_, rfl⟩
  have HYY := hid hyy
  have HYL : Hid (yy = #[.int .u16 (m0 : Int), .int .u16 (m2 : Int), .slice a8 n8 c8]) := hyy
  have HYS : Hid (yy.size = 3) := by unfold Hid; rw [hyy]; rfl
  have HYO : Hid (yy.all (·.oneCell') = true) := by unfold Hid; rw [hyy]; simp [dgCells, Value.oneCell']
  have HYI := hid (HI.out yy HYS.out)
  obtain ⟨q1, q2⟩ := HCE.out yy w8 HYS.out hb18
  have HTU := hid q1
  have HLV := hid q2
  have HBF := hid (HBF0.out yy w8 hb18)
  have HNW : Hid (∀ a, a8 = some a → w.heap.size < a.block) := fun a ha => by have := hn8 a ha; have := HB7.out.size; have := HS1.out; omega
  have HSF := hid (sees_set' (b := w.heap.size) (vs := yy.toList) hs8 (fun a ha => by have := HNW.out a ha; omega))
  clear q1 q2 hyy hs8 hn8 hb8 hb18 XJ
  go_wp2_with (first
    | (refine wpList_store_mid rfl 27 (.tmp 6) (.tmp 59) rfl w.heap.size 0 yy rfl (by rw [HYL.out]; rfl) HTU.out HYI.out HYO.out ?_)
    | fail)
  generalize w8.setCells w.heap.size 0 yy.toList = wf at HLV HBF HSF ⊢
  refine bodyPost_ret (v := .tuple #[.agg yy, .int .i64 0]) (by simp [results, Try.results36, asAddr, HLV.out]) rfl ?_
  rw [HPE2.out, HD.out]
  exact ⟨_, _, _, by rw [HYY.out], HSF.out, (fun a ha => Nat.le_of_lt (HNW.out a ha)), HBF.out⟩
end Go.Proofs.Ytcelcnafcfefhaa.N

/-
  weftlaw7: begun, roomy, kept.
-/
namespace Go.Proofs.Ytcelcnafcfefhaa.N
open Go.ChangeShapes Go.WideShapes Go.ChangeAt Go.RowKit
set_option maxHeartbeats 8000000
set_option maxRecDepth 100000

theorem begun_list : Tn.buL 0 0 ⟨1, 2, []⟩ true = [0, 1, 0, 2, 0, 8, 255, 219] := by decide +kernel

theorem begun_any (w : World) : Calls Try.prog 9 #[] w fun e w' => e = .returned (.bool true) ∧ Below w.heap.size w w' := by
  have HB : Hid (Calls Try.prog 10 #[.int .u32 0, .int .u32 0, .agg #[.int .u16 1, .int .u16 2, .slice none 0 0], .bool true] w fun e w' => ∃ g, e = .returned (.tuple #[.slice (some ⟨g, 0, none⟩) 8 8, .int .i64 0]) ∧ Blk w' g [0, 1, 0, 2, 0, 8, 255, 219] ∧ Below w.heap.size w w') := by
    refine (buildU_any ⟨1, 2, []⟩ (.slice none 0 0) 0 0 true w ⟨by decide, by decide⟩ (sees_nil w) (by decide) (by decide)).mono ?_
    rintro e w' ⟨ao, n, cap, rfl, hs, hg, hb⟩
    obtain ⟨g, rfl, rfl, hB, _⟩ := hg rfl
    rw [begun_list] at hB hs
    have hn : cap = 8 := by
      obtain ⟨_, _, hv, _⟩ := hs
      simp at hv
      exact hv.2.1
    subst hn
    exact ⟨g, rfl, hB, hb⟩
  go_enter Try.func9, Try.ntmps9
  go_wp2_with fail
  refine HB.out.mono ?_
  rintro _ w2 ⟨g, rfl, hB, hb⟩
  have c1 : w2.cell? ⟨g, 1, none⟩ = some (.int .u8 1) := hB.cell 1 (by decide)
  have c3 : w2.cell? ⟨g, 3, none⟩ = some (.int .u8 2) := hB.cell 3 (by decide)
  have c5 : w2.cell? ⟨g, 5, none⟩ = some (.int .u8 8) := hB.cell 5 (by decide)
  have c6 : w2.cell? ⟨g, 6, none⟩ = some (.int .u8 255) := hB.cell 6 (by decide)
  have c7 : w2.cell? ⟨g, 7, none⟩ = some (.int .u8 219) := hB.cell 7 (by decide)
  have HB2 := hid hb
  clear hB hb HB
  go_wp2_with fail
  go_ret
  exact ⟨rfl, HB2.out⟩

/-- The marks behind a list. -/
def mkN (k : Nat) : List Nat := (List.range k).map fun i => 181 + i
theorem mkN_succ (k : Nat) : mkN (k + 1) = mkN k ++ [181 + k] := by unfold mkN; rw [List.range_succ, List.map_append]; rfl
theorem mkN_len (k : Nat) : (mkN k).length = k := by unfold mkN; simp
theorem mkN_bytes : ∀ x ∈ mkN 70, x < 256 := fun x hx => by
  unfold mkN at hx
  obtain ⟨i, hi, rfl⟩ := List.mem_map.1 hx
  have := List.mem_range.1 hi
  omega

theorem roomy_any (v : Value) (L : List Nat) (w : World) (hv : SeesB w v L) (hl : L.length ≤ 140737488351232) :
    Calls Try.prog 29 #[v] w fun e w' => ∃ l', e = .returned l' ∧ OwnB w' w.heap.size l' (L ++ mkN 70) ∧ Below w.heap.size w w' := by
  have HV := hid hv
  have HLN := hid hl
  obtain ⟨ao, n, cap, rfl, _, _, _⟩ := hv.shape
  clear hv hl
  go_enter Try.func29, Try.ntmps29
  go_wp2_with (at_builtin; refine wpList_append_bytes rfl _ _ rfl w.heap.size _ _ rfl (ownB_nil _ _) _ L rfl HV.out ?c1 ?c2 ?_)
  case c1 => have := HLN.out; simp; omega
  case c2 => exact Nat.le_refl _
  intro v1 w1 ho1 hb1
  have HO1 := hid ho1
  have HB1 := hid hb1
  clear ho1 hb1
  go_wp2_with fail
  go_loopw [3, 4] (fun t i wv => ∃ (k : Nat) (wr : World), i = .int .i64 (k : Int) ∧ k ≤ 70 ∧ wr = wv ∧ Hid (OwnB wr w.heap.size t (L ++ mkN k)) ∧ Below w.heap.size w wr) (fun _ i _ => 70 - (intOf i).toNat)
  case atStart => exact ⟨0, _, rfl, by omega, rfl, by unfold Hid; rw [show mkN 0 = [] from rfl, List.append_nil]; exact HO1.out, HB1.out⟩
  case round =>
    obtain ⟨k, wr, rfl, hk, rfl, HOK, hb⟩ := hrel
    by_cases hlt : k < 70
    · obtain ⟨x, hx⟩ : ∃ x, x = 181 + k := ⟨_, rfl⟩
      have HF : Hid (L ++ (mkN k ++ [x]) = L ++ mkN (k + 1)) := by unfold Hid; rw [mkN_succ, hx]
      have hx256 : x < 256 := by omega
      have HLE : Hid ((L ++ mkN k).length + [x].length ≤ 140737488355328) := by
        unfold Hid
        have := HLN.out
        rw [List.length_append, mkN_len]
        simp only [List.length_cons, List.length_nil]
        omega
      have ex : (181 : Int) + (k : Int) = (x : Int) := by omega
      clear hx
      go_wp2_with (at_builtin; refine wpList_append_bytes rfl _ _ rfl w.heap.size _ _ rfl (HOK.out.alloc _) _ [x] rfl (sees_one rfl x hx256 _) ?c1 ?c2 ?_)
      case c1 => exact HLE.out
      case c2 => have := hb.size; simp; omega
      intro v' w2 ho hb2
      rw [HF.out] at ho
      have HO2 := hid ho
      have hb3 : Below w.heap.size w w2 := (hb.alloc hb.size _).trans hb2
      clear ho hb2
      go_wp2_with fail
      go_roundw
      case rel => exact ⟨k + 1, _, by go_num, by omega, rfl, HO2, hb3⟩
      case measure => simp [intOf]; omega
    · obtain rfl : k = 70 := by omega
      go_wp2_with fail
      go_ret
      exact ⟨_, rfl, HOK.out, hb⟩

theorem same_self (v v' : Value) (A : List Nat) (w : World) (hv : SeesB w v A) (hv' : SeesB w v' A) :
    Calls Try.prog 12 #[v, v'] w fun e w' => e = .returned (.bool true) ∧ Below w.heap.size w w' := by
  have := same_any v v' A A w hv hv'
  rwa [decide_eq_true rfl] at this

theorem kept_any (v vb : Value) (L : List Nat) (w : World) (hv : SeesB w v (L ++ mkN 70)) (hb : SeesB w vb L) (hl : L.length ≤ 140737488351232) :
    Calls Try.prog 32 #[v, vb] w fun e w' => e = .returned (.bool true) ∧ Below w.heap.size w w' := by
  have HV := hid hv
  have HR := hid (roomy_any vb L w hb hl)
  have HBY := hid hv.bytes
  obtain ⟨ao, n, cap, rfl, _, _, _⟩ := hv.shape
  obtain ⟨bo, m, bcap, rfl, _, _, _⟩ := hb.shape
  clear hv hb
  go_enter Try.func32, Try.ntmps32
  go_wp2_with fail
  refine HR.out.mono ?_
  rintro _ w2 ⟨l2, rfl, ho, hb2⟩
  have hs2 := ho.sees HBY.out
  have HSA := hid (same_self _ _ _ w2 (HV.out.below hb2) hs2)
  have HB2 := hid hb2
  obtain ⟨co, p, ccap, rfl, _, _, _⟩ := hs2.shape
  clear ho hs2 hb2
  go_wp2_with fail
  refine HSA.out.mono ?_
  rintro _ w3 ⟨rfl, hb3⟩
  go_wp2_with fail
  go_ret
  exact ⟨rfl, HB2.out.trans (hb3.mono HB2.out.size)⟩
end Go.Proofs.Ytcelcnafcfefhaa.N

/-
  A law for regions that draw their order, stores among them: every operation has a fact about its value and the world that the others leave standing; the facts hold in every order.
-/
namespace Go.Proofs.Ytcelcnafcfefhaa.N
open Go.ChangeShapes Go.WideShapes Go.ChangeAt Go.RowKit
set_option maxHeartbeats 2000000
set_option maxRecDepth 100000

def putsO (a0 : Act) (dst : Nat → Option Tmp) (vs : Nat → Value) (p : Nat → Bool) (L : List Nat) : Act := L.foldr (fun i a => if p i then a.put (dst i) (vs i) else a) a0

theorem putsO_congr {a0 : Act} {dst : Nat → Option Tmp} {vs vs' : Nat → Value} {p p' : Nat → Bool} {L : List Nat} (h : ∀ i ∈ L, p' i = p i ∧ vs' i = vs i) : putsO a0 dst vs' p' L = putsO a0 dst vs p L := by
  induction L with
  | nil => rfl
  | cons x L ih =>
    have h1 := h x (List.mem_cons_self ..)
    have h2 := ih (fun i hi => h i (List.mem_cons_of_mem _ hi))
    simp only [putsO, List.foldr_cons] at h2 ⊢
    rw [h2, h1.1, h1.2]

theorem putO_comm (a : Act) {s t : Option Tmp} (h : ∀ x y, s = some x → t = some y → x ≠ y) (x y : Value) : (a.put s x).put t y = (a.put t y).put s x := by
  cases s with
  | none => rfl
  | some s =>
    cases t with
    | none => rfl
    | some t => exact put_comm a (h s t rfl rfl) x y

theorem putsO_set {a0 : Act} {dst : Nat → Option Tmp} {vs vs' : Nat → Value} {p p' : Nat → Bool} {i : Nat} {v : Value} : ∀ {L : List Nat}, L.Nodup → i ∈ L → p i = false → p' i = true → vs' i = v → (∀ j ∈ L, j ≠ i → p' j = p j ∧ vs' j = vs j ∧ ∀ x y, dst j = some x → dst i = some y → x ≠ y) →
    (putsO a0 dst vs p L).put (dst i) v = putsO a0 dst vs' p' L
  | [], _, hi, _, _, _, _ => by cases hi
  | x :: L, hn, hi, h1, h2, h3, h => by
    obtain ⟨hx0, hn'⟩ := List.nodup_cons.1 hn
    by_cases hx : x = i
    · subst hx
      have hc : putsO a0 dst vs' p' L = putsO a0 dst vs p L := putsO_congr (fun j hj => by have := h j (List.mem_cons_of_mem _ hj) (fun e => hx0 (e ▸ hj)); exact ⟨this.1, this.2.1⟩)
      simp only [putsO, List.foldr_cons] at hc ⊢
      rw [h1, h2, hc, h3]
      rfl
    · have ih := putsO_set (a0 := a0) (dst := dst) (v := v) hn' (by rcases List.mem_cons.1 hi with e | e; exact absurd e.symm hx; exact e) h1 h2 h3 (fun j hj => h j (List.mem_cons_of_mem _ hj))
      have hh := h x (List.mem_cons_self ..) hx
      simp only [putsO, List.foldr_cons] at ih ⊢
      rw [hh.1, hh.2.1, ← ih]
      cases p x with
      | true => simp only [if_true]; exact putO_comm _ hh.2.2 _ _
      | false => rfl

theorem putO_size (a : Act) (s : Option Tmp) (v : Value) : (a.put s v).tmps.size = a.tmps.size := by
  cases s with
  | none => rfl
  | some s => simp only [Act.put, Array.size_setIfInBounds]

theorem putsO_size {a0 : Act} {dst : Nat → Option Tmp} {vs : Nat → Value} {p : Nat → Bool} {L : List Nat} : (putsO a0 dst vs p L).tmps.size = a0.tmps.size := by
  induction L with
  | nil => rfl
  | cons x L ih =>
    simp only [putsO, List.foldr_cons] at ih ⊢
    split
    · rw [putO_size]; exact ih
    · exact ih

theorem evalO_ne (a : Act) {s : Option Tmp} {t : Tmp} (h : s ≠ some t) (v : Value) : (a.put s v).eval (.tmp t) = a.eval (.tmp t) := by
  cases s with
  | none => rfl
  | some s => exact eval_put_ne a (fun e => h (by rw [e])) v

theorem putsO_old {a0 : Act} {dst : Nat → Option Tmp} {vs : Nat → Value} {p : Nat → Bool} {s : Tmp} {L : List Nat} (h : ∀ j ∈ L, dst j ≠ some s) : (putsO a0 dst vs p L).eval (.tmp s) = a0.eval (.tmp s) := by
  induction L with
  | nil => rfl
  | cons x L ih =>
    have ih := ih (fun j hj => h j (List.mem_cons_of_mem _ hj))
    simp only [putsO, List.foldr_cons] at ih ⊢
    split
    · rw [evalO_ne _ (h x (List.mem_cons_self ..))]; exact ih
    · exact ih

theorem putsO_at {a0 : Act} {dst : Nat → Option Tmp} {vs : Nat → Value} {p : Nat → Bool} {i : Nat} {t : Tmp} (ht : dst i = some t) (hsz : t < a0.tmps.size) (hp : p i = true) : ∀ {L : List Nat}, i ∈ L → (∀ j ∈ L, j ≠ i → ∀ x y, dst j = some x → dst i = some y → x ≠ y) → (putsO a0 dst vs p L).eval (.tmp t) = vs i
  | [], hi, _ => by cases hi
  | x :: L, hi, h => by
    by_cases hx : x = i
    · subst hx
      have : t < (putsO a0 dst vs p L).tmps.size := by rw [putsO_size]; exact hsz
      simp only [putsO, List.foldr_cons, hp, if_true] at this ⊢
      rw [ht]
      exact eval_put_eq _ this _
    · have ih := putsO_at (vs := vs) ht hsz hp (L := L) (by rcases List.mem_cons.1 hi with e | e; exact absurd e.symm hx; exact e) (fun j hj => h j (List.mem_cons_of_mem _ hj))
      simp only [putsO, List.foldr_cons] at ih ⊢
      split
      · rw [evalO_ne _ (fun e => h x (List.mem_cons_self ..) hx t t e ht rfl)]; exact ih
      · exact ih

def allB (ops : Array Oper) (n : Nat) (dst : Nat → Option Tmp) (size : Nat) : Bool :=
  decide (n = ops.size) && Region.seqB .any ops 0 n (canon ops.size n) &&
  (List.range n).all (fun i => (dst i).all (fun t => decide (t < size)) && ((ops[i]?).map fun o => o.guard.isNone && decide (o.dst = dst i) && o.after.all fun e => !(Region.binds .any e) || decide (e.on < i)).getD false && (List.range n).all fun j => decide (j = i) || decide (dst j ≠ dst i) || (dst j).isNone)

def upd (vs : Nat → Value) (i : Nat) (v : Value) : Nat → Value := fun j => if j = i then v else vs j
theorem upd_eq (vs : Nat → Value) (i : Nat) (v : Value) : upd vs i v i = v := by unfold upd; rw [if_pos rfl]
theorem upd_ne {vs : Nat → Value} {i j : Nat} (v : Value) (h : j ≠ i) : upd vs i v j = vs j := by unfold upd; rw [if_neg h]

theorem wp_region_all {P : Program} {id : Nat} {Q : Exit → Act → World → Prop} {a0 : Act} {W : World} {l : List Oper} (n : Nat) (dst : Nat → Option Tmp) (F : Nat → (Nat → Value) → World → Prop) (I : World → Prop) (R : Nat → World → World → Prop) (hm : P.follows .mixedOrders = true) (hB : allB l.toArray n dst a0.tmps.size = true)
    (hI : I { W with drawn := W.drawn + 1 })
    (hF : ∀ i j o vs v w w', i ≠ j → l[i]? = some o → (∀ e ∈ o.after, Region.binds .any e = true → e.on ≠ j) → F i vs w → I w → R j w w' → F i (upd vs j v) w')
    (hstep : ∀ i o, i < n → l[i]? = some o → ∀ (a : Act) (w : World) (vs : Nat → Value), I w → (∀ s, (∀ j, j < n → dst j ≠ some s) → a.eval (.tmp s) = a0.eval (.tmp s)) →
      (∀ e ∈ o.after, Region.binds .any e = true → F e.on vs w ∧ ∀ t, dst e.on = some t → a.eval (.tmp t) = vs e.on) →
      o.wp P a w (fun a' w' => ∃ v, a' = a.put (dst i) v ∧ F i (upd vs i v) w' ∧ I w' ∧ R i w w') Q)
    (hend : ∀ (vs : Nat → Value) (w : World), I w → (∀ i, i < n → F i vs w) → wpList P l.toArray Q [] (putsO a0 dst vs (fun _ => true) (List.range n)) w) :
    (Code.region id l.toArray true).wp P Q a0 W := by
  simp only [allB, Bool.and_eq_true, decide_eq_true_eq, List.all_eq_true, List.mem_range] at hB
  obtain ⟨⟨hn, hseq⟩, hall⟩ := hB
  have hinj : ∀ i, i < n → ∀ j, j < n → j ≠ i → ∀ x y, dst j = some x → dst i = some y → x ≠ y := fun i hi j hj hne x y hx hy e => by
    have := (hall i hi).2 j hj
    simp only [Bool.or_eq_true, decide_eq_true_eq, hx, hy, Option.isNone_some, Bool.false_eq_true, or_false] at this
    rcases this with h | h
    · exact hne h
    · exact h (by rw [e])
  have hlt : ∀ i, i < n → ∀ t, dst i = some t → t < a0.tmps.size := fun i hi t ht => by
    have := (hall i hi).1.1
    rw [ht] at this
    simpa using this
  have hop : ∀ i o, i < n → l.toArray[i]? = some o → (o.guard = none ∧ o.dst = dst i) ∧ ∀ e ∈ o.after, Region.binds .any e = true → e.on < i := fun i o hi ho => by
    have := (hall i hi).1.2
    rw [ho] at this
    simp only [Option.map_some, Option.getD_some, Bool.and_eq_true, Option.isNone_iff_eq_none, decide_eq_true_eq, Array.all_eq_true_iff_forall_mem, Bool.or_eq_true] at this
    refine ⟨this.1, fun e he hb => ?_⟩
    rcases this.2 e he with h | h
    · rw [hb] at h; cases h
    · exact h
  refine wp_region_any hm ?_
  have main : ∀ (f : Nat) (listed : Array Bool) (vs : Nat → Value) (w : World), listed.size = l.toArray.size → (List.range n).countP (fun j => !listed.getD j false) = f →
      (∀ j oj, l.toArray[j]? = some oj → listed.getD j false = true → ∀ e ∈ oj.after, Region.binds .any e = true → listed.getD e.on false = true) → I w → (∀ i, i < n → listed.getD i false = true → F i vs w) →
      wpAny P .any l.toArray Q f listed (putsO a0 dst vs (fun i => listed.getD i false) (List.range n)) w := by
    intro f
    induction f with
    | zero =>
      intro listed vs w hsz hcnt hcl hb hf
      have hall2 : ∀ i, i < n → listed.getD i false = true := fun i hi => by
        have := List.countP_eq_zero.1 hcnt i (List.mem_range.2 hi)
        simpa using this
      have hcan : listed = canon l.toArray.size n := by
        apply Array.ext
        · rw [hsz]; simp [canon]
        · intro i h1 h2
          simp only [canon, List.getElem_toArray, List.getElem_map, List.getElem_range]
          have hi : i < n := by rw [hn, ← hsz]; exact h1
          have := hall2 i hi
          simpa [h1, hi] using this
      have he : putsO a0 dst vs (fun i => listed.getD i false) (List.range n) = putsO a0 dst vs (fun _ => true) (List.range n) := putsO_congr (fun i hi => ⟨hall2 i (List.mem_range.1 hi), rfl⟩)
      rw [he, hcan]
      exact wpAny_of_seq (P := P) (ops := l.toArray) (md := .any) (Q' := Q) [] n (canon l.toArray.size n) _ w (fun j => by simp [hn]) hseq (hend vs w hb (fun i hi => hf i hi (hall2 i hi)))
    | succ f ih =>
      intro listed vs w hsz hcnt hcl hb hf
      obtain ⟨i0, hi0, hu0⟩ : ∃ i, i < n ∧ listed.getD i false = false := by
        have hpos : 0 < (List.range n).countP (fun j => !listed.getD j false) := by omega
        obtain ⟨i, hi, hp⟩ := List.countP_pos_iff.1 hpos
        exact ⟨i, List.mem_range.1 hi, by simpa using hp⟩
      refine ⟨fun h0 => ?_, fun i hi => ?_⟩
      · exfalso
        have hex : ∃ k, k < n ∧ listed.getD k false = false ∧ ∀ j, j < k → listed.getD j false = true := by
          have : ∀ m, (∃ j, j < m ∧ listed.getD j false = false) → ∃ k, k < m ∧ listed.getD k false = false ∧ ∀ j, j < k → listed.getD j false = true := by
            intro m
            induction m with
            | zero => rintro ⟨j, hj, _⟩; omega
            | succ m ihm =>
              rintro ⟨j, hj, hjf⟩
              by_cases hex : ∃ j, j < m ∧ listed.getD j false = false
              · obtain ⟨k, hk, h1, h2⟩ := ihm hex
                exact ⟨k, by omega, h1, h2⟩
              · refine ⟨m, by omega, ?_, fun j' hj' => ?_⟩
                · have : j = m := by
                    rcases Nat.lt_or_ge j m with h | h
                    · exact absurd ⟨j, h, hjf⟩ hex
                    · omega
                  rw [← this]; exact hjf
                · cases hq : listed.getD j' false with
                  | true => rfl
                  | false => exact absurd ⟨j', hj', hq⟩ hex
          exact this n ⟨i0, hi0, hu0⟩
        obtain ⟨k, hk, hku, hkl⟩ := hex
        have hks : k < l.toArray.size := by omega
        have hr : k ∈ Region.ready .any l.toArray listed := mem_ready.2 ⟨getD_in (by rw [hsz]; exact hks) hku, _, Array.getElem?_eq_getElem hks, fun e he hbi => hkl e.on ((hop k _ hk (Array.getElem?_eq_getElem hks)).2 e he hbi)⟩
        rw [h0] at hr
        cases hr
      · obtain ⟨hun, o, ho, hdep⟩ := mem_ready.1 hi
        have hin : i < n := by rw [hn]; exact (Array.getElem?_eq_some_iff.1 ho).1
        obtain ⟨⟨hg, hd⟩, haf⟩ := hop i o hin ho
        have hiu := getD_both hun
        have his : i < listed.size := by rw [hsz, ← hn]; exact hin
        unfold wpOp
        simp only [ho, Region.wanted, hg, if_true]
        refine .inl ?_
        have H := hstep i o hin (by simpa using ho) (putsO a0 dst vs (fun i => listed.getD i false) (List.range n)) w vs hb (fun s hs' => putsO_old (fun j hj => hs' j (List.mem_range.1 hj))) (fun e he hbi => by
          have hen : e.on < n := Nat.lt_trans (haf e he hbi) hin
          exact ⟨hf e.on hen (hdep e he hbi), fun t ht => putsO_at ht (hlt e.on hen t ht) (hdep e he hbi) (List.mem_range.2 hen) (fun j hj hne => hinj e.on hen j (List.mem_range.1 hj) hne)⟩)
        refine Oper.wp_mono (fun a' w' ⟨v, ha', hfv, hiw, hbw⟩ => ?_) H
        rw [ha', putsO_set (vs' := upd vs i v) (p' := fun j => (listed.setIfInBounds i true).getD j false) (List.nodup_range) (List.mem_range.2 hin) hiu (by simp [his]) (upd_eq _ _ _) (fun j hj hne => ⟨getD_set_ne false (Ne.symm hne), upd_ne _ hne, hinj i hin j (List.mem_range.1 hj) hne⟩)]
        refine ih _ _ w' (by simpa using hsz) ?_ ?_ hiw (fun j hj hlj => ?_)
        · have := countP_point (L := List.range n) List.nodup_range (List.mem_range.2 hin) (p := fun j => !listed.getD j false) (q := fun j => !(listed.setIfInBounds i true).getD j false) (by simp only [hiu]; rfl) (by simp [his]) (fun j _ hne => by simp only [getD_set_ne false (Ne.symm hne)])
          omega
        · intro j oj hoj hlj e he hbi
          by_cases hei : e.on = i
          · rw [hei]; simp [his]
          · rw [getD_set_ne false (Ne.symm hei)]
            by_cases hji : j = i
            · subst hji
              rw [ho] at hoj
              cases hoj
              exact hdep e he hbi
            · rw [getD_set_ne false (Ne.symm hji)] at hlj
              exact hcl j oj hoj hlj e he hbi
        · by_cases hji : j = i
          · subst hji; exact hfv
          · rw [getD_set_ne false (Ne.symm hji)] at hlj
            have hjs : j < l.toArray.size := by omega
            refine hF j i (l.toArray[j]) vs v w w' hji (by simp) (fun e he hbi heq => ?_) (hf j hj hlj) hb hbw
            have := hcl j _ (Array.getElem?_eq_getElem hjs) hlj e he hbi
            rw [heq, hiu] at this
            cases this
  have hcnt : (List.range n).countP (fun j => !(Array.replicate l.toArray.size false).getD j false) = n := by
    rw [List.countP_eq_length.2 (fun j _ => by rw [getD_replicate_false]; rfl), List.length_range]
  have H := main n _ (fun _ => undef) { W with drawn := W.drawn + 1 } (by simp) hcnt (fun j oj _ h => by rw [getD_replicate_false] at h; cases h) hI (fun i _ h => by rw [getD_replicate_false] at h; cases h)
  have he : putsO a0 dst (fun _ => undef) (fun i => (Array.replicate l.toArray.size false).getD i false) (List.range n) = a0 := by
    have : ∀ L : List Nat, putsO a0 dst (fun _ => undef) (fun i => (Array.replicate l.toArray.size false).getD i false) L = a0 := by
      intro L
      induction L with
      | nil => rfl
      | cons x L ih =>
        simp only [putsO, List.foldr_cons] at ih ⊢
        rw [getD_replicate_false, ih]
        rfl
    exact this _
  rw [he, hn] at H
  exact H

/-- The steps, one a goal. -/
def stepsAll (P : Program) (Q : Exit → Act → World → Prop) (a0 : Act) (n : Nat) (dst : Nat → Option Tmp) (F : Nat → (Nat → Value) → World → Prop) (I : World → Prop) (R : Nat → World → World → Prop) : Nat → List Oper → Prop
  | _, [] => True
  | i, o :: rest => (∀ (a : Act) (w : World) (vs : Nat → Value), I w → (∀ s, (∀ j, j < n → dst j ≠ some s) → a.eval (.tmp s) = a0.eval (.tmp s)) →
      (∀ e ∈ o.after, Region.binds .any e = true → F e.on vs w ∧ ∀ t, dst e.on = some t → a.eval (.tmp t) = vs e.on) →
      o.wp P a w (fun a' w' => ∃ v, a' = a.put (dst i) v ∧ F i (upd vs i v) w' ∧ I w' ∧ R i w w') Q) ∧ stepsAll P Q a0 n dst F I R (i + 1) rest

theorem stepsAll.at {P : Program} {Q : Exit → Act → World → Prop} {a0 : Act} {n : Nat} {dst : Nat → Option Tmp} {F : Nat → (Nat → Value) → World → Prop} {I : World → Prop} {R : Nat → World → World → Prop} : ∀ (l : List Oper) (k : Nat), stepsAll P Q a0 n dst F I R k l → ∀ (i : Nat) (o : Oper), l[i]? = some o → ∀ (a : Act) (w : World) (vs : Nat → Value), I w → (∀ s, (∀ j, j < n → dst j ≠ some s) → a.eval (.tmp s) = a0.eval (.tmp s)) →
      (∀ e ∈ o.after, Region.binds .any e = true → F e.on vs w ∧ ∀ t, dst e.on = some t → a.eval (.tmp t) = vs e.on) →
      o.wp P a w (fun a' w' => ∃ v, a' = a.put (dst (k + i)) v ∧ F (k + i) (upd vs (k + i) v) w' ∧ I w' ∧ R (k + i) w w') Q
  | [], _, _, i, o, h => by simp at h
  | x :: l, k, h, 0, o, ho => by
    simp at ho
    subst ho
    exact h.1
  | x :: l, k, h, i + 1, o, ho => by
    have := h.2.at l (k + 1) i o (by simpa using ho)
    rwa [Nat.add_assoc, Nat.add_comm 1 i] at this

theorem wp_region_all' {P : Program} {id : Nat} {Q : Exit → Act → World → Prop} {a0 : Act} {W : World} {l : List Oper} (n : Nat) (dst : Nat → Option Tmp) (F : Nat → (Nat → Value) → World → Prop) (I : World → Prop) (R : Nat → World → World → Prop) (hm : P.follows .mixedOrders = true) (hB : allB l.toArray n dst a0.tmps.size = true)
    (hI : I { W with drawn := W.drawn + 1 })
    (hF : ∀ i j o vs v w w', i ≠ j → l[i]? = some o → (∀ e ∈ o.after, Region.binds .any e = true → e.on ≠ j) → F i vs w → I w → R j w w' → F i (upd vs j v) w')
    (hstep : stepsAll P Q a0 n dst F I R 0 l)
    (hend : ∀ (vs : Nat → Value) (w : World), I w → (∀ i, i < n → F i vs w) → wpList P l.toArray Q [] (putsO a0 dst vs (fun _ => true) (List.range n)) w) :
    (Code.region id l.toArray true).wp P Q a0 W :=
  wp_region_all n dst F I R hm hB hI hF (fun i o _ ho => by
    have := hstep.at _ _ i o ho
    rwa [Nat.zero_add] at this) hend
end Go.Proofs.Ytcelcnafcfefhaa.N

/-
  weftlaw7.datagrams.
-/
namespace Go.Proofs.Ytcelcnafcfefhaa.N
open Go.ChangeShapes Go.WideShapes Go.ChangeAt Go.RowKit
set_option maxHeartbeats 8000000
set_option maxRecDepth 100000

def itCells (src dst : Nat) (x : Tn.Dg) (vb : Value) (sum : Bool) (vr : Value) : Array Value := #[.int .u32 (src : Int), .int .u32 (dst : Int), .int .u16 (x.s : Int), .int .u16 (x.d : Int), vb, .bool sum, vr]

/-- A list with room behind it, cut to what was handed in. -/
theorem room_cut {w : World} {base : Nat} {v : Value} {L R : List Nat} (h : OwnB w base v (L ++ R)) (hb : ∀ x ∈ L ++ R, x < 256) :
    ∃ ao n cap, v = .slice ao n cap ∧ SeesB w (.slice ao n cap) (L ++ R) ∧ SeesB w (.slice ao L.length n) L ∧ ∀ u : World, (Instr.sliceAt 25 (.slice ao n cap) none (some (.int .i64 (L.length : Int))) (some (.int .i64 (n : Int)))).run Try.prog u = .ok (.slice ao L.length n) u := by
  have hs := h.sees hb
  obtain ⟨ao, n, cap, rfl, HN, hn1, hn2⟩ := hs.shape
  have hn : n = L.length + R.length := by rw [HN.out, List.length_append]
  refine ⟨ao, n, cap, rfl, hs, ?_, fun u => ?_⟩
  · obtain ⟨ao1, cap1, hv, h1, h2, h3⟩ := hs
    simp at hv
    obtain ⟨rfl, _, rfl⟩ := hv
    refine ⟨ao, n, rfl, ⟨by omega, fun hc => ?_⟩, by omega, fun j hj => ?_⟩
    · have := h1.2 hc
      omega
    · obtain ⟨g, off, ha, hg, hc, hx⟩ := h3 j (by rw [List.length_append]; omega)
      refine ⟨g, off, ha, hg, ?_, ?_⟩
      · rw [hc, List.getElem_append_left hj]
      · rwa [List.getElem_append_left hj] at hx
  · have hu : Try.prog.underlying 25 = some (.slice (Try.prog.elem 25)) := by kernel_rfl
    have hsz : (sizeOf (Try.prog.elem 25)).run Try.prog u = .ok 1 u := by kernel_rfl
    rw [run_sliceAt_slice (h := hu), run_slice_hm (ht := hu) (h0 := by omega) (h2 := by omega) (h3 := by omega), hsz]
    simp [Result.andThen, sliced]
    intro _
    cases ao <;> simp [Addr.add]

theorem it_at {u : World} {n src dst : Nat} {x : Tn.Dg} {vb vr : Value} {sum : Bool} {t : TypeId} (hb : u.heap[n]? = some (.cells (itCells src dst x vb sum vr) t)) :
    u.cell? ⟨n, 0, none⟩ = some (.int .u32 (src : Int)) ∧ u.cell? ⟨n, 1, none⟩ = some (.int .u32 (dst : Int)) ∧ u.cell? ⟨n, 4, none⟩ = some vb ∧ u.cell? ⟨n, 5, none⟩ = some (.bool sum) ∧ u.cell? ⟨n, 6, none⟩ = some vr :=
  ⟨by rw [cell_of_row _ _ _ _ _ _ hb]; rfl, by rw [cell_of_row _ _ _ _ _ _ hb]; rfl, by rw [cell_of_row _ _ _ _ _ _ hb]; rfl, by rw [cell_of_row _ _ _ _ _ _ hb]; rfl, by rw [cell_of_row _ _ _ _ _ _ hb]; rfl⟩

theorem it_load {u : World} {n src dst : Nat} {x : Tn.Dg} {vb vr : Value} {sum : Bool} {t : TypeId} (hb : u.heap[n]? = some (.cells (itCells src dst x vb sum vr) t)) :
    (Instr.loadAt 27 (.pointer (some ⟨n, 2, none⟩))).run Try.prog u = .ok (.agg (dgCells x vb)) u := by
  refine run_loadAt_mid u n 2 27 (dgCells x vb).toList (.struct _) (fun j v hv => ?_) Try.underlying27 rfl (by rw [show (Try.prog.info? 27).map (·.size) = some 3 from by kernel_rfl]; rfl)
  rw [cell_of_row _ _ _ _ _ _ hb]
  match j, hv with
  | 0, hv => exact hv
  | 1, hv => exact hv
  | 2, hv => exact hv

section
variable {P : Program} {o : Oper} {a : Act} {w : World}
theorem ex_len (x : Operand) (T : TypeId) (p : Option Addr) (n c : Nat) (ho : o.op = .call { callee := .builtin .len, args := #[x], argTypes := #[T] }) (hx : a.eval x = .slice p n c) (hu : P.underlying T = some (.slice (P.elem T))) : (execOp a.eval o).run P w = .ok (.value (.int .i64 (n : Int))) w := by
  unfold execOp
  simp [ho, resolve, invoke, builtin, hx, run_len_slice (h := hu), Result.andThen]
  rfl
theorem ex_extract (x : Operand) (k : Nat) (vs : Array Value) (v : Value) (ho : o.op = .extract x k) (hx : a.eval x = .tuple vs) (hv : vs[k]? = some v) : (execOp a.eval o).run P w = .ok (.value v) w := by
  unfold execOp
  simp [ho, hx, Instr.extract, hv]
theorem ex_alloc {w' : World} (T : TypeId) (v : Value) (ho : o.op = .alloc T) (hr : (Instr.alloc T true (.tuple #[])).run P w = .ok v w') : (execOp a.eval o).run P w = .ok (.value v) w' := by
  unfold execOp
  simp only [ho, Sem.run_bind, hr, Result.andThen_ok, Sem.run_pure]
end

theorem alloc_dg (u : World) : (Instr.alloc 27 true (.tuple #[])).run Try.prog u = .ok (.pointer (some ⟨u.heap.size, 0, none⟩)) (u.alloc (.cells zeroD 27)) := by kernel_rfl
theorem field_it0 (b : Nat) (u : World) : (Instr.fieldAt 47 (.pointer (some ⟨b, 0, none⟩)) 0).run Try.prog u = .ok (.pointer (some ⟨b, 0, none⟩)) u := by kernel_rfl
theorem field_it1 (b : Nat) (u : World) : (Instr.fieldAt 47 (.pointer (some ⟨b, 0, none⟩)) 1).run Try.prog u = .ok (.pointer (some ⟨b, 1, none⟩)) u := by kernel_rfl
theorem field_it4 (b : Nat) (u : World) : (Instr.fieldAt 47 (.pointer (some ⟨b, 0, none⟩)) 4).run Try.prog u = .ok (.pointer (some ⟨b, 6, none⟩)) u := by kernel_rfl
theorem load_ad {u : World} {p : Addr} {x : Int} (h : u.cell? p = some (.int .u32 x)) : (Instr.loadAt 23 (.pointer (some p))).run Try.prog u = .ok (.int .u32 x) u := by
  simp [Instr.loadAt, go_sem, h]

/-- No cell holds a byte. -/
def NoB (C : Array Value) : Prop := ∀ (j : Nat) (v : Value), C[j]? = some v → ∀ x : Int, v ≠ Value.int .u8 x

theorem noB_dg (D : Tn.Dg) (a : Option Addr) (n c : Nat) : NoB (dgCells D (.slice a n c)) := fun j v hv x e => by
  subst e
  match j, hv with
  | 0, hv => simp [dgCells] at hv
  | 1, hv => simp [dgCells] at hv
  | 2, hv => simp [dgCells] at hv
  | j + 3, hv => simp [dgCells] at hv

theorem noB_zero : NoB zeroD := noB_dg Tn.none0 none 0 0

/-- A block without bytes that is written leaves lists of bytes as they are. -/
theorem SeesB.butZ {w w' : World} {v : Value} {L : List Nat} {q : Nat} {C : Array Value} {T : TypeId} (h : SeesB w v L) (hq : w.heap[q]? = some (.cells C T (0, 0))) (hC : NoB C) (hu : But q w w') : SeesB w' v L := by
  obtain ⟨ao, cap, hv, h1, h2, h3⟩ := h
  refine ⟨ao, cap, hv, h1, h2, fun j hj => ?_⟩
  obtain ⟨g, off, ha, hg, hc, hb⟩ := h3 j hj
  have hne : g ≠ q := fun e => by
    subst e
    rw [cell_of_row _ _ _ _ _ _ hq] at hc
    exact hC _ _ hc _ rfl
  refine ⟨g, off, ha, Nat.lt_of_lt_of_le hg hu.size, ?_, hb⟩
  rw [← hc]
  have hblk := hu.block g hg hne
  obtain ⟨o, ho⟩ : ∃ o, w.heap[g]? = some o := ⟨_, Array.getElem?_eq_getElem hg⟩
  simp only [World.cell?, hblk]

/-- What the operations of a drawn statement give that reads a datagram. -/
def FD (l : List Value) (D : Tn.Dg) (E : Int) (base : Nat) : Nat → (Nat → Value) → World → Prop
  | 11, vs, w => ∃ a n c, vs 11 = .tuple #[.agg (dgCells D (.slice a n c)), .int .i64 E] ∧ SeesB w (.slice a n c) D.B
  | 12, vs, w => ∃ a n c, vs 12 = .tuple #[.agg (dgCells D (.slice a n c)), .int .i64 E] ∧ SeesB w (.slice a n c) D.B
  | 13, vs, w => ∃ a n c, vs 13 = .agg (dgCells D (.slice a n c)) ∧ SeesB w (.slice a n c) D.B
  | 14, vs, _ => vs 14 = .int .i64 E
  | 15, vs, w => ∃ q C, vs 15 = .pointer (some ⟨q, 0, none⟩) ∧ base ≤ q ∧ w.heap[q]? = some (.cells C 27 (0, 0)) ∧ C.size = 3 ∧ NoB C
  | 16, vs, w => ∃ q a n c, vs 15 = .pointer (some ⟨q, 0, none⟩) ∧ base ≤ q ∧ w.heap[q]? = some (.cells (dgCells D (.slice a n c)) 27 (0, 0)) ∧ SeesB w (.slice a n c) D.B
  | 17, vs, _ => vs 17 = .int .i64 E
  | i, vs, _ => l[i]? = some (vs i)

def RD (j : Nat) (w w' : World) : Prop := if j = 16 then ∃ q C C', w.heap[q]? = some (.cells C 27 (0, 0)) ∧ NoB C ∧ C'.size = 3 ∧ NoB C' ∧ w'.heap[q]? = some (.cells C' 27 (0, 0)) ∧ But q w w' else Below w.heap.size w w'

theorem RD.sees {j : Nat} {w w' : World} {v : Value} {L : List Nat} (h : RD j w w') (hs : SeesB w v L) : SeesB w' v L := by
  unfold RD at h
  split at h
  · obtain ⟨q, C, C', h1, h2, _, _, _, h3⟩ := h
    exact hs.butZ h1 h2 h3
  · exact hs.below h

theorem FD.keeps (l : List Value) (D : Tn.Dg) (E : Int) (base : Nat) (ops : List Oper) (h16 : ∀ o, ops[16]? = some o → ∃ e ∈ o.after, Region.binds .any e = true ∧ e.on = 15) (I : World → Prop) :
    ∀ i j o vs v w w', i ≠ j → ops[i]? = some o → (∀ e ∈ o.after, Region.binds .any e = true → e.on ≠ j) → FD l D E base i vs w → I w → RD j w w' → FD l D E base i (upd vs j v) w' := fun i j o vs v w w' hij ho hne h _ hr => by
  unfold FD at h ⊢
  split at h
  · obtain ⟨a, n, c, e, hs⟩ := h; exact ⟨a, n, c, by rw [upd_ne v hij]; exact e, hr.sees hs⟩
  · obtain ⟨a, n, c, e, hs⟩ := h; exact ⟨a, n, c, by rw [upd_ne v hij]; exact e, hr.sees hs⟩
  · obtain ⟨a, n, c, e, hs⟩ := h; exact ⟨a, n, c, by rw [upd_ne v hij]; exact e, hr.sees hs⟩
  · show upd vs j v 14 = _
    rw [upd_ne v hij]; exact h
  · obtain ⟨q, C, e, hq, hrow, hC, hN⟩ := h
    unfold RD at hr
    split at hr
    · obtain ⟨q', C1, C', h1, _, h3, h4, h5, h6⟩ := hr
      by_cases hqq : q = q'
      · subst hqq
        exact ⟨q, C', by rw [upd_ne v hij]; exact e, hq, h5, h3, h4⟩
      · exact ⟨q, C, by rw [upd_ne v hij]; exact e, hq, (h6.block q (Array.getElem?_eq_some_iff.1 hrow).1 hqq).trans hrow, hC, hN⟩
    · exact ⟨q, C, by rw [upd_ne v hij]; exact e, hq, (hr.block q (Array.getElem?_eq_some_iff.1 hrow).1).trans hrow, hC, hN⟩
  · obtain ⟨q, a, n, c, e, hq, hrow, hs⟩ := h
    obtain ⟨ed, hed, hb, hon⟩ := h16 o ho
    have h15 := hne ed hed hb
    rw [hon] at h15
    refine ⟨q, a, n, c, by rw [upd_ne v h15]; exact e, hq, ?_, hr.sees hs⟩
    unfold RD at hr
    rw [if_neg (Ne.symm hij)] at hr
    exact (hr.block q (Array.getElem?_eq_some_iff.1 hrow).1).trans hrow
  · show upd vs j v 17 = _
    rw [upd_ne v hij]; exact h
  · show l[i]? = some (upd vs j v i)
    rw [upd_ne v hij]; exact h

def dstD (i : Nat) : Option Tmp := [some 70, some 71, some 72, some 73, some 74, some 75, some 76, some 77, some 78, some 79, some 80, some 81, some 69, some 82, some 83, some 9, none, some 6].getD i none
theorem dl18 {s : Nat} (h : some s ∉ [some 70, some 71, some 72, some 73, some 74, some 75, some 76, some 77, some 78, some 79, some 80, some 81, some 69, some 82, some 83, some 9, none, some 6]) : ∀ j, j < 18 → dstD j ≠ some s := fun j hj e => h (by
  unfold dstD at e
  rw [← e, List.getD_eq_getElem?_getD, List.getElem?_eq_getElem (by exact hj)]
  exact List.getElem_mem _)

theorem wp_stillA {P : Program} {o : Oper} {a : Act} {W w : World} {Q : Exit → Act → World → Prop} {F : Nat → (Nat → Value) → World → Prop} {R : Nat → World → World → Prop} {vs : Nat → Value} {i : Nat} {d : Option Tmp} {v : Value} (hr : (execOp a.eval o).run P w = .ok (.value v) w) (ht : o.dst = d) (hv : F i (upd vs i v) w) (hW : Below W.heap.size W w) (hR : R i w w) :
    o.wp P a w (fun a' w' => ∃ v', a' = a.put d v' ∧ F i (upd vs i v') w' ∧ Below W.heap.size W w' ∧ R i w w') Q :=
  wp_val hr (by rw [ht]; exact ⟨v, rfl, hv, hW, hR⟩)

theorem RD.refl {j : Nat} (h : j ≠ 16) (w : World) : RD j w w := by unfold RD; rw [if_neg h]; exact Below.refl _ _
theorem RD.of {j : Nat} (h : j ≠ 16) {w w' : World} (hb : Below w.heap.size w w') : RD j w w' := by unfold RD; rw [if_neg h]; exact hb

theorem ex_assign {P : Program} {o : Oper} {a : Act} {w : World} (x : Operand) (v : Value) (ho : o.op = .assign x) (hx : a.eval x = v) : (execOp a.eval o).run P w = .ok (.value v) w := by
  unfold execOp
  simp only [ho, hx, Sem.run_pure]

theorem datagrams_any (src dst : Nat) (x : Tn.Dg) (vb : Value) (sum : Bool) (vr : Value) (R : List Nat) (w : World) (hs : src < 4294967296) (hd : dst < 4294967296) (hx : x.Ok) (hvb : SeesB w vb x.B) (hvr : SeesB w vr R) (hlb : x.B.length ≤ 140737488351232) (hlr : R.length ≤ 140737488351232) :
    Calls Try.prog 14 #[.agg (itCells src dst x vb sum vr)] w fun e w' => e = .returned (.bool true) ∧ Below w.heap.size w w' := by
  obtain ⟨w1, hw1⟩ : ∃ w1, w1 = w.alloc (.cells (itCells src dst x vb sum vr) 47) := ⟨_, rfl⟩
  have hs1 : w1.heap.size = w.heap.size + 1 := by rw [hw1]; simp
  have hb1 : Below w.heap.size w w1 := by rw [hw1]; exact (Below.refl _ _).alloc (Nat.le_refl _) _
  have hr1 : w1.heap[w.heap.size]? = some (.cells (itCells src dst x vb sum vr) 47 (0, 0)) := by rw [hw1]; exact heap_alloc_new w _
  have HVB := hid (hvb.below hb1)
  have HVR := hid (hvr.below hb1)
  have HBY := hid hvb.bytes
  have HBR := hid hvr.bytes
  obtain ⟨ab, nb, capb, rfl, HNB, hnb1, hnb2⟩ := hvb.shape
  obtain ⟨ar, nr, capr, rfl, HNR, hnr1, hnr2⟩ := hvr.shape
  unfold maxLen at hnb2 hnr2
  have HIT : Hid (∀ u, Below w1.heap.size w1 u → u.cell? ⟨w.heap.size, 0, none⟩ = some (.int .u32 (src : Int)) ∧ u.cell? ⟨w.heap.size, 1, none⟩ = some (.int .u32 (dst : Int)) ∧ u.cell? ⟨w.heap.size, 4, none⟩ = some (.slice ab nb capb) ∧ u.cell? ⟨w.heap.size, 5, none⟩ = some (.bool sum) ∧ u.cell? ⟨w.heap.size, 6, none⟩ = some (.slice ar nr capr)) := fun u hu => it_at ((hu.block _ (by omega)).trans hr1)
  have HLD : Hid (∀ u, Below w1.heap.size w1 u → (Instr.loadAt 27 (.pointer (some ⟨w.heap.size, 2, none⟩))).run Try.prog u = .ok (.agg (dgCells x (.slice ab nb capb))) u) := fun u hu => it_load ((hu.block _ (by omega)).trans hr1)
  have HRO := hid (roomy_any _ x.B w1 HVB.out hlb)
  have HW1 := hid hw1
  have HB1 := hid hb1
  have HX := hid hx
  have HLB := hid hlb
  have HLR := hid hlr
  have HS1 := hid hs1
  have hin : (Try.prog.info? 27).map (·.size) = some 3 := by kernel_rfl
  have HIN := hid hin
  obtain ⟨c0, c1, c4, c5, c6⟩ := HIT.out _ (Below.refl _ _)
  clear hw1 hb1 hr1 hs1 hvb hvr hin hx hlb hlr
  generalize itCells src dst x (.slice ab nb capb) sum (.slice ar nr capr) = it at *
  go_enter Try.func14, Try.ntmps14
  go_upto_region 1 with fail
  rw [← HW1.out]
  go_wp2_with fail
  refine HRO.out.mono ?_
  rintro _ w2 ⟨l2, rfl, ho2, hb2⟩
  have hbm : ∀ y ∈ x.B ++ mkN 70, y < 256 := fun y hy => (List.mem_append.1 hy).elim (HBY.out y) (mkN_bytes y)
  obtain ⟨ao, no, co, rfl, hsr, hsc, kcut⟩ := room_cut ho2 hbm
  rw [← HNB.out] at hsc kcut
  obtain ⟨pa, hpa⟩ : ∃ pa, pa = dgCells x (.slice ab nb capb) := ⟨_, rfl⟩
  have HL2 : Hid ((Instr.loadAt 27 (.pointer (some ⟨w.heap.size, 2, none⟩))).run Try.prog w2 = .ok (.agg pa) w2) := by unfold Hid; rw [hpa]; exact HLD.out w2 hb2
  obtain ⟨q, hq⟩ : ∃ q, q = w2.heap.size := ⟨_, rfl⟩
  obtain ⟨w3, hw3⟩ : ∃ w3, w3 = (w2.alloc (.cells zeroD 27)).setCells q 0 pa.toList := ⟨_, rfl⟩
  have hps : pa.size = 3 := by rw [hpa]; rfl
  have HIP : Hid ((Try.prog.info? 27).map (·.size) = some pa.size) := by unfold Hid; rw [hps]; exact HIN.out
  have hrq : (w2.alloc (.cells zeroD 27)).heap[q]? = some (.cells zeroD 27 (0, 0)) := by rw [hq]; exact heap_alloc_new w2 _
  have HTP : Hid ((w2.alloc (.cells zeroD 27)).there q 0 pa.size) := there_blk hrq (by rw [hps]; rfl)
  have HOP : Hid (pa.all (·.oneCell') = true) := by unfold Hid; rw [hpa]; simp [dgCells, Value.oneCell']
  have hr3 : w3.heap[q]? = some (.cells (dgCells x (.slice ab nb capb)) 27 (0, 0)) := by rw [hw3, ← hpa]; exact row_put hrq (by rw [hps]; rfl)
  have hb23 : Below w2.heap.size w2 w3 := by rw [hw3]; exact below_setCells' (by omega) _ _ _ ((Below.refl _ _).alloc (Nat.le_refl _) _)
  obtain ⟨w4, hw4⟩ : ∃ w4, w4 = w3.setCell ⟨q, 2, none⟩ (.slice ao nb no) := ⟨_, rfl⟩
  have hr4 : w4.heap[q]? = some (.cells (dgCells x (.slice ao nb no)) 27 (0, 0)) := by rw [hw4]; exact heap_setCell_row hr3 _
  have hb24 : Below w2.heap.size w2 w4 := by rw [hw4]; exact hb23.setCell (p := ⟨q, 2, none⟩) (by show w2.heap.size ≤ q; omega) _
  have hb14 : Below w1.heap.size w1 w4 := hb2.trans (hb24.mono hb2.size)
  obtain ⟨_, _, f2⟩ := dg_at hr3
  have z2 : w3.frozen? ⟨q, 2, none⟩ = false := frozen_of_row _ _ _ _ _ hr3
  obtain ⟨a0, a1, a4, a5, a6⟩ := HIT.out w3 (hb2.trans (hb23.mono hb2.size))
  obtain ⟨d0, d1, d4, d5, d6⟩ := HIT.out w4 hb14
  have hsv4 := hsc.below hb24
  have hsr4 := hsr.below hb24
  have HL4 := hid (load_rowAt (T := 27) hr4 Try.underlying27 rfl (by exact HIN.out))
  have HBU := hid (buildU_any x (.slice ao nb no) src dst sum w4 HX.out hsv4 hs hd)
  have HB14 := hid hb14
  have HSR4 := hid hsr4
  have HW3 : Hid (w3 = (w2.alloc (.cells #[.int .u16 0, .int .u16 0, .slice none 0 0] 27)).setCells q 0 pa.toList) := hw3
  have HW4 := hid hw4
  have HQ := hid hq
  have hno : nb ≤ no := by obtain ⟨_, _, hv, h1, _⟩ := hsc; simp at hv; omega
  unfold zeroD at HTP
  obtain ⟨pb, hpb⟩ : ∃ pb, pb = dgCells x (.slice ao nb no) := ⟨_, rfl⟩
  rw [← hpb] at HL4 HBU
  have HPA := hid hpa
  clear hpa hpb hw3 hw4 hq hps hrq hr3 hr4 hb23 hb24 hb14 hsv4 hsr4 ho2 hb2 hsr hsc HRO hbm
  go_upto_region 3 with (first
    | (refine wpList_ld 27 ⟨w.heap.size, 2, none⟩ _ rfl rfl HL2.out rfl ?_)
    | (rw [← HQ.out]; refine wpList_store_mid rfl 27 (.tmp 4) (.tmp 16) rfl q 0 pa rfl rfl HTP.out HIP.out HOP.out ?_; rw [← HW3.out])
    | fail)
  simp only [Act.put]
  go_upto_region 4 with fail
  rw [← HW4.out]
  go_wp2_with (first
    | (refine wpList_ld 27 ⟨q, 0, none⟩ _ rfl rfl HL4.out rfl ?_)
    | fail)
  refine HBU.out.mono ?_
  rintro _ w5 ⟨s5, n5, t5, rfl, hs5, _, hb5⟩
  have HB15 := hid (HB14.out.trans (hb5.mono HB14.out.size))
  have HS5 := hid hs5
  have HSR5 := hid (HSR4.out.below hb5)
  have HBR5 := hid (buildUR_any x (.slice ab nb capb) src dst sum w5 HX.out (HVB.out.below HB15.out) hs hd)
  rw [← HPA.out] at HBR5
  have HL5 : Hid ((Instr.loadAt 27 (.pointer (some ⟨w.heap.size, 2, none⟩))).run Try.prog w5 = .ok (.agg pa) w5) := by unfold Hid; rw [HPA.out]; exact HLD.out w5 HB15.out
  have HKP : Hid (∀ u, Below w5.heap.size w5 u → Calls Try.prog 32 #[.slice ao no co, .slice ab nb capb] u fun e w' => e = .returned (.bool true) ∧ Below u.heap.size u w') := fun u hu => kept_any _ _ x.B u (HSR5.out.below hu) (HVB.out.below (HB15.out.trans (hu.mono HB15.out.size))) HLB.out
  obtain ⟨e0, e1, e4, e5, e6⟩ := HIT.out w5 HB15.out
  clear hs5 hb5 HBU HB14 HSR4 HL4 d0 d1 d4 d5 d6 a0 a1 a4 a5 a6 f2 z2 c0 c1 c4 c5 c6 HL2 HTP HIP HOP kcut
  generalize Tn.buE x = E at *
  generalize Tn.buL src dst x sum = BL at *
  go_wp2_with (first
    | (refine wpList_ld 27 ⟨w.heap.size, 2, none⟩ _ rfl rfl HL5.out rfl ?_)
    | fail)
  refine HBR5.out.mono ?_
  rintro _ w6 ⟨v6, rfl, ho6, hb6⟩
  have hs6 := ho6.sees HS5.out.bytes
  obtain ⟨s6, n6, t6, rfl, _, _, _⟩ := hs6.shape
  have HSA := hid (same_self _ _ _ w6 (HS5.out.below hb6) hs6)
  have HB56 := hid hb6
  clear ho6 hs6 hb6 HBR5 HL5
  go_wp2_with fail
  refine HSA.out.mono ?_
  rintro _ w7 ⟨rfl, hb7⟩
  have HB57 := hid (HB56.out.trans (hb7.mono HB56.out.size))
  obtain ⟨g0, g1, g4, g5, g6⟩ := HIT.out w7 (HB15.out.trans (HB57.out.mono HB15.out.size))
  have X7 := hid (HKP.out w7 HB57.out)
  clear hb7 HSA HB56 e0 e1 e4 e5 e6 HKP
  go_wp2_with fail
  refine X7.out.mono ?_
  rintro _ w8 ⟨rfl, hb8⟩
  have HB58 := hid (HB57.out.trans (hb8.mono HB57.out.size))
  have HB18 := hid (HB15.out.trans (HB58.out.mono HB15.out.size))
  obtain ⟨h0, h1, h4, h5, h6⟩ := HIT.out w8 HB18.out
  have HRR := hid (roomy_any _ R w8 (HVR.out.below HB18.out) HLR.out)
  clear hb8 X7 g0 g1 g4 g5 g6 HB57 HB58 HS5 HSR5 HB15
  go_wp2_with fail
  refine HRR.out.mono ?_
  rintro _ w9 ⟨l9, rfl, ho9, hb9⟩
  have hbm : ∀ y ∈ R ++ mkN 70, y < 256 := fun y hy => (List.mem_append.1 hy).elim (HBR.out y) (mkN_bytes y)
  obtain ⟨ap, np, cp, rfl, hsr, hsc, kcut⟩ := room_cut ho9 hbm
  rw [← HNR.out] at hsc kcut
  have HB19 := hid (HB18.out.trans (hb9.mono HB18.out.size))
  have HSR9 := hid hsr
  have HSC9 := hid hsc
  have HPU : Hid (∀ u, Below w9.heap.size w9 u → Calls Try.prog 11 #[.int .u32 (src : Int), .int .u32 (dst : Int), .slice ap nr np] u fun e w' => ∃ a n c, e = .returned (.tuple #[.agg (dgCells (Tn.puD src dst R) (.slice a n c)), .int .i64 (Tn.puE src dst R)]) ∧ SeesB w' (.slice a n c) (Tn.puD src dst R).B ∧ (∀ b, a = some b → u.heap.size ≤ b.block) ∧ Below u.heap.size u w') := fun u hu => parseU_any _ R src dst u (HSC9.out.below hu) hs hd
  have HPR : Hid (∀ u, Below w9.heap.size w9 u → Calls Try.prog 36 #[.int .u32 (src : Int), .int .u32 (dst : Int), .slice ar nr capr] u fun e w' => ∃ a n c, e = .returned (.tuple #[.agg (dgCells (Tn.puD src dst R) (.slice a n c)), .int .i64 (Tn.puE src dst R)]) ∧ SeesB w' (.slice a n c) (Tn.puD src dst R).B ∧ (∀ b, a = some b → u.heap.size ≤ b.block) ∧ Below u.heap.size u w') := fun u hu => parseUR_any _ R src dst u (HVR.out.below (HB19.out.trans (hu.mono HB19.out.size))) hs hd
  have HKP : Hid (∀ u, Below w9.heap.size w9 u → Calls Try.prog 32 #[.slice ap np cp, .slice ar nr capr] u fun e w' => e = .returned (.bool true) ∧ Below u.heap.size u w') := fun u hu => kept_any _ _ R u (HSR9.out.below hu) (HVR.out.below (HB19.out.trans (hu.mono HB19.out.size))) HLR.out
  generalize Tn.puE src dst R = PE at *
  obtain ⟨D, hD⟩ : ∃ D, D = Tn.puD src dst R := ⟨_, rfl⟩
  rw [← hD] at HPU HPR
  clear hD ho9 hb9 hbm hsr hsc HRR h0 h1 h4 h5 h6
  obtain ⟨h0, h1, h4, h5, h6⟩ := HIT.out w9 HB19.out
  have HLT : Hid (w.heap.size < w9.heap.size) := by have := HB19.out.size; have := HS1.out; unfold Hid; omega
  go_upto_region 9 with fail
  go_cut [6, 9] from 11 (fun e p wx => e = .int .i64 PE ∧ ∃ q a n c, p = .pointer (some ⟨q, 0, none⟩) ∧ Hid (wx.heap[q]? = some (.cells (dgCells D (.slice a n c)) 27 (0, 0)) ∧ SeesB wx (.slice a n c) D.B ∧ Below w9.heap.size w9 wx ∧ w9.heap.size ≤ q))
  case first =>
    refine wp_region_all' 18 dstD (FD [.pointer (some ⟨w.heap.size, 0, none⟩), .int .u32 (src : Int), .pointer (some ⟨w.heap.size, 1, none⟩), .int .u32 (dst : Int), .slice ap np cp, .pointer (some ⟨w.heap.size, 6, none⟩), .slice ar nr capr, .int .i64 (nr : Int), .slice ap np cp, .int .i64 (np : Int), .slice ap nr np] D PE w9.heap.size) (fun u => Below w9.heap.size w9 u) RD (by kernel_rfl) (by kernel_rfl) ⟨rfl, rfl, rfl, Nat.le_refl _, fun _ _ => rfl⟩ (FD.keeps _ _ _ _ _ (fun o ho => by cases ho; exact ⟨⟨15, .data⟩, by simp, rfl, rfl⟩) _) ?_ ?_
    · simp only [stepsAll]
      refine ⟨?_, ?_, ?_, ?_, ?_, ?_, ?_, ?_, ?_, ?_, ?_, ?_, ?_, ?_, ?_, ?_, ?_, ?_, trivial⟩
      · intro a u vs hb hold hdep
        exact wp_stillA (ex_field _ ⟨w.heap.size, 0, none⟩ (.tmp 1) 0 _ rfl (hold 1 (dl18 (by decide))) (field_it0 _ u)) rfl (congrArg some (upd_eq _ _ _).symm) hb (RD.refl (by decide) _)
      · intro a u vs hb hold hdep
        have e0 : a.eval (.tmp 70) = .pointer (some ⟨w.heap.size, 0, none⟩) := by have h0 := hdep ⟨0, .data⟩ (by simp) rfl; exact (h0.2 70 rfl).trans (Option.some.inj h0.1).symm
        exact wp_stillA (ex_load _ ⟨w.heap.size, 0, none⟩ (.tmp 70) _ rfl e0 (load_ad ((hb.cell (p := ⟨w.heap.size, 0, none⟩) HLT.out).trans h0))) rfl (congrArg some (upd_eq _ _ _).symm) hb (RD.refl (by decide) _)
      · intro a u vs hb hold hdep
        exact wp_stillA (ex_field _ ⟨w.heap.size, 0, none⟩ (.tmp 1) 1 _ rfl (hold 1 (dl18 (by decide))) (field_it1 _ u)) rfl (congrArg some (upd_eq _ _ _).symm) hb (RD.refl (by decide) _)
      · intro a u vs hb hold hdep
        have e0 : a.eval (.tmp 72) = .pointer (some ⟨w.heap.size, 1, none⟩) := by have h0 := hdep ⟨2, .data⟩ (by simp) rfl; exact (h0.2 72 rfl).trans (Option.some.inj h0.1).symm
        exact wp_stillA (ex_load _ ⟨w.heap.size, 1, none⟩ (.tmp 72) _ rfl e0 (load_ad ((hb.cell (p := ⟨w.heap.size, 1, none⟩) HLT.out).trans h1))) rfl (congrArg some (upd_eq _ _ _).symm) hb (RD.refl (by decide) _)
      · intro a u vs hb hold hdep
        exact wp_stillA (ex_move (.tmp 3) _ rfl (hold 3 (dl18 (by decide)))) rfl (congrArg some (upd_eq _ _ _).symm) hb (RD.refl (by decide) _)
      · intro a u vs hb hold hdep
        exact wp_stillA (ex_field _ ⟨w.heap.size, 0, none⟩ (.tmp 1) 4 _ rfl (hold 1 (dl18 (by decide))) (field_it4 _ u)) rfl (congrArg some (upd_eq _ _ _).symm) hb (RD.refl (by decide) _)
      · intro a u vs hb hold hdep
        have e0 : a.eval (.tmp 75) = .pointer (some ⟨w.heap.size, 6, none⟩) := by have h0 := hdep ⟨5, .data⟩ (by simp) rfl; exact (h0.2 75 rfl).trans (Option.some.inj h0.1).symm
        exact wp_stillA (ex_load _ ⟨w.heap.size, 6, none⟩ (.tmp 75) _ rfl e0 (load_sl ((hb.cell (p := ⟨w.heap.size, 6, none⟩) HLT.out).trans h6))) rfl (congrArg some (upd_eq _ _ _).symm) hb (RD.refl (by decide) _)
      · intro a u vs hb hold hdep
        have e0 : a.eval (.tmp 76) = .slice ar nr capr := by have h0 := hdep ⟨6, .data⟩ (by simp) rfl; exact (h0.2 76 rfl).trans (Option.some.inj h0.1).symm
        exact wp_stillA (ex_len (.tmp 76) _ _ _ _ rfl e0 (by kernel_rfl)) rfl (congrArg some (upd_eq _ _ _).symm) hb (RD.refl (by decide) _)
      · intro a u vs hb hold hdep
        exact wp_stillA (ex_move (.tmp 3) _ rfl (hold 3 (dl18 (by decide)))) rfl (congrArg some (upd_eq _ _ _).symm) hb (RD.refl (by decide) _)
      · intro a u vs hb hold hdep
        have e0 : a.eval (.tmp 78) = .slice ap np cp := by have h0 := hdep ⟨8, .data⟩ (by simp) rfl; exact (h0.2 78 rfl).trans (Option.some.inj h0.1).symm
        exact wp_stillA (ex_len (.tmp 78) _ _ _ _ rfl e0 (by kernel_rfl)) rfl (congrArg some (upd_eq _ _ _).symm) hb (RD.refl (by decide) _)
      · intro a u vs hb hold hdep
        have e0 : a.eval (.tmp 74) = .slice ap np cp := by have h0 := hdep ⟨4, .data⟩ (by simp) rfl; exact (h0.2 74 rfl).trans (Option.some.inj h0.1).symm
        have e1 : a.eval (.tmp 77) = .int .i64 (nr : Int) := by have h0 := hdep ⟨7, .data⟩ (by simp) rfl; exact (h0.2 77 rfl).trans (Option.some.inj h0.1).symm
        have e2 : a.eval (.tmp 79) = .int .i64 (np : Int) := by have h0 := hdep ⟨9, .data⟩ (by simp) rfl; exact (h0.2 79 rfl).trans (Option.some.inj h0.1).symm
        exact wp_stillA (ex_slice _ (.tmp 74) _ _ _ _ _ none (some (.int .i64 (nr : Int))) (some (.int .i64 (np : Int))) rfl e0 rfl (by show some (a.eval (.tmp 77)) = _; rw [e1]) (by show some (a.eval (.tmp 79)) = _; rw [e2]) (kcut u)) rfl (congrArg some (upd_eq _ _ _).symm) hb (RD.refl (by decide) _)
      · intro a u vs hb hold hdep
        have e0 : a.eval (.tmp 71) = .int .u32 (src : Int) := by have h0 := hdep ⟨1, .data⟩ (by simp) rfl; exact (h0.2 71 rfl).trans (Option.some.inj h0.1).symm
        have e1 : a.eval (.tmp 73) = .int .u32 (dst : Int) := by have h0 := hdep ⟨3, .data⟩ (by simp) rfl; exact (h0.2 73 rfl).trans (Option.some.inj h0.1).symm
        have e2 : a.eval (.tmp 80) = .slice ap nr np := by have h0 := hdep ⟨10, .data⟩ (by simp) rfl; exact (h0.2 80 rfl).trans (Option.some.inj h0.1).symm
        refine wp_call 11 _ _ rfl (enters_of Try.func11 (by kernel_rfl) rfl) #[.int .u32 (src : Int), .int .u32 (dst : Int), .slice ap nr np] (by simp only [List.map_toArray, List.map_cons, List.map_nil, e0, e1, e2]) ?_
        refine (HPU.out u hb).mono ?_
        rintro _ u' ⟨a1, n1, c1, rfl, hs1, _, hb'⟩
        exact ⟨_, rfl, _, rfl, ⟨a1, n1, c1, upd_eq _ _ _, hs1⟩, hb.trans (hb'.mono hb.size), RD.of (by decide) hb'⟩
      · intro a u vs hb hold hdep
        obtain ⟨⟨a1, n1, c1, q2, hs1⟩, q1⟩ := hdep ⟨11, .data⟩ (by simp) rfl
        exact wp_stillA (ex_move (.tmp 81) _ rfl ((q1 81 rfl).trans q2)) rfl ⟨a1, n1, c1, upd_eq _ _ _, hs1⟩ hb (RD.refl (by decide) _)
      · intro a u vs hb hold hdep
        obtain ⟨⟨a1, n1, c1, q2, hs1⟩, q1⟩ := hdep ⟨12, .data⟩ (by simp) rfl
        exact wp_stillA (ex_extract (.tmp 69) 0 _ _ rfl ((q1 69 rfl).trans q2) rfl) rfl ⟨a1, n1, c1, upd_eq _ _ _, hs1⟩ hb (RD.refl (by decide) _)
      · intro a u vs hb hold hdep
        obtain ⟨⟨a1, n1, c1, q2, hs1⟩, q1⟩ := hdep ⟨12, .data⟩ (by simp) rfl
        exact wp_stillA (ex_extract (.tmp 69) 1 _ _ rfl ((q1 69 rfl).trans q2) rfl) rfl (upd_eq _ _ _) hb (RD.refl (by decide) _)
      · intro a u vs hb hold hdep
        have hbA : Below u.heap.size u (u.alloc (.cells zeroD 27)) := (Below.refl _ _).alloc (Nat.le_refl _) _
        exact wp_val (ex_alloc _ _ rfl (alloc_dg u)) ⟨_, rfl, ⟨u.heap.size, zeroD, upd_eq _ _ _, hb.size, heap_alloc_new u _, rfl, noB_zero⟩, hb.trans (hbA.mono hb.size), RD.of (by decide) hbA⟩
      · intro a u vs hb hold hdep
        obtain ⟨⟨q, C, p2, hq, hrow, hC, hN⟩, p1⟩ := hdep ⟨15, .data⟩ (by simp) rfl
        obtain ⟨⟨a1, n1, c1, q2, hs1⟩, q1⟩ := hdep ⟨13, .data⟩ (by simp) rfl
        have ep : a.eval (.tmp 9) = .pointer (some ⟨q, 0, none⟩) := (p1 9 rfl).trans p2
        have ev : a.eval (.tmp 82) = .agg (dgCells D (.slice a1 n1 c1)) := (q1 82 rfl).trans q2
        have hbut : But q u (u.setCells q 0 (dgCells D (.slice a1 n1 c1)).toList) := But.setsT _ _
        have hrow2 : (u.setCells q 0 (dgCells D (.slice a1 n1 c1)).toList).heap[q]? = some (.cells (dgCells D (.slice a1 n1 c1)) 27 (0, 0)) := row_put hrow (by rw [hC]; rfl)
        refine wp_store_mid 27 (.tmp 9) (.tmp 82) rfl q 0 _ ep ev (there_blk hrow (by rw [hC]; rfl)) HIN.out (by simp [dgCells, Value.oneCell']) ⟨.pointer (some ⟨q, 0, none⟩), rfl, ⟨q, a1, n1, c1, ?_, hq, hrow2, hs1.butZ hrow hN hbut⟩, below_setCells' hq _ _ _ hb, ?_⟩
        · rw [upd_ne _ (by decide)]; exact p2
        · unfold RD; rw [if_pos rfl]; exact ⟨q, C, _, hrow, hN, rfl, noB_dg _ _ _ _, hrow2, hbut⟩
      · intro a u vs hb hold hdep
        obtain ⟨q2, q1⟩ := hdep ⟨14, .data⟩ (by simp) rfl
        exact wp_stillA (ex_assign (.tmp 83) _ rfl ((q1 83 rfl).trans q2)) rfl (upd_eq _ _ _) hb (RD.refl (by decide) _)
    intro vs u hb hF
    obtain ⟨q2, a1, n1, c1, e15, hq2, hrow, hs1⟩ := hF 16 (by decide)
    have e17 : vs 17 = .int .i64 PE := hF 17 (by decide)
    have e16 : vs 15 = .pointer (some ⟨q2, 0, none⟩) := e15
    have HEND := hid (And.intro hrow (And.intro hs1 (And.intro hb hq2)))
    clear hrow hs1 hb hq2 hF e15
    generalize vs 0 = y0
    generalize vs 1 = y1
    generalize vs 2 = y2
    generalize vs 3 = y3
    generalize vs 4 = y4
    generalize vs 5 = y5
    generalize vs 6 = y6
    generalize vs 7 = y7
    generalize vs 8 = y8
    generalize vs 9 = y9
    generalize vs 10 = y10
    generalize vs 11 = y11
    generalize vs 12 = y12
    generalize vs 13 = y13
    generalize vs 14 = y14
    simp only [putsO, List.range, List.range.loop, List.foldr, if_true, dstD, List.getD_cons_zero, List.getD_cons_succ, Act.put, e16, e17, List.setIfInBounds_toArray, List.set_cons_succ, List.set_cons_zero]
    go_wp2_with fail
    go_meet
    case rel => exact ⟨rfl, q2, a1, n1, c1, rfl, HEND.out⟩
  case rest =>
  obtain ⟨rfl, q9, a9, n9, k9, rfl, HQ9⟩ := hcut
  obtain ⟨w10, hw10⟩ : ∃ w10, w10 = wc := ⟨_, rfl⟩
  rw [← hw10] at HQ9 ⊢
  obtain ⟨hr10, hs10, hb10, hq10⟩ := HQ9.out
  have HB910 := hid hb10
  have HB110 := hid (HB19.out.trans (hb10.mono HB19.out.size))
  obtain ⟨i0, i1, i4, i5, i6⟩ := HIT.out w10 HB110.out
  have X10 := hid (HPR.out w10 hb10)
  have HR10 := hid hr10
  have HS10 := hid hs10
  clear hw10 hr10 hs10 hb10 hq10 h0 h1 h4 h5 h6 HPU HPR HQ9 kcut
  go_wp2_with fail
  refine X10.out.mono ?_
  rintro _ w11 ⟨a11, n11, k11, rfl, hs11, _, hb11⟩
  obtain ⟨pc, hpc⟩ : ∃ pc, pc = dgCells D (.slice a11 n11 k11) := ⟨_, rfl⟩
  obtain ⟨p3, hp3⟩ : ∃ p3, p3 = w11.heap.size := ⟨_, rfl⟩
  obtain ⟨w12, hw12⟩ : ∃ w12, w12 = (w11.alloc (.cells zeroD 27)).setCells p3 0 pc.toList := ⟨_, rfl⟩
  have hps : pc.size = 3 := by rw [hpc]; rfl
  have HIP3 : Hid ((Try.prog.info? 27).map (·.size) = some pc.size) := by unfold Hid; rw [hps]; exact HIN.out
  have hrp : (w11.alloc (.cells zeroD 27)).heap[p3]? = some (.cells zeroD 27 (0, 0)) := by rw [hp3]; exact heap_alloc_new w11 _
  have HTP3 : Hid ((w11.alloc (.cells zeroD 27)).there p3 0 pc.size) := there_blk hrp (by rw [hps]; rfl)
  have HOP3 : Hid (pc.all (·.oneCell') = true) := by unfold Hid; rw [hpc]; simp [dgCells, Value.oneCell']
  have hr12 : w12.heap[p3]? = some (.cells (dgCells D (.slice a11 n11 k11)) 27 (0, 0)) := by rw [hw12, ← hpc]; exact row_put hrp (by rw [hps]; rfl)
  have hb1112 : Below w11.heap.size w11 w12 := by rw [hw12]; exact below_setCells' (by omega) _ _ _ ((Below.refl _ _).alloc (Nat.le_refl _) _)
  have hb1012 := hb11.trans (hb1112.mono hb11.size)
  have HB912 := hid (HB910.out.trans (hb1012.mono HB910.out.size))
  have HB112 := hid (HB19.out.trans (HB912.out.mono HB19.out.size))
  have hr12' : w12.heap[q9]? = some (.cells (dgCells D (.slice a9 n9 k9)) 27 (0, 0)) := (hb1012.block q9 (Array.getElem?_eq_some_iff.1 HR10.out).1).trans HR10.out
  obtain ⟨j0, j1, j2⟩ := dg_at hr12
  obtain ⟨l0, l1, l2⟩ := dg_at hr12'
  obtain ⟨i0, i1, i4, i5, i6⟩ := HIT.out w12 HB112.out
  have XS := hid (same_self _ _ _ w12 (HS10.out.below hb1012) (hs11.below hb1112))
  have HKP2 : Hid (∀ u, Below w12.heap.size w12 u → Calls Try.prog 32 #[.slice ap np cp, .slice ar nr capr] u fun e w' => e = .returned (.bool true) ∧ Below u.heap.size u w') := fun u hu => HKP.out u (HB912.out.trans (hu.mono HB912.out.size))
  have HC13 : Hid (∀ u, Below w12.heap.size w12 u → u.cell? ⟨w.heap.size, 6, none⟩ = some (.slice ar nr capr)) := fun u hu => (HIT.out u (HB112.out.trans (hu.mono HB112.out.size))).2.2.2.2
  have HW12 : Hid (w12 = (w11.alloc (.cells #[.int .u16 0, .int .u16 0, .slice none 0 0] 27)).setCells p3 0 pc.toList) := hw12
  have HP3 := hid hp3
  unfold zeroD at HTP3
  rw [← hpc]
  clear hpc hp3 hw12 hps hrp hr12 hr12' hb11 hb1112 hb1012 hs11 X10 HKP
  go_upto_region 11 with (first
    | (rw [← HP3.out]; refine wpList_store_mid rfl 27 (.tmp 10) (.tmp 92) rfl p3 0 pc rfl rfl HTP3.out HIP3.out HOP3.out ?_; rw [← HW12.out])
    | fail)
  go_wp2_with fail
  refine XS.out.mono ?_
  rintro _ w13 ⟨rfl, hb13⟩
  have X13 := hid (HKP2.out w13 hb13)
  have o6 := HC13.out w13 hb13
  have HB113 := hid (HB112.out.trans (hb13.mono HB112.out.size))
  clear hb13 XS i0 i1 i4 i5 i6 j0 j1 j2 l0 l1 l2
  go_wp2_with fail
  refine X13.out.mono ?_
  rintro _ w14 ⟨rfl, hb14⟩
  have HB114 := hid (HB113.out.trans (hb14.mono HB113.out.size))
  clear hb14 X13
  go_wp2_with fail
  go_ret
  exact ⟨rfl, HB1.out.trans (HB114.out.mono HB1.out.size)⟩
end Go.Proofs.Ytcelcnafcfefhaa.N

/-
  tunnel.Seal.
-/
namespace Go.Proofs.Ytcelcnafcfefhaa.N
open Go.ChangeShapes Go.WideShapes Go.ChangeAt Go.RowKit
set_option maxHeartbeats 8000000
set_option maxRecDepth 100000

/-- The outer values of a sealed frame. -/
structure Ou where
  src : Nat
  dst : Nat
  sp : Nat
  dp : Nat
  ttl : Nat
  vni : Int

structure Ou.Ok (o : Ou) : Prop where
  src : o.src < 4294967296
  dst : o.dst < 4294967296
  sp : o.sp < 65536
  dp : o.dp < 65536
  ttl : o.ttl < 256
  vlo : -9223372036854775808 ≤ o.vni
  vhi : o.vni ≤ 9223372036854775807

def ouCells (o : Ou) : Array Value := #[.int .u32 (o.src : Int), .int .u32 (o.dst : Int), .int .u16 (o.sp : Int), .int .u16 (o.dp : Int), .int .u8 (o.ttl : Int), .int .i64 o.vni]

theorem ou_at {u : World} {n : Nat} {o : Ou} {t : TypeId} (hb : u.heap[n]? = some (.cells (ouCells o) t (0, 0))) :
    u.cell? ⟨n, 0, none⟩ = some (.int .u32 (o.src : Int)) ∧ u.cell? ⟨n, 1, none⟩ = some (.int .u32 (o.dst : Int)) ∧ u.cell? ⟨n, 2, none⟩ = some (.int .u16 (o.sp : Int)) ∧ u.cell? ⟨n, 3, none⟩ = some (.int .u16 (o.dp : Int)) ∧ u.cell? ⟨n, 4, none⟩ = some (.int .u8 (o.ttl : Int)) ∧ u.cell? ⟨n, 5, none⟩ = some (.int .i64 o.vni) := by
  refine ⟨?_, ?_, ?_, ?_, ?_, ?_⟩ <;> (rw [cell_of_row _ _ _ _ _ _ hb]; rfl)

def ohd (o : Ou) : Hd := ⟨0, 0, true, false, 0, o.ttl, 17, o.src, o.dst, []⟩
theorem ohd_ok {o : Ou} (h : o.Ok) : (ohd o).Ok := ⟨(show (0:Nat) < 256 by decide), (show (0:Nat) < 65536 by decide), ⟨(show (-9223372036854775808:Int) ≤ 0 by decide), (show (0:Int) ≤ 9223372036854775807 by decide)⟩, h.ttl, (show (17:Nat) < 256 by decide), h.src, h.dst⟩
def odg (o : Ou) (f : Tn.Fr) : Tn.Dg := ⟨o.sp, o.dp, vxH o.vni.toNat ++ Tn.frL f⟩
def seE (o : Ou) (f : Tn.Fr) : Int := if o.vni < 0 ∨ 16777215 < o.vni then 78 else if Tn.bfE f ≠ 0 then Tn.bfE f else refE (ohd o) (Tn.builtU o.src o.dst (odg o f) false).length
def seL (o : Ou) (f : Tn.Fr) : List Nat := if o.vni < 0 ∨ 16777215 < o.vni then [] else if Tn.bfE f ≠ 0 then [] else builtL (ohd o) (Tn.builtU o.src o.dst (odg o f) false)

/-- What a drawn statement's operations give that builds the datagram. -/
def FS (l : List Value) (mk : Value → Value) (B : List Nat) (base k : Nat) : Nat → Value → World → Prop
  | 6, v, w => ∃ g, v = .slice (some ⟨g, 0, none⟩) k k ∧ Blk w g B ∧ base ≤ g
  | 7, v, w => ∃ g, v = mk (.slice (some ⟨g, 0, none⟩) k k) ∧ Blk w g B ∧ base ≤ g
  | 8, v, w => ∃ q, v = .pointer (some ⟨q, 0, none⟩) ∧ w.heap[q]? = some (.cells zeroD 27 (0, 0)) ∧ base ≤ q
  | i, v, _ => l[i]? = some v

theorem FS.keeps (l : List Value) (mk : Value → Value) (B : List Nat) (base k : Nat) : ∀ (i : Nat) (v : Value) (w w' : World), FS l mk B base k i v w → Below w.heap.size w w' → FS l mk B base k i v w' := fun i v w w' h hb => by
  unfold FS at h ⊢
  split at h
  · obtain ⟨q, e, hs, hg⟩ := h; exact ⟨q, e, hs.below hb, hg⟩
  · obtain ⟨q, e, hs, hg⟩ := h; exact ⟨q, e, hs.below hb, hg⟩
  · obtain ⟨q, e, hr, hq⟩ := h; exact ⟨q, e, (hb.block q (Array.getElem?_eq_some_iff.1 hr).1).trans hr, hq⟩
  · exact h

theorem field_ou (b : Nat) (u : World) : (Instr.fieldAt 60 (.pointer (some ⟨b, 0, none⟩)) 2).run Try.prog u = .ok (.pointer (some ⟨b, 2, none⟩)) u ∧ (Instr.fieldAt 60 (.pointer (some ⟨b, 0, none⟩)) 3).run Try.prog u = .ok (.pointer (some ⟨b, 3, none⟩)) u := ⟨by kernel_rfl, by kernel_rfl⟩
theorem load_u16 {u : World} {p : Addr} {x : Int} (h : u.cell? p = some (.int .u16 x)) : (Instr.loadAt 24 (.pointer (some p))).run Try.prog u = .ok (.int .u16 x) u := by
  simp [Instr.loadAt, go_sem, h]

theorem dl9 {s : Nat} (h : s ∉ [32, 33, 34, 35, 36, 37, 38, 39, 9]) : ∀ j, j < 9 → [32, 33, 34, 35, 36, 37, 38, 39, 9].getD j 0 ≠ s := fun j hj e => h (by
  rw [← e, List.getD_eq_getElem?_getD, List.getElem?_eq_getElem (by exact hj)]
  exact List.getElem_mem _)

def zeroHdC : Array Value := #[.int .u8 0, .int .u16 0, .bool false, .bool false, .int .i64 0, .int .u8 0, .int .u8 0, .int .u32 0, .int .u32 0, .slice none 0 0]

theorem vxH_bytes (v : Nat) : ∀ x ∈ vxH v, x < 256 := fun x hx => by
  simp only [vxH, List.mem_cons, List.not_mem_nil, or_false] at hx
  omega

theorem sealT_any (o : Ou) (f : Tn.Fr) (vb : Value) (w : World) (ho : o.Ok) (hf : FrB f) (hvb : SeesB w vb f.B) :
    Calls Try.prog 18 #[.agg (ouCells o), .agg (frCells f vb)] w fun e w' => ∃ ao n cap, e = .returned (.tuple #[.slice ao n cap, .int .i64 (seE o f)]) ∧ SeesB w' (.slice ao n cap) (seL o f) ∧ Below w.heap.size w w' := by
  obtain ⟨ab, nb, capb, rfl, HNB, hnb1, hnb2⟩ := hvb.shape
  obtain ⟨oc, hoc⟩ : ∃ oc, oc = ouCells o := ⟨_, rfl⟩
  obtain ⟨fr, hfr⟩ : ∃ fr, fr = frCells f (.slice ab nb capb) := ⟨_, rfl⟩
  obtain ⟨wa, hwa⟩ : ∃ wa, wa = w.alloc (.cells oc 60) := ⟨_, rfl⟩
  obtain ⟨w1, hw1⟩ : ∃ w1, w1 = wa.alloc (.cells fr 41) := ⟨_, rfl⟩
  have hsa : wa.heap.size = w.heap.size + 1 := by rw [hwa]; simp
  have hs1 : w1.heap.size = w.heap.size + 2 := by rw [hw1]; simp [hsa]
  have hba : Below w.heap.size w wa := by rw [hwa]; exact (Below.refl _ _).alloc (Nat.le_refl _) _
  have hb1 : Below w.heap.size w w1 := by rw [hw1]; exact hba.alloc (by omega) _
  have hr0 : w1.heap[w.heap.size]? = some (.cells (ouCells o) 60 (0, 0)) := by rw [hw1, heap_alloc_old _ _ (by omega), hwa, ← hoc]; exact heap_alloc_new w _
  have hr1 : w1.heap[w.heap.size + 1]? = some (.cells fr 41 (0, 0)) := by rw [hw1, ← hsa]; exact heap_alloc_new wa _
  have HO : Hid (∀ u, Below w1.heap.size w1 u → u.cell? ⟨w.heap.size, 0, none⟩ = some (.int .u32 (o.src : Int)) ∧ u.cell? ⟨w.heap.size, 1, none⟩ = some (.int .u32 (o.dst : Int)) ∧ u.cell? ⟨w.heap.size, 2, none⟩ = some (.int .u16 (o.sp : Int)) ∧ u.cell? ⟨w.heap.size, 3, none⟩ = some (.int .u16 (o.dp : Int)) ∧ u.cell? ⟨w.heap.size, 4, none⟩ = some (.int .u8 (o.ttl : Int)) ∧ u.cell? ⟨w.heap.size, 5, none⟩ = some (.int .i64 o.vni)) := fun u hu => ou_at ((hu.block _ (by omega)).trans hr0)
  have HLF : Hid ((Instr.loadAt 41 (.pointer (some ⟨w.heap.size + 1, 0, none⟩))).run Try.prog w1 = .ok (.agg fr) w1) := load_rowAt hr1 Try.underlying41 rfl (by
    have : fr.size = 14 := by rw [hfr]; unfold frCells; simp only [List.size_toArray]; exact frc_len hf.ok.dst hf.ok.src _ _
    rw [this]; exact (show (Try.prog.info? 41).map (·.size) = some 14 from by kernel_rfl))
  obtain ⟨c0, c1, c2, c3, c4, c5⟩ := HO.out _ (Below.refl _ _)
  have HB1 := hid hb1
  have HS1 := hid hs1
  have HW1 : Hid (w1 = (w.alloc (.cells oc 60)).alloc (.cells fr 41)) := by unfold Hid; rw [hw1, hwa]
  have XF := hid (buildF_any f _ w1 hf (hvb.below hb1))
  rw [← hfr] at XF ⊢
  rw [← hoc]
  have hvlo := ho.vlo
  have hvhi := ho.vhi
  have HBY := hid hvb.bytes
  clear hwa hw1 hsa hs1 hba hb1 hr0 hr1 hoc hfr hvb
  by_cases hbad : o.vni < 0 ∨ 16777215 < o.vni
  · have HE : Hid (seE o f = 78 ∧ seL o f = []) := by unfold Hid seE seL; rw [if_pos hbad, if_pos hbad]; exact ⟨rfl, rfl⟩
    go_enter Try.func18, Try.ntmps18
    go_upto_region 1 with fail
    rw [← HW1.out]
    by_cases hneg : o.vni < 0
    · go_wp2_with fail
      refine bodyPost_ret (results_tmp2 Try.results18 _ _ _) rfl ?_
      rw [HE.out.1, HE.out.2]
      exact ⟨_, _, _, rfl, sees_nil _, HB1.out⟩
    · have hbig : 16777215 < o.vni := by omega
      go_wp2_with fail
      refine bodyPost_ret (results_tmp2 Try.results18 _ _ _) rfl ?_
      rw [HE.out.1, HE.out.2]
      exact ⟨_, _, _, rfl, sees_nil _, HB1.out⟩
  have hv0 : ¬ o.vni < 0 := by omega
  have hv1 : ¬ 16777215 < o.vni := by omega
  obtain ⟨vn, hvn⟩ : ∃ vn : Nat, o.vni = (vn : Int) := ⟨o.vni.toNat, by omega⟩
  have hvn24 : vn < 16777216 := by omega
  have hvt : o.vni.toNat = vn := by omega
  by_cases hfe : Tn.bfE f ≠ 0
  · have HE : Hid (seE o f = Tn.bfE f ∧ seL o f = []) := by unfold Hid seE seL; rw [if_neg hbad, if_neg hbad, if_pos hfe, if_pos hfe]; exact ⟨rfl, rfl⟩
    have q1 : (Tn.bfE f == 0) = false := by simp [hfe]
    have q2 : (Tn.bfE f != 0) = true := by simp [hfe]
    generalize Tn.bfE f = E at *
    clear hvn hvt
    go_enter Try.func18, Try.ntmps18
    go_upto_region 1 with fail
    rw [← HW1.out]
    go_wp2_with (first
      | (refine wpList_ld 41 ⟨w.heap.size + 1, 0, none⟩ _ rfl rfl HLF.out rfl ?_)
      | fail)
    refine XF.out.mono ?_
    rintro _ w2 ⟨a2, n2, k2, rfl, _, _, hb2⟩
    have HB2 := hid (HB1.out.trans (hb2.mono HB1.out.size))
    clear hb2
    go_wp2_with fail
    refine bodyPost_ret (results_tmp2 Try.results18 _ _ _) rfl ?_
    rw [HE.out.1, HE.out.2]
    exact ⟨_, _, _, rfl, sees_nil _, HB2.out⟩
  have hfe := Decidable.not_not.1 hfe
  have hlB : f.B.length ≤ 65485 := by
    unfold Tn.bfE at hfe
    split at hfe
    · cases hfe
    · omega
  have hfl : (Tn.frL f).length = 14 + f.B.length := Tn.frL_len hf.ok
  have hbl : Tn.bfL f = Tn.frL f := by unfold Tn.bfL; rw [if_pos hfe]
  have hdl : (odg o f).B.length = 22 + f.B.length := by show (vxH o.vni.toNat ++ Tn.frL f).length = _; rw [List.length_append, hfl]; show 8 + _ = _; omega
  have hbu : Tn.buE (odg o f) = 0 := by unfold Tn.buE; rw [if_neg (by omega)]
  have hbv : Tn.buL o.src o.dst (odg o f) false = Tn.builtU o.src o.dst (odg o f) false := by unfold Tn.buL; rw [if_neg (by omega)]
  have HE : Hid (seE o f = refE (ohd o) (Tn.builtU o.src o.dst (odg o f) false).length ∧ seL o f = builtL (ohd o) (Tn.builtU o.src o.dst (odg o f) false)) := by unfold Hid seE seL; rw [if_neg hbad, if_neg hbad, if_neg (by simp [hfe]), if_neg (by simp [hfe])]; exact ⟨rfl, rfl⟩
  have hul : (Tn.builtU o.src o.dst (odg o f) false).length = 30 + f.B.length := by unfold Tn.builtU; rw [Tn.udp_len, hdl]; omega
  obtain ⟨DG, hDG⟩ : ∃ DG, DG = odg o f := ⟨_, rfl⟩
  have hDok : DG.Ok := by rw [hDG]; exact ⟨ho.sp, ho.dp⟩
  have hDB : DG.B = vxH vn ++ Tn.frL f := by rw [hDG, ← hvt]; rfl
  have hDc : ∀ v, dgCells DG v = #[.int .u16 (o.sp : Int), .int .u16 (o.dp : Int), v] := fun v => by rw [hDG]; rfl
  rw [← hDG] at hbu hbv HE hul hdl
  obtain ⟨UL, hUL⟩ : ∃ UL, UL = Tn.builtU o.src o.dst DG false := ⟨_, rfl⟩
  rw [← hUL] at HE hbv hul
  have HBU : Hid (∀ (vb : Value) (u : World), SeesB u vb DG.B → Calls Try.prog 10 #[.int .u32 (o.src : Int), .int .u32 (o.dst : Int), .agg (dgCells DG vb), .bool false] u fun e w' => ∃ ao n cap, e = .returned (.tuple #[.slice ao n cap, .int .i64 0]) ∧ SeesB w' (.slice ao n cap) UL ∧ Below u.heap.size u w') := fun vb u hv => by
    refine (buildU_any DG vb o.src o.dst false u hDok hv ho.src ho.dst).mono ?_
    rintro e w' ⟨ao, n, cap, rfl, h1, _, h2⟩
    rw [hbv] at h1
    exact ⟨ao, n, cap, by rw [hbu], h1, h2⟩
  have HIB : Hid (∀ (vb : Value) (u : World), SeesB u vb UL → Calls Try.prog 15 #[.agg (pkCells (ohd o) (.slice none 0 0) vb)] u fun e w' => ∃ ao n cap, e = .returned (.tuple #[.slice ao n cap, .int .i64 (seE o f)]) ∧ SeesB w' (.slice ao n cap) (seL o f) ∧ Below u.heap.size u w') := fun vb u hv => by
    rw [HE.out.1, HE.out.2]
    exact build_code (ohd o) _ vb UL u (ohd_ok ho) (sees_nil _) hv (by simp [ohd]) (by rw [hul]; omega)
  have HHO := hid (fun u => headOf_any vn u hvn24)
  have HBYF : Hid (∀ y ∈ Tn.frL f, y < 256) := frL_bytes hf HBY.out
  have HDB := hid hDB
  have HDC := hid hDc
  have HFL := hid hfl
  have hnb : nb ≤ 65485 := by rw [HNB.out]; exact hlB
  rw [hfe, hbl] at XF
  have hvni := hvn
  rw [hvn] at hv0 hv1
  have HOV : Hid (∀ u, Below w1.heap.size w1 u → u.cell? ⟨w.heap.size, 5, none⟩ = some (.int .i64 (vn : Int))) := fun u hu => by rw [← hvni]; exact (HO.out u hu).2.2.2.2.2
  rw [hvn] at c5
  have hohd : ∀ vb, pkCells (ohd o) (.slice none 0 0) vb = #[.int .u8 0, .int .u16 0, .bool true, .bool false, .int .i64 0, .int .u8 (o.ttl : Int), .int .u8 17, .int .u32 (o.src : Int), .int .u32 (o.dst : Int), .slice none 0 0, vb] := fun vb => rfl
  have HOHD := hid hohd
  obtain ⟨SE, hSE⟩ : ∃ SE, SE = seE o f := ⟨_, rfl⟩
  obtain ⟨SL, hSL⟩ : ∃ SL, SL = seL o f := ⟨_, rfl⟩
  rw [← hSE, ← hSL] at HIB ⊢
  have hsp := ho.sp
  have hdp := ho.dp
  have htt := ho.ttl
  have hsr := ho.src
  have hds := ho.dst
  clear hbad hvn hvt hvni hfe hlB hbl hdl hbu hbv hul hDok hDB hDc hUL hDG HE hfl hohd hSE hSL ho hf
  go_enter Try.func18, Try.ntmps18
  go_upto_region 1 with fail
  rw [← HW1.out]
  go_wp2_with (first
    | (refine wpList_ld 41 ⟨w.heap.size + 1, 0, none⟩ _ rfl rfl HLF.out rfl ?_)
    | fail)
  refine XF.out.mono ?_
  rintro _ w2 ⟨a2, n2, k2, rfl, hs2, _, hb2⟩
  have HB2 := hid hb2
  have HS2 := hid hs2
  have d5 := HOV.out w2 hb2
  have X2 := hid (HHO.out w2)
  clear hb2 hs2 XF HLF c0 c1 c2 c3 c4 c5
  go_wp2_with fail
  refine X2.out.mono ?_
  rintro _ w3 ⟨rfl, hb3⟩
  obtain ⟨pa, hpa⟩ : ∃ pa, pa = (bs (vxH vn)).toArray := ⟨_, rfl⟩
  obtain ⟨p, hp⟩ : ∃ p, p = w3.heap.size := ⟨_, rfl⟩
  obtain ⟨w4, hw4⟩ : ∃ w4, w4 = (w3.alloc (.cells Z8 69)).setCells p 0 pa.toList := ⟨_, rfl⟩
  have hps : pa.size = 8 := by rw [hpa, bs_size]; rfl
  have HIP : Hid ((Try.prog.info? 69).map (·.size) = some pa.size) := by unfold Hid; rw [hps]; kernel_rfl
  have hrp : (w3.alloc (.cells Z8 69)).heap[p]? = some (.cells Z8 69 (0, 0)) := by rw [hp]; exact heap_alloc_new w3 _
  have HTP : Hid ((w3.alloc (.cells Z8 69)).there p 0 pa.size) := there_blk hrp (by rw [hps]; rfl)
  have HOP : Hid (pa.all (·.oneCell') = true) := by unfold Hid; rw [hpa]; exact bs_one _
  have hB4 : BlkT 69 w4 p (vxH vn) := by
    unfold BlkT
    rw [hw4, ← hpa]
    exact row_put hrp (by rw [hps]; rfl)
  have hb34 : Below w3.heap.size w3 w4 := by rw [hw4]; exact below_setCells' (by omega) _ _ _ ((Below.refl _ _).alloc (Nat.le_refl _) _)
  have hb24 := hb3.trans (hb34.mono hb3.size)
  have HB14 := hid (HB2.out.trans (hb24.mono HB2.out.size))
  have HS8 : Hid (SeesB w4 (.slice (some ⟨p, 0, none⟩) 8 8) (vxH vn)) := hB4.sees (vxH_bytes vn) 0 8 8 (Nat.le_refl 8) (Nat.le_refl _) (by unfold maxLen; omega)
  have HSF4 := hid (HS2.out.below hb24)
  have HW4 := hid hw4
  have HP := hid hp
  unfold Z8 at HW4 HTP
  rw [← hpa]
  clear hpa hp hw4 hps hrp hb3 hb34 hb24 hB4 X2 d5
  go_upto_region 7 with (first
    | (rw [← HP.out]; refine wpList_store_mid rfl 69 (.tmp 8) (.tmp 31) rfl p 0 pa rfl rfl HTP.out HIP.out HOP.out ?_; rw [← HW4.out])
    | fail)
  simp only [Act.put]
  obtain ⟨e0, e1, e2, e3, e4, e5⟩ := HO.out w4 HB14.out
  have hlt : w.heap.size < w4.heap.size := by have := HB14.out.size; have := HS1.out; omega
  have HLT := hid hlt
  obtain ⟨k, hk⟩ : ∃ k, k = 22 + nb := ⟨_, rfl⟩
  have HJ : Hid (∀ u, Below w4.heap.size w4 u → Calls Try.prog 26 #[.slice (some ⟨p, 0, none⟩) 8 8, .slice a2 n2 k2] u fun e w' => ∃ g, e = .returned (.slice (some ⟨g, 0, none⟩) k k) ∧ Blk w' g (vxH vn ++ Tn.frL f) ∧ u.heap.size ≤ g ∧ Below u.heap.size u w') := fun u hu => by
    have h8 : (vxH vn).length = 8 := rfl
    refine (join_any _ _ _ _ u (HS8.out.below hu) (HSF4.out.below hu) (by rw [h8, HFL.out, ← HNB.out]; omega)).mono ?_
    rintro e u' ⟨g, k', rfl, hk', hB, hg, hb⟩
    refine ⟨g, ?_, hB, hg, hb⟩
    rw [hk', List.length_append, h8, HFL.out, ← HNB.out, hk, show 8 + (14 + nb) = 22 + nb by omega]
  have HKL : Hid ((vxH vn ++ Tn.frL f).length = k) := by unfold Hid; rw [List.length_append, HFL.out, ← HNB.out, hk]; show 8 + _ = _; omega
  have HKN : Hid (k ≤ 65507) := by unfold Hid; omega
  obtain ⟨mk, hmk⟩ : ∃ mk : Value → Value, mk = fun v => .agg #[.int .u16 (o.sp : Int), .int .u16 (o.dp : Int), v] := ⟨_, rfl⟩
  have HMK := hid hmk
  clear hmk hk hlt
  go_cut [9] from 12 (fun pt wx => ∃ q g, pt = .pointer (some ⟨q, 0, none⟩) ∧ Hid (wx.heap[q]? = some (.cells #[.int .u16 (o.sp : Int), .int .u16 (o.dp : Int), .slice (some ⟨g, 0, none⟩) k k] 27 (0, 0)) ∧ SeesB wx (.slice (some ⟨g, 0, none⟩) k k) (vxH vn ++ Tn.frL f) ∧ Below w4.heap.size w4 wx))
  case first =>
    refine wp_region_mono' 9 (fun i => [32, 33, 34, 35, 36, 37, 38, 39, 9].getD i 0) (FS [.pointer (some ⟨w.heap.size, 2, none⟩), .int .u16 (o.sp : Int), .pointer (some ⟨w.heap.size, 3, none⟩), .int .u16 (o.dp : Int), .slice (some ⟨p, 0, none⟩) 8 8, .slice a2 n2 k2] mk (vxH vn ++ Tn.frL f) w4.heap.size k) (by kernel_rfl) (by kernel_rfl) (FS.keeps _ _ _ _ _) ?_ ?_
    · simp only [List.take_succ_cons, List.take_zero, stepsOk]
      refine ⟨?_, ?_, ?_, ?_, ?_, ?_, ?_, ?_, ?_, trivial⟩
      · intro a u vs hb hold hdep
        exact wp_stillF (ex_field _ ⟨w.heap.size, 0, none⟩ (.tmp 2) 2 _ rfl (hold 2 (dl9 (by decide))) (field_ou _ u).1) rfl rfl hb
      · intro a u vs hb hold hdep
        have h1 : a.eval (.tmp 32) = .pointer (some ⟨w.heap.size, 2, none⟩) := by have h0 := hdep ⟨0, .data⟩ (by simp) rfl (by decide); exact h0.1.trans (Option.some.inj h0.2).symm
        exact wp_stillF (ex_load _ ⟨w.heap.size, 2, none⟩ (.tmp 32) _ rfl h1 (load_u16 ((hb.cell (p := ⟨w.heap.size, 2, none⟩) HLT.out).trans e2))) rfl rfl hb
      · intro a u vs hb hold hdep
        exact wp_stillF (ex_field _ ⟨w.heap.size, 0, none⟩ (.tmp 2) 3 _ rfl (hold 2 (dl9 (by decide))) (field_ou _ u).2) rfl rfl hb
      · intro a u vs hb hold hdep
        have h1 : a.eval (.tmp 34) = .pointer (some ⟨w.heap.size, 3, none⟩) := by have h0 := hdep ⟨2, .data⟩ (by simp) rfl (by decide); exact h0.1.trans (Option.some.inj h0.2).symm
        exact wp_stillF (ex_load _ ⟨w.heap.size, 3, none⟩ (.tmp 34) _ rfl h1 (load_u16 ((hb.cell (p := ⟨w.heap.size, 3, none⟩) HLT.out).trans e3))) rfl rfl hb
      · intro a u vs hb hold hdep
        exact wp_stillF (ex_slice _ (.tmp 8) _ _ _ _ _ _ _ _ rfl (hold 8 (dl9 (by decide))) rfl rfl rfl (cut8 p u).2.1) rfl rfl hb
      · intro a u vs hb hold hdep
        exact wp_stillF (ex_move (.tmp 6) _ rfl (hold 6 (dl9 (by decide)))) rfl rfl hb
      · intro a u vs hb hold hdep
        have h1 : a.eval (.tmp 36) = .slice (some ⟨p, 0, none⟩) 8 8 := by have h0 := hdep ⟨4, .data⟩ (by simp) rfl (by decide); exact h0.1.trans (Option.some.inj h0.2).symm
        have h2 : a.eval (.tmp 37) = .slice a2 n2 k2 := by have h0 := hdep ⟨5, .data⟩ (by simp) rfl (by decide); exact h0.1.trans (Option.some.inj h0.2).symm
        refine wp_call 26 _ _ rfl (enters_of Try.func26 (by kernel_rfl) rfl) #[.slice (some ⟨p, 0, none⟩) 8 8, .slice a2 n2 k2] (by simp only [List.map_toArray, List.map_cons, List.map_nil, h1, h2]) ?_
        refine (HJ.out u hb).mono ?_
        rintro _ u' ⟨g, rfl, hB, hg, hb'⟩
        exact ⟨_, rfl, _, rfl, ⟨g, rfl, hB, Nat.le_trans hb.size hg⟩, hb.trans (hb'.mono hb.size), hb'⟩
      · intro a u vs hb hold hdep
        have h1 : a.eval (.tmp 33) = .int .u16 (o.sp : Int) := by have h0 := hdep ⟨1, .data⟩ (by simp) rfl (by decide); exact h0.1.trans (Option.some.inj h0.2).symm
        have h2 : a.eval (.tmp 35) = .int .u16 (o.dp : Int) := by have h0 := hdep ⟨3, .data⟩ (by simp) rfl (by decide); exact h0.1.trans (Option.some.inj h0.2).symm
        obtain ⟨q1, g, q2, q3, q4⟩ := hdep ⟨6, .data⟩ (by simp) rfl (by decide)
        have h3 : a.eval (.tmp 38) = .slice (some ⟨g, 0, none⟩) k k := q1.trans q2
        refine wp_stillF (ex_build _ _ #[(0, .int .u16 (o.sp : Int)), (1, .int .u16 (o.dp : Int)), (2, .slice (some ⟨g, 0, none⟩) k k)] (mk (.slice (some ⟨g, 0, none⟩) k k)) rfl (by simp only [List.map_toArray, List.map_cons, List.map_nil, h1, h2, h3]) ?_) rfl ⟨g, rfl, q3, q4⟩ hb
        rw [HMK.out]
        exact build_dg _ _ _ _ _ u
      · intro a u vs hb hold hdep
        have hbA : Below u.heap.size u (u.alloc (.cells zeroD 27)) := (Below.refl _ _).alloc (Nat.le_refl _) _
        exact wp_val (ex_alloc _ _ rfl (alloc_dg u)) ⟨_, rfl, ⟨u.heap.size, rfl, heap_alloc_new u _, hb.size⟩, hb.trans (hbA.mono hb.size), hbA⟩
    intro vs u hb hF
    obtain ⟨g, e7, hBg, hg⟩ := hF 7 (by decide)
    obtain ⟨q, e8, hrq, hq⟩ := hF 8 (by decide)
    obtain ⟨yy, hyy⟩ : ∃ yy : Array Value, yy = #[.int .u16 (o.sp : Int), .int .u16 (o.dp : Int), .slice (some ⟨g, 0, none⟩) k k] := ⟨_, rfl⟩
    have e7' : vs 7 = .agg yy := by rw [e7, HMK.out, hyy]
    have e8' : vs 8 = .pointer (some ⟨q, 0, none⟩) := e8
    have hys : yy.size = 3 := by rw [hyy]; rfl
    have HYI : Hid ((Try.prog.info? 27).map (·.size) = some yy.size) := by unfold Hid; rw [hys]; kernel_rfl
    have HYO : Hid (yy.all (·.oneCell') = true) := by unfold Hid; rw [hyy]; simp [Value.oneCell']
    have HTQ : Hid (u.there q 0 yy.size) := there_blk hrq (by rw [hys]; rfl)
    have hr9 : (u.setCells q 0 yy.toList).heap[q]? = some (.cells yy 27 (0, 0)) := row_put hrq (by rw [hys]; rfl)
    have hb9 : Below w4.heap.size w4 (u.setCells q 0 yy.toList) := below_setCells' hq _ _ _ hb
    have hne : g ≠ q := fun e => by
      subst e
      unfold Blk at hBg
      rw [hrq] at hBg
      simp at hBg
    have hsg : SeesB u (.slice (some ⟨g, 0, none⟩) k k) (vxH vn ++ Tn.frL f) := by
      have h0 := hBg.sees (fun x hx => (List.mem_append.1 hx).elim (vxH_bytes vn x) (HBYF.out x)) 0 k k (by rw [HKL.out]; omega) (Nat.le_refl _) (by have := HKN.out; unfold maxLen; omega)
      rw [List.drop_zero, List.take_of_length_le (by rw [HKL.out]; exact Nat.le_refl _)] at h0
      exact h0
    have hB9 : SeesB (u.setCells q 0 yy.toList) (.slice (some ⟨g, 0, none⟩) k k) (vxH vn ++ Tn.frL f) := sees_set' hsg (fun a ha => by cases ha; exact hne)
    have HEND : Hid ((u.setCells q 0 yy.toList).heap[q]? = some (.cells #[.int .u16 (o.sp : Int), .int .u16 (o.dp : Int), .slice (some ⟨g, 0, none⟩) k k] 27 (0, 0)) ∧ SeesB (u.setCells q 0 yy.toList) (.slice (some ⟨g, 0, none⟩) k k) (vxH vn ++ Tn.frL f) ∧ Below w4.heap.size w4 (u.setCells q 0 yy.toList)) := ⟨by rw [← hyy]; exact hr9, hB9, hb9⟩
    generalize vs 0 = y0
    generalize vs 1 = y1
    generalize vs 2 = y2
    generalize vs 3 = y3
    generalize vs 4 = y4
    generalize vs 5 = y5
    generalize vs 6 = y6
    simp only [List.drop_succ_cons, List.drop_zero, puts, List.range, List.range.loop, List.foldr, if_true, Act.put, e7', e8', List.getD_cons_zero, List.getD_cons_succ, List.setIfInBounds_toArray, List.set_cons_succ, List.set_cons_zero]
    clear e7 e7' e8 e8' hyy hF hBg hrq hr9 hb9 hB9 hsg hne hys
    go_wp2_with (first
      | (refine wpList_store_mid rfl 27 (.tmp 9) (.tmp 39) rfl q 0 yy rfl rfl HTQ.out HYI.out HYO.out ?_)
      | fail)
    go_meet
    case rel => exact ⟨q, g, rfl, HEND.out⟩
  case rest =>
  obtain ⟨q, g, rfl, HC⟩ := hcut
  obtain ⟨w5, hw5⟩ : ∃ w5, w5 = wc := ⟨_, rfl⟩
  rw [← hw5] at HC ⊢
  obtain ⟨hrq, hsg, hbc⟩ := HC.out
  have HB15 := hid (HB14.out.trans (hbc.mono HB14.out.size))
  obtain ⟨f0, f1, f2, f3, f4, f5⟩ := HO.out w5 HB15.out
  have HLD : Hid ((Instr.loadAt 27 (.pointer (some ⟨q, 0, none⟩))).run Try.prog w5 = .ok (.agg (dgCells DG (.slice (some ⟨g, 0, none⟩) k k))) w5) := by
    unfold Hid
    rw [HDC.out]
    exact load_rowAt hrq Try.underlying27 rfl (by kernel_rfl)
  have XU := hid (HBU.out (.slice (some ⟨g, 0, none⟩) k k) w5 (by rw [HDB.out]; exact hsg))
  obtain ⟨dgc, hdgc⟩ : ∃ dgc, dgc = dgCells DG (.slice (some ⟨g, 0, none⟩) k k) := ⟨_, rfl⟩
  rw [← hdgc] at HLD XU
  clear hw5 hrq hsg hbc HC hdgc e0 e1 e2 e3 e4 e5 HBU HJ HMK HKL HKN HDC HDB
  go_wp2_with (first
    | (refine wpList_ld 27 ⟨q, 0, none⟩ _ rfl rfl HLD.out rfl ?_)
    | fail)
  refine XU.out.mono ?_
  rintro _ w6 ⟨a6, n6, k6, rfl, hs6, hb6⟩
  have HB16 := hid (HB15.out.trans (hb6.mono HB15.out.size))
  obtain ⟨i0, i1, i2, i3, i4, i5⟩ := HO.out w6 HB16.out
  have HS6 := hid hs6
  clear hs6 hb6 XU HLD f0 f1 f2 f3 f4 f5
  obtain ⟨w7, hw7⟩ : ∃ w7, w7 = w6.alloc (.cells #[.int .u8 0, .int .u16 0, .bool true, .bool false, .int .i64 0, .int .u8 (o.ttl : Int), .int .u8 17, .int .u32 (o.src : Int), .int .u32 (o.dst : Int), .slice none 0 0] 50) := ⟨_, rfl⟩
  have hb67 : Below w6.heap.size w6 w7 := by rw [hw7]; exact (Below.refl _ _).alloc (Nat.le_refl _) _
  have HB17 := hid (HB16.out.trans (hb67.mono HB16.out.size))
  have X7 := hid (HIB.out (.slice a6 n6 k6) w7 (HS6.out.below hb67))
  rw [HOHD.out] at X7
  have HW7 := hid hw7
  clear hw7 hb67
  go_wp2_with fail
  rw [← HW7.out]
  refine X7.out.mono ?_
  rintro _ w8 ⟨a8, n8, k8, rfl, hs8, hb8⟩
  have HS9 := hid hs8
  have HB18 := hid (HB17.out.trans (hb8.mono HB17.out.size))
  clear hs8 hb8 X7
  go_wp2_with fail
  refine bodyPost_ret (results_tmp2 Try.results18 _ _ _) rfl ?_
  exact ⟨_, _, _, rfl, HS9.out, HB1.out.trans (HB18.out.mono HB1.out.size)⟩

end Go.Proofs.Ytcelcnafcfefhaa.N

/-
  tunnel.readHead.
-/
namespace Go.Proofs.Ytcelcnafcfefhaa.N
open Go.ChangeShapes Go.WideShapes Go.ChangeAt Go.RowKit
set_option maxHeartbeats 8000000
set_option maxRecDepth 100000

def rhE (L : List Nat) : Int := if L.length < 8 then 76 else if byt L 0 / 8 % 2 = 0 then 77 else 0
def rhV (L : List Nat) : Nat := if rhE L = 0 then (byt L 4 * 256 + byt L 5) * 256 + byt L 6 else 0
def rhB (L : List Nat) : List Nat := if rhE L = 0 then L.drop 8 else []

theorem and_8 (f : Nat) (hf : f < 256) : (bits .and .u8 (f : Int) 8 == 0) = decide (f / 8 % 2 = 0) := by
  have h := u8_and_nat f 8 hf (by decide)
  have h2 : f &&& 8 = 8 * (f / 8 % 2) := and_bit f 3
  rw [h2] at h
  rw [show (8 : Int) = ((8 : Nat) : Int) from rfl, h]
  by_cases hz : f / 8 % 2 = 0
  · rw [hz]; rfl
  · have h1 : f / 8 % 2 = 1 := by omega
    rw [h1]; rfl

theorem ex_convH {P : Program} {o : Oper} {a : Act} {w : World} (S D : TypeId) (x : Operand) (s v : Value) (ho : o.op = .convert S D x) (hx : a.eval x = s) (hr : (convert S D s).run P w = .ok v w) : (execOp a.eval o).run P w = .ok (.value v) w := by
  unfold execOp
  simp only [ho, hx, Sem.run_bind, hr, Result.andThen_ok, Sem.run_pure]

theorem conv32i (x : Nat) (hx : x < 4294967296) (u : World) : (convert 22 3 (.int .u32 (x : Int))).run Try.prog u = .ok (.int .i64 (x : Int)) u := by
  have h1 : Try.prog.underlying 3 = some (.int .i64) := by kernel_rfl
  have h2 : Try.prog.underlying 22 = some (.int .u32) := by kernel_rfl
  simp [convert, run_underlying h1, run_underlying h2, go_sem]
  simp only [IntKind.wrap, IntKind.bits, IntKind.signed]
  first | omega | (simp; omega)

/-- What a drawn statement's operations give: values that hang on nothing. -/
def FC (l : List Value) : Nat → (Nat → Value) → World → Prop := fun i vs _ => l[i]? = some (vs i)
theorem FC.keeps (l : List Value) (ops : List Oper) (I : World → Prop) (R : Nat → World → World → Prop) : ∀ (i j : Nat) (o : Oper) (vs : Nat → Value) (v : Value) (w w' : World), i ≠ j → ops[i]? = some o → (∀ e ∈ o.after, Region.binds .any e = true → e.on ≠ j) → FC l i vs w → I w → R j w w' → FC l i (upd vs j v) w' := fun i j _ vs v _ _ hij _ _ h _ _ => by
  unfold FC at h ⊢
  rw [upd_ne v hij]
  exact h
theorem wp_stillC {P : Program} {o : Oper} {a : Act} {W w : World} {Q : Exit → Act → World → Prop} {l : List Value} {vs : Nat → Value} {i : Nat} {d : Option Tmp} {v : Value} (hr : (execOp a.eval o).run P w = .ok (.value v) w) (ht : o.dst = d) (hv : l[i]? = some v) (hW : Below W.heap.size W w) :
    o.wp P a w (fun a' w' => ∃ v', a' = a.put d v' ∧ FC l i (upd vs i v') w' ∧ Below W.heap.size W w' ∧ Below w.heap.size w w') Q :=
  wp_val hr (by rw [ht]; exact ⟨v, rfl, by unfold FC; rw [upd_eq]; exact hv, hW, Below.refl _ _⟩)
def dstH (i : Nat) : Option Tmp := [some 15, some 16, some 17, some 18, some 19, some 20, some 2, some 3, some 4].getD i none
theorem dlH {s : Nat} (h : some s ∉ [some 15, some 16, some 17, some 18, some 19, some 20, some 2, some 3, some 4]) : ∀ j, j < 9 → dstH j ≠ some s := fun j hj e => h (by
  unfold dstH at e
  rw [← e, List.getD_eq_getElem?_getD, List.getElem?_eq_getElem (by exact hj)]
  exact List.getElem_mem _)

theorem readHead_any (v : Value) (L : List Nat) (w : World) (hv : SeesB w v L) :
    Calls Try.prog 50 #[v] w fun e w' => ∃ ao n cap, e = .returned (.tuple #[.int .i64 (rhV L : Int), .slice ao n cap, .int .i64 (rhE L)]) ∧ SeesB w' (.slice ao n cap) (rhB L) ∧ Below w.heap.size w w' := by
  obtain ⟨ao, n, cap, rfl, HN, hn1, hn2⟩ := hv.shape
  unfold maxLen at hn2
  have HV := hid hv
  have HBY := hid hv.bytes
  by_cases hA : n < 8
  · have he : rhE L = 76 := by unfold rhE; rw [if_pos (by have := HN.out; omega)]
    have HE : Hid (rhE L = 76 ∧ rhV L = 0 ∧ rhB L = []) := ⟨he, by unfold rhV; rw [he]; rfl, by unfold rhB; rw [he]; rfl⟩
    have hA' : (n : Int) < 8 := by omega
    clear he hv
    go_enter Try.func50, Try.ntmps50
    go_wp2_with fail
    refine bodyPost_ret (v := .tuple #[.int .i64 0, .slice none 0 0, .int .i64 76]) (by simp [results, Try.results50]) rfl ?_
    rw [HE.out.1, HE.out.2.1, HE.out.2.2]
    exact ⟨_, _, _, rfl, sees_nil _, Below.refl _ _⟩
  have hA' : ¬ (n : Int) < 8 := by omega
  have hb0 := byt_lt HBY.out 0
  obtain ⟨g, off, hao, hg, c0⟩ := HV.out.atB 0 (by omega)
  have q0 := and_8 (byt L 0) hb0
  obtain ⟨a4, HS4, k4⟩ := HV.out.mid 4 7 4 7 rfl rfl (by omega) (by omega)
  obtain ⟨a8, HS8, k8⟩ := HV.out.low 8 8 rfl (by omega)
  have XR := hid (tread24_any _ _ w HS4.out (by rw [List.length_drop, List.length_take, ← HN.out]; omega))
  rw [byt_mid (by omega), byt_mid (by omega), byt_mid (by omega)] at XR
  subst hao
  rw [Nat.add_zero] at c0
  by_cases hz : byt L 0 / 8 % 2 = 0
  · have he : rhE L = 77 := by unfold rhE; rw [if_neg (by have := HN.out; omega), if_pos hz]
    have HE : Hid (rhE L = 77 ∧ rhV L = 0 ∧ rhB L = []) := ⟨he, by unfold rhV; rw [he]; rfl, by unfold rhB; rw [he]; rfl⟩
    rw [decide_eq_true hz] at q0
    generalize byt L 0 = b0 at *
    clear he hv hz XR
    go_enter Try.func50, Try.ntmps50
    go_wp2_with fail
    refine bodyPost_ret (v := .tuple #[.int .i64 0, .slice none 0 0, .int .i64 77]) (by simp [results, Try.results50]) rfl ?_
    rw [HE.out.1, HE.out.2.1, HE.out.2.2]
    exact ⟨_, _, _, rfl, sees_nil _, Below.refl _ _⟩
  have he : rhE L = 0 := by unfold rhE; rw [if_neg (by have := HN.out; omega), if_neg hz]
  have HE : Hid (rhE L = 0 ∧ rhV L = (byt L 4 * 256 + byt L 5) * 256 + byt L 6 ∧ rhB L = L.drop 8) := ⟨he, by unfold rhV; rw [if_pos he], by unfold rhB; rw [if_pos he]⟩
  rw [decide_eq_false hz] at q0
  have hlt : (byt L 4 * 256 + byt L 5) * 256 + byt L 6 < 16777216 := by
    have h4 := byt_lt HBY.out 4
    have h5 := byt_lt HBY.out 5
    have h6 := byt_lt HBY.out 6
    omega
  obtain ⟨V, hV⟩ : ∃ V, V = (byt L 4 * 256 + byt L 5) * 256 + byt L 6 := ⟨_, rfl⟩
  have XR2 : Hid (∀ u, Below w.heap.size w u → Calls Try.prog 74 #[.slice a4 3 (cap - 4)] u fun e w' => e = .returned (.int .u32 (V : Int)) ∧ w' = u) := fun u hu => by
    have h := tread24_any _ _ u (HS4.out.below hu) (by rw [List.length_drop, List.length_take, ← HN.out]; omega)
    rw [byt_mid (by omega), byt_mid (by omega), byt_mid (by omega)] at h
    rw [hV]
    exact h
  rw [← hV] at HE hlt
  generalize byt L 0 = b0 at *
  clear he hv hz hV XR HS4
  go_enter Try.func50, Try.ntmps50
  go_wp2_with fail
  obtain ⟨vb, hvb⟩ : ∃ vb : Value, vb = .slice (some ⟨g, off, none⟩) n cap := ⟨_, rfl⟩
  rw [← hvb]
  refine wp_region_all' 9 dstH (FC [vb, .slice a4 3 (cap - 4), .int .u32 (V : Int), .int .i64 (V : Int), vb, .slice a8 (n - 8) (cap - 8), .int .i64 (V : Int), .slice a8 (n - 8) (cap - 8), .int .i64 0]) (fun u => Below w.heap.size w u) (fun _ u u' => Below u.heap.size u u') (by kernel_rfl) (by kernel_rfl) ⟨rfl, rfl, rfl, Nat.le_refl _, fun _ _ => rfl⟩ (FC.keeps _ _ _ _) ?_ ?_
  · simp only [stepsAll]
    refine ⟨?_, ?_, ?_, ?_, ?_, ?_, ?_, ?_, ?_, trivial⟩
    · intro a u vs hb hold hdep
      exact wp_stillC (ex_move (.tmp 0) _ rfl (hold 0 (dlH (by decide)))) rfl rfl hb
    · intro a u vs hb hold hdep
      have e0 : a.eval (.tmp 15) = vb := by have h0 := hdep ⟨0, .data⟩ (by simp) rfl; exact (h0.2 15 rfl).trans (Option.some.inj h0.1).symm
      exact wp_stillC (ex_slice _ (.tmp 15) _ _ _ _ _ (some (.int .i64 4)) (some (.int .i64 7)) none rfl (e0.trans hvb) rfl rfl rfl (k4 u)) rfl rfl hb
    · intro a u vs hb hold hdep
      have e0 : a.eval (.tmp 16) = .slice a4 3 (cap - 4) := by have h0 := hdep ⟨1, .data⟩ (by simp) rfl; exact (h0.2 16 rfl).trans (Option.some.inj h0.1).symm
      refine wp_call 74 _ _ rfl (enters_of Try.func74 (by kernel_rfl) rfl) #[.slice a4 3 (cap - 4)] (by simp only [List.map_toArray, List.map_cons, List.map_nil, e0]) ?_
      refine (XR2.out u hb).mono ?_
      rintro _ u' ⟨rfl, rfl⟩
      exact ⟨_, rfl, _, rfl, (by unfold FC; rw [upd_eq]; rfl), hb, Below.refl _ _⟩
    · intro a u vs hb hold hdep
      have e0 : a.eval (.tmp 17) = .int .u32 (V : Int) := by have h0 := hdep ⟨2, .data⟩ (by simp) rfl; exact (h0.2 17 rfl).trans (Option.some.inj h0.1).symm
      exact wp_stillC (ex_convH _ _ _ _ _ rfl e0 (conv32i V (by omega) u)) rfl rfl hb
    · intro a u vs hb hold hdep
      exact wp_stillC (ex_move (.tmp 0) _ rfl (hold 0 (dlH (by decide)))) rfl rfl hb
    · intro a u vs hb hold hdep
      have e0 : a.eval (.tmp 19) = vb := by have h0 := hdep ⟨4, .data⟩ (by simp) rfl; exact (h0.2 19 rfl).trans (Option.some.inj h0.1).symm
      exact wp_stillC (ex_slice _ (.tmp 19) _ _ _ _ _ (some (.int .i64 8)) none none rfl (e0.trans hvb) rfl rfl rfl (k8 u)) rfl rfl hb
    · intro a u vs hb hold hdep
      have e0 : a.eval (.tmp 18) = .int .i64 (V : Int) := by have h0 := hdep ⟨3, .data⟩ (by simp) rfl; exact (h0.2 18 rfl).trans (Option.some.inj h0.1).symm
      exact wp_stillC (ex_assign (.tmp 18) _ rfl e0) rfl rfl hb
    · intro a u vs hb hold hdep
      have e0 : a.eval (.tmp 20) = .slice a8 (n - 8) (cap - 8) := by have h0 := hdep ⟨5, .data⟩ (by simp) rfl; exact (h0.2 20 rfl).trans (Option.some.inj h0.1).symm
      exact wp_stillC (ex_assign (.tmp 20) _ rfl e0) rfl rfl hb
    · intro a u vs hb hold hdep
      exact wp_stillC (ex_assign (.const (.int .i64 0)) _ rfl rfl) rfl rfl hb
  intro vs u hb hF
  have e6 : vs 6 = .int .i64 (V : Int) := (Option.some.inj (hF 6 (by decide))).symm
  have e7 : vs 7 = .slice a8 (n - 8) (cap - 8) := (Option.some.inj (hF 7 (by decide))).symm
  have e8 : vs 8 = .int .i64 0 := (Option.some.inj (hF 8 (by decide))).symm
  have HB := hid hb
  clear hF hb
  generalize vs 0 = y0
  generalize vs 1 = y1
  generalize vs 2 = y2
  generalize vs 3 = y3
  generalize vs 4 = y4
  generalize vs 5 = y5
  simp only [putsO, List.range, List.range.loop, List.foldr, if_true, dstH, List.getD_cons_zero, List.getD_cons_succ, Act.put, e6, e7, e8, List.setIfInBounds_toArray, List.set_cons_succ, List.set_cons_zero]
  go_wp2_with fail
  refine bodyPost_ret (v := .tuple #[.int .i64 (V : Int), .slice a8 (n - 8) (cap - 8), .int .i64 0]) (by simp [results, Try.results50]) rfl ?_
  rw [HE.out.1, HE.out.2.1, HE.out.2.2]
  exact ⟨_, _, _, rfl, HS8.out.below HB.out, HB.out⟩
end Go.Proofs.Ytcelcnafcfefhaa.N

/-
  tunnel.carried.
-/
namespace Go.Proofs.Ytcelcnafcfefhaa.N
open Go.ChangeShapes Go.WideShapes Go.ChangeAt Go.RowKit
set_option maxHeartbeats 8000000
set_option maxRecDepth 100000

def caE (L : List Nat) : Int := if (parsed L).2.2 ≠ 0 then (parsed L).2.2 else if (parsed L).1.mf = true ∨ (parsed L).1.off ≠ 0 then 75 else if (parsed L).1.proto ≠ 17 then 74 else Tn.puE (parsed L).1.src (parsed L).1.dst (parsed L).2.1
def caD (L : List Nat) : Tn.Dg := Tn.puD (parsed L).1.src (parsed L).1.dst (parsed L).2.1

/-- Two results in cells. -/
theorem cells_end {w1 u : World} {r : Nat} {hc dc : Array Value} (hr2 : w1.heap[r]? = some (.cells zeroHdC 50 (0, 0))) (hr3 : w1.heap[r + 1]? = some (.cells zeroD 27 (0, 0))) (hb : Below w1.heap.size w1 u) (hh : hc.size = 10) (hd : dc.size = 3) :
    u.there r 0 hc.size ∧ (u.setCells r 0 hc.toList).there (r + 1) 0 dc.size ∧ (loadVar 50 ⟨r, 0, none⟩).run Try.prog ((u.setCells r 0 hc.toList).setCells (r + 1) 0 dc.toList) = .ok (.agg hc) ((u.setCells r 0 hc.toList).setCells (r + 1) 0 dc.toList) ∧ (loadVar 27 ⟨r + 1, 0, none⟩).run Try.prog ((u.setCells r 0 hc.toList).setCells (r + 1) 0 dc.toList) = .ok (.agg dc) ((u.setCells r 0 hc.toList).setCells (r + 1) 0 dc.toList) := by
  have l2 := (Array.getElem?_eq_some_iff.1 hr2).1
  have l3 := (Array.getElem?_eq_some_iff.1 hr3).1
  have h2 := (hb.block r l2).trans hr2
  have h3 := (hb.block (r + 1) l3).trans hr3
  have hsz := hb.size
  have b1 : But r u (u.setCells r 0 hc.toList) := But.setsT _ _
  have g2 : (u.setCells r 0 hc.toList).heap[r]? = some (.cells hc 50 (0, 0)) := row_put h2 (by rw [hh]; rfl)
  have g3 := (b1.block (r + 1) (by omega) (by omega)).trans h3
  have b2 : But (r + 1) (u.setCells r 0 hc.toList) ((u.setCells r 0 hc.toList).setCells (r + 1) 0 dc.toList) := But.setsT _ _
  have k3 : ((u.setCells r 0 hc.toList).setCells (r + 1) 0 dc.toList).heap[r + 1]? = some (.cells dc 27 (0, 0)) := row_put g3 (by rw [hd]; rfl)
  have k2 := (b2.block r (Array.getElem?_eq_some_iff.1 g2).1 (by omega)).trans g2
  exact ⟨there_blk h2 (by rw [hh]; rfl), there_blk g3 (by rw [hd]; rfl), load_row k2 Try.underlying50 rfl (by rw [hh]; kernel_rfl), load_row k3 Try.underlying27 rfl (by rw [hd]; kernel_rfl)⟩

/-- What holds all along the statement that lays the results down. -/
structure IK (p q r : Nat) (pk dc : Array Value) (v : Option Addr × Nat × Nat) (B : List Nat) (w u : World) : Prop where
  pk : u.heap[p]? = some (.cells pk 52 (0, 0))
  dg : u.heap[q]? = some (.cells dc 27 (0, 0))
  hd : ∃ C, u.heap[r]? = some (.cells C 50 (0, 0)) ∧ C.size = 10
  dt : ∃ C, u.heap[r + 1]? = some (.cells C 27 (0, 0)) ∧ C.size = 3
  sees : SeesB u (.slice v.1 v.2.1 v.2.2) B
  below : Below w.heap.size w u

def RK (r j : Nat) (w w' : World) : Prop := if j = 4 then But r w w' else if j = 5 then But (r + 1) w w' else w'.heap = w.heap
def FK (l : List Value) (r : Nat) (hc dc : Array Value) : Nat → (Nat → Value) → World → Prop
  | 4, _, w => w.heap[r]? = some (.cells hc 50 (0, 0))
  | 5, _, w => w.heap[r + 1]? = some (.cells dc 27 (0, 0))
  | i, vs, _ => l[i]? = some (vs i)
theorem RK.at {r j k : Nat} {w w' : World} {o : Obj} (h : RK r j w w') (hk : w.heap[k]? = some o) (h4 : j = 4 → k ≠ r) (h5 : j = 5 → k ≠ r + 1) : w'.heap[k]? = some o := by
  unfold RK at h
  split at h
  · rename_i hj; exact (h.block k (Array.getElem?_eq_some_iff.1 hk).1 (h4 hj)).trans hk
  · split at h
    · rename_i hj; exact (h.block k (Array.getElem?_eq_some_iff.1 hk).1 (h5 hj)).trans hk
    · rw [h]; exact hk
theorem FK.keeps (l : List Value) (r : Nat) (hc dc : Array Value) (ops : List Oper) (I : World → Prop) : ∀ (i j : Nat) (o : Oper) (vs : Nat → Value) (v : Value) (w w' : World), i ≠ j → ops[i]? = some o → (∀ e ∈ o.after, Region.binds .any e = true → e.on ≠ j) → FK l r hc dc i vs w → I w → RK r j w w' → FK l r hc dc i (upd vs j v) w' := fun i j o vs v w w' hij _ _ h _ hr => by
  unfold FK at h ⊢
  split at h
  · exact hr.at h (fun hj => absurd hj.symm hij) (fun _ => by omega)
  · exact hr.at h (fun _ => by omega) (fun hj => absurd hj.symm hij)
  · rw [upd_ne v hij]; exact h
theorem wp_stillI {P : Program} {o : Oper} {a : Act} {w : World} {Q : Exit → Act → World → Prop} {F : Nat → (Nat → Value) → World → Prop} {I : World → Prop} {r : Nat} {vs : Nat → Value} {i : Nat} {d : Option Tmp} {v : Value} (hr : (execOp a.eval o).run P w = .ok (.value v) w) (ht : o.dst = d) (hv : F i (upd vs i v) w) (hI : I w) (hR : RK r i w w) :
    o.wp P a w (fun a' w' => ∃ v', a' = a.put d v' ∧ F i (upd vs i v') w' ∧ I w' ∧ RK r i w w') Q :=
  wp_val hr (by rw [ht]; exact ⟨v, rfl, hv, hI, hR⟩)
def dstK (i : Nat) : Option Tmp := [some 50, some 51, some 52, some 53, none, none, some 4].getD i none
theorem dlK {s : Nat} (h : some s ∉ [some 50, some 51, some 52, some 53, none, none, some 4]) : ∀ j, j < 7 → dstK j ≠ some s := fun j hj e => h (by
  unfold dstK at e
  rw [← e, List.getD_eq_getElem?_getD, List.getElem?_eq_getElem (by exact hj)]
  exact List.getElem_mem _)
theorem field_pk0 (b : Nat) (u : World) : (Instr.fieldAt 52 (.pointer (some ⟨b, 0, none⟩)) 0).run Try.prog u = .ok (.pointer (some ⟨b, 0, none⟩)) u := by kernel_rfl
theorem IK.store1 {p q r : Nat} {pk dc hc : Array Value} {v : Option Addr × Nat × Nat} {B : List Nat} {w u : World} (h : IK p q r pk dc v B w u) (hp : p ≠ r) (hq : q ≠ r) (hv : ∀ a, v.1 = some a → a.block ≠ r) (hr : w.heap.size ≤ r) (hc10 : hc.size = 10) : (u.setCells r 0 hc.toList).heap[r]? = some (.cells hc 50 (0, 0)) ∧ IK p q r pk dc v B w (u.setCells r 0 hc.toList) := by
  obtain ⟨C, h1, h2⟩ := h.hd
  obtain ⟨C3, h3, h4⟩ := h.dt
  have b : But r u (u.setCells r 0 hc.toList) := But.setsT _ _
  have g : (u.setCells r 0 hc.toList).heap[r]? = some (.cells hc 50 (0, 0)) := row_put h1 (by rw [hc10, h2])
  exact ⟨g, ⟨(b.block p (Array.getElem?_eq_some_iff.1 h.pk).1 hp).trans h.pk, (b.block q (Array.getElem?_eq_some_iff.1 h.dg).1 hq).trans h.dg, ⟨hc, g, hc10⟩, ⟨C3, (b.block (r + 1) (Array.getElem?_eq_some_iff.1 h3).1 (by omega)).trans h3, h4⟩, sees_set' h.sees hv, below_setCells' hr _ _ _ h.below⟩⟩
theorem IK.store2 {p q r : Nat} {pk dc : Array Value} {v : Option Addr × Nat × Nat} {B : List Nat} {w u : World} (h : IK p q r pk dc v B w u) (hp : p ≠ r + 1) (hq : q ≠ r + 1) (hv : ∀ a, v.1 = some a → a.block ≠ r + 1) (hr : w.heap.size ≤ r) (hd3 : dc.size = 3) : (u.setCells (r + 1) 0 dc.toList).heap[r + 1]? = some (.cells dc 27 (0, 0)) ∧ IK p q r pk dc v B w (u.setCells (r + 1) 0 dc.toList) := by
  obtain ⟨C, h1, h2⟩ := h.hd
  obtain ⟨C3, h3, h4⟩ := h.dt
  have b : But (r + 1) u (u.setCells (r + 1) 0 dc.toList) := But.setsT _ _
  have g : (u.setCells (r + 1) 0 dc.toList).heap[r + 1]? = some (.cells dc 27 (0, 0)) := row_put h3 (by rw [hd3, h4])
  exact ⟨g, ⟨(b.block p (Array.getElem?_eq_some_iff.1 h.pk).1 hp).trans h.pk, (b.block q (Array.getElem?_eq_some_iff.1 h.dg).1 hq).trans h.dg, ⟨C, (b.block r (Array.getElem?_eq_some_iff.1 h1).1 (by omega)).trans h1, h2⟩, ⟨dc, g, hd3⟩, sees_set' h.sees hv, below_setCells' (by omega) _ _ _ h.below⟩⟩

theorem carried_any (v : Value) (L : List Nat) (w : World) (hv : SeesB w v L) (hl : L.length ≤ 140737488355328) :
    Calls Try.prog 49 #[v] w fun e w' => ∃ (h : Hd) (ao : Option Addr) (no co : Nat) (D : Tn.Dg) (a : Option Addr) (n c : Nat), e = .returned (.tuple #[.agg (hdCells h (.slice ao no co)), .agg (dgCells D (.slice a n c)), .int .i64 (caE L)]) ∧ (caE L = 0 → h = (parsed L).1 ∧ D = caD L ∧ SeesB w' (.slice a n c) D.B ∧ ∀ b, a = some b → w.heap.size ≤ b.block) ∧ Below w.heap.size w w' := by
  obtain ⟨wa, hwa⟩ : ∃ wa, wa = w.alloc (.cells zeroHdC 50) := ⟨_, rfl⟩
  obtain ⟨w1, hw1⟩ : ∃ w1, w1 = wa.alloc (.cells zeroD 27) := ⟨_, rfl⟩
  have hsa : wa.heap.size = w.heap.size + 1 := by rw [hwa]; simp
  have hs1 : w1.heap.size = w.heap.size + 2 := by rw [hw1]; simp [hsa]
  have hba : Below w.heap.size w wa := by rw [hwa]; exact (Below.refl _ _).alloc (Nat.le_refl _) _
  have hb1 : Below w.heap.size w w1 := by rw [hw1]; exact hba.alloc (by omega) _
  have hr0 : w1.heap[w.heap.size]? = some (.cells zeroHdC 50 (0, 0)) := by rw [hw1, heap_alloc_old _ _ (by omega), hwa]; exact heap_alloc_new w _
  have hr1 : w1.heap[w.heap.size + 1]? = some (.cells zeroD 27 (0, 0)) := by rw [hw1, ← hsa]; exact heap_alloc_new wa _
  obtain ⟨av, nv, cv, rfl, HNV, hnv1, hnv2⟩ := hv.shape
  have HPA := hid (parse_code _ L w1 (hv.below hb1) hl)
  have HBY := hid hv.bytes
  have HPK := hid (fun (he : (parsed L).2.2 = 0) => parsed_ok HBY.out he)
  have HR0 := hid hr0
  have HR1 := hid hr1
  have HB1 := hid hb1
  have HS1 := hid hs1
  have HW1 : Hid (w1 = (w.alloc (.cells #[.int .u8 0, .int .u16 0, .bool false, .bool false, .int .i64 0, .int .u8 0, .int .u8 0, .int .u32 0, .int .u32 0, .slice none 0 0] 50)).alloc (.cells #[.int .u16 0, .int .u16 0, .slice none 0 0] 27)) := by unfold Hid; rw [hw1, hwa]; rfl
  obtain ⟨zh, hzh⟩ : ∃ zh : Array Value, zh = zeroHdC := ⟨_, rfl⟩
  obtain ⟨zd, hzd⟩ : ∃ zd : Array Value, zd = zeroD := ⟨_, rfl⟩
  have HZH : Hid (zh = #[.int .u8 0, .int .u16 0, .bool false, .bool false, .int .i64 0, .int .u8 0, .int .u8 0, .int .u32 0, .int .u32 0, .slice none 0 0]) := hzh
  have HZD : Hid (zd = #[.int .u16 0, .int .u16 0, .slice none 0 0]) := hzd
  have hzhs : zh.size = 10 := by rw [hzh]; rfl
  have hzds : zd.size = 3 := by rw [hzd]; rfl
  have HIH : Hid ((Try.prog.info? 50).map (·.size) = some zh.size) := by unfold Hid; rw [hzhs]; kernel_rfl
  have HID : Hid ((Try.prog.info? 27).map (·.size) = some zd.size) := by unfold Hid; rw [hzds]; kernel_rfl
  have HOH : Hid (zh.all (·.oneCell') = true) := by unfold Hid; rw [hzh]; simp [zeroHdC, Value.oneCell']
  have HOD : Hid (zd.all (·.oneCell') = true) := by unfold Hid; rw [hzd]; simp [zeroD, Value.oneCell']
  have HZHC : Hid (zh = hdCells ⟨0, 0, false, false, 0, 0, 0, 0, 0, []⟩ (.slice none 0 0)) := hzh
  have HZDC : Hid (zd = dgCells Tn.none0 (.slice none 0 0)) := hzd
  have HEN : Hid (∀ u, Below w1.heap.size w1 u → u.there w.heap.size 0 zh.size ∧ (u.setCells w.heap.size 0 zh.toList).there (w.heap.size + 1) 0 zd.size ∧ (loadVar 50 ⟨w.heap.size, 0, none⟩).run Try.prog ((u.setCells w.heap.size 0 zh.toList).setCells (w.heap.size + 1) 0 zd.toList) = .ok (.agg zh) ((u.setCells w.heap.size 0 zh.toList).setCells (w.heap.size + 1) 0 zd.toList) ∧ (loadVar 27 ⟨w.heap.size + 1, 0, none⟩).run Try.prog ((u.setCells w.heap.size 0 zh.toList).setCells (w.heap.size + 1) 0 zd.toList) = .ok (.agg zd) ((u.setCells w.heap.size 0 zh.toList).setCells (w.heap.size + 1) 0 zd.toList)) := fun u hu => cells_end hr0 hr1 hu hzhs hzds
  have HBB : Hid (∀ u, Below w1.heap.size w1 u → Below w.heap.size w ((u.setCells w.heap.size 0 zh.toList).setCells (w.heap.size + 1) 0 zd.toList)) := fun u hu => below_setCells' (by omega) _ _ _ (below_setCells' (Nat.le_refl _) _ _ _ (hb1.trans (hu.mono hb1.size)))
  obtain ⟨CE, hCE⟩ : ∃ CE, CE = caE L := ⟨_, rfl⟩
  have HCE : Hid (CE = if (parsed L).2.2 ≠ 0 then (parsed L).2.2 else if (parsed L).1.mf = true ∨ (parsed L).1.off ≠ 0 then 75 else if (parsed L).1.proto ≠ 17 then 74 else Tn.puE (parsed L).1.src (parsed L).1.dst (parsed L).2.1) := hCE
  obtain ⟨CD, hCD⟩ : ∃ CD, CD = caD L := ⟨_, rfl⟩
  have HCD : Hid (CD = Tn.puD (parsed L).1.src (parsed L).1.dst (parsed L).2.1) := hCD
  rw [← hCE, ← hCD]
  clear hwa hw1 hsa hs1 hba hb1 hr0 hr1 hv hzh hzd hzhs hzds hCE hCD
  generalize parsed L = P at *
  obtain ⟨hd, B, E⟩ := P
  simp only at *
  go_enter Try.func49, Try.ntmps49
  go_upto_region 1 with fail
  rw [← HW1.out]
  go_wp2_with fail
  refine HPA.out.mono ?_
  rintro _ w2 ⟨vo, v2, rfl, hso, hs2, hb2⟩
  obtain ⟨ao, no, co, rfl, _, _, _⟩ := hso.shape
  obtain ⟨a2, n2, c2, rfl, _, _, _⟩ := hs2.shape
  obtain ⟨pa, hpa⟩ : ∃ pa, pa = pkCells hd (.slice ao no co) (.slice a2 n2 c2) := ⟨_, rfl⟩
  obtain ⟨p, hp⟩ : ∃ p, p = w2.heap.size := ⟨_, rfl⟩
  obtain ⟨w3, hw3⟩ : ∃ w3, w3 = (w2.alloc (.cells zeroPk 52)).setCells p 0 pa.toList := ⟨_, rfl⟩
  have hps : pa.size = 11 := by rw [hpa]; rfl
  have HIP : Hid ((Try.prog.info? 52).map (·.size) = some pa.size) := by unfold Hid; rw [hps]; kernel_rfl
  have hrp : (w2.alloc (.cells zeroPk 52)).heap[p]? = some (.cells zeroPk 52 (0, 0)) := by rw [hp]; exact heap_alloc_new w2 _
  have HTP : Hid ((w2.alloc (.cells zeroPk 52)).there p 0 pa.size) := there_blk hrp (by rw [hps]; rfl)
  have HOP : Hid (pa.all (·.oneCell') = true) := by unfold Hid; rw [hpa]; simp [pkCells, Value.oneCell']
  have hr3 : w3.heap[p]? = some (.cells (pkCells hd (.slice ao no co) (.slice a2 n2 c2)) 52 (0, 0)) := by rw [hw3, ← hpa]; exact row_put hrp (by rw [hps]; rfl)
  have hb23 : Below w2.heap.size w2 w3 := by rw [hw3]; exact below_setCells' (by omega) _ _ _ ((Below.refl _ _).alloc (Nat.le_refl _) _)
  have hb13 := hb2.trans (hb23.mono hb2.size)
  have HLH := hid (pk_loadH hr3)
  have HR3 := hid hr3
  have HB13 := hid hb13
  have HS3 := hid (hs2.below hb23)
  have HW3 := hid hw3
  have HP := hid hp
  have HPL : Hid (w1.heap.size ≤ p) := by unfold Hid; rw [hp]; exact hb2.size
  unfold zeroPk at HW3 HTP
  have c3 : w3.cell? ⟨p, 3, none⟩ = some (.bool hd.mf) := pk_at hr3 3 (by decide)
  have c4 : w3.cell? ⟨p, 4, none⟩ = some (.int .i64 hd.off) := pk_at hr3 4 (by decide)
  have c6 : w3.cell? ⟨p, 6, none⟩ = some (.int .u8 (hd.proto : Int)) := pk_at hr3 6 (by decide)
  have c7 : w3.cell? ⟨p, 7, none⟩ = some (.int .u32 (hd.src : Int)) := pk_at hr3 7 (by decide)
  have c8 : w3.cell? ⟨p, 8, none⟩ = some (.int .u32 (hd.dst : Int)) := pk_at hr3 8 (by decide)
  have c10 : w3.cell? ⟨p, 10, none⟩ = some (.slice a2 n2 c2) := pk_at hr3 10 (by decide)
  rw [← hpa]
  obtain ⟨t1, t2, t3, t4⟩ := HEN.out w3 hb13
  have HT1 := hid t1
  have HT2 := hid t2
  have HV1 := hid t3
  have HV2 := hid t4
  have HBF := hid (HBB.out w3 hb13)
  clear hpa hp hw3 hps hrp hr3 hb23 hb2 hb13 hso hs2 HPA t1 t2 t3 t4 HEN HBB
  go_upto_region 2 with (first
    | (rw [← HP.out]; refine wpList_store_mid rfl 52 (.tmp 5) (.tmp 11) rfl p 0 pa rfl rfl HTP.out HIP.out HOP.out ?_; rw [← HW3.out])
    | fail)
  by_cases hE : E ≠ 0
  · have HEE : Hid (CE = E) := by unfold Hid; rw [HCE.out, if_pos hE]
    have q1 : (E == 0) = false := by simp [hE]
    have q2 : (E != 0) = true := by simp [hE]
    go_wp2_with (first
      | (refine wpList_store_mid rfl 50 (.tmp 2) (.tmp 16) rfl w.heap.size 0 zh rfl (by rw [HZH.out]; rfl) HT1.out HIH.out HOH.out ?_)
      | (refine wpList_store_mid rfl 27 (.tmp 3) (.tmp 17) rfl (w.heap.size + 1) 0 zd rfl (by rw [HZD.out]; rfl) HT2.out HID.out HOD.out ?_)
      | fail)
    generalize (w3.setCells w.heap.size 0 zh.toList).setCells (w.heap.size + 1) 0 zd.toList = wf at HV1 HV2 HBF ⊢
    refine bodyPost_ret (v := .tuple #[.agg zh, .agg zd, .int .i64 E]) (by simp [results, Try.results49, asAddr, HV1.out, HV2.out]) rfl ?_
    rw [HEE.out]
    exact ⟨_, none, 0, 0, _, none, 0, 0, by rw [HZHC.out, HZDC.out], fun h => absurd h hE, HBF.out⟩
  have hE := Decidable.not_not.1 hE
  subst hE
  have hok := HPK.out rfl
  have hpr := hok.proto
  have hof := hok.off
  have hsr := hok.src
  have hds := hok.dst
  by_cases hm : hd.mf = true ∨ hd.off ≠ 0
  · have HEE : Hid (CE = 75) := by unfold Hid; rw [HCE.out, if_neg (by simp), if_pos hm]
    clear hok
    by_cases hmf : hd.mf = true
    · rw [hmf] at c3
      go_wp2_with (first
        | (refine wpList_store_mid rfl 50 (.tmp 2) (.tmp 29) rfl w.heap.size 0 zh rfl (by rw [HZH.out]; rfl) HT1.out HIH.out HOH.out ?_)
        | (refine wpList_store_mid rfl 27 (.tmp 3) (.tmp 30) rfl (w.heap.size + 1) 0 zd rfl (by rw [HZD.out]; rfl) HT2.out HID.out HOD.out ?_)
        | fail)
      generalize (w3.setCells w.heap.size 0 zh.toList).setCells (w.heap.size + 1) 0 zd.toList = wf at HV1 HV2 HBF ⊢
      refine bodyPost_ret (v := .tuple #[.agg zh, .agg zd, .int .i64 75]) (by simp [results, Try.results49, asAddr, HV1.out, HV2.out]) rfl ?_
      rw [HEE.out]
      exact ⟨_, none, 0, 0, _, none, 0, 0, by rw [HZHC.out, HZDC.out], fun h => absurd h (by decide), HBF.out⟩
    · have hoff : hd.off ≠ 0 := hm.resolve_left hmf
      rw [Bool.eq_false_iff.2 hmf] at c3
      have q1 : (hd.off == 0) = false := by simp [hoff]
      have q2 : (hd.off != 0) = true := by simp [hoff]
      go_wp2_with (first
        | (refine wpList_store_mid rfl 50 (.tmp 2) (.tmp 29) rfl w.heap.size 0 zh rfl (by rw [HZH.out]; rfl) HT1.out HIH.out HOH.out ?_)
        | (refine wpList_store_mid rfl 27 (.tmp 3) (.tmp 30) rfl (w.heap.size + 1) 0 zd rfl (by rw [HZD.out]; rfl) HT2.out HID.out HOD.out ?_)
        | fail)
      generalize (w3.setCells w.heap.size 0 zh.toList).setCells (w.heap.size + 1) 0 zd.toList = wf at HV1 HV2 HBF ⊢
      refine bodyPost_ret (v := .tuple #[.agg zh, .agg zd, .int .i64 75]) (by simp [results, Try.results49, asAddr, HV1.out, HV2.out]) rfl ?_
      rw [HEE.out]
      exact ⟨_, none, 0, 0, _, none, 0, 0, by rw [HZHC.out, HZDC.out], fun h => absurd h (by decide), HBF.out⟩
  have hmf : hd.mf = false := Bool.eq_false_iff.2 fun h => hm (.inl h)
  have hoff : hd.off = 0 := Decidable.not_not.1 fun h => hm (.inr h)
  rw [hmf] at c3
  rw [hoff] at c4
  by_cases hpn : hd.proto ≠ 17
  · have HEE : Hid (CE = 74) := by unfold Hid; rw [HCE.out, if_neg (by simp), if_neg hm, if_pos hpn]
    have q1 : ((hd.proto : Int) == 17) = false := by simp; omega
    have q2 : ((hd.proto : Int) != 17) = true := by simp; omega
    have HPN := hid hpn
    clear hok hm hmf hoff hpn
    go_wp2_with (first
      | (refine wpList_store_mid rfl 50 (.tmp 2) (.tmp 36) rfl w.heap.size 0 zh rfl (by rw [HZH.out]; rfl) HT1.out HIH.out HOH.out ?_)
      | (refine wpList_store_mid rfl 27 (.tmp 3) (.tmp 37) rfl (w.heap.size + 1) 0 zd rfl (by rw [HZD.out]; rfl) HT2.out HID.out HOD.out ?_)
      | fail)
    generalize (w3.setCells w.heap.size 0 zh.toList).setCells (w.heap.size + 1) 0 zd.toList = wf at HV1 HV2 HBF ⊢
    refine bodyPost_ret (v := .tuple #[.agg zh, .agg zd, .int .i64 74]) (by simp [results, Try.results49, asAddr, HV1.out, HV2.out]) rfl ?_
    rw [HEE.out]
    exact ⟨_, none, 0, 0, _, none, 0, 0, by rw [HZHC.out, HZDC.out], fun h => absurd h (by decide), HBF.out⟩
  have hpn := Decidable.not_not.1 hpn
  have HEE : Hid (CE = Tn.puE hd.src hd.dst B) := by unfold Hid; rw [HCE.out, if_neg (by simp), if_neg hm, if_neg (by rw [hpn]; decide)]
  have c6' : w3.cell? ⟨p, 6, none⟩ = some (.int .u8 17) := by rw [c6, hpn]; rfl
  have X3 := hid (parseU_any _ B hd.src hd.dst w3 HS3.out hsr hds)
  rw [← HEE.out, ← HCD.out] at X3
  clear hok hm hmf hoff hpn hpr hof c6 HEE HCE HCD HT1 HT2 HV1 HV2 HBF HPK
  go_wp2_with fail
  refine X3.out.mono ?_
  rintro _ w4 ⟨a4, n4, k4, rfl, hs4, hnew, hb4⟩
  obtain ⟨dc, hdc⟩ : ∃ dc, dc = dgCells CD (.slice a4 n4 k4) := ⟨_, rfl⟩
  obtain ⟨q, hq⟩ : ∃ q, q = w4.heap.size := ⟨_, rfl⟩
  obtain ⟨w5, hw5⟩ : ∃ w5, w5 = (w4.alloc (.cells zeroD 27)).setCells q 0 dc.toList := ⟨_, rfl⟩
  have hds3 : dc.size = 3 := by rw [hdc]; rfl
  have HIQ : Hid ((Try.prog.info? 27).map (·.size) = some dc.size) := by unfold Hid; rw [hds3]; kernel_rfl
  have hrq : (w4.alloc (.cells zeroD 27)).heap[q]? = some (.cells zeroD 27 (0, 0)) := by rw [hq]; exact heap_alloc_new w4 _
  have HTQ : Hid ((w4.alloc (.cells zeroD 27)).there q 0 dc.size) := there_blk hrq (by rw [hds3]; rfl)
  have HOQ : Hid (dc.all (·.oneCell') = true) := by unfold Hid; rw [hdc]; simp [dgCells, Value.oneCell']
  have hr5 : w5.heap[q]? = some (.cells dc 27 (0, 0)) := by rw [hw5]; exact row_put hrq (by rw [hds3]; rfl)
  have hb45 : Below w4.heap.size w4 w5 := by rw [hw5]; exact below_setCells' (by omega) _ _ _ ((Below.refl _ _).alloc (Nat.le_refl _) _)
  have hb35 := hb4.trans (hb45.mono hb4.size)
  have hb15 := HB13.out.trans (hb35.mono HB13.out.size)
  have hsz := HS1.out
  have hsz3 := HB13.out.size
  have hsz4 := hb4.size
  have hpl := HPL.out
  have hIK : IK p q w.heap.size (pkCells hd (.slice ao no co) (.slice a2 n2 c2)) dc (a4, n4, k4) CD.B w w5 :=
    ⟨(hb35.block p (Array.getElem?_eq_some_iff.1 HR3.out).1).trans HR3.out, hr5, ⟨_, (hb15.block _ (by omega)).trans HR0.out, rfl⟩, ⟨_, (hb15.block _ (by omega)).trans HR1.out, rfl⟩, hs4.below hb45, HB1.out.trans (hb15.mono HB1.out.size)⟩
  have HIK := hid hIK
  have HDC := hid hdc
  have HNE : Hid (p ≠ w.heap.size ∧ p ≠ w.heap.size + 1 ∧ q ≠ w.heap.size ∧ q ≠ w.heap.size + 1) := ⟨by omega, by omega, by omega, by omega⟩
  have HNW : Hid (∀ b, a4 = some b → w.heap.size + 2 ≤ b.block) := fun b hb => by have := hnew b hb; omega
  have HDS := hid hds3
  have HW5 := hid hw5
  have HQ := hid hq
  obtain ⟨hc, hhc⟩ : ∃ hc, hc = hdCells hd (.slice ao no co) := ⟨_, rfl⟩
  have HHC := hid hhc
  have HH10 : Hid (hc.size = 10) := by unfold Hid; rw [hhc]; rfl
  have HIC : Hid ((Try.prog.info? 50).map (·.size) = some hc.size) := by unfold Hid; rw [HH10.out]; kernel_rfl
  have HOC : Hid (hc.all (·.oneCell') = true) := by unfold Hid; rw [hhc]; simp [hdCells, Value.oneCell']
  unfold zeroD at HW5 HTQ
  rw [← hdc]
  clear hdc hq hw5 hds3 hrq hr5 hb45 hb35 hb15 hsz hsz3 hsz4 hpl hIK hhc hs4 hnew hb4 X3 c3 c4 c6' c7 c8 c10
  go_upto_region 9 with (first
    | (rw [← HQ.out]; refine wpList_store_mid rfl 27 (.tmp 7) (.tmp 48) rfl q 0 dc rfl rfl HTQ.out HIQ.out HOQ.out ?_; rw [← HW5.out])
    | fail)
  refine wp_region_all' 7 dstK (FK [.pointer (some ⟨p, 0, none⟩), .agg hc, .agg dc, .int .i64 CE, .int .i64 0, .int .i64 0, .int .i64 CE] w.heap.size hc dc) (IK p q w.heap.size (pkCells hd (.slice ao no co) (.slice a2 n2 c2)) dc (a4, n4, k4) CD.B w) (RK w.heap.size) (by kernel_rfl) (by kernel_rfl) ⟨HIK.out.pk, HIK.out.dg, HIK.out.hd, HIK.out.dt, HIK.out.sees.below ⟨rfl, rfl, rfl, Nat.le_refl _, fun _ _ => rfl⟩, HIK.out.below.trans (Below.mono ⟨rfl, rfl, rfl, Nat.le_refl _, fun _ _ => rfl⟩ HIK.out.below.size)⟩ (FK.keeps _ _ _ _ _ _) ?_ ?_
  · simp only [stepsAll]
    refine ⟨?_, ?_, ?_, ?_, ?_, ?_, ?_, trivial⟩
    · intro a u vs hI hold hdep
      exact wp_stillI (ex_field _ ⟨p, 0, none⟩ (.tmp 5) 0 _ rfl (hold 5 (dlK (by decide))) (field_pk0 _ u)) rfl (congrArg some (upd_eq _ _ _).symm) hI rfl
    · intro a u vs hI hold hdep
      have e0 : a.eval (.tmp 50) = .pointer (some ⟨p, 0, none⟩) := by have h0 := hdep ⟨0, .data⟩ (by simp) rfl; exact (h0.2 50 rfl).trans (Option.some.inj h0.1).symm
      exact wp_stillI (ex_load _ ⟨p, 0, none⟩ (.tmp 50) (.agg hc) rfl e0 (by rw [HHC.out]; exact pk_loadH hI.pk)) rfl (congrArg some (upd_eq _ _ _).symm) hI rfl
    · intro a u vs hI hold hdep
      exact wp_stillI (ex_load _ ⟨q, 0, none⟩ (.tmp 7) (.agg dc) rfl (hold 7 (dlK (by decide))) (load_rowAt hI.dg Try.underlying27 rfl HIQ.out)) rfl (congrArg some (upd_eq _ _ _).symm) hI rfl
    · intro a u vs hI hold hdep
      exact wp_stillI (ex_move (.tmp 6) _ rfl (hold 6 (dlK (by decide)))) rfl (congrArg some (upd_eq _ _ _).symm) hI rfl
    · intro a u vs hI hold hdep
      have e1 : a.eval (.tmp 51) = .agg hc := by have h0 := hdep ⟨1, .data⟩ (by simp) rfl; exact (h0.2 51 rfl).trans (Option.some.inj h0.1).symm
      obtain ⟨C, hC1, hC2⟩ := hI.hd
      obtain ⟨g1, g2⟩ := hI.store1 HNE.out.1 HNE.out.2.2.1 (fun b hb => by have := HNW.out b hb; omega) (Nat.le_refl _) HH10.out
      exact wp_store_mid 50 (.tmp 2) (.tmp 51) rfl w.heap.size 0 hc (hold 2 (dlK (by decide))) e1 (there_blk hC1 (by rw [hC2, HH10.out])) HIC.out HOC.out ⟨.int .i64 0, rfl, g1, g2, But.setsT _ _⟩
    · intro a u vs hI hold hdep
      have e1 : a.eval (.tmp 52) = .agg dc := by have h0 := hdep ⟨2, .data⟩ (by simp) rfl; exact (h0.2 52 rfl).trans (Option.some.inj h0.1).symm
      obtain ⟨C, hC1, hC2⟩ := hI.dt
      obtain ⟨g1, g2⟩ := hI.store2 HNE.out.2.1 HNE.out.2.2.2 (fun b hb => by have := HNW.out b hb; omega) (Nat.le_refl _) HDS.out
      exact wp_store_mid 27 (.tmp 3) (.tmp 52) rfl (w.heap.size + 1) 0 dc (hold 3 (dlK (by decide))) e1 (there_blk hC1 (by rw [hC2, HDS.out])) HIQ.out HOQ.out ⟨.int .i64 0, rfl, g1, g2, But.setsT _ _⟩
    · intro a u vs hI hold hdep
      have e1 : a.eval (.tmp 53) = .int .i64 CE := by have h0 := hdep ⟨3, .data⟩ (by simp) rfl; exact (h0.2 53 rfl).trans (Option.some.inj h0.1).symm
      exact wp_stillI (ex_assign (.tmp 53) _ rfl e1) rfl (congrArg some (upd_eq _ _ _).symm) hI rfl
  intro vs u hI hF
  have e6 : vs 6 = .int .i64 CE := (Option.some.inj (hF 6 (by decide))).symm
  have HU2 : Hid (u.heap[w.heap.size]? = some (.cells hc 50 (0, 0))) := hF 4 (by decide)
  have HU3 : Hid (u.heap[w.heap.size + 1]? = some (.cells dc 27 (0, 0))) := hF 5 (by decide)
  have HV1 := hid (load_row HU2.out Try.underlying50 rfl HIC.out)
  have HV2 := hid (load_row HU3.out Try.underlying27 rfl HIQ.out)
  have HII := hid hI
  clear hF hI
  generalize vs 0 = y0
  generalize vs 1 = y1
  generalize vs 2 = y2
  generalize vs 3 = y3
  generalize vs 4 = y4
  generalize vs 5 = y5
  simp only [putsO, List.range, List.range.loop, List.foldr, if_true, dstK, List.getD_cons_zero, List.getD_cons_succ, Act.put, e6, List.setIfInBounds_toArray, List.set_cons_succ, List.set_cons_zero]
  go_wp2_with fail
  refine bodyPost_ret (v := .tuple #[.agg hc, .agg dc, .int .i64 CE]) (by simp [results, Try.results49, asAddr, HV1.out, HV2.out]) rfl ?_
  exact ⟨hd, ao, no, co, CD, a4, n4, k4, by rw [HHC.out, HDC.out], fun _ => ⟨rfl, rfl, HII.out.sees, fun b hb => by have := HNW.out b hb; omega⟩, HII.out.below⟩
end Go.Proofs.Ytcelcnafcfefhaa.N

/-
  weftlaw7.sameFrame: frames that are the same.
-/
namespace Go.Proofs.Ytcelcnafcfefhaa.N
open Go.ChangeShapes Go.WideShapes Go.ChangeAt Go.RowKit
set_option maxHeartbeats 8000000
set_option maxRecDepth 100000

theorem six {D : List Nat} (h : D.length = 6) : ∃ a b c d e f, D = [a, b, c, d, e, f] := by
  match D, h with
  | [a, b, c, d, e, f], _ => exact ⟨a, b, c, d, e, f, rfl⟩

theorem fr_loads {u : World} {n : Nat} {f : Tn.Fr} {vb : Value} {t : TypeId} (hok : f.Ok) (hb : u.heap[n]? = some (.cells (frCells f vb) t (0, 0))) :
    (Instr.loadAt 39 (.pointer (some ⟨n, 0, none⟩))).run Try.prog u = .ok (.agg (bs f.dst).toArray) u ∧ (Instr.loadAt 39 (.pointer (some ⟨n, 6, none⟩))).run Try.prog u = .ok (.agg (bs f.src).toArray) u := by
  have h6 : (Try.prog.info? 39).map (·.size) = some 6 := by kernel_rfl
  refine ⟨?_, ?_⟩
  · refine run_loadAt_mid u n 0 39 (bs f.dst) (.array 6 5) (fun j v hv => ?_) Try.underlying39 rfl (by rw [bs_len, hok.dst]; exact h6)
    have hj : j < 6 := by have := (List.getElem?_eq_some_iff.1 hv).1; rw [bs_len, hok.dst] at this; exact this
    rw [Nat.zero_add, cell_fr hb j, frc_dst hok.dst f.ty vb j hj, hv]
  · refine run_loadAt_mid u n 6 39 (bs f.src) (.array 6 5) (fun j v hv => ?_) Try.underlying39 rfl (by rw [bs_len, hok.src]; exact h6)
    have hj : j < 6 := by have := (List.getElem?_eq_some_iff.1 hv).1; rw [bs_len, hok.src] at this; exact this
    rw [cell_fr hb (6 + j), frc_src hok.dst hok.src f.ty vb j hj, hv]

theorem eq6 (x0 x1 x2 x3 x4 x5 : Int) (u : World) : (Op.equalIn 10000 39 (.agg #[.int .u8 x0, .int .u8 x1, .int .u8 x2, .int .u8 x3, .int .u8 x4, .int .u8 x5]) (.agg #[.int .u8 x0, .int .u8 x1, .int .u8 x2, .int .u8 x3, .int .u8 x4, .int .u8 x5])).run Try.prog u = .ok true u := by
  have hu : Try.prog.underlying 39 = some (.array 6 5) := Try.underlying39
  have h5 : Try.prog.underlying 5 = some (.int .u8) := by kernel_rfl
  have hsz : (sizeOf 5).run Try.prog u = .ok 1 u := by kernel_rfl
  have hi : ∀ (x : Int) (w : World), (Op.equalIn 9999 5 (.int .u8 x) (.int .u8 x)).run Try.prog w = .ok true w := fun x w => by
    have := run_equalIn_int (P := Try.prog) w 9998 5 .u8 .u8 x x h5
    simpa using this
  rw [show (10000 : Nat) = 9999 + 1 from rfl, Op.equalIn]
  simp [run_underlying hu, hsz, part, hi, Std.Legacy.Range.forIn_eq_forIn_range', List.range', Result.andThen]

theorem sameFrame_self (f : Tn.Fr) (va vb : Value) (w : World) (hok : f.Ok) (hva : SeesB w va f.B) (hvb : SeesB w vb f.B) :
    Calls Try.prog 21 #[.agg (frCells f va), .agg (frCells f vb)] w fun e w' => e = .returned (.bool true) ∧ Below w.heap.size w w' := by
  obtain ⟨ao, n, cap, rfl, _, _, _⟩ := hva.shape
  obtain ⟨bo, m, bcap, rfl, _, _, _⟩ := hvb.shape
  obtain ⟨w1, hw1⟩ : ∃ w1, w1 = w.alloc (.cells (frCells f (.slice ao n cap)) 41) := ⟨_, rfl⟩
  obtain ⟨w2, hw2⟩ : ∃ w2, w2 = w1.alloc (.cells (frCells f (.slice bo m bcap)) 41) := ⟨_, rfl⟩
  have hs1 : w1.heap.size = w.heap.size + 1 := by rw [hw1]; simp
  have hb1 : Below w.heap.size w w1 := by rw [hw1]; exact (Below.refl _ _).alloc (Nat.le_refl _) _
  have hb2 : Below w.heap.size w w2 := by rw [hw2]; exact hb1.alloc (by omega) _
  have hr1 : w2.heap[w.heap.size]? = some (.cells (frCells f (.slice ao n cap)) 41 (0, 0)) := by rw [hw2, heap_alloc_old _ _ (by omega), hw1]; exact heap_alloc_new w _
  have hr2 : w2.heap[w.heap.size + 1]? = some (.cells (frCells f (.slice bo m bcap)) 41 (0, 0)) := by rw [hw2, ← hs1]; exact heap_alloc_new w1 _
  obtain ⟨c12, c13⟩ := fr_at hok hr1
  obtain ⟨d12, d13⟩ := fr_at hok hr2
  obtain ⟨l0, l6⟩ := fr_loads hok hr1
  obtain ⟨m0, m6⟩ := fr_loads hok hr2
  obtain ⟨x0, x1, x2, x3, x4, x5, hD⟩ := six hok.dst
  obtain ⟨y0, y1, y2, y3, y4, y5, hS⟩ := six hok.src
  rw [hD] at l0 m0
  rw [hS] at l6 m6
  have HL0 := hid (show (Instr.loadAt 39 (.pointer (some ⟨w.heap.size, 0, none⟩))).run Try.prog w2 = .ok (.agg #[.int .u8 (x0 : Int), .int .u8 (x1 : Int), .int .u8 (x2 : Int), .int .u8 (x3 : Int), .int .u8 (x4 : Int), .int .u8 (x5 : Int)]) w2 from l0)
  have HM0 := hid (show (Instr.loadAt 39 (.pointer (some ⟨w.heap.size + 1, 0, none⟩))).run Try.prog w2 = .ok (.agg #[.int .u8 (x0 : Int), .int .u8 (x1 : Int), .int .u8 (x2 : Int), .int .u8 (x3 : Int), .int .u8 (x4 : Int), .int .u8 (x5 : Int)]) w2 from m0)
  have HL6 := hid (show (Instr.loadAt 39 (.pointer (some ⟨w.heap.size, 6, none⟩))).run Try.prog w2 = .ok (.agg #[.int .u8 (y0 : Int), .int .u8 (y1 : Int), .int .u8 (y2 : Int), .int .u8 (y3 : Int), .int .u8 (y4 : Int), .int .u8 (y5 : Int)]) w2 from l6)
  have HM6 := hid (show (Instr.loadAt 39 (.pointer (some ⟨w.heap.size + 1, 6, none⟩))).run Try.prog w2 = .ok (.agg #[.int .u8 (y0 : Int), .int .u8 (y1 : Int), .int .u8 (y2 : Int), .int .u8 (y3 : Int), .int .u8 (y4 : Int), .int .u8 (y5 : Int)]) w2 from m6)
  have HSA := hid (same_self _ _ _ w2 (hva.below hb2) (hvb.below hb2))
  have HB2 := hid hb2
  have HW2 : Hid (w2 = (w.alloc (.cells (frCells f (.slice ao n cap)) 41)).alloc (.cells (frCells f (.slice bo m bcap)) 41)) := by unfold Hid; rw [hw2, hw1]
  clear hw1 hw2 hs1 hb1 hb2 hr1 hr2 l0 l6 m0 m6 hD hS hva hvb
  have hq0 := eq6 (x0 : Int) (x1 : Int) (x2 : Int) (x3 : Int) (x4 : Int) (x5 : Int)
  have hq6 := eq6 (y0 : Int) (y1 : Int) (y2 : Int) (y3 : Int) (y4 : Int) (y5 : Int)
  generalize frCells f (.slice ao n cap) = fa at *
  generalize frCells f (.slice bo m bcap) = fb at *
  go_enter Try.func21, Try.ntmps21
  go_upto_region 1 with fail
  rw [← HW2.out]
  go_wp2_with (first
    | (refine wpList_ld 39 ⟨w.heap.size, 0, none⟩ (.tmp 5) rfl rfl HL0.out rfl ?_)
    | (refine wpList_ld 39 ⟨w.heap.size + 1, 0, none⟩ (.tmp 7) rfl rfl HM0.out rfl ?_)
    | (refine wpList_ld 39 ⟨w.heap.size, 6, none⟩ (.tmp 11) rfl rfl HL6.out rfl ?_)
    | (refine wpList_ld 39 ⟨w.heap.size + 1, 6, none⟩ (.tmp 13) rfl rfl HM6.out rfl ?_)
    | fail)
  refine HSA.out.mono ?_
  rintro _ w3 ⟨rfl, hb3⟩
  have HB3 := hid (HB2.out.trans (hb3.mono HB2.out.size))
  clear hb3
  go_wp2_with fail
  go_ret
  exact ⟨rfl, HB3.out⟩
end Go.Proofs.Ytcelcnafcfefhaa.N

/-
  weftref7: BuildFrame, ParseFrame.
-/
namespace Go.Proofs.Ytcelcnafcfefhaa.N
open Go.ChangeShapes Go.WideShapes Go.ChangeAt Go.RowKit
set_option maxHeartbeats 8000000
set_option maxRecDepth 100000

theorem buildFR_any (f : Tn.Fr) (vb : Value) (w : World) (hf : FrB f) (hvb : SeesB w vb f.B) :
    Calls Try.prog 34 #[.agg (frCells f vb)] w fun e w' => ∃ v, e = .returned (.tuple #[v, .int .i64 (Tn.bfE f)]) ∧ OwnB w' w.heap.size v (Tn.bfL f) ∧ Below w.heap.size w w' := by
  obtain ⟨ab, nb, capb, rfl, HNB, hnb1, hnb2⟩ := hvb.shape
  unfold maxLen at hnb2
  obtain ⟨w1, hw1⟩ : ∃ w1, w1 = w.alloc (.cells (frCells f (.slice ab nb capb)) 41) := ⟨_, rfl⟩
  have hs1 : w1.heap.size = w.heap.size + 1 := by rw [hw1]; simp
  have hb1 : Below w.heap.size w w1 := by rw [hw1]; exact (Below.refl _ _).alloc (Nat.le_refl _) _
  have hr1 : w1.heap[w.heap.size]? = some (.cells (frCells f (.slice ab nb capb)) 41 (0, 0)) := by rw [hw1]; exact heap_alloc_new w _
  have HRW : Hid (∀ u, Below w1.heap.size w1 u → u.heap[w.heap.size]? = some (.cells (frCells f (.slice ab nb capb)) 41 (0, 0))) := fun u hu => (hu.block _ (by omega)).trans hr1
  have HCE : Hid (∀ u, Below w1.heap.size w1 u → u.cell? ⟨w.heap.size, 12, none⟩ = some (.int .u16 (f.ty : Int)) ∧ u.cell? ⟨w.heap.size, 13, none⟩ = some (.slice ab nb capb)) := fun u hu => fr_at hf.ok (HRW.out u hu)
  obtain ⟨c12, c13⟩ := HCE.out _ (Below.refl _ _)
  have HW1 := hid hw1
  have HB1 := hid hb1
  have HBY := hid hvb.bytes
  have hty := hf.ok.ty
  have HTY := hid (fun u => typedR_any f.ty u hty)
  by_cases hbig : 65485 < nb
  · have HE := hid (bf_bad (f := f) (e := 2) (by unfold Tn.bfE; rw [if_pos (by rw [← HNB.out]; exact hbig)]) (by decide))
    have hbig2 : (65485 : Int) < (nb : Int) := by omega
    generalize frCells f (.slice ab nb capb) = fr at *
    clear hw1 hs1 hb1 hvb hr1
    go_enter Try.func34, Try.ntmps34
    go_upto_region 1 with fail
    rw [← HW1.out]
    go_wp2_with fail
    refine bodyPost_ret (results_tmp2 Try.results34 _ _ _) rfl ?_
    rw [HE.out.1, HE.out.2]
    exact ⟨.slice none 0 0, rfl, ownB_nil _ _, HB1.out⟩
  have hbig' : f.B.length ≤ 65485 := by rw [← HNB.out]; omega
  have hbig2 : ¬ (65485 : Int) < (nb : Int) := by omega
  have hbe : Tn.bfE f = Tn.tyE f.ty := by unfold Tn.bfE; rw [if_neg (by omega)]
  by_cases ht : Tn.tyE f.ty = 0
  · have hL : Tn.bfL f = f.dst ++ f.src ++ laidL f.ty 2 ++ f.B := by unfold Tn.bfL; rw [if_pos (by rw [hbe, ht]), laidL_two]; rfl
    rw [hbe, hL]
    rw [ht] at HTY ⊢
    have HD : Hid (∀ (k : Nat) (u : World), k < 6 → Below w1.heap.size w1 u → ∃ x : Nat, x < 256 ∧ u.cell? ⟨w.heap.size, k, none⟩ = some (.int .u8 (x : Int)) ∧ Hid (f.dst.take k ++ [x] = f.dst.take (k + 1))) := fun k u hk hu => by
      have hkl : k < f.dst.length := by rw [hf.ok.dst]; exact hk
      refine ⟨f.dst[k], hf.dst _ (List.getElem_mem _), ?_, ?_⟩
      · rw [cell_fr (HRW.out u hu) k, frc_dst hf.ok.dst f.ty _ k hk, bs_get hkl]
      · unfold Hid; rw [List.take_succ_eq_append_getElem hkl]
    have HS : Hid (∀ (k : Nat) (u : World), k < 6 → Below w1.heap.size w1 u → ∃ x : Nat, x < 256 ∧ u.cell? ⟨w.heap.size, 6 + k, none⟩ = some (.int .u8 (x : Int)) ∧ Hid (f.dst ++ (f.src.take k ++ [x]) = f.dst ++ f.src.take (k + 1))) := fun k u hk hu => by
      have hkl : k < f.src.length := by rw [hf.ok.src]; exact hk
      refine ⟨f.src[k], hf.src _ (List.getElem_mem _), ?_, ?_⟩
      · rw [cell_fr (HRW.out u hu) (6 + k), frc_src hf.ok.dst hf.ok.src f.ty _ k hk, bs_get hkl]
      · unfold Hid; rw [List.take_succ_eq_append_getElem hkl]
    have HLA : Hid (∀ (l : Value) (u : World), Below w1.heap.size w1 u → OwnB u w1.heap.size l (f.dst ++ f.src) → Calls Try.prog 59 #[l, .int .i64 (f.ty : Int), .int .i64 2] u fun e w' => ∃ l', e = .returned l' ∧ OwnB w' w1.heap.size l' (f.dst ++ f.src ++ laidL f.ty 2) ∧ Below w1.heap.size w1 w') := fun l u hu hO =>
      laidR_any l _ f.ty 2 w1 u hu hO (by omega) (by omega) (by rw [List.length_append, hf.ok.dst, hf.ok.src]; omega)
    have HJO : Hid (∀ (l : Value) (u : World), Below w1.heap.size w1 u → OwnB u w1.heap.size l (f.dst ++ f.src ++ laidL f.ty 2) → Calls Try.prog 58 #[l, .slice ab nb capb, .int .i64 0, .int .i64 (nb : Int)] u fun e w' => ∃ l', e = .returned l' ∧ OwnB w' w1.heap.size l' (f.dst ++ f.src ++ laidL f.ty 2 ++ f.B) ∧ Below w1.heap.size w1 w') := fun l u hu hO => by
      have := joinedR_any l (.slice ab nb capb) _ f.B 0 nb w1 u hu hO (hvb.below hb1) (by omega) (by rw [HNB.out]; exact Nat.le_refl _) (by rw [List.length_append, List.length_append, hf.ok.dst, hf.ok.src, laidL_len]; omega)
      rw [List.drop_zero, List.take_of_length_le (by rw [HNB.out]; exact Nat.le_refl _)] at this
      exact this
    have HDL : Hid (f.dst.take 6 = f.dst) := by unfold Hid; rw [List.take_of_length_le (by rw [hf.ok.dst]; omega)]
    have HSL : Hid (f.src.take 6 = f.src) := by unfold Hid; rw [List.take_of_length_le (by rw [hf.ok.src]; omega)]
    have HD6 := hid hf.ok.dst
    generalize frCells f (.slice ab nb capb) = fr at *
    clear hw1 hs1 hb1 hvb hr1 hL hbe ht hbig'
    go_enter Try.func34, Try.ntmps34
    go_upto_region 1 with fail
    rw [← HW1.out]
    go_wp2_with fail
    refine (HTY.out _).mono ?_
    rintro _ wy ⟨rfl, hwy⟩
    subst hwy
    go_wp2_with fail
    go_loopw [5, 6] (fun t i wv => ∃ (k : Nat) (wr : World), i = .int .i64 (k : Int) ∧ k ≤ 6 ∧ wr = wv ∧ Hid (OwnB wr wy.heap.size t (f.dst.take k)) ∧ Below wy.heap.size wy wr) (fun _ i _ => 6 - (intOf i).toNat)
    case atStart => exact ⟨0, _, rfl, by omega, rfl, ownB_nil _ _, Below.refl _ _⟩
    case round =>
      clear c12 c13
      obtain ⟨k, wr, rfl, hk, rfl, HOK, hb⟩ := hrel
      by_cases hlt : k < 6
      · obtain ⟨x, hx, hc, HX⟩ := HD.out k wr hlt hb
        have b0 : (k : Int) < 6 := by omega
        have b1 : (0 : Int) ≤ (k : Int) := by omega
        have HLE : Hid ((f.dst.take k).length + [x].length ≤ 140737488355328) := by unfold Hid; rw [List.length_take]; simp only [List.length_cons, List.length_nil]; omega
        go_wp2_with (at_builtin; refine wpList_append_bytes rfl _ _ rfl wy.heap.size _ _ rfl (HOK.out.alloc _) _ [x] rfl (sees_one rfl x hx _) ?c1 ?c2 ?_)
        case c1 => exact HLE.out
        case c2 => have := hb.size; simp; omega
        intro v' w2 ho hb2
        rw [HX.out] at ho
        have HO2 := hid ho
        have hb3 : Below wy.heap.size wy w2 := (hb.alloc hb.size _).trans hb2
        clear ho hb2 hc
        go_wp2_with fail
        go_roundw
        case rel => exact ⟨k + 1, _, by go_num, by omega, rfl, HO2, hb3⟩
        case measure => simp [intOf]; omega
      · have hk6 : k = 6 := by omega
        rw [hk6, HDL.out] at HOK
        have hge : ¬ (k : Int) < 6 := by omega
        clear hk6
        go_wp2_with fail
        go_loopw [5, 7] (fun t i wv => ∃ (k : Nat) (wr : World), i = .int .i64 (k : Int) ∧ k ≤ 6 ∧ wr = wv ∧ Hid (OwnB wr wy.heap.size t (f.dst ++ f.src.take k)) ∧ Below wy.heap.size wy wr) (fun _ i _ => 6 - (intOf i).toNat)
        case atStart => exact ⟨0, _, rfl, by omega, rfl, by unfold Hid; rw [List.take_zero, List.append_nil]; exact HOK.out, hb⟩
        case round =>
          clear hb HOK
          obtain ⟨k, wr, rfl, hk, rfl, HOK, hb⟩ := hrel
          by_cases hlt : k < 6
          · obtain ⟨x, hx, hc, HX⟩ := HS.out k wr hlt hb
            have b0 : (k : Int) < 6 := by omega
            have b1 : (0 : Int) ≤ (k : Int) := by omega
            have HLE : Hid ((f.dst ++ f.src.take k).length + [x].length ≤ 140737488355328) := by unfold Hid; rw [List.length_append, HD6.out, List.length_take]; simp only [List.length_cons, List.length_nil]; omega
            go_wp2_with (at_builtin; refine wpList_append_bytes rfl _ _ rfl wy.heap.size _ _ rfl (HOK.out.alloc _) _ [x] rfl (sees_one rfl x hx _) ?c1 ?c2 ?_)
            case c1 => exact HLE.out
            case c2 => have := hb.size; simp; omega
            intro v' w2 ho hb2
            rw [HX.out] at ho
            have HO2 := hid ho
            have hb3 : Below wy.heap.size wy w2 := (hb.alloc hb.size _).trans hb2
            clear ho hb2 hc
            go_wp2_with fail
            go_roundw
            case rel => exact ⟨k + 1, _, by go_num, by omega, rfl, HO2, hb3⟩
            case measure => simp [intOf]; omega
          · have hk6 : k = 6 := by omega
            rw [hk6, HSL.out] at HOK
            have hge : ¬ (k : Int) < 6 := by omega
            clear hk6
            obtain ⟨d12, d13⟩ := HCE.out _ hb
            have X1 := hid (HLA.out _ _ hb HOK.out)
            clear hb HOK
            go_wp2_with fail
            refine X1.out.mono ?_
            rintro _ w3 ⟨l3, rfl, ho3, hb3⟩
            obtain ⟨d12, d13⟩ := HCE.out _ hb3
            have X2 := hid (HJO.out _ _ hb3 ho3)
            clear ho3 hb3 X1
            go_wp2_with fail
            refine X2.out.mono ?_
            rintro _ w4 ⟨l4, rfl, ho4, hb4⟩
            have HO4 := hid ho4
            have HB4 := hid hb4
            clear ho4 hb4 X2
            go_wp2_with fail
            refine bodyPost_ret (results_tmp2 Try.results34 _ _ _) rfl ?_
            exact ⟨_, rfl, HO4.out.mono HB1.out.size, HB1.out.trans (HB4.out.mono HB1.out.size)⟩
  · have HE := hid (bf_bad (f := f) (e := Tn.tyE f.ty) hbe ht)
    generalize frCells f (.slice ab nb capb) = fr at *
    generalize Tn.tyE f.ty = E at *
    have q1 : (E == 0) = false := by simp [ht]
    have q2 : (E != 0) = true := by simp [ht]
    clear hw1 hs1 hb1 hvb hr1 hbe
    go_enter Try.func34, Try.ntmps34
    go_upto_region 1 with fail
    rw [← HW1.out]
    go_wp2_with fail
    refine (HTY.out _).mono ?_
    rintro _ wy ⟨rfl, hwy⟩
    subst hwy
    go_wp2_with fail
    refine bodyPost_ret (results_tmp2 Try.results34 _ _ _) rfl ?_
    rw [HE.out.1, HE.out.2]
    exact ⟨.slice none 0 0, rfl, ownB_nil _ _, HB1.out⟩

end Go.Proofs.Ytcelcnafcfefhaa.N

/-
  weftref7: BuildFrame, ParseFrame.
-/
namespace Go.Proofs.Ytcelcnafcfefhaa.N
open Go.ChangeShapes Go.WideShapes Go.ChangeAt Go.RowKit
set_option maxHeartbeats 8000000
set_option maxRecDepth 100000

/-- The first k bytes of a list, and zeros behind. -/
def mixk (A : List Nat) (k : Nat) : List Nat := A.take k ++ List.replicate (6 - k) 0
theorem mixk_len {A : List Nat} (hA : A.length = 6) {k : Nat} (hk : k ≤ 6) : (mixk A k).length = 6 := by
  unfold mixk
  rw [List.length_append, List.length_take, List.length_replicate]
  omega
theorem mixk_set {A : List Nat} (hA : A.length = 6) {k : Nat} (hk : k < 6) : (mixk A k).set k (A.getD k 0) = mixk A (k + 1) := by
  unfold mixk
  have hk' : k < A.length := by omega
  have hl : (A.take k).length = k := by rw [List.length_take]; omega
  rw [List.set_append_right _ _ (by omega), hl, Nat.sub_self, show 6 - k = (6 - (k + 1)) + 1 by omega, List.replicate_succ, List.set_cons_zero, List.take_succ_eq_append_getElem hk', List.append_assoc]
  simp [hk']
theorem mixk_six {A : List Nat} (hA : A.length = 6) : mixk A 6 = A := by
  unfold mixk
  rw [List.take_of_length_le (by omega)]
  simp

theorem frc_setD {D S : List Nat} (hD : D.length = 6) (ty : Nat) (v : Value) (k x : Nat) (hk : k < 6) : (frc D S ty v).toArray.setIfInBounds k (.int .u8 (x : Int)) = (frc (D.set k x) S ty v).toArray := by
  unfold frc
  apply Array.toList_inj.1
  rw [Array.toList_setIfInBounds]
  show (bs D ++ _).set k _ = bs (D.set k x) ++ _
  rw [List.set_append_left _ _ (by rw [bs_len, hD]; exact hk)]
  simp [bs, List.map_set]
theorem frc_setS {D S : List Nat} (hD : D.length = 6) (hS : S.length = 6) (ty : Nat) (v : Value) (k x : Nat) (hk : k < 6) : (frc D S ty v).toArray.setIfInBounds (6 + k) (.int .u8 (x : Int)) = (frc D (S.set k x) ty v).toArray := by
  unfold frc
  apply Array.toList_inj.1
  rw [Array.toList_setIfInBounds]
  show (bs D ++ (bs S ++ _)).set (6 + k) _ = bs D ++ (bs (S.set k x) ++ _)
  rw [List.set_append_right _ _ (by rw [bs_len, hD]; omega), bs_len, hD, Nat.add_sub_cancel_left, List.set_append_left _ _ (by rw [bs_len, hS]; exact hk)]
  simp [bs, List.map_set]

theorem parseFR_any (v : Value) (L : List Nat) (w : World) (hv : SeesB w v L) :
    Calls Try.prog 31 #[v] w fun e w' => ∃ ao n cap, e = .returned (.tuple #[.agg (frCells (Tn.pfF L) (.slice ao n cap)), .int .i64 (Tn.pfE L)]) ∧ SeesB w' (.slice ao n cap) (Tn.pfF L).B ∧ (∀ a, ao = some a → w.heap.size ≤ a.block) ∧ Below w.heap.size w w' := by
  obtain ⟨w1, hw1⟩ : ∃ w1, w1 = w.alloc (.cells zeroF 41) := ⟨_, rfl⟩
  have hs1 : w1.heap.size = w.heap.size + 1 := by rw [hw1]; simp
  have hb1 : Below w.heap.size w w1 := by rw [hw1]; exact (Below.refl _ _).alloc (Nat.le_refl _) _
  have hr1 : w1.heap[w.heap.size]? = some (.cells zeroF 41 (0, 0)) := by rw [hw1]; exact heap_alloc_new w _
  obtain ⟨ao, n, cap, rfl, HN, hn1, hn2⟩ := hv.shape
  unfold maxLen at hn2
  have HV1 := hid (hv.below hb1)
  have HBY := hid hv.bytes
  have HI : Hid (∀ zz : Array Value, zz.size = 14 → (Try.prog.info? 41).map (·.size) = some zz.size) := fun zz hz => by rw [hz]; kernel_rfl
  have HCE : Hid (∀ (zz : Array Value) (u : World), zz.size = 14 → Below w1.heap.size w1 u → u.there w.heap.size 0 zz.size ∧ (loadVar 41 ⟨w.heap.size, 0, none⟩).run Try.prog (u.setCells w.heap.size 0 zz.toList) = .ok (.agg zz) (u.setCells w.heap.size 0 zz.toList)) := fun zz u hz hb =>
    cell_end hr1 hb (by rw [hz]; rfl) Try.underlying41 rfl (HI.out zz hz)
  have HBW : Hid (∀ u, Below w1.heap.size w1 u → Below w.heap.size w u) := fun u hu => hb1.trans (hu.mono hb1.size)
  have HBF0 : Hid (∀ (zz : Array Value) (u : World), Below w1.heap.size w1 u → Below w.heap.size w (u.setCells w.heap.size 0 zz.toList)) := fun zz u hu => below_setCells' (Nat.le_refl _) _ _ _ (HBW.out u hu)
  have HW1 : Hid (w1 = w.alloc (.cells zeroF 41)) := hw1
  unfold zeroF at HW1
  obtain ⟨zz, hzz⟩ : ∃ zz : Array Value, zz = zeroF := ⟨_, rfl⟩
  have HZ := hid hzz
  unfold zeroF at HZ
  have HZS : Hid (zz.size = 14) := by unfold Hid; rw [hzz]; rfl
  have HONE : Hid (zz.all (·.oneCell') = true) := by unfold Hid; rw [hzz]; simp [zeroF, Value.oneCell']
  have HZC : Hid (zz = frCells Tn.noneF (.slice none 0 0)) := hzz
  have HINF := hid (HI.out zz HZS.out)
  have HS1 := hid hs1
  clear hzz hw1 hs1 hb1 hr1 hv
  by_cases hA : 65499 < n
  · have HE := hid (pf_bad (L := L) (e := 2) (by unfold Tn.pfE; rw [if_pos (by have := HN.out; omega)]) (by decide))
    have hA' : (65499 : Int) < (n : Int) := by omega
    go_enter Try.func31, Try.ntmps31
    go_upto_region 1 with fail
    rw [← HW1.out]
    obtain ⟨q1, q2⟩ := HCE.out zz w1 HZS.out (Below.refl _ _)
    have HTU := hid q1
    have HLV := hid q2
    have HBF := hid (HBF0.out zz w1 (Below.refl _ _))
    clear q1 q2
    go_wp2_with (first
      | (refine wpList_store_mid rfl 41 (.tmp 2) (.tmp 11) rfl w.heap.size 0 zz rfl (by rw [HZ.out]; rfl) HTU.out HINF.out HONE.out ?_)
      | fail)
    generalize w1.setCells w.heap.size 0 zz.toList = wf at HLV HBF ⊢
    refine bodyPost_ret (v := .tuple #[.agg zz, .int .i64 2]) (by simp [results, Try.results31, asAddr, HLV.out]) rfl ?_
    rw [HE.out.1, HE.out.2]
    exact ⟨none, 0, 0, by rw [HZC.out], sees_nil _, (fun a ha => by cases ha), HBF.out⟩
  have hA' : ¬ (65499 : Int) < (n : Int) := by omega
  by_cases hB : n < 14
  · have HE := hid (pf_bad (L := L) (e := 70) (by unfold Tn.pfE; rw [if_neg (by have := HN.out; omega), if_pos (by have := HN.out; omega)]) (by decide))
    have hB' : (n : Int) < 14 := by omega
    go_enter Try.func31, Try.ntmps31
    go_upto_region 1 with fail
    rw [← HW1.out]
    obtain ⟨q1, q2⟩ := HCE.out zz w1 HZS.out (Below.refl _ _)
    have HTU := hid q1
    have HLV := hid q2
    have HBF := hid (HBF0.out zz w1 (Below.refl _ _))
    clear q1 q2
    go_wp2_with (first
      | (refine wpList_store_mid rfl 41 (.tmp 2) (.tmp 15) rfl w.heap.size 0 zz rfl (by rw [HZ.out]; rfl) HTU.out HINF.out HONE.out ?_)
      | fail)
    generalize w1.setCells w.heap.size 0 zz.toList = wf at HLV HBF ⊢
    refine bodyPost_ret (v := .tuple #[.agg zz, .int .i64 70]) (by simp [results, Try.results31, asAddr, HLV.out]) rfl ?_
    rw [HE.out.1, HE.out.2]
    exact ⟨none, 0, 0, by rw [HZC.out], sees_nil _, (fun a ha => by cases ha), HBF.out⟩
  have hB' : ¬ (n : Int) < 14 := by omega
  have XR : Hid (Calls Try.prog 56 #[.slice ao n cap, .int .i64 12, .int .i64 2] w1 fun e w' => e = .returned (.int .i64 ((Tn.num2 L 12 : Nat) : Int)) ∧ Below w1.heap.size w1 w') := by
    have := numberR_any _ L 12 2 w1 HV1.out (by omega) (by have := HN.out; omega)
    rw [numN_two] at this
    exact this
  have hpe : Tn.pfE L = Tn.tyE (Tn.num2 L 12) := by
    unfold Tn.pfE
    rw [if_neg (by have := HN.out; omega), if_neg (by have := HN.out; omega)]
  have hty16 : Tn.num2 L 12 < 65536 := by
    rw [num2_byt]
    have h1 := byt_lt HBY.out 12
    have h2 := byt_lt HBY.out (12 + 1)
    omega
  have HPD : Hid (Tn.pfE L = 0 → Tn.pfF L = ⟨L.take 6, (L.drop 6).take 6, Tn.num2 L 12, L.drop 14⟩) := fun h => by unfold Tn.pfF; rw [if_pos h]
  obtain ⟨ty, hty⟩ : ∃ ty, ty = Tn.num2 L 12 := ⟨_, rfl⟩
  rw [← hty] at XR hpe hty16 HPD
  have HCT := hid (fun u => typedR_any ty u hty16)
  by_cases ht : Tn.tyE ty = 0
  · rw [ht] at HCT hpe
    have HPE2 := hid hpe
    have HD := hid (HPD.out hpe)
    have HJO : Hid (∀ u, Below w1.heap.size w1 u → Calls Try.prog 58 #[.slice none 0 0, .slice ao n cap, .int .i64 14, .int .i64 (n : Int)] u fun e w' => ∃ a2 n2 c2, e = .returned (.slice a2 n2 c2) ∧ SeesB w' (.slice a2 n2 c2) (L.drop 14) ∧ (∀ a, a2 = some a → u.heap.size ≤ a.block) ∧ Below u.heap.size u w') := fun u hu => by
      have := joinedR_any (.slice none 0 0) _ [] L 14 n u u (Below.refl _ _) (ownB_nil _ _) (HV1.out.below hu) (by omega) (by have := HN.out; omega) (by simp; omega)
      rw [List.take_of_length_le (by have := HN.out; omega), List.nil_append] at this
      refine this.mono ?_
      rintro e w' ⟨l', rfl, ho, hb⟩
      have hsee := ho.sees (fun x hx => HBY.out x (List.mem_of_mem_drop hx))
      obtain ⟨a2, n2, c2, rfl, _, _, _⟩ := hsee.shape
      exact ⟨a2, n2, c2, rfl, hsee, ho.new, hb⟩
    have hl6 : (L.take 6).length = 6 := by rw [List.length_take, ← HN.out]; omega
    have hl12 : ((L.drop 6).take 6).length = 6 := by rw [List.length_take, List.length_drop, ← HN.out]; omega
    have hgd : ∀ k, k < 6 → (L.take 6).getD k 0 = byt L k ∧ ((L.drop 6).take 6).getD k 0 = byt L (6 + k) := fun k hk => by
      unfold byt
      refine ⟨?_, ?_⟩
      · rw [List.getD_eq_getElem?_getD, List.getD_eq_getElem?_getD, List.getElem?_take_of_lt hk]
      · rw [List.getD_eq_getElem?_getD, List.getD_eq_getElem?_getD, List.getElem?_take_of_lt hk, List.getElem?_drop]
    have HGD := hid hgd
    have HL := hid (And.intro hl6 hl12)
    generalize L.take 6 = DD at *
    generalize (L.drop 6).take 6 = SS at *
    clear hpe hl6 hl12 hgd hty HPD
    go_enter Try.func31, Try.ntmps31
    go_upto_region 1 with fail
    rw [← HW1.out]
    go_wp2_with fail
    refine XR.out.mono ?_
    rintro _ w2 ⟨rfl, hb2⟩
    have HB2 := hid hb2
    clear hb2 XR
    go_wp2_with fail
    refine (HCT.out _).mono ?_
    rintro _ wz ⟨rfl, hwz⟩
    subst hwz
    have XJ := hid (HJO.out _ HB2.out)
    clear HJO
    go_wp2_with fail
    refine XJ.out.mono ?_
    rintro _ w3 ⟨a3, n3, c3, rfl, hs3, hn3, hb3⟩
    have hb13 := HB2.out.trans (hb3.mono HB2.out.size)
    obtain ⟨p, hp⟩ : ∃ p, p = w3.heap.size := ⟨_, rfl⟩
    obtain ⟨pa, hpa⟩ : ∃ pa : Array Value, pa = (frc (mixk DD 0) (mixk SS 0) ty (.slice a3 n3 c3)).toArray := ⟨_, rfl⟩
    have HPA : Hid (pa = #[.int .u8 0, .int .u8 0, .int .u8 0, .int .u8 0, .int .u8 0, .int .u8 0, .int .u8 0, .int .u8 0, .int .u8 0, .int .u8 0, .int .u8 0, .int .u8 0, .int .u16 (ty : Int), .slice a3 n3 c3]) := hpa
    have hps : pa.size = 14 := by rw [hpa]; rfl
    have HPI := hid (HI.out pa hps)
    have HPO : Hid (pa.all (·.oneCell') = true) := by unfold Hid; rw [hpa]; exact frc_one
    have hrp : (w3.alloc (.cells zeroF 41)).heap[p]? = some (.cells zeroF 41 (0, 0)) := by rw [hp]; exact heap_alloc_new w3 _
    have HTP : Hid ((w3.alloc (.cells zeroF 41)).there p 0 pa.size) := there_blk hrp (by rw [hps]; rfl)
    obtain ⟨w4, hw4⟩ : ∃ w4, w4 = (w3.alloc (.cells zeroF 41)).setCells p 0 pa.toList := ⟨_, rfl⟩
    have hr4 : w4.heap[p]? = some (.cells (frc (mixk DD 0) (mixk SS 0) ty (.slice a3 n3 c3)).toArray 41 (0, 0)) := by rw [hw4, ← hpa]; exact row_put hrp (by rw [hps]; rfl)
    have hb34 : Below w3.heap.size w3 w4 := by rw [hw4]; exact below_setCells' (by omega) _ _ _ ((Below.refl _ _).alloc (Nat.le_refl _) _)
    have HW4 := hid hw4
    unfold zeroF at HW4 HTP
    have HP := hid hp
    have HB34 : Hid (Below p w3 w4) := by unfold Hid; rw [hp]; exact hb34
    have HR4 := hid hr4
    have HS3 := hid hs3
    have HB13 := hid hb13
    have HPW : Hid (w1.heap.size ≤ p) := by unfold Hid; rw [hp]; exact hb13.size
    have HN3 : Hid (∀ a, a3 = some a → w.heap.size < a.block) := fun a ha => by have h1 := hn3 a ha; have h2 := HB2.out.size; have h3 := HS1.out; omega
    have HVK : Hid (∀ (j : Nat) (u : World), j < n → Below p w3 u → ∃ g off, ao = some ⟨g, off, none⟩ ∧ byt L j < 256 ∧ u.cell? ⟨g, off + j, none⟩ = some (.int .u8 ((byt L j : Nat) : Int)) ∧ g < p) := fun j u hj hu => by
      obtain ⟨g, off, h1, h2, h3⟩ := (HV1.out.below hb13).atB j hj
      have hg : g < p := by rw [hp]; exact h2
      exact ⟨g, off, h1, byt_lt HBY.out j, (hu.cell (p := ⟨g, off + j, none⟩) hg).trans h3, hg⟩
    clear hw4 hpa hps hrp hb34 hr4 hp hs3 hn3 hb3 hb13 XJ
    go_upto_region 10 with (first
      | (rw [← HP.out]; refine wpList_store_mid rfl 41 (.tmp 6) (.tmp 30) rfl p 0 pa rfl (by rw [HPA.out]; rfl) HTP.out HPI.out HPO.out ?_; rw [← HW4.out])
      | fail)
    simp only [Act.put]
    go_wp2_with fail
    go_loopw [7] (fun i wv => ∃ (k : Nat) (wr : World), i = .int .i64 (k : Int) ∧ k ≤ 6 ∧ wr = wv ∧ Hid (wr.heap[p]? = some (.cells (frc (mixk DD k) (mixk SS k) ty (.slice a3 n3 c3)).toArray 41 (0, 0)) ∧ Below p w3 wr)) (fun i _ => 6 - (intOf i).toNat)
    case atStart => exact ⟨0, _, rfl, by omega, rfl, HR4.out, HB34.out⟩
    case round =>
      obtain ⟨k, wr, rfl, hk, rfl, HRK⟩ := hrel
      obtain ⟨hrk, hbk⟩ := HRK.out
      by_cases hlt : k < 6
      · obtain ⟨g, off, rfl, hx, hcx, hg⟩ := HVK.out k wr (by omega) hbk
        have hmD := mixk_len HL.out.1 hk
        have hmS := mixk_len HL.out.2 hk
        have c0 := cell_fr hrk k
        rw [frc_dst hmD ty _ k hlt, bs_get (by rw [hmD]; exact hlt)] at c0
        have z0 : wr.frozen? ⟨p, k, none⟩ = false := frozen_of_row _ _ _ _ _ hrk
        obtain ⟨wa, hwa⟩ : ∃ wa, wa = wr.setCell ⟨p, k, none⟩ (.int .u8 ((byt L k : Nat) : Int)) := ⟨_, rfl⟩
        obtain ⟨wn, hwn⟩ : ∃ wn, wn = wa.setCell ⟨p, 6 + k, none⟩ (.int .u8 ((byt L (6 + k) : Nat) : Int)) := ⟨_, rfl⟩
        have hra : wa.heap[p]? = some (.cells (frc (mixk DD (k + 1)) (mixk SS k) ty (.slice a3 n3 c3)).toArray 41 (0, 0)) := by
          rw [hwa]
          have h1 := heap_setCell_row (o := k) hrk (.int .u8 ((byt L k : Nat) : Int))
          rw [frc_setD hmD ty _ k _ hlt, ← (HGD.out k hlt).1, mixk_set HL.out.1 hlt] at h1
          rw [(HGD.out k hlt).1] at h1
          exact h1
        have hmD1 := mixk_len HL.out.1 (show k + 1 ≤ 6 by omega)
        have hrn : wn.heap[p]? = some (.cells (frc (mixk DD (k + 1)) (mixk SS (k + 1)) ty (.slice a3 n3 c3)).toArray 41 (0, 0)) := by
          rw [hwn]
          have h2 := heap_setCell_row (o := 6 + k) hra (.int .u8 ((byt L (6 + k) : Nat) : Int))
          rw [frc_setS hmD1 hmS ty _ k _ hlt, ← (HGD.out k hlt).2, mixk_set HL.out.2 hlt] at h2
          rw [(HGD.out k hlt).2] at h2
          exact h2
        have hba : Below p w3 wa := by rw [hwa]; exact hbk.setCell (p := ⟨p, k, none⟩) (Nat.le_refl _) _
        have hbn : Below p w3 wn := by rw [hwn]; exact hba.setCell (p := ⟨p, 6 + k, none⟩) (Nat.le_refl _) _
        obtain ⟨g2, off2, he, _, hcy, _⟩ := HVK.out (6 + k) wa (by omega) hba
        simp at he
        obtain ⟨rfl, rfl⟩ := he
        have c6 := cell_fr hra (6 + k)
        rw [frc_src hmD1 hmS ty _ k hlt, bs_get (by rw [hmS]; exact hlt)] at c6
        have z6 : wa.frozen? ⟨p, 6 + k, none⟩ = false := frozen_of_row _ _ _ _ _ hra
        obtain ⟨m, hm⟩ : ∃ m, m = 6 + k := ⟨_, rfl⟩
        have hcm : wa.cell? ⟨g, off + m, none⟩ = some (.int .u8 ((byt L (6 + k) : Nat) : Int)) := by rw [hm]; exact hcy
        clear hcy
        have HNX := hid (And.intro hrn hbn)
        have HWN := hid hwn
        have HWA := hid hwa
        have hy256 := byt_lt HBY.out (6 + k)
        generalize byt L k = xk at *
        generalize byt L (6 + k) = yk at *
        generalize ((mixk DD k)[k]'_ : Nat) = ok at c0
        generalize ((mixk SS k)[k]'_ : Nat) = sk at c6
        have b0 : (k : Int) < 6 := by omega
        have b1 : (0 : Int) ≤ (k : Int) := by omega
        have b2 : (k : Int) < (n : Int) := by omega
        have b3 : (m : Int) < (n : Int) := by omega
        have b4 : (0 : Int) ≤ (m : Int) := by omega
        have e6 : (6 : Int) + (k : Int) = (m : Int) := by omega
        have HM := hid hm
        clear hrn hbn hwn hrk hbk hmD hmS hm hra hba hwa hmD1
        go_upto_region 14 with fail
        rw [← HWA.out]
        go_wp2_with fail
        go_roundw
        case rel => exact ⟨k + 1, wn, by go_num, by omega, by rw [HWN.out], HNX⟩
        case measure => simp [intOf]; omega
      · have hk6 : k = 6 := by omega
        rw [hk6, mixk_six HL.out.1, mixk_six HL.out.2] at hrk
        have hge : ¬ (k : Int) < 6 := by omega
        clear hk6
        obtain ⟨yy, hyy⟩ : ∃ yy : Array Value, yy = (frc DD SS ty (.slice a3 n3 c3)).toArray := ⟨_, rfl⟩
        rw [← hyy] at hrk
        have HYS : Hid (yy.size = 14) := by unfold Hid; rw [hyy]; simp only [List.size_toArray]; exact frc_len HL.out.1 HL.out.2 _ _
        have HYI := hid (HI.out yy HYS.out)
        have HYO : Hid (yy.all (·.oneCell') = true) := by unfold Hid; rw [hyy]; exact frc_one
        have HL6 : Hid ((Instr.loadAt 41 (.pointer (some ⟨p, 0, none⟩))).run Try.prog wr = .ok (.agg yy) wr) := load_rowAt hrk Try.underlying41 rfl HYI.out
        have hb1r : Below w1.heap.size w1 wr := HB13.out.trans (hbk.mono HPW.out)
        obtain ⟨q1, q2⟩ := HCE.out yy wr HYS.out hb1r
        have HTU := hid q1
        have HLV := hid q2
        have HBF := hid (HBF0.out yy wr hb1r)
        have hsr : SeesB wr (.slice a3 n3 c3) (L.drop 14) := HS3.out.below (by rw [← HP.out]; exact hbk)
        have HSF := hid (sees_set' (b := w.heap.size) (vs := yy.toList) hsr (fun a ha => by have := HN3.out a ha; omega))
        have HYY := hid hyy
        clear hyy hrk hbk q1 q2 hsr hb1r HRK
        go_wp2_with (first
          | (refine wpList_ld 41 ⟨p, 0, none⟩ _ rfl rfl HL6.out rfl ?_)
          | (refine wpList_store_mid rfl 41 (.tmp 2) (.tmp 50) rfl w.heap.size 0 yy rfl rfl HTU.out HYI.out HYO.out ?_)
          | fail)
        generalize wr.setCells w.heap.size 0 yy.toList = wf at HLV HBF HSF ⊢
        refine bodyPost_ret (v := .tuple #[.agg yy, .int .i64 0]) (by simp [results, Try.results31, asAddr, HLV.out]) rfl ?_
        rw [HPE2.out, HD.out]
        exact ⟨_, _, _, by rw [HYY.out]; rfl, HSF.out, (fun a ha => Nat.le_of_lt (HN3.out a ha)), HBF.out⟩
  · have HE := hid (pf_bad hpe ht)
    generalize Tn.tyE ty = E at *
    have r1 : (E == 0) = false := by simp [ht]
    have r2 : (E != 0) = true := by simp [ht]
    clear hpe hty HPD
    go_enter Try.func31, Try.ntmps31
    go_upto_region 1 with fail
    rw [← HW1.out]
    go_wp2_with fail
    refine XR.out.mono ?_
    rintro _ w2 ⟨rfl, hb2⟩
    have HB2 := hid hb2
    clear hb2
    go_wp2_with fail
    refine (HCT.out _).mono ?_
    rintro _ wz ⟨rfl, hwz⟩
    subst hwz
    obtain ⟨q1, q2⟩ := HCE.out zz wz HZS.out HB2.out
    have HTU := hid q1
    have HLV := hid q2
    have HBF := hid (HBF0.out zz wz HB2.out)
    clear q1 q2
    go_wp2_with (first
      | (refine wpList_store_mid rfl 41 (.tmp 2) (.tmp 22) rfl w.heap.size 0 zz rfl (by rw [HZ.out]; rfl) HTU.out HINF.out HONE.out ?_)
      | fail)
    generalize wz.setCells w.heap.size 0 zz.toList = wf at HLV HBF ⊢
    refine bodyPost_ret (v := .tuple #[.agg zz, .int .i64 E]) (by simp [results, Try.results31, asAddr, HLV.out]) rfl ?_
    rw [HE.out.1, HE.out.2]
    exact ⟨none, 0, 0, by rw [HZC.out], sees_nil _, (fun a ha => by cases ha), HBF.out⟩
end Go.Proofs.Ytcelcnafcfefhaa.N

/-
  weftlaw7.frames.
-/
namespace Go.Proofs.Ytcelcnafcfefhaa.N
open Go.ChangeShapes Go.WideShapes Go.ChangeAt Go.RowKit
set_option maxHeartbeats 8000000
set_option maxRecDepth 100000

theorem pfF_ok {L : List Nat} (hb : ∀ x ∈ L, x < 256) : (Tn.pfF L).Ok := by
  unfold Tn.pfF
  split
  · rename_i h
    have h14 : 14 ≤ L.length := by
      unfold Tn.pfE at h
      split at h
      · cases h
      · split at h
        · cases h
        · omega
    refine ⟨by rw [List.length_take]; omega, by rw [List.length_take, List.length_drop]; omega, ?_⟩
    show Tn.num2 L 12 < 65536
    rw [num2_byt]
    have h1 := byt_lt hb 12
    have h2 := byt_lt hb (12 + 1)
    omega
  · exact ⟨rfl, rfl, by decide⟩

theorem frCells_size {f : Tn.Fr} (h : f.Ok) (v : Value) : (frCells f v).size = 14 := by
  unfold frCells
  simp only [List.size_toArray]
  exact frc_len h.dst h.src _ _

theorem frames_any (vr : Value) (L : List Nat) (f : Tn.Fr) (vb : Value) (w : World) (hvr : SeesB w vr L) (hf : FrB f) (hvb : SeesB w vb f.B) (hlr : L.length ≤ 140737488351232) (hlb : f.B.length ≤ 140737488351232) :
    Calls Try.prog 13 #[vr, .agg (frCells f vb)] w fun e w' => e = .returned (.bool true) ∧ Below w.heap.size w w' := by
  obtain ⟨ar, nr, capr, rfl, HNR, hnr1, hnr2⟩ := hvr.shape
  obtain ⟨ab, nb, capb, rfl, HNB, hnb1, hnb2⟩ := hvb.shape
  unfold maxLen at hnr2 hnb2
  obtain ⟨fr, hfr⟩ : ∃ fr, fr = frCells f (.slice ab nb capb) := ⟨_, rfl⟩
  obtain ⟨w1, hw1⟩ : ∃ w1, w1 = w.alloc (.cells fr 41) := ⟨_, rfl⟩
  have hs1 : w1.heap.size = w.heap.size + 1 := by rw [hw1]; simp
  have hb1 : Below w.heap.size w w1 := by rw [hw1]; exact (Below.refl _ _).alloc (Nat.le_refl _) _
  have hr1 : w1.heap[w.heap.size]? = some (.cells fr 41 (0, 0)) := by rw [hw1]; exact heap_alloc_new w _
  have HI : Hid (∀ zz : Array Value, zz.size = 14 → (Try.prog.info? 41).map (·.size) = some zz.size) := fun zz hz => by rw [hz]; kernel_rfl
  have HfrS : Hid (fr.size = 14) := by unfold Hid; rw [hfr]; exact frCells_size hf.ok _
  have HfrO : Hid (fr.all (·.oneCell') = true) := by unfold Hid; rw [hfr]; exact frc_one
  have HLD : Hid (∀ u, Below w1.heap.size w1 u → (Instr.loadAt 41 (.pointer (some ⟨w.heap.size, 0, none⟩))).run Try.prog u = .ok (.agg fr) u) := fun u hu => load_rowAt ((hu.block _ (by omega)).trans hr1) Try.underlying41 rfl (HI.out fr HfrS.out)
  have HC13 : Hid (∀ u, Below w1.heap.size w1 u → u.cell? ⟨w.heap.size, 13, none⟩ = some (.slice ab nb capb)) := fun u hu => (fr_at hf.ok (by rw [← hfr]; exact (hu.block _ (by omega)).trans hr1)).2
  have HVR := hid (hvr.below hb1)
  have HVB := hid (hvb.below hb1)
  have HBR := hid hvr.bytes
  have HBY := hid hvb.bytes
  have HLR := hid hlr
  have HLB := hid hlb
  have HF := hid hf
  have HFR := hid hfr
  have HW1 := hid hw1
  have HB1 := hid hb1
  have HRO := hid (roomy_any _ L w1 HVR.out hlr)
  have HPO := hid (pfF_ok HBR.out)
  rw [← hfr]
  clear hw1 hb1 hr1 hs1 hfr hvr hvb hlr hlb hf
  go_enter Try.func13, Try.ntmps13
  go_upto_region 1 with fail
  rw [← HW1.out]
  go_wp2_with fail
  refine HRO.out.mono ?_
  rintro _ w2 ⟨l2, rfl, ho2, hb2⟩
  have hbm : ∀ y ∈ L ++ mkN 70, y < 256 := fun y hy => (List.mem_append.1 hy).elim (HBR.out y) (mkN_bytes y)
  obtain ⟨ao, no, co, rfl, hsr, hsc, kcut⟩ := room_cut ho2 hbm
  rw [← HNR.out] at hsc kcut
  have HB2 := hid hb2
  have X2 := hid (parseF_any _ L w2 hsc)
  have HSR2 := hid hsr
  clear hb2 hsc hsr ho2 hbm HRO
  go_wp2_with fail
  refine X2.out.mono ?_
  rintro _ w3 ⟨a3, n3, c3, rfl, hs3, _, hb3⟩
  obtain ⟨xx, hxx⟩ : ∃ xx, xx = frCells (Tn.pfF L) (.slice a3 n3 c3) := ⟨_, rfl⟩
  have HxxS : Hid (xx.size = 14) := by unfold Hid; rw [hxx]; exact frCells_size HPO.out _
  have HxxO : Hid (xx.all (·.oneCell') = true) := by unfold Hid; rw [hxx]; exact frc_one
  obtain ⟨p1, hp1⟩ : ∃ p1, p1 = w3.heap.size := ⟨_, rfl⟩
  obtain ⟨w4, hw4⟩ : ∃ w4, w4 = (w3.alloc (.cells zeroF 41)).setCells p1 0 xx.toList := ⟨_, rfl⟩
  have HI4 := hid (HI.out xx HxxS.out)
  have hrp4 : (w3.alloc (.cells zeroF 41)).heap[p1]? = some (.cells zeroF 41 (0, 0)) := by rw [hp1]; exact heap_alloc_new w3 _
  have HT4 : Hid ((w3.alloc (.cells zeroF 41)).there p1 0 xx.size) := there_blk hrp4 (by rw [HxxS.out]; rfl)
  have hr4 : w4.heap[p1]? = some (.cells xx 41 (0, 0)) := by rw [hw4]; exact row_put hrp4 (by rw [HxxS.out]; rfl)
  have hbn4 : Below w3.heap.size w3 w4 := by rw [hw4]; exact below_setCells' (by omega) _ _ _ ((Below.refl _ _).alloc (Nat.le_refl _) _)
  have Hw4 := hid hw4
  have HPp1 := hid hp1
  unfold zeroF at Hw4 HT4
  have hb24 : Below w2.heap.size w2 w4 := hb3.trans (hbn4.mono hb3.size)
  have HB24 := hid hb24
  have HB14 := hid (HB2.out.trans (hb24.mono HB2.out.size))
  have HS4 := hid (hs3.below hbn4)
  have HR4 := hid hr4
  have X4 := hid (parseFR_any _ L w4 (HVR.out.below HB14.out))
  rw [← hxx]
  have HXX := hid hxx
  clear hxx hp1 hw4 hrp4 hr4 hbn4 hb3 hb24 hs3 X2
  go_upto_region 3 with (first
    | (rw [← HPp1.out]; refine wpList_store_mid rfl 41 (.tmp 6) (.tmp 23) rfl p1 0 xx rfl rfl HT4.out HI4.out HxxO.out ?_; rw [← Hw4.out])
    | fail)
  go_wp2_with fail
  refine X4.out.mono ?_
  rintro _ w5 ⟨a5, n5, c5, rfl, hs5, _, hb5⟩
  obtain ⟨yy, hyy⟩ : ∃ yy, yy = frCells (Tn.pfF L) (.slice a5 n5 c5) := ⟨_, rfl⟩
  have HyyS : Hid (yy.size = 14) := by unfold Hid; rw [hyy]; exact frCells_size HPO.out _
  have HyyO : Hid (yy.all (·.oneCell') = true) := by unfold Hid; rw [hyy]; exact frc_one
  obtain ⟨p2, hp2⟩ : ∃ p2, p2 = w5.heap.size := ⟨_, rfl⟩
  obtain ⟨w6, hw6⟩ : ∃ w6, w6 = (w5.alloc (.cells zeroF 41)).setCells p2 0 yy.toList := ⟨_, rfl⟩
  have HI6 := hid (HI.out yy HyyS.out)
  have hrp6 : (w5.alloc (.cells zeroF 41)).heap[p2]? = some (.cells zeroF 41 (0, 0)) := by rw [hp2]; exact heap_alloc_new w5 _
  have HT6 : Hid ((w5.alloc (.cells zeroF 41)).there p2 0 yy.size) := there_blk hrp6 (by rw [HyyS.out]; rfl)
  have hr6 : w6.heap[p2]? = some (.cells yy 41 (0, 0)) := by rw [hw6]; exact row_put hrp6 (by rw [HyyS.out]; rfl)
  have hbn6 : Below w5.heap.size w5 w6 := by rw [hw6]; exact below_setCells' (by omega) _ _ _ ((Below.refl _ _).alloc (Nat.le_refl _) _)
  have Hw6 := hid hw6
  have HPp2 := hid hp2
  unfold zeroF at Hw6 HT6
  have hb46 : Below w4.heap.size w4 w6 := hb5.trans (hbn6.mono hb5.size)
  have HB26 := hid (HB24.out.trans (hb46.mono HB24.out.size))
  have HB16 := hid (HB2.out.trans (HB26.out.mono HB2.out.size))
  have HLX := hid (load_rowAt (T := 41) ((hb46.block p1 (Array.getElem?_eq_some_iff.1 HR4.out).1).trans HR4.out) Try.underlying41 rfl (HI.out xx HxxS.out))
  have HLY := hid (load_rowAt (T := 41) hr6 Try.underlying41 rfl (HI.out yy HyyS.out))
  have XS : Hid (Calls Try.prog 21 #[.agg xx, .agg yy] w6 fun e w' => e = .returned (.bool true) ∧ Below w6.heap.size w6 w') := by
    unfold Hid
    rw [HXX.out, hyy]
    exact sameFrame_self _ _ _ w6 HPO.out (HS4.out.below hb46) (hs5.below hbn6)
  have HKP : Hid (∀ u, Below w6.heap.size w6 u → Calls Try.prog 32 #[.slice ao no co, .slice ar nr capr] u fun e w' => e = .returned (.bool true) ∧ Below u.heap.size u w') := fun u hu => kept_any _ _ L u (HSR2.out.below (HB26.out.trans (hu.mono HB26.out.size))) (HVR.out.below (HB16.out.trans (hu.mono HB16.out.size))) HLR.out
  rw [← hyy]
  generalize Tn.pfE L = E at *
  clear hyy hp2 hw6 hrp6 hr6 hbn6 hb5 hb46 hs5 X4 kcut
  go_upto_region 4 with (first
    | (rw [← HPp2.out]; refine wpList_store_mid rfl 41 (.tmp 8) (.tmp 28) rfl p2 0 yy rfl rfl HT6.out HI6.out HyyO.out ?_; rw [← Hw6.out])
    | fail)
  go_wp2_with (first
    | (refine wpList_ld 41 ⟨p1, 0, none⟩ (.tmp 6) rfl rfl HLX.out rfl ?_)
    | (refine wpList_ld 41 ⟨p2, 0, none⟩ (.tmp 8) rfl rfl HLY.out rfl ?_)
    | fail)
  refine XS.out.mono ?_
  rintro _ w7 ⟨rfl, hb7⟩
  have X7 := hid (HKP.out w7 hb7)
  have HB67 := hid hb7
  clear hb7 XS HKP HLX HLY
  go_wp2_with fail
  refine X7.out.mono ?_
  rintro _ w8 ⟨rfl, hb8⟩
  have HB68 := hid (HB67.out.trans (hb8.mono HB67.out.size))
  have HB18 := hid (HB16.out.trans (HB68.out.mono HB16.out.size))
  have d13 := HC13.out w8 HB18.out
  have X8 := hid (roomy_any _ f.B w8 (HVB.out.below HB18.out) HLB.out)
  clear hb8 X7 HB67 HB68 HR4 HS4 HB24 HB26 HB14 HB16 HSR2
  as_aux_lemma =>
  go_wp2_with fail
  refine X8.out.mono ?_
  rintro _ w9 ⟨l9, rfl, ho9, hb9⟩
  have hbm : ∀ y ∈ f.B ++ mkN 70, y < 256 := fun y hy => (List.mem_append.1 hy).elim (HBY.out y) (mkN_bytes y)
  obtain ⟨ap, np, cp, rfl, hsr, hsc, kcut⟩ := room_cut ho9 hbm
  rw [← HNB.out] at hsc kcut
  have HB19 := hid (HB18.out.trans (hb9.mono HB18.out.size))
  have HL9 := hid (HLD.out w9 HB19.out)
  obtain ⟨p3, hp3⟩ : ∃ p3, p3 = w9.heap.size := ⟨_, rfl⟩
  obtain ⟨w10, hw10⟩ : ∃ w10, w10 = (w9.alloc (.cells zeroF 41)).setCells p3 0 fr.toList := ⟨_, rfl⟩
  have HI10 := hid (HI.out fr HfrS.out)
  have hrp10 : (w9.alloc (.cells zeroF 41)).heap[p3]? = some (.cells zeroF 41 (0, 0)) := by rw [hp3]; exact heap_alloc_new w9 _
  have HT10 : Hid ((w9.alloc (.cells zeroF 41)).there p3 0 fr.size) := there_blk hrp10 (by rw [HfrS.out]; rfl)
  have hr10 : w10.heap[p3]? = some (.cells fr 41 (0, 0)) := by rw [hw10]; exact row_put hrp10 (by rw [HfrS.out]; rfl)
  have hbn10 : Below w9.heap.size w9 w10 := by rw [hw10]; exact below_setCells' (by omega) _ _ _ ((Below.refl _ _).alloc (Nat.le_refl _) _)
  have Hw10 := hid hw10
  have HPp3 := hid hp3
  unfold zeroF at Hw10 HT10
  obtain ⟨w11, hw11⟩ : ∃ w11, w11 = w10.setCell ⟨p3, 13, none⟩ (.slice ap nb np) := ⟨_, rfl⟩
  obtain ⟨gg, hgg⟩ : ∃ gg, gg = frCells f (.slice ap nb np) := ⟨_, rfl⟩
  have hr11 : w11.heap[p3]? = some (.cells gg 41 (0, 0)) := by
    rw [hw11, hgg]
    unfold frCells
    rw [← frc_set HF.out.ok.dst HF.out.ok.src f.ty (.slice ab nb capb)]
    have h0 : w10.heap[p3]? = some (.cells (frc f.dst f.src f.ty (.slice ab nb capb)).toArray 41 (0, 0)) := by rw [hr10, HFR.out]; rfl
    exact heap_setCell_row h0 _
  have hggS : gg.size = 14 := by rw [hgg]; exact frCells_size HF.out.ok _
  have e13 : w10.cell? ⟨p3, 13, none⟩ = some (.slice ab nb capb) := (fr_at HF.out.ok (by rw [← HFR.out]; exact hr10)).2
  have z13 : w10.frozen? ⟨p3, 13, none⟩ = false := frozen_of_row _ _ _ _ _ hr10
  have hb911 : Below w9.heap.size w9 w11 := by rw [hw11]; exact hbn10.setCell (p := ⟨p3, 13, none⟩) (by show w9.heap.size ≤ p3; omega) _
  have HB110 := hid (HB19.out.trans (hbn10.mono HB19.out.size))
  have HB111 := hid (HB19.out.trans (hb911.mono HB19.out.size))
  have i13 := HC13.out w10 HB110.out
  have HL11 := hid (load_rowAt (T := 41) hr11 Try.underlying41 rfl (HI.out gg hggS))
  have X11 := hid (buildF_any f (.slice ap nb np) w11 HF.out (hsc.below hb911))
  rw [← hgg] at X11
  have HSR11 := hid (hsr.below hb911)
  have HW11 := hid hw11
  have hnp : nb ≤ np := by obtain ⟨_, _, hv, h1, _⟩ := hsc; simp at hv; omega
  clear hgg hw11 hr11 hggS hb911 hp3 hw10 hrp10 hr10 hbn10 hb9 hsc hsr ho9 hbm X8
  go_upto_region 8 with (first
    | (refine wpList_ld 41 ⟨w.heap.size, 0, none⟩ (.tmp 3) rfl rfl HL9.out rfl ?_)
    | (rw [← HPp3.out]; refine wpList_store_mid rfl 41 (.tmp 10) (.tmp 48) rfl p3 0 fr rfl rfl HT10.out HI10.out HfrO.out ?_; rw [← Hw10.out])
    | fail)
  simp only [Act.put]
  go_upto_region 9 with fail
  rw [← HW11.out]
  go_wp2_with (first
    | (refine wpList_ld 41 ⟨p3, 0, none⟩ (.tmp 10) rfl rfl HL11.out rfl ?_)
    | fail)
  refine X11.out.mono ?_
  rintro _ w12 ⟨s12, n12, t12, rfl, hs12, _, hb12⟩
  have HB112 := hid (HB111.out.trans (hb12.mono HB111.out.size))
  have HS12 := hid hs12
  have HSR12 := hid (HSR11.out.below hb12)
  have X12 := hid (buildFR_any f (.slice ab nb capb) w12 HF.out (HVB.out.below HB112.out))
  rw [← HFR.out] at X12
  have HL12 := hid (HLD.out w12 HB112.out)
  generalize Tn.bfE f = E2 at *
  generalize Tn.bfL f = BL at *
  clear hs12 hb12 X11 HL11 HL9 kcut e13 z13 i13 d13
  go_wp2_with (first
    | (refine wpList_ld 41 ⟨w.heap.size, 0, none⟩ (.tmp 3) rfl rfl HL12.out rfl ?_)
    | fail)
  refine X12.out.mono ?_
  rintro _ w13 ⟨v13, rfl, ho13, hb13⟩
  have hs13 := ho13.sees HS12.out.bytes
  obtain ⟨s13, n13, t13, rfl, _, _, _⟩ := hs13.shape
  have XS := hid (same_self _ _ _ w13 (HS12.out.below hb13) hs13)
  have HB1213 := hid hb13
  clear ho13 hs13 hb13 X12 HL12
  go_wp2_with fail
  refine XS.out.mono ?_
  rintro _ w14 ⟨rfl, hb14⟩
  have hb1214 := HB1213.out.trans (hb14.mono HB1213.out.size)
  have HB114 := hid (HB112.out.trans (hb1214.mono HB112.out.size))
  have j13 := HC13.out w14 HB114.out
  have X14 := hid (kept_any _ _ f.B w14 (HSR12.out.below hb1214) (HVB.out.below HB114.out) HLB.out)
  clear hb14 hb1214 XS
  go_wp2_with fail
  refine X14.out.mono ?_
  rintro _ w15 ⟨rfl, hb15⟩
  have HB115 := hid (HB114.out.trans (hb15.mono HB114.out.size))
  clear hb15 X14
  go_wp2_with fail
  go_ret
  exact ⟨rfl, HB1.out.trans (HB115.out.mono HB1.out.size)⟩
end Go.Proofs.Ytcelcnafcfefhaa.N

/-
  tunnel.Open.
-/
namespace Go.Proofs.Ytcelcnafcfefhaa.N
open Go.ChangeShapes Go.WideShapes Go.ChangeAt Go.RowKit
set_option maxHeartbeats 8000000
set_option maxRecDepth 100000

def opE (L : List Nat) : Int := if caE L ≠ 0 then caE L else if rhE (caD L).B ≠ 0 then rhE (caD L).B else Tn.pfE (rhB (caD L).B)
def opO (L : List Nat) : Ou := if opE L = 0 then ⟨(parsed L).1.src, (parsed L).1.dst, (caD L).s, (caD L).d, (parsed L).1.ttl, (rhV (caD L).B : Int)⟩ else ⟨0, 0, 0, 0, 0, 0⟩
def opF (L : List Nat) : Tn.Fr := if opE L = 0 then Tn.pfF (rhB (caD L).B) else Tn.noneF
def zeroOu : Array Value := #[.int .u32 0, .int .u32 0, .int .u16 0, .int .u16 0, .int .u8 0, .int .i64 0]

/-- Two results in cells. -/
theorem cells_endO {w1 u : World} {r : Nat} {hc dc : Array Value} (hr2 : w1.heap[r]? = some (.cells zeroOu 60 (0, 0))) (hr3 : w1.heap[r + 1]? = some (.cells zeroF 41 (0, 0))) (hb : Below w1.heap.size w1 u) (hh : hc.size = 6) (hd : dc.size = 14) :
    u.there r 0 hc.size ∧ (u.setCells r 0 hc.toList).there (r + 1) 0 dc.size ∧ (loadVar 60 ⟨r, 0, none⟩).run Try.prog ((u.setCells r 0 hc.toList).setCells (r + 1) 0 dc.toList) = .ok (.agg hc) ((u.setCells r 0 hc.toList).setCells (r + 1) 0 dc.toList) ∧ (loadVar 41 ⟨r + 1, 0, none⟩).run Try.prog ((u.setCells r 0 hc.toList).setCells (r + 1) 0 dc.toList) = .ok (.agg dc) ((u.setCells r 0 hc.toList).setCells (r + 1) 0 dc.toList) := by
  have l2 := (Array.getElem?_eq_some_iff.1 hr2).1
  have l3 := (Array.getElem?_eq_some_iff.1 hr3).1
  have h2 := (hb.block r l2).trans hr2
  have h3 := (hb.block (r + 1) l3).trans hr3
  have hsz := hb.size
  have b1 : But r u (u.setCells r 0 hc.toList) := But.setsT _ _
  have g2 : (u.setCells r 0 hc.toList).heap[r]? = some (.cells hc 60 (0, 0)) := row_put h2 (by rw [hh]; rfl)
  have g3 := (b1.block (r + 1) (by omega) (by omega)).trans h3
  have b2 : But (r + 1) (u.setCells r 0 hc.toList) ((u.setCells r 0 hc.toList).setCells (r + 1) 0 dc.toList) := But.setsT _ _
  have k3 : ((u.setCells r 0 hc.toList).setCells (r + 1) 0 dc.toList).heap[r + 1]? = some (.cells dc 41 (0, 0)) := row_put g3 (by rw [hd]; rfl)
  have k2 := (b2.block r (Array.getElem?_eq_some_iff.1 g2).1 (by omega)).trans g2
  exact ⟨there_blk h2 (by rw [hh]; rfl), there_blk g3 (by rw [hd]; rfl), load_row k2 Try.underlying60 rfl (by rw [hh]; kernel_rfl), load_row k3 Try.underlying41 rfl (by rw [hd]; kernel_rfl)⟩

/-- What holds all along the statement that lays the results down. -/
structure IO (p q r : Nat) (pk dc : Array Value) (v : Option Addr × Nat × Nat) (B : List Nat) (w u : World) : Prop where
  pk : u.heap[p]? = some (.cells pk 60 (0, 0))
  dg : u.heap[q]? = some (.cells dc 41 (0, 0))
  hd : ∃ C, u.heap[r]? = some (.cells C 60 (0, 0)) ∧ C.size = 6
  dt : ∃ C, u.heap[r + 1]? = some (.cells C 41 (0, 0)) ∧ C.size = 14
  sees : SeesB u (.slice v.1 v.2.1 v.2.2) B
  below : Below w.heap.size w u

def RO (r j : Nat) (w w' : World) : Prop := if j = 2 then But r w w' else if j = 3 then But (r + 1) w w' else w'.heap = w.heap
def FO (l : List Value) (r : Nat) (hc dc : Array Value) : Nat → (Nat → Value) → World → Prop
  | 2, _, w => w.heap[r]? = some (.cells hc 60 (0, 0))
  | 3, _, w => w.heap[r + 1]? = some (.cells dc 41 (0, 0))
  | i, vs, _ => l[i]? = some (vs i)
theorem RO.at {r j k : Nat} {w w' : World} {o : Obj} (h : RO r j w w') (hk : w.heap[k]? = some o) (h4 : j = 2 → k ≠ r) (h5 : j = 3 → k ≠ r + 1) : w'.heap[k]? = some o := by
  unfold RO at h
  split at h
  · rename_i hj; exact (h.block k (Array.getElem?_eq_some_iff.1 hk).1 (h4 hj)).trans hk
  · split at h
    · rename_i hj; exact (h.block k (Array.getElem?_eq_some_iff.1 hk).1 (h5 hj)).trans hk
    · rw [h]; exact hk
theorem FO.keeps (l : List Value) (r : Nat) (hc dc : Array Value) (ops : List Oper) (I : World → Prop) : ∀ (i j : Nat) (o : Oper) (vs : Nat → Value) (v : Value) (w w' : World), i ≠ j → ops[i]? = some o → (∀ e ∈ o.after, Region.binds .any e = true → e.on ≠ j) → FO l r hc dc i vs w → I w → RO r j w w' → FO l r hc dc i (upd vs j v) w' := fun i j o vs v w w' hij _ _ h _ hr => by
  unfold FO at h ⊢
  split at h
  · exact hr.at h (fun hj => absurd hj.symm hij) (fun _ => by omega)
  · exact hr.at h (fun _ => by omega) (fun hj => absurd hj.symm hij)
  · rw [upd_ne v hij]; exact h
theorem wp_stillJ {P : Program} {o : Oper} {a : Act} {w : World} {Q : Exit → Act → World → Prop} {F : Nat → (Nat → Value) → World → Prop} {I : World → Prop} {r : Nat} {vs : Nat → Value} {i : Nat} {d : Option Tmp} {v : Value} (hr : (execOp a.eval o).run P w = .ok (.value v) w) (ht : o.dst = d) (hv : F i (upd vs i v) w) (hI : I w) (hR : RO r i w w) :
    o.wp P a w (fun a' w' => ∃ v', a' = a.put d v' ∧ F i (upd vs i v') w' ∧ I w' ∧ RO r i w w') Q :=
  wp_val hr (by rw [ht]; exact ⟨v, rfl, hv, hI, hR⟩)
def dstO (i : Nat) : Option Tmp := [some 57, some 58, none, none, some 4].getD i none
theorem dlO {s : Nat} (h : some s ∉ [some 57, some 58, none, none, some 4]) : ∀ j, j < 5 → dstO j ≠ some s := fun j hj e => h (by
  unfold dstO at e
  rw [← e, List.getD_eq_getElem?_getD, List.getElem?_eq_getElem (by exact hj)]
  exact List.getElem_mem _)
theorem IO.store1 {p q r : Nat} {pk dc hc : Array Value} {v : Option Addr × Nat × Nat} {B : List Nat} {w u : World} (h : IO p q r pk dc v B w u) (hp : p ≠ r) (hq : q ≠ r) (hv : ∀ a, v.1 = some a → a.block ≠ r) (hr : w.heap.size ≤ r) (hc10 : hc.size = 6) : (u.setCells r 0 hc.toList).heap[r]? = some (.cells hc 60 (0, 0)) ∧ IO p q r pk dc v B w (u.setCells r 0 hc.toList) := by
  obtain ⟨C, h1, h2⟩ := h.hd
  obtain ⟨C3, h3, h4⟩ := h.dt
  have b : But r u (u.setCells r 0 hc.toList) := But.setsT _ _
  have g : (u.setCells r 0 hc.toList).heap[r]? = some (.cells hc 60 (0, 0)) := row_put h1 (by rw [hc10, h2])
  exact ⟨g, ⟨(b.block p (Array.getElem?_eq_some_iff.1 h.pk).1 hp).trans h.pk, (b.block q (Array.getElem?_eq_some_iff.1 h.dg).1 hq).trans h.dg, ⟨hc, g, hc10⟩, ⟨C3, (b.block (r + 1) (Array.getElem?_eq_some_iff.1 h3).1 (by omega)).trans h3, h4⟩, sees_set' h.sees hv, below_setCells' hr _ _ _ h.below⟩⟩
theorem IO.store2 {p q r : Nat} {pk dc : Array Value} {v : Option Addr × Nat × Nat} {B : List Nat} {w u : World} (h : IO p q r pk dc v B w u) (hp : p ≠ r + 1) (hq : q ≠ r + 1) (hv : ∀ a, v.1 = some a → a.block ≠ r + 1) (hr : w.heap.size ≤ r) (hd3 : dc.size = 14) : (u.setCells (r + 1) 0 dc.toList).heap[r + 1]? = some (.cells dc 41 (0, 0)) ∧ IO p q r pk dc v B w (u.setCells (r + 1) 0 dc.toList) := by
  obtain ⟨C, h1, h2⟩ := h.hd
  obtain ⟨C3, h3, h4⟩ := h.dt
  have b : But (r + 1) u (u.setCells (r + 1) 0 dc.toList) := But.setsT _ _
  have g : (u.setCells (r + 1) 0 dc.toList).heap[r + 1]? = some (.cells dc 41 (0, 0)) := row_put h3 (by rw [hd3, h4])
  exact ⟨g, ⟨(b.block p (Array.getElem?_eq_some_iff.1 h.pk).1 hp).trans h.pk, (b.block q (Array.getElem?_eq_some_iff.1 h.dg).1 hq).trans h.dg, ⟨C, (b.block r (Array.getElem?_eq_some_iff.1 h1).1 (by omega)).trans h1, h2⟩, ⟨dc, g, hd3⟩, sees_set' h.sees hv, below_setCells' (by omega) _ _ _ h.below⟩⟩


theorem open_any (v : Value) (L : List Nat) (w : World) (hv : SeesB w v L) (hl : L.length ≤ 140737488355328) :
    Calls Try.prog 20 #[v] w fun e w' => ∃ (a : Option Addr) (n c : Nat), e = .returned (.tuple #[.agg (ouCells (opO L)), .agg (frCells (opF L) (.slice a n c)), .int .i64 (opE L)]) ∧ SeesB w' (.slice a n c) (opF L).B ∧ (∀ b, a = some b → w.heap.size ≤ b.block) ∧ Below w.heap.size w w' := by
  obtain ⟨wa, hwa⟩ : ∃ wa, wa = w.alloc (.cells zeroOu 60) := ⟨_, rfl⟩
  obtain ⟨w1, hw1⟩ : ∃ w1, w1 = wa.alloc (.cells zeroF 41) := ⟨_, rfl⟩
  have hsa : wa.heap.size = w.heap.size + 1 := by rw [hwa]; simp
  have hs1 : w1.heap.size = w.heap.size + 2 := by rw [hw1]; simp [hsa]
  have hba : Below w.heap.size w wa := by rw [hwa]; exact (Below.refl _ _).alloc (Nat.le_refl _) _
  have hb1 : Below w.heap.size w w1 := by rw [hw1]; exact hba.alloc (by omega) _
  have hr0 : w1.heap[w.heap.size]? = some (.cells zeroOu 60 (0, 0)) := by rw [hw1, heap_alloc_old _ _ (by omega), hwa]; exact heap_alloc_new w _
  have hr1 : w1.heap[w.heap.size + 1]? = some (.cells zeroF 41 (0, 0)) := by rw [hw1, ← hsa]; exact heap_alloc_new wa _
  obtain ⟨av, nv, cv, rfl, HNV, hnv1, hnv2⟩ := hv.shape
  have HCA := hid (carried_any _ L w1 (hv.below hb1) hl)
  have HBY := hid hv.bytes
  have HR0 := hid hr0
  have HR1 := hid hr1
  have HB1 := hid hb1
  have HS1 := hid hs1
  have HW1 : Hid (w1 = (w.alloc (.cells #[.int .u32 0, .int .u32 0, .int .u16 0, .int .u16 0, .int .u8 0, .int .i64 0] 60)).alloc (.cells zeroF 41)) := by unfold Hid; rw [hw1, hwa]; rfl
  unfold zeroF at HW1
  obtain ⟨zo, hzo⟩ : ∃ zo : Array Value, zo = zeroOu := ⟨_, rfl⟩
  obtain ⟨zf, hzf⟩ : ∃ zf : Array Value, zf = zeroF := ⟨_, rfl⟩
  have HZO : Hid (zo = #[.int .u32 0, .int .u32 0, .int .u16 0, .int .u16 0, .int .u8 0, .int .i64 0]) := hzo
  have HZF : Hid (zf = zeroF) := hzf
  unfold zeroF at HZF
  have hzos : zo.size = 6 := by rw [hzo]; rfl
  have hzfs : zf.size = 14 := by rw [hzf]; rfl
  have HIO : Hid ((Try.prog.info? 60).map (·.size) = some zo.size) := by unfold Hid; rw [hzos]; kernel_rfl
  have HIF : Hid ((Try.prog.info? 41).map (·.size) = some zf.size) := by unfold Hid; rw [hzfs]; kernel_rfl
  have HOO : Hid (zo.all (·.oneCell') = true) := by unfold Hid; rw [hzo]; simp [zeroOu, Value.oneCell']
  have HOF : Hid (zf.all (·.oneCell') = true) := by unfold Hid; rw [hzf]; simp [zeroF, Value.oneCell']
  have HZOC : Hid (zo = ouCells ⟨0, 0, 0, 0, 0, 0⟩) := hzo
  have HZFC : Hid (zf = frCells Tn.noneF (.slice none 0 0)) := hzf
  have HEN : Hid (∀ u, Below w1.heap.size w1 u → u.there w.heap.size 0 zo.size ∧ (u.setCells w.heap.size 0 zo.toList).there (w.heap.size + 1) 0 zf.size ∧ (loadVar 60 ⟨w.heap.size, 0, none⟩).run Try.prog ((u.setCells w.heap.size 0 zo.toList).setCells (w.heap.size + 1) 0 zf.toList) = .ok (.agg zo) ((u.setCells w.heap.size 0 zo.toList).setCells (w.heap.size + 1) 0 zf.toList) ∧ (loadVar 41 ⟨w.heap.size + 1, 0, none⟩).run Try.prog ((u.setCells w.heap.size 0 zo.toList).setCells (w.heap.size + 1) 0 zf.toList) = .ok (.agg zf) ((u.setCells w.heap.size 0 zo.toList).setCells (w.heap.size + 1) 0 zf.toList)) := fun u hu => cells_endO hr0 hr1 hu hzos hzfs
  have HBB : Hid (∀ u, Below w1.heap.size w1 u → Below w.heap.size w ((u.setCells w.heap.size 0 zo.toList).setCells (w.heap.size + 1) 0 zf.toList)) := fun u hu => below_setCells' (by omega) _ _ _ (below_setCells' (Nat.le_refl _) _ _ _ (hb1.trans (hu.mono hb1.size)))
  have HBAD : Hid (∀ e, opE L = e → e ≠ 0 → opE L = e ∧ opO L = ⟨0, 0, 0, 0, 0, 0⟩ ∧ opF L = Tn.noneF) := fun e he h0 => ⟨he, by unfold opO; rw [if_neg (by rw [he]; exact h0)], by unfold opF; rw [if_neg (by rw [he]; exact h0)]⟩
  have HOE : Hid (opE L = if caE L ≠ 0 then caE L else if rhE (caD L).B ≠ 0 then rhE (caD L).B else Tn.pfE (rhB (caD L).B)) := rfl
  have HGO : Hid (opE L = 0 → opO L = ⟨(parsed L).1.src, (parsed L).1.dst, (caD L).s, (caD L).d, (parsed L).1.ttl, (rhV (caD L).B : Int)⟩ ∧ opF L = Tn.pfF (rhB (caD L).B)) := fun h => ⟨by unfold opO; rw [if_pos h], by unfold opF; rw [if_pos h]⟩
  clear hwa hw1 hsa hs1 hba hb1 hr0 hr1 hv hzo hzf hzos hzfs
  generalize opE L = OE at *
  generalize opO L = OO at *
  generalize opF L = OF at *
  generalize caE L = CE at *
  generalize (parsed L).1 = PH at *
  generalize caD L = CD at *
  go_enter Try.func20, Try.ntmps20
  go_upto_region 1 with fail
  rw [← HW1.out]
  go_wp2_with fail
  refine HCA.out.mono ?_
  rintro _ w2 ⟨hd, ao, no, co, D, a2, n2, c2, rfl, hgood, hb2⟩
  obtain ⟨hc, hhc⟩ : ∃ hc, hc = hdCells hd (.slice ao no co) := ⟨_, rfl⟩
  obtain ⟨dc, hdc⟩ : ∃ dc, dc = dgCells D (.slice a2 n2 c2) := ⟨_, rfl⟩
  obtain ⟨p, hp⟩ : ∃ p, p = w2.heap.size := ⟨_, rfl⟩
  obtain ⟨wb, hwb⟩ : ∃ wb, wb = (w2.alloc (.cells zeroHdC 50)).alloc (.cells zeroD 27) := ⟨_, rfl⟩
  obtain ⟨wc, hwc⟩ : ∃ wc, wc = wb.setCells p 0 hc.toList := ⟨_, rfl⟩
  obtain ⟨w3, hw3⟩ : ∃ w3, w3 = wc.setCells (p + 1) 0 dc.toList := ⟨_, rfl⟩
  have hcs : hc.size = 10 := by rw [hhc]; rfl
  have hds : dc.size = 3 := by rw [hdc]; rfl
  have HIC : Hid ((Try.prog.info? 50).map (·.size) = some hc.size) := by unfold Hid; rw [hcs]; kernel_rfl
  have HID : Hid ((Try.prog.info? 27).map (·.size) = some dc.size) := by unfold Hid; rw [hds]; kernel_rfl
  have HOC : Hid (hc.all (·.oneCell') = true) := by unfold Hid; rw [hhc]; simp [hdCells, Value.oneCell']
  have HOD : Hid (dc.all (·.oneCell') = true) := by unfold Hid; rw [hdc]; simp [dgCells, Value.oneCell']
  have hsb : wb.heap.size = w2.heap.size + 2 := by rw [hwb]; simp
  have g1 : wb.heap[p]? = some (.cells zeroHdC 50 (0, 0)) := by rw [hwb, heap_alloc_old _ _ (by rw [hp]; simp), hp]; exact heap_alloc_new w2 _
  have g2 : wb.heap[p + 1]? = some (.cells zeroD 27 (0, 0)) := by
    have h0 : (w2.alloc (.cells zeroHdC 50)).heap.size = p + 1 := by rw [hp]; simp
    rw [hwb, ← h0]; exact heap_alloc_new _ _
  have HTC : Hid (wb.there p 0 hc.size) := there_blk g1 (by rw [hcs]; rfl)
  have bC : But p wb wc := by rw [hwc]; exact But.setsT _ _
  have k1 : wc.heap[p]? = some (.cells hc 50 (0, 0)) := by rw [hwc]; exact row_put g1 (by rw [hcs]; rfl)
  have k2 := (bC.block (p + 1) (Array.getElem?_eq_some_iff.1 g2).1 (by omega)).trans g2
  have HTD : Hid (wc.there (p + 1) 0 dc.size) := there_blk k2 (by rw [hds]; rfl)
  have bD : But (p + 1) wc w3 := by rw [hw3]; exact But.setsT _ _
  have m1 := (bD.block p (Array.getElem?_eq_some_iff.1 k1).1 (by omega)).trans k1
  have m2 : w3.heap[p + 1]? = some (.cells dc 27 (0, 0)) := by rw [hw3]; exact row_put k2 (by rw [hds]; rfl)
  have hb2b : Below w2.heap.size w2 wb := by rw [hwb]; exact ((Below.refl _ _).alloc (Nat.le_refl _) _).alloc (by simp) _
  have hb23 : Below w2.heap.size w2 w3 := by rw [hw3, hwc]; exact below_setCells' (by omega) _ _ _ (below_setCells' (by omega) _ _ _ hb2b)
  have hb13 := hb2.trans (hb23.mono hb2.size)
  have HB23 := hid hb23
  have HB13 := hid hb13
  have HM1 : Hid (w3.heap[p]? = some (.cells (hdCells hd (.slice ao no co)) 50 (0, 0))) := by unfold Hid; rw [← hhc]; exact m1
  have HM2 : Hid (w3.heap[p + 1]? = some (.cells (dgCells D (.slice a2 n2 c2)) 27 (0, 0))) := by unfold Hid; rw [← hdc]; exact m2
  have HPL : Hid (w1.heap.size ≤ p) := by unfold Hid; rw [hp]; exact hb2.size
  have HWB : Hid (wb = (w2.alloc (.cells #[.int .u8 0, .int .u16 0, .bool false, .bool false, .int .i64 0, .int .u8 0, .int .u8 0, .int .u32 0, .int .u32 0, .slice none 0 0] 50)).alloc (.cells #[.int .u16 0, .int .u16 0, .slice none 0 0] 27)) := hwb
  have HWC := hid hwc
  have HW3 := hid hw3
  have HP := hid hp
  have HGD := hid hgood
  rw [← hhc, ← hdc]
  clear hhc hdc hp hwb hwc hw3 hcs hds hsb g1 g2 bC k1 k2 bD m1 m2 hb2b hb23 hb13 hgood hb2 HCA
  go_upto_region 2 with (first
    | (rw [← HWB.out, ← HP.out]; refine wpList_store_mid rfl 50 (.tmp 5) (.tmp 15) rfl p 0 hc rfl rfl HTC.out HIC.out HOC.out ?_; rw [← HWC.out])
    | (refine wpList_store_mid rfl 27 (.tmp 6) (.tmp 16) rfl (p + 1) 0 dc rfl rfl HTD.out HID.out HOD.out ?_; rw [← HW3.out])
    | fail)
  by_cases hE : CE ≠ 0
  · have HEE := hid (HBAD.out CE (by rw [HOE.out, if_pos hE]) hE)
    have q1 : (CE == 0) = false := by simp [hE]
    have q2 : (CE != 0) = true := by simp [hE]
    obtain ⟨t1, t2, t3, t4⟩ := HEN.out w3 HB13.out
    have HT1 := hid t1
    have HT2 := hid t2
    have HV1 := hid t3
    have HV2 := hid t4
    have HBF := hid (HBB.out w3 HB13.out)
    clear t1 t2 t3 t4
    go_wp2_with (first
      | (refine wpList_store_mid rfl 60 (.tmp 2) (.tmp 20) rfl w.heap.size 0 zo rfl (by rw [HZO.out]; rfl) HT1.out HIO.out HOO.out ?_)
      | (refine wpList_store_mid rfl 41 (.tmp 3) (.tmp 21) rfl (w.heap.size + 1) 0 zf rfl (by rw [HZF.out]; rfl) HT2.out HIF.out HOF.out ?_)
      | fail)
    generalize (w3.setCells w.heap.size 0 zo.toList).setCells (w.heap.size + 1) 0 zf.toList = wf at HV1 HV2 HBF ⊢
    refine bodyPost_ret (v := .tuple #[.agg zo, .agg zf, .int .i64 CE]) (by simp [results, Try.results20, asAddr, HV1.out, HV2.out]) rfl ?_
    rw [HEE.out.1, HEE.out.2.1, HEE.out.2.2]
    exact ⟨none, 0, 0, by rw [HZOC.out, HZFC.out], sees_nil _, (fun b hb => by cases hb), HBF.out⟩
  have hE := Decidable.not_not.1 hE
  rw [if_neg (by simp [hE])] at HOE
  obtain ⟨rfl, rfl, hs2, hn2⟩ := HGD.out hE
  subst hE
  have d2 : w3.cell? ⟨p + 1, 2, none⟩ = some (.slice a2 n2 c2) := (dg_at HM2.out).2.2
  have XR := hid (readHead_any _ D.B w3 (hs2.below HB23.out))
  clear hs2 hn2 HGD
  go_wp2_with fail
  refine XR.out.mono ?_
  rintro _ w4 ⟨a4, n4, c4, rfl, hs4, hb4⟩
  have HB34 := hid hb4
  have HB14 := hid (HB13.out.trans (hb4.mono HB13.out.size))
  have HS4 := hid hs4
  have XP := hid (parseF_any _ (rhB D.B) w4 hs4)
  have HFO : Hid ((Tn.pfF (rhB D.B)).Ok) := pfF_ok hs4.bytes
  clear hs4 hb4 XR d2
  generalize rhE D.B = RE at *
  generalize rhV D.B = RV at *
  generalize rhB D.B = RB at *
  by_cases hR : RE ≠ 0
  · have HEE := hid (HBAD.out RE (by rw [HOE.out, if_pos hR]) hR)
    have q1 : (RE == 0) = false := by simp [hR]
    have q2 : (RE != 0) = true := by simp [hR]
    obtain ⟨t1, t2, t3, t4⟩ := HEN.out w4 HB14.out
    have HT1 := hid t1
    have HT2 := hid t2
    have HV1 := hid t3
    have HV2 := hid t4
    have HBF := hid (HBB.out w4 HB14.out)
    clear t1 t2 t3 t4
    go_wp2_with (first
      | (refine wpList_store_mid rfl 60 (.tmp 2) (.tmp 32) rfl w.heap.size 0 zo rfl (by rw [HZO.out]; rfl) HT1.out HIO.out HOO.out ?_)
      | (refine wpList_store_mid rfl 41 (.tmp 3) (.tmp 33) rfl (w.heap.size + 1) 0 zf rfl (by rw [HZF.out]; rfl) HT2.out HIF.out HOF.out ?_)
      | fail)
    generalize (w4.setCells w.heap.size 0 zo.toList).setCells (w.heap.size + 1) 0 zf.toList = wf at HV1 HV2 HBF ⊢
    refine bodyPost_ret (v := .tuple #[.agg zo, .agg zf, .int .i64 RE]) (by simp [results, Try.results20, asAddr, HV1.out, HV2.out]) rfl ?_
    rw [HEE.out.1, HEE.out.2.1, HEE.out.2.2]
    exact ⟨none, 0, 0, by rw [HZOC.out, HZFC.out], sees_nil _, (fun b hb => by cases hb), HBF.out⟩
  have hR := Decidable.not_not.1 hR
  rw [if_neg (by simp [hR])] at HOE
  subst hR
  go_wp2_with fail
  refine XP.out.mono ?_
  rintro _ w5 ⟨a5, n5, c5, rfl, hs5, hn5, hb5⟩
  obtain ⟨fc, hfc⟩ : ∃ fc, fc = frCells (Tn.pfF RB) (.slice a5 n5 c5) := ⟨_, rfl⟩
  obtain ⟨q, hq⟩ : ∃ q, q = w5.heap.size := ⟨_, rfl⟩
  obtain ⟨w6, hw6⟩ : ∃ w6, w6 = (w5.alloc (.cells zeroF 41)).setCells q 0 fc.toList := ⟨_, rfl⟩
  have hfs : fc.size = 14 := by rw [hfc]; exact frCells_size HFO.out _
  have HIQ : Hid ((Try.prog.info? 41).map (·.size) = some fc.size) := by unfold Hid; rw [hfs]; kernel_rfl
  have hrq : (w5.alloc (.cells zeroF 41)).heap[q]? = some (.cells zeroF 41 (0, 0)) := by rw [hq]; exact heap_alloc_new w5 _
  have HTQ : Hid ((w5.alloc (.cells zeroF 41)).there q 0 fc.size) := there_blk hrq (by rw [hfs]; rfl)
  have HOQ : Hid (fc.all (·.oneCell') = true) := by unfold Hid; rw [hfc]; exact frc_one
  have hr6 : w6.heap[q]? = some (.cells fc 41 (0, 0)) := by rw [hw6]; exact row_put hrq (by rw [hfs]; rfl)
  have hb56 : Below w5.heap.size w5 w6 := by rw [hw6]; exact below_setCells' (by omega) _ _ _ ((Below.refl _ _).alloc (Nat.le_refl _) _)
  have hb46 := hb5.trans (hb56.mono hb5.size)
  have HB36 := hid (HB34.out.trans (hb46.mono HB34.out.size))
  have HB16 := hid (HB13.out.trans (HB36.out.mono HB13.out.size))
  have HS6 := hid (hs5.below hb56)
  have HR6 := hid hr6
  have HFS := hid hfs
  have HFC := hid hfc
  have HQL : Hid (w1.heap.size ≤ q) := by unfold Hid; rw [hq]; exact Nat.le_trans HB14.out.size hb5.size
  have HNW : Hid (∀ b, a5 = some b → w1.heap.size ≤ b.block) := fun b hb => Nat.le_trans HB14.out.size (hn5 b hb)
  have HW6 := hid hw6
  have HQ := hid hq
  unfold zeroF at HW6 HTQ
  rw [← hfc]
  clear hfc hq hw6 hfs hrq hr6 hb56 hb46 hs5 hn5 hb5 XP
  go_upto_region 8 with (first
    | (rw [← HQ.out]; refine wpList_store_mid rfl 41 (.tmp 10) (.tmp 38) rfl q 0 fc rfl rfl HTQ.out HIQ.out HOQ.out ?_; rw [← HW6.out])
    | fail)
  have HPF : Hid (OE = 0 → OF = Tn.pfF RB) := fun h => (HGO.out h).2
  have HPO : Hid (OE = 0 → OO = ⟨hd.src, hd.dst, D.s, D.d, hd.ttl, (RV : Int)⟩) := fun h => (HGO.out h).1
  generalize Tn.pfE RB = PE at *
  by_cases hPE : PE ≠ 0
  · have HEE := hid (HBAD.out PE HOE.out hPE)
    have q1 : (PE == 0) = false := by simp [hPE]
    have q2 : (PE != 0) = true := by simp [hPE]
    obtain ⟨t1, t2, t3, t4⟩ := HEN.out w6 HB16.out
    have HT1 := hid t1
    have HT2 := hid t2
    have HV1 := hid t3
    have HV2 := hid t4
    have HBF := hid (HBB.out w6 HB16.out)
    clear t1 t2 t3 t4
    go_wp2_with (first
      | (refine wpList_store_mid rfl 60 (.tmp 2) (.tmp 42) rfl w.heap.size 0 zo rfl (by rw [HZO.out]; rfl) HT1.out HIO.out HOO.out ?_)
      | (refine wpList_store_mid rfl 41 (.tmp 3) (.tmp 43) rfl (w.heap.size + 1) 0 zf rfl (by rw [HZF.out]; rfl) HT2.out HIF.out HOF.out ?_)
      | fail)
    generalize (w6.setCells w.heap.size 0 zo.toList).setCells (w.heap.size + 1) 0 zf.toList = wf at HV1 HV2 HBF ⊢
    refine bodyPost_ret (v := .tuple #[.agg zo, .agg zf, .int .i64 PE]) (by simp [results, Try.results20, asAddr, HV1.out, HV2.out]) rfl ?_
    rw [HEE.out.1, HEE.out.2.1, HEE.out.2.2]
    exact ⟨none, 0, 0, by rw [HZOC.out, HZFC.out], sees_nil _, (fun b hb => by cases hb), HBF.out⟩
  have hPE := Decidable.not_not.1 hPE
  subst hPE
  have HEZ : Hid (OE = 0) := HOE.out
  have HM1' : Hid (w6.heap[p]? = some (.cells (hdCells hd (.slice ao no co)) 50 (0, 0))) := (HB36.out.block p (Array.getElem?_eq_some_iff.1 HM1.out).1).trans HM1.out
  have HM2' : Hid (w6.heap[p + 1]? = some (.cells (dgCells D (.slice a2 n2 c2)) 27 (0, 0))) := (HB36.out.block (p + 1) (Array.getElem?_eq_some_iff.1 HM2.out).1).trans HM2.out
  have ct5 : w6.cell? ⟨p, 5, none⟩ = some (.int .u8 (hd.ttl : Int)) := by rw [cell_of_row _ _ _ _ _ _ HM1'.out]; rfl
  have c7 : w6.cell? ⟨p, 7, none⟩ = some (.int .u32 (hd.src : Int)) := by rw [cell_of_row _ _ _ _ _ _ HM1'.out]; rfl
  have c8 : w6.cell? ⟨p, 8, none⟩ = some (.int .u32 (hd.dst : Int)) := by rw [cell_of_row _ _ _ _ _ _ HM1'.out]; rfl
  obtain ⟨d0, d1, d2⟩ := dg_at HM2'.out
  obtain ⟨oc, hoc⟩ : ∃ oc : Array Value, oc = #[.int .u32 (hd.src : Int), .int .u32 (hd.dst : Int), .int .u16 (D.s : Int), .int .u16 (D.d : Int), .int .u8 (hd.ttl : Int), .int .i64 (RV : Int)] := ⟨_, rfl⟩
  obtain ⟨w7, hw7⟩ : ∃ w7, w7 = w6.alloc (.cells oc 60) := ⟨_, rfl⟩
  have hb67 : Below w6.heap.size w6 w7 := by rw [hw7]; exact (Below.refl _ _).alloc (Nat.le_refl _) _
  have hos : oc.size = 6 := by rw [hoc]; rfl
  have hr7 : w7.heap[w6.heap.size]? = some (.cells oc 60 (0, 0)) := by rw [hw7]; exact heap_alloc_new w6 _
  have hb17 := HB16.out.trans (hb67.mono HB16.out.size)
  have hsz := HS1.out
  have hq1 := HQL.out
  have h16 := HB16.out.size
  have hIO : IO w6.heap.size q w.heap.size oc fc (a5, n5, c5) (Tn.pfF RB).B w w7 :=
    ⟨hr7, (hb67.block q (Array.getElem?_eq_some_iff.1 HR6.out).1).trans HR6.out, ⟨_, (hb17.block _ (by omega)).trans HR0.out, rfl⟩, ⟨_, (hb17.block _ (by omega)).trans HR1.out, rfl⟩, HS6.out.below hb67, HB1.out.trans (hb17.mono HB1.out.size)⟩
  have HIOI := hid hIO
  have HNE : Hid (w6.heap.size ≠ w.heap.size ∧ w6.heap.size ≠ w.heap.size + 1 ∧ q ≠ w.heap.size ∧ q ≠ w.heap.size + 1) := ⟨by omega, by omega, by omega, by omega⟩
  have HNW2 : Hid (∀ b, a5 = some b → w.heap.size + 2 ≤ b.block) := fun b hb => by have := HNW.out b hb; omega
  have HOS := hid hos
  have HOI : Hid ((Try.prog.info? 60).map (·.size) = some oc.size) := by unfold Hid; rw [hos]; kernel_rfl
  have HOA : Hid (oc.all (·.oneCell') = true) := by unfold Hid; rw [hoc]; simp [Value.oneCell']
  have HW7 : Hid (w7 = w6.alloc (.cells #[.int .u32 (hd.src : Int), .int .u32 (hd.dst : Int), .int .u16 (D.s : Int), .int .u16 (D.d : Int), .int .u8 (hd.ttl : Int), .int .i64 (RV : Int)] 60)) := by unfold Hid; rw [hw7, hoc]
  have HOC2 : Hid (oc = ouCells OO) := by unfold Hid; rw [hoc, HPO.out HEZ.out]; rfl
  have HFC2 : Hid (fc = frCells OF (.slice a5 n5 c5)) := by unfold Hid; rw [HFC.out, HPF.out HEZ.out]
  have HFB : Hid (OF.B = (Tn.pfF RB).B) := by unfold Hid; rw [HPF.out HEZ.out]
  clear hoc hw7 hb67 hos hr7 hb17 hsz hq1 h16 hIO
  go_upto_region 11 with fail
  rw [← HW7.out]
  obtain ⟨pp, hpp⟩ : ∃ pp, pp = w6.heap.size := ⟨_, rfl⟩
  rw [← hpp] at HIOI HNE ⊢
  refine wp_region_all' 5 dstO (FO [.agg oc, .agg fc, .int .i64 0, .int .i64 0, .int .i64 0] w.heap.size oc fc) (IO pp q w.heap.size oc fc (a5, n5, c5) (Tn.pfF RB).B w) (RO w.heap.size) (by kernel_rfl) (by kernel_rfl) ⟨HIOI.out.pk, HIOI.out.dg, HIOI.out.hd, HIOI.out.dt, HIOI.out.sees.below ⟨rfl, rfl, rfl, Nat.le_refl _, fun _ _ => rfl⟩, HIOI.out.below.trans (Below.mono ⟨rfl, rfl, rfl, Nat.le_refl _, fun _ _ => rfl⟩ HIOI.out.below.size)⟩ (FO.keeps _ _ _ _ _ _) ?_ ?_
  · simp only [stepsAll]
    refine ⟨?_, ?_, ?_, ?_, ?_, trivial⟩
    · intro a u vs hI hold hdep
      exact wp_stillJ (ex_load _ ⟨pp, 0, none⟩ (.tmp 11) (.agg oc) rfl (hold 11 (dlO (by decide))) (load_rowAt hI.pk Try.underlying60 rfl HOI.out)) rfl (congrArg some (upd_eq _ _ _).symm) hI rfl
    · intro a u vs hI hold hdep
      exact wp_stillJ (ex_load _ ⟨q, 0, none⟩ (.tmp 10) (.agg fc) rfl (hold 10 (dlO (by decide))) (load_rowAt hI.dg Try.underlying41 rfl HIQ.out)) rfl (congrArg some (upd_eq _ _ _).symm) hI rfl
    · intro a u vs hI hold hdep
      have e1 : a.eval (.tmp 57) = .agg oc := by have h0 := hdep ⟨0, .data⟩ (by simp) rfl; exact (h0.2 57 rfl).trans (Option.some.inj h0.1).symm
      obtain ⟨C, hC1, hC2⟩ := hI.hd
      obtain ⟨g1, g2⟩ := hI.store1 HNE.out.1 HNE.out.2.2.1 (fun b hb => by have := HNW2.out b hb; omega) (Nat.le_refl _) HOS.out
      exact wp_store_mid 60 (.tmp 2) (.tmp 57) rfl w.heap.size 0 oc (hold 2 (dlO (by decide))) e1 (there_blk hC1 (by rw [hC2, HOS.out])) HOI.out HOA.out ⟨.int .i64 0, rfl, g1, g2, But.setsT _ _⟩
    · intro a u vs hI hold hdep
      have e1 : a.eval (.tmp 58) = .agg fc := by have h0 := hdep ⟨1, .data⟩ (by simp) rfl; exact (h0.2 58 rfl).trans (Option.some.inj h0.1).symm
      obtain ⟨C, hC1, hC2⟩ := hI.dt
      obtain ⟨g1, g2⟩ := hI.store2 HNE.out.2.1 HNE.out.2.2.2 (fun b hb => by have := HNW2.out b hb; omega) (Nat.le_refl _) HFS.out
      exact wp_store_mid 41 (.tmp 3) (.tmp 58) rfl (w.heap.size + 1) 0 fc (hold 3 (dlO (by decide))) e1 (there_blk hC1 (by rw [hC2, HFS.out])) HIQ.out HOQ.out ⟨.int .i64 0, rfl, g1, g2, But.setsT _ _⟩
    · intro a u vs hI hold hdep
      exact wp_stillJ (ex_assign (.const (.int .i64 0)) _ rfl rfl) rfl (congrArg some (upd_eq _ _ _).symm) hI rfl
  intro vs u hI hF
  have e4 : vs 4 = .int .i64 0 := (Option.some.inj (hF 4 (by decide))).symm
  have HU2 : Hid (u.heap[w.heap.size]? = some (.cells oc 60 (0, 0))) := hF 2 (by decide)
  have HU3 : Hid (u.heap[w.heap.size + 1]? = some (.cells fc 41 (0, 0))) := hF 3 (by decide)
  have HV1 := hid (load_row HU2.out Try.underlying60 rfl HOI.out)
  have HV2 := hid (load_row HU3.out Try.underlying41 rfl HIQ.out)
  have HII := hid hI
  clear hF hI
  generalize vs 0 = y0
  generalize vs 1 = y1
  generalize vs 2 = y2
  generalize vs 3 = y3
  simp only [putsO, List.range, List.range.loop, List.foldr, if_true, dstO, List.getD_cons_zero, List.getD_cons_succ, Act.put, e4, List.setIfInBounds_toArray, List.set_cons_succ, List.set_cons_zero]
  go_wp2_with fail
  refine bodyPost_ret (v := .tuple #[.agg oc, .agg fc, .int .i64 0]) (by simp [results, Try.results20, asAddr, HV1.out, HV2.out]) rfl ?_
  exact ⟨a5, n5, c5, by rw [HOC2.out, HFC2.out, HEZ.out], by rw [HFB.out]; exact HII.out.sees, fun b hb => by have := HNW2.out b hb; omega, HII.out.below⟩
end Go.Proofs.Ytcelcnafcfefhaa.N

namespace Go.Proofs.Ytcelcnafcfefhaa.N
set_option maxRecDepth 100000

/-- A header with its own sum adds up to nothing. -/
theorem csum_own (A C : List Nat) (hA : A.length % 2 = 0) : M.csum (A ++ (M.csum (A ++ 0 :: 0 :: C) / 256) :: (M.csum (A ++ 0 :: 0 :: C) % 256) :: C) = 0 := by
  rw [csum_gap A C hA]
  have hp : M.par false A.length = false := by unfold M.par; rw [if_pos hA]
  obtain ⟨T, hT⟩ : ∃ T, T = M.tot false (A ++ C) := ⟨_, rfl⟩
  have hs : M.csum (A ++ C) = 65535 - M.fold T := by unfold M.csum; rw [hT]
  have ht : M.tot false (A ++ (M.csum (A ++ C) / 256) :: (M.csum (A ++ C) % 256) :: C) = T + M.csum (A ++ C) := by
    rw [M.tot_append, hp, hT, M.tot_append, hp]
    simp only [M.tot]
    simp
    omega
  show 65535 - M.fold (M.tot false _) = 0
  rw [ht, hs]
  unfold M.fold
  by_cases h0 : T = 0
  · rw [if_pos h0, h0]; simp
  · rw [if_neg h0, if_neg (by omega)]
    omega

theorem flagW_facts (df mf : Bool) (f : Nat) (hf : f ≤ 65528) (h8 : f % 8 = 0) : flagW df mf f < 32768 ∧ flagW df mf f % 8192 * 8 = f ∧ decide (flagW df mf f / 16384 % 2 = 1) = df ∧ decide (flagW df mf f / 8192 % 2 = 1) = mf := by
  unfold flagW
  cases df <;> cases mf <;> simp <;> omega

theorem drop20 (h : Hd) (l s : Nat) (T : List Nat) : (hd20 h l s ++ T).drop 20 = T := List.drop_left' (len20 h l s)

theorem open20 (h : Hd) (l s : Nat) (U : List Nat) : hd20 h l s ++ U = (hd20 h l 0 ++ U).take 10 ++ (s / 256) :: (s % 256) :: (hd20 h l 0 ++ U).drop 12 := by
  simp [hd20]

set_option maxHeartbeats 400000 in
/-- What was built is read as it was, whatever lies behind. -/
theorem parse_built (h : Hd) (B tail : List Nat) (hok : h.Ok) (he : refE h B.length = 0) (whole : Bool) :
    exam (builtL h B ++ tail) whole = (20 + h.opts.length, lenOfPk h B, 0) ∧ (builtL h B).length = lenOfPk h B ∧ rdH (builtL h B) (20 + h.opts.length) = h ∧ (builtL h B).drop (20 + h.opts.length) = B := by
  obtain ⟨r1, r2, r3⟩ := refE_ok he
  obtain ⟨l1, l2⟩ := area_len r1
  obtain ⟨f, hf, hf1, hf8⟩ : ∃ f : Nat, h.off = (f : Int) ∧ f ≤ 65528 ∧ f % 8 = 0 := by
    unfold M.pieceOk at r2
    simp at r2
    exact ⟨h.off.toNat, by omega, by omega, by omega⟩
  obtain ⟨g1, g2, g3, g4⟩ := flagW_facts h.df h.mf f hf1 hf8
  have hb : builtL h B = hd20 h (lenOfPk h B) (M.csum (hdBytes h (lenOfPk h B) 0)) ++ (h.opts ++ B) := by
    unfold builtL
    rw [if_pos he, hdBytes_eq h _ (M.csum (hdBytes h (lenOfPk h B) 0)), List.append_assoc]
  obtain ⟨l, hl⟩ : ∃ l, l = lenOfPk h B := ⟨_, rfl⟩
  have hl' : l = 20 + h.opts.length + B.length := hl
  have hlen : (builtL h B).length = l := by rw [hb, List.length_append, len20, List.length_append, hl']; omega
  obtain ⟨s, hs⟩ : ∃ s, s = M.csum (hdBytes h l 0) := ⟨_, rfl⟩
  have hs16 : s < 65536 := by rw [hs]; exact M.csum_lt _
  rw [← hl, ← hs] at hb
  rw [← hl]
  have hid16 := hok.id
  have hsrc := hok.src
  have hdst := hok.dst
  have htn : h.off.toNat = f := by rw [hf]; simp
  have hfl : flagW h.df h.mf h.off.toNat = flagW h.df h.mf f := by rw [htn]
  obtain ⟨fl, hfle⟩ : ∃ fl, fl = flagW h.df h.mf f := ⟨_, rfl⟩
  rw [← hfle] at g1 g2 g3 g4 hfl
  have byts : ∀ T, (byt (hd20 h l s ++ T) 0 = 69 + h.opts.length / 4) ∧ (byt (hd20 h l s ++ T) 1 = h.tos) ∧ w16 (hd20 h l s ++ T) 2 = l ∧ w16 (hd20 h l s ++ T) 4 = h.id ∧ byt (hd20 h l s ++ T) 6 = fl / 256 ∧ w16 (hd20 h l s ++ T) 6 = fl ∧ byt (hd20 h l s ++ T) 8 = h.ttl ∧ byt (hd20 h l s ++ T) 9 = h.proto ∧ w32 (hd20 h l s ++ T) 12 = h.src ∧ w32 (hd20 h l s ++ T) 16 = h.dst := by
    intro T
    refine ⟨rfl, rfl, ?_, ?_, ?_, ?_, rfl, rfl, ?_, ?_⟩
    · show l / 256 * 256 + l % 256 = l; omega
    · show h.id / 256 * 256 + h.id % 256 = h.id; omega
    · show flagW h.df h.mf h.off.toNat / 256 = fl / 256; rw [hfl]
    · show flagW h.df h.mf h.off.toNat / 256 * 256 + flagW h.df h.mf h.off.toNat % 256 = fl; rw [hfl]; omega
    · show (h.src / 65536 / 256 * 256 + h.src / 65536 % 256) * 65536 + (h.src % 65536 / 256 * 256 + h.src % 65536 % 256) = h.src; omega
    · show (h.dst / 65536 / 256 * 256 + h.dst / 65536 % 256) * 65536 + (h.dst % 65536 / 256 * 256 + h.dst % 65536 % 256) = h.dst; omega
  have hX : builtL h B ++ tail = hd20 h l s ++ (h.opts ++ (B ++ tail)) := by rw [hb]; simp
  have hXl : (builtL h B ++ tail).length = l + tail.length := by rw [List.length_append, hlen]
  have hlens : lens (builtL h B ++ tail) whole = (20 + h.opts.length, l, 0) := by
    obtain ⟨b0, b1, b2, _⟩ := byts (h.opts ++ (B ++ tail))
    rw [← hX] at b0 b1 b2
    unfold lens
    rw [b0, b2, hXl, if_neg (by omega), if_neg (by omega), if_neg (by omega), if_neg (by omega), if_neg (by omega), if_neg (by omega)]
    congr 1
    omega
  have htk : (builtL h B ++ tail).take (20 + h.opts.length) = hd20 h l s ++ h.opts := by
    rw [hX, ← List.append_assoc, List.take_left' (by rw [List.length_append, len20])]
  have hhd : hdE ((builtL h B ++ tail).take (20 + h.opts.length)) (l - (20 + h.opts.length)) = 0 := by
    rw [htk]
    obtain ⟨b0, b1, b2, b4, b6, b6w, _⟩ := byts h.opts
    have hc : M.csum (hd20 h l s ++ h.opts) = 0 := by
      have := csum_own ((hd20 h l 0 ++ h.opts).take 10) ((hd20 h l 0 ++ h.opts).drop 12) (by rw [List.length_take, List.length_append, len20, Nat.min_eq_left (by omega)])
      rw [gap20, ← hdBytes_eq, ← hs] at this
      rw [open20]
      exact this
    unfold hdE
    rw [hc, b6, b6w, g2, if_neg (by simp), if_neg (by omega), drop20, r1, if_neg (by simp)]
    rw [show fl / 256 / 32 % 2 = fl / 8192 % 2 by omega, g4, ← hf, show l - (20 + h.opts.length) = B.length by omega, r2, if_neg (by simp)]
  refine ⟨?_, hlen, ?_, ?_⟩
  · unfold exam
    rw [hlens]
    simp only
    rw [if_neg (by simp), if_neg (by rw [hhd]; simp)]
  · obtain ⟨b0, b1, b2, b4, b6, b6w, b8, b9, b12, b16⟩ := byts (h.opts ++ B)
    have hopt : ((hd20 h l s ++ (h.opts ++ B)).take (20 + h.opts.length)).drop 20 = h.opts := by
      rw [← List.append_assoc, List.take_left' (by rw [List.length_append, len20]), drop20]
    rw [hb]
    unfold rdH
    rw [b1, b4, b6, b6w, b8, b9, b12, b16, hopt, g2, show fl / 256 / 64 % 2 = fl / 16384 % 2 by omega, show fl / 256 / 32 % 2 = fl / 8192 % 2 by omega, g3, g4, ← hf]
  · rw [hb, ← List.append_assoc, List.drop_left' (by rw [List.length_append, len20])]
end Go.Proofs.Ytcelcnafcfefhaa.N

/-
  What is sealed is opened, whatever its reserved bytes are and whatever lies behind it.
-/
namespace Go.Proofs.Ytcelcnafcfefhaa.N
set_option maxRecDepth 100000

theorem parsedB (h : Hd) (B T : List Nat) (hok : h.Ok) (he : refE h B.length = 0) : parsed (builtL h B ++ T) = (h, B, 0) := by
  obtain ⟨x1, x2, x3, x4⟩ := parse_built h B T hok he true
  have htk : (builtL h B ++ T).take (lenOfPk h B) = builtL h B := List.take_left' x2
  unfold parsed
  rw [x1]
  simp only
  rw [if_pos trivial, htk, x3, x4]

/-- The datagram of a sealed frame, with any eight bytes for its tunnel header. -/
def sxD (o : Ou) (f : Tn.Fr) (X : List Nat) : Tn.Dg := ⟨o.sp, o.dp, X ++ Tn.frL f⟩
def sxU (o : Ou) (f : Tn.Fr) (X : List Nat) : List Nat := Tn.builtU o.src o.dst (sxD o f X) false
def sxL (o : Ou) (f : Tn.Fr) (X : List Nat) : List Nat := builtL (ohd o) (sxU o f X)

theorem sxD_len {o : Ou} {f : Tn.Fr} {X : List Nat} (hX : X.length = 8) (hf : f.Ok) : (sxD o f X).B.length = 22 + f.B.length := by
  unfold sxD
  rw [List.length_append, hX, Tn.frL_len hf]
  omega
theorem sxU_len {o : Ou} {f : Tn.Fr} {X : List Nat} (hX : X.length = 8) (hf : f.Ok) : (sxU o f X).length = 30 + f.B.length := by
  unfold sxU Tn.builtU
  rw [Tn.udp_len, sxD_len hX hf]
  omega
theorem sx_refE {o : Ou} {f : Tn.Fr} {X : List Nat} (hX : X.length = 8) (hf : f.Ok) (hb : f.B.length ≤ 65485) : refE (ohd o) (sxU o f X).length = 0 := by
  rw [sxU_len hX hf]
  unfold refE
  have h1 : M.area (ohd o).opts = true := by
    show M.area [] = true
    unfold M.area
    rw [M.okO]
    rfl
  have h2 : M.pieceOk (ohd o).off (30 + f.B.length) (ohd o).mf = true := by
    show M.pieceOk 0 (30 + f.B.length) false = true
    unfold M.pieceOk
    simp
    omega
  rw [if_pos h1, if_pos h2, if_pos (by show 20 + 0 + (30 + f.B.length) ≤ 65535; omega)]
theorem sxL_len {o : Ou} {f : Tn.Fr} {X : List Nat} (ho : o.Ok) (hX : X.length = 8) (hf : f.Ok) (hb : f.B.length ≤ 65485) : (sxL o f X).length = 50 + f.B.length := by
  obtain ⟨_, x2, _, _⟩ := parse_built (ohd o) (sxU o f X) [] (ohd_ok ho) (sx_refE hX hf hb) true
  unfold sxL
  rw [x2]
  unfold lenOfPk
  rw [sxU_len hX hf]
  show 20 + 0 + _ = _
  omega
theorem sx_parsed {o : Ou} {f : Tn.Fr} {X : List Nat} (T : List Nat) (ho : o.Ok) (hX : X.length = 8) (hf : f.Ok) (hb : f.B.length ≤ 65485) : parsed (sxL o f X ++ T) = (ohd o, sxU o f X, 0) :=
  parsedB _ _ T (ohd_ok ho) (sx_refE hX hf hb)
theorem sx_ca {o : Ou} {f : Tn.Fr} {X : List Nat} (T : List Nat) (ho : o.Ok) (hX : X.length = 8) (hf : f.Ok) (hb : f.B.length ≤ 65485) : caE (sxL o f X ++ T) = 0 ∧ caD (sxL o f X ++ T) = sxD o f X := by
  have hp := sx_parsed (o := o) (X := X) T ho hX hf hb
  have hl : (sxD o f X).B.length ≤ 65527 := by rw [sxD_len hX hf]; omega
  have hk : (sxD o f X).Ok := ⟨ho.sp, ho.dp⟩
  have h1 : Tn.puE o.src o.dst (sxU o f X) = 0 := Tn.puE_plain o.src o.dst o.src o.dst (sxD o f X) hk hl
  have h2 : Tn.puD o.src o.dst (sxU o f X) = sxD o f X := Tn.puD_built o.src o.dst o.src o.dst (sxD o f X) false hk hl h1
  unfold caE caD
  rw [hp]
  refine ⟨?_, h2⟩
  show (if (0 : Int) ≠ 0 then (0 : Int) else if (ohd o).mf = true ∨ (ohd o).off ≠ 0 then 75 else if (ohd o).proto ≠ 17 then 74 else Tn.puE o.src o.dst (sxU o f X)) = 0
  rw [if_neg (by simp), if_neg (by simp [ohd]), if_neg (by simp [ohd]), h1]
theorem byt_app {A B : List Nat} {i : Nat} (h : i < A.length) : byt (A ++ B) i = byt A i := by
  unfold byt
  exact Tn.getD_append_left h
theorem sx_rh {X R : List Nat} (hX : X.length = 8) : rhE (X ++ R) = (if byt X 0 / 8 % 2 = 0 then 77 else 0) ∧ (byt X 0 / 8 % 2 ≠ 0 → rhV (X ++ R) = (byt X 4 * 256 + byt X 5) * 256 + byt X 6 ∧ rhB (X ++ R) = R) := by
  have h1 : rhE (X ++ R) = (if byt X 0 / 8 % 2 = 0 then 77 else 0) := by
    unfold rhE
    rw [if_neg (by rw [List.length_append]; omega), byt_app (by omega)]
  refine ⟨h1, fun h => ?_⟩
  rw [if_neg h] at h1
  unfold rhV rhB
  rw [if_pos h1, if_pos h1, byt_app (by omega), byt_app (by omega), byt_app (by omega), ← hX, List.drop_left]
  exact ⟨rfl, rfl⟩
/-- The flag 8 is not there. -/
theorem sx_flag {o : Ou} {f : Tn.Fr} {X : List Nat} (T : List Nat) (ho : o.Ok) (hX : X.length = 8) (hf : f.Ok) (hb : f.B.length ≤ 65485) (h8 : byt X 0 / 8 % 2 = 0) : opE (sxL o f X ++ T) = 77 := by
  obtain ⟨h1, h2⟩ := sx_ca (o := o) (X := X) T ho hX hf hb
  have h3 : rhE (sxD o f X).B = 77 := by
    have := (sx_rh (X := X) (R := Tn.frL f) hX).1
    rw [if_pos h8] at this
    exact this
  unfold opE
  rw [h1, h2, h3]
  rfl
/-- It is there: the frame comes out again. -/
theorem sx_open {o : Ou} {f : Tn.Fr} {X : List Nat} (T : List Nat) (ho : o.Ok) (hX : X.length = 8) (hf : f.Ok) (hb : Tn.bfE f = 0) (h8 : byt X 0 / 8 % 2 ≠ 0) (hv : (((byt X 4 * 256 + byt X 5) * 256 + byt X 6 : Nat) : Int) = o.vni) : opE (sxL o f X ++ T) = 0 ∧ opO (sxL o f X ++ T) = o ∧ opF (sxL o f X ++ T) = f := by
  have hl : f.B.length ≤ 65485 := by
    unfold Tn.bfE at hb
    by_cases h : 65485 < f.B.length
    · rw [if_pos h] at hb; cases hb
    · omega
  have hp := sx_parsed (o := o) (X := X) T ho hX hf hl
  obtain ⟨h1, h2⟩ := sx_ca (o := o) (X := X) T ho hX hf hl
  obtain ⟨r1, r2⟩ := sx_rh (X := X) (R := Tn.frL f) hX
  obtain ⟨r3, r4⟩ := r2 h8
  rw [if_neg h8] at r1
  obtain ⟨p1, p2⟩ := Tn.pf_bf hf hb
  have g1 : rhE (sxD o f X).B = 0 := r1
  have g3 : rhV (sxD o f X).B = (byt X 4 * 256 + byt X 5) * 256 + byt X 6 := r3
  have g4 : rhB (sxD o f X).B = Tn.frL f := r4
  have e0 : opE (sxL o f X ++ T) = 0 := by
    unfold opE
    rw [h1, h2, g1, g4, p1]
    rfl
  refine ⟨e0, ?_, ?_⟩
  · unfold opO
    rw [if_pos e0, hp, h2, g3, hv]
    rfl
  · unfold opF
    rw [if_pos e0, h2, g4, p2]

theorem seL_sx {o : Ou} {f : Tn.Fr} (hv : 0 ≤ o.vni ∧ o.vni ≤ 16777215) (hb : Tn.bfE f = 0) (hf : f.Ok) : seE o f = 0 ∧ seL o f = sxL o f (vxH o.vni.toNat) := by
  have hl : f.B.length ≤ 65485 := by
    unfold Tn.bfE at hb
    by_cases h : 65485 < f.B.length
    · rw [if_pos h] at hb; cases hb
    · omega
  have hr : refE (ohd o) (Tn.builtU o.src o.dst (odg o f) false).length = 0 := sx_refE (o := o) (f := f) (X := vxH o.vni.toNat) rfl hf hl
  have h1 : ¬ (o.vni < 0 ∨ 16777215 < o.vni) := by omega
  have h2 : ¬ (Tn.bfE f ≠ 0) := fun h => h hb
  unfold seE seL
  rw [if_neg h1, if_neg h1, if_neg h2, if_neg h2, hr]
  exact ⟨rfl, rfl⟩
theorem vx_num {v : Int} (hv : 0 ≤ v ∧ v ≤ 16777215) : (((byt (vxH v.toNat) 4 * 256 + byt (vxH v.toNat) 5) * 256 + byt (vxH v.toNat) 6 : Nat) : Int) = v := by
  show (((v.toNat / 65536 % 256 * 256 + v.toNat / 256 % 256) * 256 + v.toNat % 256 : Nat) : Int) = v
  omega
theorem seE_bad {o : Ou} {f : Tn.Fr} (h : ¬ (0 ≤ o.vni ∧ o.vni ≤ 16777215) ∨ Tn.bfE f ≠ 0) : seE o f ≠ 0 ∧ seL o f = [] := by
  unfold seE seL
  by_cases h1 : o.vni < 0 ∨ 16777215 < o.vni
  · rw [if_pos h1, if_pos h1]
    exact ⟨by decide, rfl⟩
  · have h2 : Tn.bfE f ≠ 0 := h.resolve_left (fun hc => hc (by omega))
    rw [if_neg h1, if_neg h1, if_pos h2, if_pos h2]
    exact ⟨h2, rfl⟩

theorem sxU_eq {o : Ou} {f : Tn.Fr} {X : List Nat} (hX : X.length = 8) (hf : f.Ok) : sxU o f X = [o.sp / 256 % 256, o.sp % 256, o.dp / 256 % 256, o.dp % 256, (30 + f.B.length) / 256 % 256, (30 + f.B.length) % 256, 0 / 256, 0 % 256] ++ (X ++ Tn.frL f) := by
  unfold sxU Tn.builtU Tn.udp
  rw [sxD_len hX hf, show 8 + (22 + f.B.length) = 30 + f.B.length by omega, if_neg Bool.false_ne_true]
  generalize 30 + f.B.length = n
  rfl
/-- A byte of the tunnel header that is written over. -/
theorem sxL_set {o : Ou} {f : Tn.Fr} {X : List Nat} (hX : X.length = 8) (hf : f.Ok) (hb : f.B.length ≤ 65485) (i y : Nat) (hi : i < 8) : (sxL o f X).set (28 + i) y = sxL o f (X.set i y) := by
  have hX' : (X.set i y).length = 8 := by rw [List.length_set, hX]
  have hu : sxU o f (X.set i y) = (sxU o f X).set (8 + i) y := by
    rw [sxU_eq hX' hf, sxU_eq hX hf, List.set_append_right _ _ (by simp), List.set_append_left _ _ (by simp [hX, hi])]
    rw [show 8 + i - [o.sp / 256 % 256, o.sp % 256, o.dp / 256 % 256, o.dp % 256, (30 + f.B.length) / 256 % 256, (30 + f.B.length) % 256, 0 / 256, 0 % 256].length = i by simp]
  unfold sxL builtL
  rw [if_pos (sx_refE hX hf hb), if_pos (sx_refE hX' hf hb), List.set_append_right _ _ (by rw [hdBytes_len]; show 20 + 0 ≤ _; omega), hdBytes_len, hu]
  have hlen : lenOfPk (ohd o) ((sxU o f X).set (8 + i) y) = lenOfPk (ohd o) (sxU o f X) := by unfold lenOfPk; rw [List.length_set]
  rw [hlen, show 28 + i - (20 + (ohd o).opts.length) = 8 + i by show 28 + i - (20 + 0) = 8 + i; omega]
end Go.Proofs.Ytcelcnafcfefhaa.N

/-
  Two results laid down; sealable.
-/
namespace Go.Proofs.Ytcelcnafcfefhaa.N
open Go.ChangeShapes Go.WideShapes Go.ChangeAt Go.RowKit
set_option maxHeartbeats 8000000
set_option maxRecDepth 100000

theorem lay2 (w2 : World) (oc fc : Array Value) (ho : oc.size = 6) (hf : fc.size = 14) (p : Nat) (hp : p = w2.heap.size) : ∃ wb wc w3 : World, Hid (wb = (w2.alloc (.cells zeroOu 60)).alloc (.cells zeroF 41)) ∧ Hid (wc = wb.setCells p 0 oc.toList) ∧ Hid (w3 = wc.setCells (p + 1) 0 fc.toList) ∧ Hid (wb.there p 0 oc.size) ∧ Hid (wc.there (p + 1) 0 fc.size) ∧ w3.heap[p]? = some (.cells oc 60 (0, 0)) ∧ w3.heap[p + 1]? = some (.cells fc 41 (0, 0)) ∧ Below w2.heap.size w2 w3 := by
  obtain ⟨wb, hwb⟩ : ∃ wb, wb = (w2.alloc (.cells zeroOu 60)).alloc (.cells zeroF 41) := ⟨_, rfl⟩
  obtain ⟨wc, hwc⟩ : ∃ wc, wc = wb.setCells p 0 oc.toList := ⟨_, rfl⟩
  obtain ⟨w3, hw3⟩ : ∃ w3, w3 = wc.setCells (p + 1) 0 fc.toList := ⟨_, rfl⟩
  have g1 : wb.heap[p]? = some (.cells zeroOu 60 (0, 0)) := by rw [hwb, heap_alloc_old _ _ (by rw [hp]; simp), hp]; exact heap_alloc_new w2 _
  have g2 : wb.heap[p + 1]? = some (.cells zeroF 41 (0, 0)) := by
    have h0 : (w2.alloc (.cells zeroOu 60)).heap.size = p + 1 := by rw [hp]; simp
    rw [hwb, ← h0]; exact heap_alloc_new _ _
  have bC : But p wb wc := by rw [hwc]; exact But.setsT _ _
  have k1 : wc.heap[p]? = some (.cells oc 60 (0, 0)) := by rw [hwc]; exact row_put g1 (by rw [ho]; rfl)
  have k2 := (bC.block (p + 1) (Array.getElem?_eq_some_iff.1 g2).1 (by omega)).trans g2
  have bD : But (p + 1) wc w3 := by rw [hw3]; exact But.setsT _ _
  have m1 := (bD.block p (Array.getElem?_eq_some_iff.1 k1).1 (by omega)).trans k1
  have m2 : w3.heap[p + 1]? = some (.cells fc 41 (0, 0)) := by rw [hw3]; exact row_put k2 (by rw [hf]; rfl)
  have hb2b : Below w2.heap.size w2 wb := by rw [hwb]; exact ((Below.refl _ _).alloc (Nat.le_refl _) _).alloc (by simp) _
  have hb23 : Below w2.heap.size w2 w3 := by rw [hw3, hwc]; exact below_setCells' (by omega) _ _ _ (below_setCells' (by omega) _ _ _ hb2b)
  exact ⟨wb, wc, w3, hwb, hwc, hw3, there_blk g1 (by rw [ho]; rfl), there_blk k2 (by rw [hf]; rfl), m1, m2, hb23⟩

/-- Both results written over. -/
theorem lay3 {w2 : World} {oc fc C1 C2 : Array Value} {p : Nat} (h1 : w2.heap[p]? = some (.cells C1 60 (0, 0))) (h2 : w2.heap[p + 1]? = some (.cells C2 41 (0, 0))) (ho : oc.size = C1.size) (hf : fc.size = C2.size) : ∃ w3 : World, Hid (w3 = (w2.setCells p 0 oc.toList).setCells (p + 1) 0 fc.toList) ∧ Hid (w2.there p 0 oc.size) ∧ Hid ((w2.setCells p 0 oc.toList).there (p + 1) 0 fc.size) ∧ w3.heap[p]? = some (.cells oc 60 (0, 0)) ∧ w3.heap[p + 1]? = some (.cells fc 41 (0, 0)) ∧ (∀ B a, B ≤ p → Below B a w2 → Below B a w3) ∧ (∀ ao n cap L, SeesB w2 (.slice ao n cap) L → (∀ a, ao = some a → a.block ≠ p ∧ a.block ≠ p + 1) → SeesB w3 (.slice ao n cap) L) := by
  have bC : But p w2 (w2.setCells p 0 oc.toList) := But.setsT _ _
  have k1 : (w2.setCells p 0 oc.toList).heap[p]? = some (.cells oc 60 (0, 0)) := row_put h1 ho
  have k2 := (bC.block (p + 1) (Array.getElem?_eq_some_iff.1 h2).1 (by omega)).trans h2
  have bD : But (p + 1) (w2.setCells p 0 oc.toList) ((w2.setCells p 0 oc.toList).setCells (p + 1) 0 fc.toList) := But.setsT _ _
  have m1 := (bD.block p (Array.getElem?_eq_some_iff.1 k1).1 (by omega)).trans k1
  have m2 : ((w2.setCells p 0 oc.toList).setCells (p + 1) 0 fc.toList).heap[p + 1]? = some (.cells fc 41 (0, 0)) := row_put k2 hf
  exact ⟨_, rfl, there_blk h1 ho, there_blk k2 hf, m1, m2, fun B a hB hb => below_setCells' (by omega) _ _ _ (below_setCells' hB _ _ _ hb), fun ao n cap L hs hne => sees_set' (sees_set' hs fun a e => (hne a e).1) fun a e => (hne a e).2⟩

theorem eqO (o : Ou) (u : World) : (Op.equalIn 10000 60 (.agg (ouCells o)) (.agg (ouCells o))).run Try.prog u = .ok true u := by
  unfold ouCells
  simp [go_sem]

theorem ou_one (o : Ou) : (ouCells o).all (·.oneCell') = true := by
  unfold ouCells
  simp [Value.oneCell']

/-- May it be sealed? -/
def seB (o : Ou) (f : Tn.Fr) : Bool := decide (0 ≤ o.vni ∧ o.vni ≤ 16777215 ∧ Tn.bfE f = 0)

theorem sealable_any (o : Ou) (f : Tn.Fr) (vb : Value) (w : World) (hf : f.Ok) (hvb : SeesB w vb f.B) :
    Calls Try.prog 19 #[.agg (ouCells o), .agg (frCells f vb)] w fun e w' => e = .returned (.bool (seB o f)) ∧ Below w.heap.size w w' := by
  obtain ⟨ab, nb, capb, rfl, HNB, hnb1, hnb2⟩ := hvb.shape
  obtain ⟨w1, hw1⟩ : ∃ w1, w1 = w.alloc (.cells (ouCells o) 60) := ⟨_, rfl⟩
  obtain ⟨w2, hw2⟩ : ∃ w2, w2 = w1.alloc (.cells (frCells f (.slice ab nb capb)) 41) := ⟨_, rfl⟩
  have hs1 : w1.heap.size = w.heap.size + 1 := by rw [hw1]; simp
  have hb1 : Below w.heap.size w w1 := by rw [hw1]; exact (Below.refl _ _).alloc (Nat.le_refl _) _
  have hb2 : Below w.heap.size w w2 := by rw [hw2]; exact hb1.alloc (by omega) _
  have hr1 : w2.heap[w.heap.size]? = some (.cells (ouCells o) 60 (0, 0)) := by rw [hw2, heap_alloc_old _ _ (by omega), hw1]; exact heap_alloc_new w _
  have hr2 : w2.heap[w.heap.size + 1]? = some (.cells (frCells f (.slice ab nb capb)) 41 (0, 0)) := by rw [hw2, ← hs1]; exact heap_alloc_new w1 _
  obtain ⟨c12, c13⟩ := fr_at hf hr2
  obtain ⟨-, -, -, -, -, c5⟩ := ou_at hr1
  have HB2 := hid hb2
  have HW2 : Hid (w2 = (w.alloc (.cells (ouCells o) 60)).alloc (.cells (frCells f (.slice ab nb capb)) 41)) := by unfold Hid; rw [hw2, hw1]
  have HT := hid hf.ty
  have HBF : Hid (Tn.bfE f = if 65485 < nb then 2 else Tn.tyE f.ty) := by unfold Hid; rw [HNB.out]; rfl
  have HSB : Hid (seB o f = decide (0 ≤ o.vni ∧ o.vni ≤ 16777215 ∧ (if 65485 < nb then 2 else Tn.tyE f.ty) = 0)) := by unfold Hid seB; rw [HBF.out]
  clear hw1 hw2 hs1 hb1 hb2 hr1 hr2 hvb hf HBF
  unfold maxLen at hnb2
  generalize seB o f = sb at *
  generalize frCells f (.slice ab nb capb) = fb at *
  generalize ouCells o = oc at *
  generalize o.vni = v at *
  generalize f.ty = ty at *
  have HTY : Hid (Tn.tyE ty = if ty < 1536 then 70 else if ty = 33024 ∨ ty = 34984 then 71 else 0) := rfl
  generalize Tn.tyE ty = te at *
  by_cases hT : ty < 1536
  · have HTE : Hid (te = 70) := by unfold Hid; rw [HTY.out]; simp [hT]
    have g1 : ¬ (1536 : Int) ≤ (ty : Int) := by omega
    clear HTY HT
    go_enter Try.func19, Try.ntmps19
    go_upto_region 1 with fail
    rw [← HW2.out]
    by_cases v0 : v < 0
    · have v0' : ¬ (0 : Int) ≤ v := by omega
      have HS : Hid (sb = false) := by unfold Hid; rw [HSB.out]; exact decide_eq_false (fun h => v0' h.1)
      clear HSB HTE
      go_wp2_with fail
      go_ret
      exact ⟨by rw [HS.out]; rfl, HB2.out⟩
    have v0' : (0 : Int) ≤ v := by omega
    by_cases v1 : 16777215 < v
    · have v1' : ¬ v ≤ (16777215 : Int) := by omega
      have HS : Hid (sb = false) := by unfold Hid; rw [HSB.out]; exact decide_eq_false (fun h => v1' h.2.1)
      clear HSB HTE
      go_wp2_with fail
      go_ret
      exact ⟨by rw [HS.out]; rfl, HB2.out⟩
    have v1' : v ≤ (16777215 : Int) := by omega
    by_cases v2 : 65485 < nb
    · have v2' : ¬ (nb : Int) ≤ (65485 : Int) := by omega
      have HS : Hid (sb = false) := by unfold Hid; rw [HSB.out]; exact decide_eq_false (fun h => by have h2 := h.2.2; rw [if_pos v2] at h2; exact absurd h2 (by decide))
      clear HSB HTE
      go_wp2_with fail
      go_ret
      exact ⟨by rw [HS.out]; rfl, HB2.out⟩
    have v2' : (nb : Int) ≤ (65485 : Int) := by omega
    have HS : Hid (sb = false) := by unfold Hid; rw [HSB.out]; exact decide_eq_false (fun h => by have h2 := h.2.2; rw [if_neg v2, HTE.out] at h2; exact absurd h2 (by decide))
    clear HSB HTE
    go_wp2_with fail
    go_ret
    exact ⟨by rw [HS.out]; rfl, HB2.out⟩
  have n0 := hT
  clear hT
  by_cases hT : ty = 33024
  · have HTE : Hid (te = 71) := by unfold Hid; rw [HTY.out, if_neg n0, if_pos (by omega)]
    subst hT
    clear HTY HT
    go_enter Try.func19, Try.ntmps19
    go_upto_region 1 with fail
    rw [← HW2.out]
    by_cases v0 : v < 0
    · have v0' : ¬ (0 : Int) ≤ v := by omega
      have HS : Hid (sb = false) := by unfold Hid; rw [HSB.out]; exact decide_eq_false (fun h => v0' h.1)
      clear HSB HTE
      go_wp2_with fail
      go_ret
      exact ⟨by rw [HS.out]; rfl, HB2.out⟩
    have v0' : (0 : Int) ≤ v := by omega
    by_cases v1 : 16777215 < v
    · have v1' : ¬ v ≤ (16777215 : Int) := by omega
      have HS : Hid (sb = false) := by unfold Hid; rw [HSB.out]; exact decide_eq_false (fun h => v1' h.2.1)
      clear HSB HTE
      go_wp2_with fail
      go_ret
      exact ⟨by rw [HS.out]; rfl, HB2.out⟩
    have v1' : v ≤ (16777215 : Int) := by omega
    by_cases v2 : 65485 < nb
    · have v2' : ¬ (nb : Int) ≤ (65485 : Int) := by omega
      have HS : Hid (sb = false) := by unfold Hid; rw [HSB.out]; exact decide_eq_false (fun h => by have h2 := h.2.2; rw [if_pos v2] at h2; exact absurd h2 (by decide))
      clear HSB HTE
      go_wp2_with fail
      go_ret
      exact ⟨by rw [HS.out]; rfl, HB2.out⟩
    have v2' : (nb : Int) ≤ (65485 : Int) := by omega
    have HS : Hid (sb = false) := by unfold Hid; rw [HSB.out]; exact decide_eq_false (fun h => by have h2 := h.2.2; rw [if_neg v2, HTE.out] at h2; exact absurd h2 (by decide))
    clear HSB HTE
    go_wp2_with fail
    go_ret
    exact ⟨by rw [HS.out]; rfl, HB2.out⟩
  have n1 := hT
  clear hT
  by_cases hT : ty = 34984
  · have HTE : Hid (te = 71) := by unfold Hid; rw [HTY.out, if_neg n0, if_pos (by omega)]
    subst hT
    clear HTY HT
    go_enter Try.func19, Try.ntmps19
    go_upto_region 1 with fail
    rw [← HW2.out]
    by_cases v0 : v < 0
    · have v0' : ¬ (0 : Int) ≤ v := by omega
      have HS : Hid (sb = false) := by unfold Hid; rw [HSB.out]; exact decide_eq_false (fun h => v0' h.1)
      clear HSB HTE
      go_wp2_with fail
      go_ret
      exact ⟨by rw [HS.out]; rfl, HB2.out⟩
    have v0' : (0 : Int) ≤ v := by omega
    by_cases v1 : 16777215 < v
    · have v1' : ¬ v ≤ (16777215 : Int) := by omega
      have HS : Hid (sb = false) := by unfold Hid; rw [HSB.out]; exact decide_eq_false (fun h => v1' h.2.1)
      clear HSB HTE
      go_wp2_with fail
      go_ret
      exact ⟨by rw [HS.out]; rfl, HB2.out⟩
    have v1' : v ≤ (16777215 : Int) := by omega
    by_cases v2 : 65485 < nb
    · have v2' : ¬ (nb : Int) ≤ (65485 : Int) := by omega
      have HS : Hid (sb = false) := by unfold Hid; rw [HSB.out]; exact decide_eq_false (fun h => by have h2 := h.2.2; rw [if_pos v2] at h2; exact absurd h2 (by decide))
      clear HSB HTE
      go_wp2_with fail
      go_ret
      exact ⟨by rw [HS.out]; rfl, HB2.out⟩
    have v2' : (nb : Int) ≤ (65485 : Int) := by omega
    have HS : Hid (sb = false) := by unfold Hid; rw [HSB.out]; exact decide_eq_false (fun h => by have h2 := h.2.2; rw [if_neg v2, HTE.out] at h2; exact absurd h2 (by decide))
    clear HSB HTE
    go_wp2_with fail
    go_ret
    exact ⟨by rw [HS.out]; rfl, HB2.out⟩
  have n2 := hT
  clear hT
  have HTE : Hid (te = 0) := by unfold Hid; rw [HTY.out, if_neg n0, if_neg (by omega)]
  have g1 : (1536 : Int) ≤ (ty : Int) := by omega
  have g2 : ((ty : Int) != 33024) = true := by simp; omega
  have g3 : ((ty : Int) == 33024) = false := by simp; omega
  have g4 : ((ty : Int) != 34984) = true := by simp; omega
  have g5 : ((ty : Int) == 34984) = false := by simp; omega
  clear HTY HT n0 n1 n2
  go_enter Try.func19, Try.ntmps19
  go_upto_region 1 with fail
  rw [← HW2.out]
  by_cases v0 : v < 0
  · have v0' : ¬ (0 : Int) ≤ v := by omega
    have HS : Hid (sb = false) := by unfold Hid; rw [HSB.out]; exact decide_eq_false (fun h => v0' h.1)
    clear HSB HTE
    go_wp2_with fail
    go_ret
    exact ⟨by rw [HS.out]; rfl, HB2.out⟩
  have v0' : (0 : Int) ≤ v := by omega
  by_cases v1 : 16777215 < v
  · have v1' : ¬ v ≤ (16777215 : Int) := by omega
    have HS : Hid (sb = false) := by unfold Hid; rw [HSB.out]; exact decide_eq_false (fun h => v1' h.2.1)
    clear HSB HTE
    go_wp2_with fail
    go_ret
    exact ⟨by rw [HS.out]; rfl, HB2.out⟩
  have v1' : v ≤ (16777215 : Int) := by omega
  by_cases v2 : 65485 < nb
  · have v2' : ¬ (nb : Int) ≤ (65485 : Int) := by omega
    have HS : Hid (sb = false) := by unfold Hid; rw [HSB.out]; exact decide_eq_false (fun h => by have h2 := h.2.2; rw [if_pos v2] at h2; exact absurd h2 (by decide))
    clear HSB HTE
    go_wp2_with fail
    go_ret
    exact ⟨by rw [HS.out]; rfl, HB2.out⟩
  have v2' : (nb : Int) ≤ (65485 : Int) := by omega
  have HS : Hid (sb = true) := by unfold Hid; rw [HSB.out]; exact decide_eq_true ⟨v0', v1', by rw [if_neg v2, HTE.out]⟩
  clear HSB HTE
  go_wp2_with fail
  go_ret
  exact ⟨by rw [HS.out]; rfl, HB2.out⟩
end Go.Proofs.Ytcelcnafcfefhaa.N

/-
  Datagrams that came in, opened.
-/
namespace Go.Proofs.Ytcelcnafcfefhaa.N
open Go.ChangeShapes Go.WideShapes Go.ChangeAt Go.RowKit
set_option maxRecDepth 100000

theorem cells_dg : Try.prog.cellsOf 27 = 3 := by kernel_rfl
theorem und_ad : Try.prog.underlying 23 = some (.int .u32) := by kernel_rfl
theorem cell1_ad : Try.prog.cellsOf 23 = 1 := by kernel_rfl
theorem und_u16 : Try.prog.underlying 24 = some (.int .u16) := by kernel_rfl
theorem cell1_u16 : Try.prog.cellsOf 24 = 1 := by kernel_rfl
theorem und_dg : ∃ f0 f1 f2, Try.prog.underlying 27 = some (.struct #[f0, f1, f2]) ∧ f0.type = 24 ∧ f0.offset = 0 ∧ f1.type = 24 ∧ f1.offset = 1 ∧ f2.type = 25 ∧ f2.offset = 2 := ⟨_, _, _, Try.underlying27, rfl, rfl, rfl, rfl, rfl, rfl⟩

section
variable {H : Type} {enc : TypeId × Value → H} {W : World}

/-- A datagram that reads. -/
theorem open_dg {fuel : Nat} {cs : List Value} {x : DataW H × List MemPlace} (h : DataW.trod enc Try.prog W 0 (fun _ => true) true fuel 27 cs = some x) :
    ∃ (m : Tn.Dg) (vm : Value), cs = (dgCells m vm).toList ∧ m.Ok ∧ SeesB W vm m.B ∧ Fits x.1 27 m.B.length ∧ vm.oneCell' = true := by
  obtain ⟨f0, f1, f2, hu, t0, o0, t1, o1, t2, o2⟩ := und_dg
  obtain ⟨xs, n, _, rfl, hl, hxl, hf⟩ := DataW.trod_struct hu h
  match xs, hxl with
  | [y0, y1, y2], _ =>
    have g0 := hf 0 f0 rfl
    have g1 := hf 1 f1 rfl
    have g2 := hf 2 f2 rfl
    rw [t0, o0, cell1_u16] at g0
    rw [t1, o1, cell1_u16] at g1
    rw [t2, o2, cell1_25] at g2
    rw [cells_dg] at hl
    obtain ⟨z0, e0, _, w0⟩ := DataW.trod_int und_u16 g0
    obtain ⟨T, rfl, hT⟩ := wf_u16 w0
    obtain ⟨z1, e1, _, w1⟩ := DataW.trod_int und_u16 g1
    obtain ⟨C, rfl, hC⟩ := wf_u16 w1
    obtain ⟨vm, B, e2, hs, hfit, ho⟩ := open_bytes g2
    refine ⟨⟨T, C, B⟩, vm, ?_, ⟨hT, hC⟩, hs, ⟨?_, fun hw => ?_⟩, ho⟩
    · match cs, hl with
      | [c0, c1, c2], _ =>
        simp at e0 e1 e2
        simp [dgCells, e0, e1, e2]
    · simp only [List.map_cons, List.map_nil, Rows.uptoBulk, Rows.uptoBulkAll]
      have := hfit.bulk
      omega
    · refine hfit.room fun k hk => hw k ?_
      simp only [DataW.weights, hu]
      exact DataW.weights_mem_each (j := 2) (t := 25) (d := y2.1) (by simp [t2]) rfl _ hk
end
end Go.Proofs.Ytcelcnafcfefhaa.N

/-
  Outer values that came in, opened.
-/
namespace Go.Proofs.Ytcelcnafcfefhaa.N
open Go.ChangeShapes Go.WideShapes Go.ChangeAt Go.RowKit
set_option maxRecDepth 100000

theorem cells_ou : Try.prog.cellsOf 60 = 6 := by kernel_rfl
theorem und_ou : ∃ f0 f1 f2 f3 f4 f5, Try.prog.underlying 60 = some (.struct #[f0, f1, f2, f3, f4, f5]) ∧ (f0.type = 23 ∧ f0.offset = 0 ∧ f1.type = 23 ∧ f1.offset = 1) ∧ (f2.type = 24 ∧ f2.offset = 2 ∧ f3.type = 24 ∧ f3.offset = 3) ∧ f4.type = 5 ∧ f4.offset = 4 ∧ f5.type = 3 ∧ f5.offset = 5 := ⟨_, _, _, _, _, _, Try.underlying60, ⟨rfl, rfl, rfl, rfl⟩, ⟨rfl, rfl, rfl, rfl⟩, rfl, rfl, rfl, rfl⟩
theorem cell1_i : Try.prog.cellsOf 3 = 1 := by kernel_rfl

section
variable {H : Type} {enc : TypeId × Value → H} {W : World}

theorem open_ou {fuel : Nat} {cs : List Value} {x : DataW H × List MemPlace} (h : DataW.trod enc Try.prog W 0 (fun _ => true) true fuel 60 cs = some x) :
    ∃ m : Ou, cs = (ouCells m).toList ∧ m.Ok := by
  obtain ⟨f0, f1, f2, f3, f4, f5, hu, ⟨t0, o0, t1, o1⟩, ⟨t2, o2, t3, o3⟩, t4, o4, t5, o5⟩ := und_ou
  obtain ⟨xs, n, _, rfl, hl, hxl, hf⟩ := DataW.trod_struct hu h
  match xs, hxl with
  | [y0, y1, y2, y3, y4, y5], _ =>
    have g0 := hf 0 f0 rfl
    have g1 := hf 1 f1 rfl
    have g2 := hf 2 f2 rfl
    have g3 := hf 3 f3 rfl
    have g4 := hf 4 f4 rfl
    have g5 := hf 5 f5 rfl
    rw [t0, o0, cell1_ad] at g0
    rw [t1, o1, cell1_ad] at g1
    rw [t2, o2, cell1_u16] at g2
    rw [t3, o3, cell1_u16] at g3
    rw [t4, o4, cell1_5] at g4
    rw [t5, o5, cell1_i] at g5
    rw [cells_ou] at hl
    obtain ⟨z0, e0, _, w0⟩ := DataW.trod_int und_ad g0
    obtain ⟨a0, rfl, h0⟩ := wf_u32 w0
    obtain ⟨z1, e1, _, w1⟩ := DataW.trod_int und_ad g1
    obtain ⟨a1, rfl, h1⟩ := wf_u32 w1
    obtain ⟨z2, e2, _, w2⟩ := DataW.trod_int und_u16 g2
    obtain ⟨a2, rfl, h2⟩ := wf_u16 w2
    obtain ⟨z3, e3, _, w3⟩ := DataW.trod_int und_u16 g3
    obtain ⟨a3, rfl, h3⟩ := wf_u16 w3
    obtain ⟨z4, e4, _, w4⟩ := DataW.trod_int u5 g4
    obtain ⟨a4, rfl, h4⟩ := wf_u8 w4
    obtain ⟨z5, e5, _, w5⟩ := DataW.trod_int u3 g5
    have h5 := wf_i64 w5
    refine ⟨⟨a0, a1, a2, a3, a4, z5⟩, ?_, ⟨h0, h1, h2, h3, h4, h5.1, h5.2⟩⟩
    match cs, hl with
    | [c0, c1, c2, c3, c4, c5], _ =>
      simp at e0 e1 e2 e3 e4 e5
      simp [ouCells, e0, e1, e2, e3, e4, e5]
end
end Go.Proofs.Ytcelcnafcfefhaa.N

/-
  TunnelDatagrams: items that came in, opened; the walk.
-/
namespace Go.Proofs.Ytcelcnafcfefhaa.N
open Go.ChangeShapes Go.WideShapes Go.ChangeAt Go.RowKit
set_option maxHeartbeats 4000000
set_option maxRecDepth 100000

/-- The slice value v shows rows of k cells. -/
def SeesR (w : World) (v : Value) (k : Nat) (L : List (List Value)) : Prop :=
  ∃ ao cap, v = .slice ao L.length cap ∧ L.length ≤ cap ∧ cap ≤ maxLen ∧
    ∀ j (h : j < L.length), L[j].length = k ∧ ∃ g off, ao = some ⟨g, off, none⟩ ∧ g < w.heap.size ∧ w.rangeAt g (off + j * k) L[j]

structure ItD where
  src : Nat
  dst : Nat
  x : Tn.Dg
  vb : Value
  sum : Bool
  vr : Value
  R : List Nat

def ItD.cells (o : ItD) : List Value := (itCells o.src o.dst o.x o.vb o.sum o.vr).toList

structure ItD.Ok (o : ItD) (W : World) : Prop where
  src : o.src < 4294967296
  dst : o.dst < 4294967296
  x : o.x.Ok
  vb : SeesB W o.vb o.x.B
  vr : SeesB W o.vr o.R
  lb : o.x.B.length ≤ reachBytes
  lr : o.R.length ≤ reachBytes

theorem cells_it : Try.prog.cellsOf 47 = 7 := by kernel_rfl
theorem und_items : Try.prog.underlying 44 = some (.slice 47) := by kernel_rfl
theorem und_it : ∃ f0 f1 f2 f3 f4, Try.prog.underlying 47 = some (.struct #[f0, f1, f2, f3, f4]) ∧ f0.type = 23 ∧ f0.offset = 0 ∧ f1.type = 23 ∧ f1.offset = 1 ∧ f2.type = 27 ∧ f2.offset = 2 ∧ f3.type = 4 ∧ f3.offset = 5 ∧ f4.type = 25 ∧ f4.offset = 6 := ⟨_, _, _, _, _, Try.underlying47, rfl, rfl, rfl, rfl, rfl, rfl, rfl, rfl, rfl, rfl⟩

section
variable {H : Type} {enc : TypeId × Value → H} {W : World}

theorem open_it {fuel : Nat} {cs : List Value} {x : DataW H × List MemPlace} (h : DataW.trod enc Try.prog W 0 (fun _ => true) true fuel 47 cs = some x) (hw : ∀ k ∈ x.1.weights Try.prog 47, k ≤ reachBytes) :
    ∃ o : ItD, cs = o.cells ∧ o.Ok W := by
  obtain ⟨f0, f1, f2, f3, f4, hu, t0, o0, t1, o1, t2, o2, t3, o3, t4, o4⟩ := und_it
  obtain ⟨xs, n, _, rfl, hl, hxl, hf⟩ := DataW.trod_struct hu h
  match xs, hxl with
  | [y0, y1, y2, y3, y4], _ =>
    have g0 := hf 0 f0 rfl
    have g1 := hf 1 f1 rfl
    have g2 := hf 2 f2 rfl
    have g3 := hf 3 f3 rfl
    have g4 := hf 4 f4 rfl
    rw [t0, o0, cell1_ad] at g0
    rw [t1, o1, cell1_ad] at g1
    rw [t2, o2, cells_dg] at g2
    rw [t3, o3, cell1_4] at g3
    rw [t4, o4, cell1_25] at g4
    rw [cells_it] at hl
    obtain ⟨z0, e0, _, w0⟩ := DataW.trod_int und_ad g0
    obtain ⟨src, rfl, hsrc⟩ := wf_u32 w0
    obtain ⟨z1, e1, _, w1⟩ := DataW.trod_int und_ad g1
    obtain ⟨dst, rfl, hdst⟩ := wf_u32 w1
    obtain ⟨m, vm, e2, hm, hsm, fm, _⟩ := open_dg g2
    obtain ⟨sum, e3, _⟩ := DataW.trod_bool u4 g3
    obtain ⟨vr, R, e4, hsr, fr, _⟩ := open_bytes g4
    have w2 : m.B.length ≤ reachBytes := fm.room fun k hk => hw k (by
      simp only [DataW.weights, hu]
      exact DataW.weights_mem_each (j := 2) (t := 27) (d := y2.1) (by simp [t2]) rfl _ hk)
    have w4 : R.length ≤ reachBytes := fr.room fun k hk => hw k (by
      simp only [DataW.weights, hu]
      exact DataW.weights_mem_each (j := 4) (t := 25) (d := y4.1) (by simp [t4]) rfl _ hk)
    refine ⟨⟨src, dst, m, vm, sum, vr, R⟩, ?_, ⟨hsrc, hdst, hm, hsm, hsr, w2, w4⟩⟩
    match cs, hl with
    | [c0, c1, c2, c3, c4, c5, c6], _ =>
      simp [dgCells] at e0 e1 e2 e3 e4
      simp [ItD.cells, itCells, e0, e1, e2, e3, e4]

theorem open_items {base : Nat} {v : Value} {d : DataW H} {ps : List MemPlace} (hval : Value.okWide Try.prog W .any base 44 v) (h : DataW.Trod enc Try.prog W 0 (fun _ => true) true 44 v d ps) (hw : ∀ x ∈ d.weights Try.prog 44, x ≤ reachBytes) :
    ∃ Os : List ItD, SeesR W v 7 (Os.map ItD.cells) ∧ ∀ o ∈ Os, o.Ok W := by
  obtain ⟨a0, len, cap, rfl⟩ := okWide_slice und_items hval
  obtain ⟨fuel, hf⟩ := h
  rcases Go.Deep.open_slice und_items hf with ⟨h1, _⟩ | ⟨a, len', cap', m, n, D, Pl, h1, _, hlc, hcm, hm, hxx, hx⟩
  · simp [Value.cells] at h1
    obtain ⟨rfl, rfl, rfl⟩ := h1
    exact ⟨[], ⟨none, 0, rfl, by simp, by unfold maxLen; omega, fun j hj => absurd hj (by simp)⟩, fun o ho => by cases ho⟩
  · simp [Value.cells] at h1
    obtain ⟨rfl, rfl, rfl⟩ := h1
    simp at hm
    subst hm
    simp only [Prod.mk.injEq] at hxx
    obtain ⟨rfl, _⟩ := hxx
    have key : ∀ i, i < len → ∃ o : ItD, o.Ok W ∧ ∀ j (hj : j < 7), W.cell? ((a.add (i * 7)).add j) = o.cells[j]? := by
      intro i hi
      obtain ⟨cs', k1, k2⟩ := hx i (by omega)
      rw [cells_it] at k1
      obtain ⟨_, _, hc⟩ := World.cells?_some k1
      obtain ⟨o, ho, hok⟩ := open_it k2 fun x hx' => hw x (by
        simp only [DataW.weights, und_items, List.mem_cons, List.mem_append]
        exact .inr (.inl (weights_all (d := D i) (List.mem_map.2 ⟨i, by simpa using hi, rfl⟩) x hx')))
      refine ⟨o, hok, fun j hj => ?_⟩
      rw [hc j hj, ho]
    by_cases h0 : len = 0
    · subst h0
      exact ⟨[], ⟨some a, m, rfl, by simp, hcm, fun j hj => absurd hj (by simp)⟩, fun o ho => by cases ho⟩
    obtain ⟨c0, _⟩ := key 0 (by omega)
    obtain ⟨F, hF⟩ : ∃ F : Nat → ItD, ∀ i, i < len → (F i).Ok W ∧ ∀ j (hj : j < 7), W.cell? ((a.add (i * 7)).add j) = (F i).cells[j]? := by
      refine ⟨fun i => if h : i < len then (key i h).choose else c0, fun i hi => ?_⟩
      simp only [dif_pos hi]
      exact (key i hi).choose_spec
    obtain ⟨g, off, rfl, hg⟩ : ∃ g off, a = ⟨g, off, none⟩ ∧ g < W.heap.size := by
      have z0 := (hF 0 (by omega)).2 0 (by omega)
      have e : (a.add (0 * 7)).add 0 = a := by simp [Addr.add]
      rw [e] at z0
      exact spot_none z0
    refine ⟨(List.range len).map F, ⟨some ⟨g, off, none⟩, m, by simp, by simpa using hlc, hcm, fun j hj => ?_⟩, fun o ho => ?_⟩
    · have hj' : j < len := by simpa using hj
      simp only [List.getElem_map, List.getElem_range]
      refine ⟨rfl, g, off, rfl, hg, fun i v hv => ?_⟩
      have hi : i < 7 := (List.getElem?_eq_some_iff.1 hv).1
      have hh := (hF j hj').2 i hi
      rw [Addr.add_mid, Addr.add_mid] at hh
      rw [hh, hv]
    · obtain ⟨i, hi, rfl⟩ := List.mem_map.1 ho
      exact (hF i (by simpa using hi)).1
end

theorem range_belowR {w w' : World} {b o : Nat} {cs : List Value} (h : w.rangeAt b o cs) (hb : Below w.heap.size w w') : w'.rangeAt b o cs := fun j v hv => by
  have := h j v hv
  exact (hb.cell (p := ⟨b, o + j, none⟩) (World.block_lt_of_cell? w _ this)).trans this

theorem tunnelDatagrams_walk (v : Value) (Os : List ItD) (w : World) (hv : SeesR w v 7 (Os.map ItD.cells)) (ho : ∀ o ∈ Os, o.Ok w) :
    Calls Try.prog 5 #[v] w fun e w' => e = .returned (.bool true) ∧ Below w.heap.size w w' := by
  obtain ⟨ao, cap, rfl, hnc, hcap, hcell⟩ := hv
  have HBE := hid (begun_any w)
  obtain ⟨n, hn⟩ : ∃ n, n = Os.length := ⟨_, rfl⟩
  have hlen : (Os.map ItD.cells).length = n := by rw [List.length_map, hn]
  rw [hlen] at hnc ⊢
  have HC : Hid (∀ j (h : j < n), ∃ (o : ItD) (g off : Nat), o.Ok w ∧ ao = some ⟨g, off, none⟩ ∧ g < w.heap.size ∧ w.rangeAt g (off + j * 7) o.cells) := fun j h => by
    obtain ⟨_, g, off, h1, h2, h3⟩ := hcell j (by rw [hlen]; exact h)
    have hj : j < Os.length := by rw [← hn]; exact h
    refine ⟨Os[j], g, off, ho _ (List.getElem_mem _), h1, h2, ?_⟩
    simpa using h3
  unfold maxLen at hcap
  clear hcell ho hn hlen
  go_enter Try.func5, Try.ntmps5
  go_wp2_with fail
  refine HBE.out.mono ?_
  rintro _ w1 ⟨rfl, hb1⟩
  go_wp2_with fail
  go_loopw [3, 4] (fun _ i wv => ∃ (k : Nat) (wr : World), i = .int .i64 (k : Int) ∧ k ≤ n ∧ wr = wv ∧ Below w.heap.size w wr) (fun _ i _ => n - (intOf i).toNat)
  case atStart => exact ⟨0, _, rfl, by omega, rfl, hb1⟩
  case round =>
    clear hb1
    obtain ⟨k, wr, rfl, hk, rfl, hb⟩ := hrel
    by_cases hlt : k < n
    · obtain ⟨o, g, off, hok, rfl, hg, hrange⟩ := HC.out k hlt
      have HLD : Hid ((Instr.loadAt 47 (.pointer (some ⟨g, off + k * 7, none⟩))).run Try.prog wr = .ok (.agg (itCells o.src o.dst o.x o.vb o.sum o.vr)) wr) := by
        have := run_loadAt_mid wr g (off + k * 7) 47 o.cells (.struct _) (range_belowR hrange hb) Try.underlying47 rfl (by rw [show (Try.prog.info? 47).map (·.size) = some 7 from by kernel_rfl]; rfl)
        exact this
      have HD := hid (datagrams_any o.src o.dst o.x o.vb o.sum o.vr o.R wr hok.src hok.dst hok.x (hok.vb.below hb) (hok.vr.below hb) (by have := hok.lb; unfold reachBytes at this; omega) (by have := hok.lr; unfold reachBytes at this; omega))
      have b0 : (k : Int) < (n : Int) := by omega
      have b1 : (0 : Int) ≤ (k : Int) := by omega
      generalize itCells o.src o.dst o.x o.vb o.sum o.vr = it at *
      clear hrange hok
      go_wp2_with (first | (refine wpList_ld 47 ⟨g, off + k * 7, none⟩ _ rfl rfl HLD.out rfl ?_) | fail)
      refine HD.out.mono ?_
      rintro _ w2 ⟨rfl, hb2⟩
      have hb3 := hb.trans (hb2.mono hb.size)
      clear hb2
      go_wp2_with fail
      go_roundw
      case rel => exact ⟨k + 1, w2, by go_num, by omega, rfl, hb3⟩
      case measure => simp [intOf]; omega
    · obtain rfl : k = n := by omega
      go_wp2_with fail
      go_ret
      exact ⟨rfl, hb⟩
end Go.Proofs.Ytcelcnafcfefhaa.N

/-
  TunnelFrames: frames that came in, opened; the walk.
-/
namespace Go.Proofs.Ytcelcnafcfefhaa.N
open Go.ChangeShapes Go.WideShapes Go.ChangeAt Go.RowKit
set_option maxHeartbeats 4000000
set_option maxRecDepth 100000

theorem cells_mac : Try.prog.cellsOf 39 = 6 := by kernel_rfl
theorem und_mac : Try.prog.underlying 39 = some (.array 6 5) := by kernel_rfl
theorem cells_fr : Try.prog.cellsOf 41 = 14 := by kernel_rfl
theorem und_frs : Try.prog.underlying 37 = some (.slice 41) := by kernel_rfl
theorem und_raws : Try.prog.underlying 36 = some (.slice 25) := by kernel_rfl
theorem und_fr : ∃ f0 f1 f2 f3, Try.prog.underlying 41 = some (.struct #[f0, f1, f2, f3]) ∧ f0.type = 39 ∧ f0.offset = 0 ∧ f1.type = 39 ∧ f1.offset = 6 ∧ f2.type = 24 ∧ f2.offset = 12 ∧ f3.type = 25 ∧ f3.offset = 13 := ⟨_, _, _, _, Try.underlying41, rfl, rfl, rfl, rfl, rfl, rfl, rfl, rfl⟩

structure FrD where
  f : Tn.Fr
  vb : Value

def FrD.cells (o : FrD) : List Value := (frCells o.f o.vb).toList

structure FrD.Ok (o : FrD) (W : World) : Prop where
  f : FrB o.f
  vb : SeesB W o.vb o.f.B
  lb : o.f.B.length ≤ reachBytes

section
variable {H : Type} {enc : TypeId × Value → H} {W : World}

theorem open_mac {fuel : Nat} {cs : List Value} {x : DataW H × List MemPlace} (h : DataW.trod enc Try.prog W 0 (fun _ => true) true fuel 39 cs = some x) :
    ∃ D : List Nat, cs = bs D ∧ D.length = 6 ∧ ∀ y ∈ D, y < 256 := by
  obtain ⟨xs, m, _, _, hl, hxl, hf⟩ := DataW.trod_array und_mac h
  rw [cells_mac] at hl
  match xs, hxl with
  | [y0, y1, y2, y3, y4, y5], _ =>
    match cs, hl with
    | [c0, c1, c2, c3, c4, c5], _ =>
      have g0 := hf 0 (by omega)
      have g1 := hf 1 (by omega)
      have g2 := hf 2 (by omega)
      have g3 := hf 3 (by omega)
      have g4 := hf 4 (by omega)
      have g5 := hf 5 (by omega)
      rw [cell1_5] at g0 g1 g2 g3 g4 g5
      obtain ⟨z0, e0, _, w0⟩ := DataW.trod_int u5 g0
      obtain ⟨z1, e1, _, w1⟩ := DataW.trod_int u5 g1
      obtain ⟨z2, e2, _, w2⟩ := DataW.trod_int u5 g2
      obtain ⟨z3, e3, _, w3⟩ := DataW.trod_int u5 g3
      obtain ⟨z4, e4, _, w4⟩ := DataW.trod_int u5 g4
      obtain ⟨z5, e5, _, w5⟩ := DataW.trod_int u5 g5
      obtain ⟨a0, rfl, h0⟩ := wf_u8 w0
      obtain ⟨a1, rfl, h1⟩ := wf_u8 w1
      obtain ⟨a2, rfl, h2⟩ := wf_u8 w2
      obtain ⟨a3, rfl, h3⟩ := wf_u8 w3
      obtain ⟨a4, rfl, h4⟩ := wf_u8 w4
      obtain ⟨a5, rfl, h5⟩ := wf_u8 w5
      simp at e0 e1 e2 e3 e4 e5
      refine ⟨[a0, a1, a2, a3, a4, a5], by simp [bs, e0, e1, e2, e3, e4, e5], rfl, fun y hy => ?_⟩
      simp at hy
      omega

theorem open_fr {fuel : Nat} {cs : List Value} {x : DataW H × List MemPlace} (h : DataW.trod enc Try.prog W 0 (fun _ => true) true fuel 41 cs = some x) (hw : ∀ k ∈ x.1.weights Try.prog 41, k ≤ reachBytes) :
    ∃ o : FrD, cs = o.cells ∧ o.Ok W := by
  obtain ⟨f0, f1, f2, f3, hu, t0, o0, t1, o1, t2, o2, t3, o3⟩ := und_fr
  obtain ⟨xs, n, _, rfl, hl, hxl, hf⟩ := DataW.trod_struct hu h
  match xs, hxl with
  | [y0, y1, y2, y3], _ =>
    have g0 := hf 0 f0 rfl
    have g1 := hf 1 f1 rfl
    have g2 := hf 2 f2 rfl
    have g3 := hf 3 f3 rfl
    rw [t0, o0, cells_mac] at g0
    rw [t1, o1, cells_mac] at g1
    rw [t2, o2, cell1_u16] at g2
    rw [t3, o3, cell1_25] at g3
    rw [cells_fr] at hl
    obtain ⟨D, e0, hD, hDb⟩ := open_mac g0
    obtain ⟨S, e1, hS, hSb⟩ := open_mac g1
    obtain ⟨z2, e2, _, w2⟩ := DataW.trod_int und_u16 g2
    obtain ⟨ty, rfl, hty⟩ := wf_u16 w2
    obtain ⟨vm, B, e3, hs, hfit, _⟩ := open_bytes g3
    have w3 : B.length ≤ reachBytes := hfit.room fun k hk => hw k (by
      simp only [DataW.weights, hu]
      exact DataW.weights_mem_each (j := 3) (t := 25) (d := y3.1) (by simp [t3]) rfl _ hk)
    refine ⟨⟨⟨D, S, ty, B⟩, vm⟩, ?_, ⟨⟨⟨hD, hS, hty⟩, hDb, hSb⟩, hs, w3⟩⟩
    show cs = frc D S ty vm
    unfold frc
    rw [← e0, ← e1]
    match cs, hl with
    | [c0, c1, c2, c3, c4, c5, c6, c7, c8, c9, c10, c11, c12, c13], _ =>
      simp at e2 e3
      simp [e2, e3]

theorem open_frs {base : Nat} {v : Value} {d : DataW H} {ps : List MemPlace} (hval : Value.okWide Try.prog W .any base 37 v) (h : DataW.Trod enc Try.prog W 0 (fun _ => true) true 37 v d ps) (hw : ∀ x ∈ d.weights Try.prog 37, x ≤ reachBytes) :
    ∃ Os : List FrD, SeesR W v 14 (Os.map FrD.cells) ∧ ∀ o ∈ Os, o.Ok W := by
  obtain ⟨a0, len, cap, rfl⟩ := okWide_slice und_frs hval
  obtain ⟨fuel, hf⟩ := h
  rcases Go.Deep.open_slice und_frs hf with ⟨h1, _⟩ | ⟨a, len', cap', m, n, D, Pl, h1, _, hlc, hcm, hm, hxx, hx⟩
  · simp [Value.cells] at h1
    obtain ⟨rfl, rfl, rfl⟩ := h1
    exact ⟨[], ⟨none, 0, rfl, by simp, by unfold maxLen; omega, fun j hj => absurd hj (by simp)⟩, fun o ho => by cases ho⟩
  · simp [Value.cells] at h1
    obtain ⟨rfl, rfl, rfl⟩ := h1
    simp at hm
    subst hm
    simp only [Prod.mk.injEq] at hxx
    obtain ⟨rfl, _⟩ := hxx
    have key : ∀ i, i < len → ∃ o : FrD, o.Ok W ∧ ∀ j (hj : j < 14), W.cell? ((a.add (i * 14)).add j) = o.cells[j]? := by
      intro i hi
      obtain ⟨cs', k1, k2⟩ := hx i (by omega)
      rw [cells_fr] at k1
      obtain ⟨_, _, hc⟩ := World.cells?_some k1
      obtain ⟨o, ho, hok⟩ := open_fr k2 fun x hx' => hw x (by
        simp only [DataW.weights, und_frs, List.mem_cons, List.mem_append]
        exact .inr (.inl (weights_all (d := D i) (List.mem_map.2 ⟨i, by simpa using hi, rfl⟩) x hx')))
      refine ⟨o, hok, fun j hj => ?_⟩
      rw [hc j hj, ho]
    by_cases h0 : len = 0
    · subst h0
      exact ⟨[], ⟨some a, m, rfl, by simp, hcm, fun j hj => absurd hj (by simp)⟩, fun o ho => by cases ho⟩
    obtain ⟨c0, hc0, _⟩ := key 0 (by omega)
    obtain ⟨F, hF⟩ : ∃ F : Nat → FrD, ∀ i, i < len → (F i).Ok W ∧ ∀ j (hj : j < 14), W.cell? ((a.add (i * 14)).add j) = (F i).cells[j]? := by
      refine ⟨fun i => if h : i < len then (key i h).choose else c0, fun i hi => ?_⟩
      simp only [dif_pos hi]
      exact (key i hi).choose_spec
    have hsz : ∀ i, i < len → (F i).cells.length = 14 := fun i hi => by
      have := frCells_size (hF i hi).1.f.ok (F i).vb
      simpa [FrD.cells] using this
    obtain ⟨g, off, rfl, hg⟩ : ∃ g off, a = ⟨g, off, none⟩ ∧ g < W.heap.size := by
      have z0 := (hF 0 (by omega)).2 0 (by omega)
      have e : (a.add (0 * 14)).add 0 = a := by simp [Addr.add]
      rw [e, List.getElem?_eq_getElem (by rw [hsz 0 (by omega)]; omega)] at z0
      exact spot_none z0
    refine ⟨(List.range len).map F, ⟨some ⟨g, off, none⟩, m, by simp, by simpa using hlc, hcm, fun j hj => ?_⟩, fun o ho => ?_⟩
    · have hj' : j < len := by simpa using hj
      simp only [List.getElem_map, List.getElem_range]
      refine ⟨hsz j hj', g, off, rfl, hg, fun i v hv => ?_⟩
      have hi : i < 14 := by rw [← hsz j hj']; exact (List.getElem?_eq_some_iff.1 hv).1
      have hh := (hF j hj').2 i hi
      rw [Addr.add_mid, Addr.add_mid] at hh
      rw [hh, hv]
    · obtain ⟨i, hi, rfl⟩ := List.mem_map.1 ho
      exact (hF i (by simpa using hi)).1

theorem open_raws {base : Nat} {v : Value} {d : DataW H} {ps : List MemPlace} (hval : Value.okWide Try.prog W .any base 36 v) (h : DataW.Trod enc Try.prog W 0 (fun _ => true) true 36 v d ps) (hw : ∀ x ∈ d.weights Try.prog 36, x ≤ reachBytes) :
    ∃ Ls, SeesBB W v Ls ∧ ∀ l ∈ Ls, l.length ≤ reachBytes := by
  obtain ⟨a0, len, cap, rfl⟩ := okWide_slice und_raws hval
  obtain ⟨fuel, hf⟩ := h
  rcases Go.Deep.open_slice und_raws hf with ⟨h1, _⟩ | ⟨a, len', cap', m, n, D, Pl, h1, _, hlc, hcm, hm, hxx, hx⟩
  · simp [Value.cells] at h1
    obtain ⟨rfl, rfl, rfl⟩ := h1
    exact ⟨[], ⟨none, 0, rfl, by simp, by unfold maxLen; omega, fun j h => absurd h (by simp)⟩, fun l hl => by cases hl⟩
  · simp [Value.cells] at h1
    obtain ⟨rfl, rfl, rfl⟩ := h1
    simp at hm
    subst hm
    simp only [Prod.mk.injEq] at hxx
    obtain ⟨rfl, _⟩ := hxx
    have key : ∀ i, i < len → ∃ vl : Value × List Nat, vl.2.length ≤ reachBytes ∧ SeesB W vl.1 vl.2 ∧ W.cell? (a.add i) = some vl.1 := by
      intro i hi
      obtain ⟨cs', k1, k2⟩ := hx i (by omega)
      rw [cell1_25, Nat.mul_one] at k1
      obtain ⟨_, _, hc⟩ := World.cells?_some k1
      obtain ⟨v, L, e1, hs, hfit, _⟩ := open_bytes k2
      refine ⟨(v, L), hfit.room fun x hx' => hw x (by
        simp only [DataW.weights, und_raws, List.mem_cons, List.mem_append]
        exact .inr (.inl (weights_all (d := D i) (List.mem_map.2 ⟨i, by simpa using hi, rfl⟩) x hx'))), hs, ?_⟩
      have := hc 0 (by omega)
      rw [e1] at this
      simpa [Addr.add] using this
    obtain ⟨F, hF⟩ : ∃ F : Nat → Value × List Nat, ∀ i, i < len → (F i).2.length ≤ reachBytes ∧ SeesB W (F i).1 (F i).2 ∧ W.cell? (a.add i) = some (F i).1 := by
      refine ⟨fun i => if h : i < len then (key i h).choose else (undef, []), fun i hi => ?_⟩
      simp only [dif_pos hi]
      exact (key i hi).choose_spec
    refine ⟨(List.range len).map (fun i => (F i).2), ⟨some a, m, by simp, by simpa using hlc, hcm, fun j hj => ?_⟩, fun l hl => ?_⟩
    · have hj' : j < len := by simpa using hj
      obtain ⟨g, off, rfl, hg⟩ : ∃ g off, a = ⟨g, off, none⟩ ∧ g < W.heap.size := by
        have z0 := (hF 0 (by omega)).2.2
        have e : a.add 0 = a := by simp [Addr.add]
        rw [e] at z0
        exact spot_none z0
      have y0 := (hF j hj').2.2
      rw [Addr.add_mid] at y0
      exact ⟨g, off, (F j).1, rfl, hg, y0, by simpa using (hF j hj').2.1⟩
    · obtain ⟨i, hi, rfl⟩ := List.mem_map.1 hl
      exact (hF i (by simpa using hi)).1
end
end Go.Proofs.Ytcelcnafcfefhaa.N

/-
  Frames and four bytes that came in, opened.
-/
namespace Go.Proofs.Ytcelcnafcfefhaa.N
open Go.ChangeShapes Go.WideShapes Go.ChangeAt Go.RowKit
set_option maxRecDepth 100000

theorem cells_b4 : Try.prog.cellsOf 67 = 4 := by kernel_rfl
theorem und_b4 : Try.prog.underlying 67 = some (.array 4 5) := by kernel_rfl

section
variable {H : Type} {enc : TypeId × Value → H} {W : World}

theorem open_b4 {fuel : Nat} {cs : List Value} {x : DataW H × List MemPlace} (h : DataW.trod enc Try.prog W 0 (fun _ => true) true fuel 67 cs = some x) :
    ∃ a0 a1 a2 a3 : Nat, cs = [.int .u8 (a0 : Int), .int .u8 (a1 : Int), .int .u8 (a2 : Int), .int .u8 (a3 : Int)] ∧ a0 < 256 ∧ a1 < 256 ∧ a2 < 256 ∧ a3 < 256 := by
  obtain ⟨xs, m, _, _, hl, hxl, hf⟩ := DataW.trod_array und_b4 h
  rw [cells_b4] at hl
  match xs, hxl with
  | [y0, y1, y2, y3], _ =>
    match cs, hl with
    | [c0, c1, c2, c3], _ =>
      have g0 := hf 0 (by omega)
      have g1 := hf 1 (by omega)
      have g2 := hf 2 (by omega)
      have g3 := hf 3 (by omega)
      rw [cell1_5] at g0 g1 g2 g3
      obtain ⟨z0, e0, _, w0⟩ := DataW.trod_int u5 g0
      obtain ⟨z1, e1, _, w1⟩ := DataW.trod_int u5 g1
      obtain ⟨z2, e2, _, w2⟩ := DataW.trod_int u5 g2
      obtain ⟨z3, e3, _, w3⟩ := DataW.trod_int u5 g3
      obtain ⟨a0, rfl, h0⟩ := wf_u8 w0
      obtain ⟨a1, rfl, h1⟩ := wf_u8 w1
      obtain ⟨a2, rfl, h2⟩ := wf_u8 w2
      obtain ⟨a3, rfl, h3⟩ := wf_u8 w3
      simp at e0 e1 e2 e3
      exact ⟨a0, a1, a2, a3, by simp [e0, e1, e2, e3], h0, h1, h2, h3⟩

theorem open_frU {fuel : Nat} {cs : List Value} {x : DataW H × List MemPlace} (h : DataW.trod enc Try.prog W 0 (fun _ => true) true fuel 41 cs = some x) :
    ∃ o : FrD, cs = o.cells ∧ FrB o.f ∧ SeesB W o.vb o.f.B := by
  obtain ⟨f0, f1, f2, f3, hu, t0, o0, t1, o1, t2, o2, t3, o3⟩ := und_fr
  obtain ⟨xs, n, _, rfl, hl, hxl, hf⟩ := DataW.trod_struct hu h
  match xs, hxl with
  | [y0, y1, y2, y3], _ =>
    have g0 := hf 0 f0 rfl
    have g1 := hf 1 f1 rfl
    have g2 := hf 2 f2 rfl
    have g3 := hf 3 f3 rfl
    rw [t0, o0, cells_mac] at g0
    rw [t1, o1, cells_mac] at g1
    rw [t2, o2, cell1_u16] at g2
    rw [t3, o3, cell1_25] at g3
    rw [cells_fr] at hl
    obtain ⟨D, e0, hD, hDb⟩ := open_mac g0
    obtain ⟨S, e1, hS, hSb⟩ := open_mac g1
    obtain ⟨z2, e2, _, w2⟩ := DataW.trod_int und_u16 g2
    obtain ⟨ty, rfl, hty⟩ := wf_u16 w2
    obtain ⟨vm, B, e3, hs, hfit, _⟩ := open_bytes g3
    refine ⟨⟨⟨D, S, ty, B⟩, vm⟩, ?_, ⟨⟨hD, hS, hty⟩, hDb, hSb⟩, hs⟩
    show cs = frc D S ty vm
    unfold frc
    rw [← e0, ← e1]
    match cs, hl with
    | [c0, c1, c2, c3, c4, c5, c6, c7, c8, c9, c10, c11, c12, c13], _ =>
      simp at e2 e3
      simp [e2, e3]
end
end Go.Proofs.Ytcelcnafcfefhaa.N
