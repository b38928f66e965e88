/-
  tunnel.ParseFrame.
-/
import Derived.Test.YtcelcnafcfefhaaTK
namespace Go.Proofs.Ytcelcnafcfefhaa.N
open Go.ChangeShapes Go.WideShapes Go.ChangeAt Go.RowKit
set_option maxHeartbeats 8000000
set_option maxRecDepth 100000

def zeroF : Array Value := #[.int .u8 0, .int .u8 0, .int .u8 0, .int .u8 0, .int .u8 0, .int .u8 0, .int .u8 0, .int .u8 0, .int .u8 0, .int .u8 0, .int .u8 0, .int .u8 0, .int .u16 0, .slice none 0 0]

theorem pf_bad {L : List Nat} {e : Int} (h : Tn.pfE L = e) (he : e ≠ 0) : Tn.pfE L = e ∧ Tn.pfF L = Tn.noneF := ⟨h, by unfold Tn.pfF; rw [if_neg (by rw [h]; exact he)]⟩

theorem frc_one {D S : List Nat} {ty : Nat} {ao : Option Addr} {n c : Nat} : (frc D S ty (.slice ao n c)).toArray.all (·.oneCell') = true := by
  rw [Array.all_eq_true_iff_forall_mem]
  intro v hv
  have hv := List.mem_toArray.1 hv
  unfold frc at hv
  rcases List.mem_append.1 hv with h | h
  · exact one_bs v h
  · rcases List.mem_append.1 h with h | h
    · exact one_bs v h
    · simp only [List.mem_cons, List.not_mem_nil, or_false] at h
      rcases h with rfl | rfl
      · rfl
      · rfl

theorem frc_set {D S : List Nat} (hD : D.length = 6) (hS : S.length = 6) (ty : Nat) (v v' : Value) : (frc D S ty v).toArray.setIfInBounds 13 v' = (frc D S ty v').toArray := by
  unfold frc
  apply Array.toList_inj.1
  rw [Array.toList_setIfInBounds]
  show (bs D ++ (bs S ++ [.int .u16 (ty : Int), v])).set 13 v' = bs D ++ (bs S ++ [.int .u16 (ty : Int), v'])
  rw [List.set_append_right _ _ (by rw [bs_len, hD]; omega), bs_len, hD, List.set_append_right _ _ (by rw [bs_len, hS]; omega), bs_len, hS]
  rfl

theorem parseF_any (v : Value) (L : List Nat) (w : World) (hv : SeesB w v L) :
    Calls Try.prog 30 #[v] w fun e w' => ∃ ao n cap, e = .returned (.tuple #[.agg (frCells (Tn.pfF L) (.slice ao n cap)), .int .i64 (Tn.pfE L)]) ∧ SeesB w' (.slice ao n cap) (Tn.pfF L).B ∧ (∀ a, ao = some a → w.heap.size ≤ a.block) ∧ Below w.heap.size w w' := by
  obtain ⟨w1, hw1⟩ : ∃ w1, w1 = w.alloc (.cells zeroF 41) := ⟨_, rfl⟩
  have hs1 : w1.heap.size = w.heap.size + 1 := by rw [hw1]; simp
  have hb1 : Below w.heap.size w w1 := by rw [hw1]; exact (Below.refl _ _).alloc (Nat.le_refl _) _
  have hr1 : w1.heap[w.heap.size]? = some (.cells zeroF 41 (0, 0)) := by rw [hw1]; exact heap_alloc_new w _
  obtain ⟨ao, n, cap, rfl, HN, hn1, hn2⟩ := hv.shape
  unfold maxLen at hn2
  have HV1 := hid (hv.below hb1)
  have HBY := hid hv.bytes
  have HI : Hid (∀ zz : Array Value, zz.size = 14 → (Try.prog.info? 41).map (·.size) = some zz.size) := fun zz hz => by rw [hz]; kernel_rfl
  have HCE : Hid (∀ (zz : Array Value) (u : World), zz.size = 14 → Below w1.heap.size w1 u → u.there w.heap.size 0 zz.size ∧ (loadVar 41 ⟨w.heap.size, 0, none⟩).run Try.prog (u.setCells w.heap.size 0 zz.toList) = .ok (.agg zz) (u.setCells w.heap.size 0 zz.toList)) := fun zz u hz hb =>
    cell_end hr1 hb (by rw [hz]; rfl) Try.underlying41 rfl (HI.out zz hz)
  have HBW : Hid (∀ u, Below w1.heap.size w1 u → Below w.heap.size w u) := fun u hu => hb1.trans (hu.mono hb1.size)
  have HBF0 : Hid (∀ (zz : Array Value) (u : World), Below w1.heap.size w1 u → Below w.heap.size w (u.setCells w.heap.size 0 zz.toList)) := fun zz u hu => below_setCells' (Nat.le_refl _) _ _ _ (HBW.out u hu)
  have HW1 : Hid (w1 = w.alloc (.cells zeroF 41)) := hw1
  unfold zeroF at HW1
  obtain ⟨zz, hzz⟩ : ∃ zz : Array Value, zz = zeroF := ⟨_, rfl⟩
  have HZ := hid hzz
  unfold zeroF at HZ
  have HZS : Hid (zz.size = 14) := by unfold Hid; rw [hzz]; rfl
  have HONE : Hid (zz.all (·.oneCell') = true) := by unfold Hid; rw [hzz]; simp [zeroF, Value.oneCell']
  have HZC : Hid (zz = frCells Tn.noneF (.slice none 0 0)) := hzz
  have HINF := hid (HI.out zz HZS.out)
  have HS1 := hid hs1
  clear hzz hw1 hs1 hb1 hr1 hv
  by_cases hA : 65499 < n
  · have HE := hid (pf_bad (L := L) (e := 2) (by unfold Tn.pfE; rw [if_pos (by have := HN.out; omega)]) (by decide))
    have hA' : (65499 : Int) < (n : Int) := by omega
    go_enter Try.func30, Try.ntmps30
    go_upto_region 1 with fail
    rw [← HW1.out]
    obtain ⟨q1, q2⟩ := HCE.out zz w1 HZS.out (Below.refl _ _)
    have HTU := hid q1
    have HLV := hid q2
    have HBF := hid (HBF0.out zz w1 (Below.refl _ _))
    clear q1 q2
    go_wp2_with (first
      | (refine wpList_store_mid rfl 41 (.tmp 2) (.tmp 10) rfl w.heap.size 0 zz rfl (by rw [HZ.out]; rfl) HTU.out HINF.out HONE.out ?_)
      | fail)
    generalize w1.setCells w.heap.size 0 zz.toList = wf at HLV HBF ⊢
    refine bodyPost_ret (v := .tuple #[.agg zz, .int .i64 2]) (by simp [results, Try.results30, asAddr, HLV.out]) rfl ?_
    rw [HE.out.1, HE.out.2]
    exact ⟨none, 0, 0, by rw [HZC.out], sees_nil _, (fun a ha => by cases ha), HBF.out⟩
  have hA' : ¬ (65499 : Int) < (n : Int) := by omega
  by_cases hB : n < 14
  · have HE := hid (pf_bad (L := L) (e := 70) (by unfold Tn.pfE; rw [if_neg (by have := HN.out; omega), if_pos (by have := HN.out; omega)]) (by decide))
    have hB' : (n : Int) < 14 := by omega
    go_enter Try.func30, Try.ntmps30
    go_upto_region 1 with fail
    rw [← HW1.out]
    obtain ⟨q1, q2⟩ := HCE.out zz w1 HZS.out (Below.refl _ _)
    have HTU := hid q1
    have HLV := hid q2
    have HBF := hid (HBF0.out zz w1 (Below.refl _ _))
    clear q1 q2
    go_wp2_with (first
      | (refine wpList_store_mid rfl 41 (.tmp 2) (.tmp 15) rfl w.heap.size 0 zz rfl (by rw [HZ.out]; rfl) HTU.out HINF.out HONE.out ?_)
      | fail)
    generalize w1.setCells w.heap.size 0 zz.toList = wf at HLV HBF ⊢
    refine bodyPost_ret (v := .tuple #[.agg zz, .int .i64 70]) (by simp [results, Try.results30, asAddr, HLV.out]) rfl ?_
    rw [HE.out.1, HE.out.2]
    exact ⟨none, 0, 0, by rw [HZC.out], sees_nil _, (fun a ha => by cases ha), HBF.out⟩
  have hB' : ¬ (n : Int) < 14 := by omega
  obtain ⟨a12, HS12, k12⟩ := HV1.out.mid 12 14 12 14 rfl rfl (by omega) (by omega)
  have XR := hid (read_mid a12 (cap - 12) L 12 14 rfl w1 HS12.out (by have := HN.out; omega))
  have hpe : Tn.pfE L = Tn.tyE (Tn.num2 L 12) := by
    unfold Tn.pfE
    rw [if_neg (by have := HN.out; omega), if_neg (by have := HN.out; omega)]
  have hty16 : Tn.num2 L 12 < 65536 := by
    rw [num2_byt]
    have h1 := byt_lt HBY.out 12
    have h2 := byt_lt HBY.out (12 + 1)
    omega
  have HPD : Hid (Tn.pfE L = 0 → Tn.pfF L = ⟨L.take 6, (L.drop 6).take 6, Tn.num2 L 12, L.drop 14⟩) := fun h => by unfold Tn.pfF; rw [if_pos h]
  obtain ⟨ty, hty⟩ : ∃ ty, ty = Tn.num2 L 12 := ⟨_, rfl⟩
  rw [← hty] at XR hpe hty16 HPD
  have HCT := hid (fun u => checkType_any ty u hty16)
  obtain ⟨p, hp⟩ : ∃ p, p = w1.heap.size := ⟨_, rfl⟩
  obtain ⟨pa, hpa⟩ : ∃ pa : Array Value, pa = (frc [0, 0, 0, 0, 0, 0] [0, 0, 0, 0, 0, 0] ty (.slice none 0 0)).toArray := ⟨_, rfl⟩
  have HPA : Hid (pa = #[.int .u8 0, .int .u8 0, .int .u8 0, .int .u8 0, .int .u8 0, .int .u8 0, .int .u8 0, .int .u8 0, .int .u8 0, .int .u8 0, .int .u8 0, .int .u8 0, .int .u16 (ty : Int), .slice none 0 0]) := hpa
  have hps : pa.size = 14 := by rw [hpa]; rfl
  have HPI := hid (HI.out pa hps)
  have HPO : Hid (pa.all (·.oneCell') = true) := by unfold Hid; rw [hpa]; exact frc_one
  have hrp : (w1.alloc (.cells zeroF 41)).heap[p]? = some (.cells zeroF 41 (0, 0)) := by rw [hp]; exact heap_alloc_new w1 _
  have HTP : Hid ((w1.alloc (.cells zeroF 41)).there p 0 pa.size) := there_blk hrp (by rw [hps]; rfl)
  obtain ⟨w2, hw2⟩ : ∃ w2, w2 = (w1.alloc (.cells zeroF 41)).setCells p 0 pa.toList := ⟨_, rfl⟩
  have hr2 : w2.heap[p]? = some (.cells (frc [0, 0, 0, 0, 0, 0] [0, 0, 0, 0, 0, 0] ty (.slice none 0 0)).toArray 41 (0, 0)) := by rw [hw2, ← hpa]; exact row_put hrp (by rw [hps]; rfl)
  have hb2 : Below w1.heap.size w1 w2 := by rw [hw2]; exact below_setCells' (by omega) _ _ _ ((Below.refl _ _).alloc (Nat.le_refl _) _)
  obtain ⟨c12, c13⟩ := fr_at (f := ⟨[0, 0, 0, 0, 0, 0], [0, 0, 0, 0, 0, 0], ty, []⟩) ⟨rfl, rfl, hty16⟩ hr2
  simp only at c12 c13
  have HW2 := hid hw2
  unfold zeroF at HW2 HTP
  have HP := hid hp
  have HB2 := hid hb2
  have HR2 := hid hr2
  clear hw2 hpa hps hrp hb2 hr2 hty
  by_cases ht : Tn.tyE ty = 0
  · rw [ht] at HCT hpe
    have HPE2 := hid hpe
    have HD := hid (HPD.out hpe)
    obtain ⟨a0, HS0, k0⟩ := HV1.out.mid 0 6 0 6 rfl rfl (by omega) (by omega)
    obtain ⟨a6, HS6, k6⟩ := HV1.out.mid 6 12 6 12 rfl rfl (by omega) (by omega)
    obtain ⟨a14, HS14, k14⟩ := HV1.out.low 14 14 rfl (by omega)
    rw [List.drop_zero] at HS0
    have e6 : (L.take 12).drop 6 = (L.drop 6).take 6 := by rw [List.drop_take]
    rw [e6] at HS6
    have hl6 : (L.take 6).length = 6 := by rw [List.length_take, ← HN.out]; omega
    have hl12 : ((L.drop 6).take 6).length = 6 := by rw [List.length_take, List.length_drop, ← HN.out]; omega
    have hb6 : ∀ x ∈ L.take 6, x < 256 := fun x hx => HBY.out x (List.mem_of_mem_take hx)
    have hb12 : ∀ x ∈ (L.drop 6).take 6, x < 256 := fun x hx => HBY.out x (List.mem_of_mem_drop (List.mem_of_mem_take hx))
    have hb14 : ∀ x ∈ L.drop 14, x < 256 := fun x hx => HBY.out x (List.mem_of_mem_drop hx)
    have hl14 : (L.drop 14).length = n - 14 := by rw [List.length_drop, ← HN.out]
    generalize L.take 6 = DD at *
    generalize (L.drop 6).take 6 = SS at *
    generalize L.drop 14 = BB at *
    obtain ⟨O1, hO1⟩ : ∃ O1, O1 = bs DD := ⟨_, rfl⟩
    have HO1L : Hid (O1.length = 6) := by unfold Hid; rw [hO1, bs_len, hl6]
    have HO11 : Hid (∀ v ∈ O1, v.oneCell' = true) := by unfold Hid; rw [hO1]; exact one_bs
    obtain ⟨O2, hO2⟩ : ∃ O2, O2 = bs SS := ⟨_, rfl⟩
    have HO2L : Hid (O2.length = 6) := by unfold Hid; rw [hO2, bs_len, hl12]
    have HO21 : Hid (∀ v ∈ O2, v.oneCell' = true) := by unfold Hid; rw [hO2]; exact one_bs
    have HP1 : Hid (∀ u, Below p w1 u → ∃ ad, a0 = some ad ∧ ∀ j v, O1[j]? = some v → u.cell? (ad.add j) = some v) := fun u hu => by
      rw [hO1]
      exact (HS0.out.below (by rw [← hp]; exact hu)).src (by rw [bs_len, hl6]; omega)
    have HP2 : Hid (∀ u, Below p w1 u → ∃ ad, a6 = some ad ∧ ∀ j v, O2[j]? = some v → u.cell? (ad.add j) = some v) := fun u hu => by
      rw [hO2]
      exact (HS6.out.below (by rw [← hp]; exact hu)).src (by rw [bs_len, hl12]; omega)
    obtain ⟨X0, hX0⟩ : ∃ X0, X0 = frc [0, 0, 0, 0, 0, 0] [0, 0, 0, 0, 0, 0] ty (.slice none 0 0) := ⟨_, rfl⟩
    rw [← hX0] at HR2
    have HX0L : Hid (X0.length = 14) := by unfold Hid; rw [hX0]; rfl
    obtain ⟨X1, hX1⟩ : ∃ X1, X1 = frc DD [0, 0, 0, 0, 0, 0] ty (.slice none 0 0) := ⟨_, rfl⟩
    have HX1L : Hid (X1.length = 14) := by unfold Hid; rw [hX1]; exact frc_len hl6 rfl _ _
    have HX1 : Hid (splice X0 0 O1 = X1) := by
      unfold Hid
      rw [hX0, hX1, hO1]
      show splice ([] ++ (bs [0, 0, 0, 0, 0, 0] ++ (bs [0, 0, 0, 0, 0, 0] ++ [.int .u16 (ty : Int), .slice none 0 0]))) ([] : List Value).length (bs DD) = _
      rw [splice_mid (by rw [bs_len, hl6]; rfl)]
      rfl
    obtain ⟨X2, hX2⟩ : ∃ X2, X2 = frc DD SS ty (.slice none 0 0) := ⟨_, rfl⟩
    have HX2 : Hid (splice X1 6 O2 = X2) := by
      unfold Hid
      rw [hX1, hX2, hO2]
      unfold frc
      rw [show 6 = (bs DD).length by rw [bs_len, hl6], splice_mid (by rw [bs_len, hl12]; rfl)]
    have HCO : Hid (∀ u, Below w1.heap.size w1 u → Calls Try.prog 28 #[.slice a14 (n - 14) (cap - 14)] u fun e w' => ∃ g, e = .returned (.slice (some ⟨g, 0, none⟩) (n - 14) (n - 14)) ∧ Blk w' g BB ∧ u.heap.size ≤ g ∧ Below u.heap.size u w') := fun u hu => by
      refine (copied_any _ _ u (HS14.out.below hu) (by rw [hl14]; omega)).mono ?_
      rintro e u' ⟨g, k, rfl, hk, hB, hg, hb⟩
      exact ⟨g, by rw [hk, hl14], hB, hg, hb⟩
    have HX2E := hid hX2
    have HL := hid (And.intro hl6 hl12)
    have HBB := hid hb14
    have HLB := hid hl14
    clear hO1 hO2 hX0 hX1 hX2 HS0 HS6 HS14 e6 hl6 hl12 hb6 hb12 hb14 hl14 hpe hp
    go_enter Try.func30, Try.ntmps30
    go_upto_region 1 with fail
    rw [← HW1.out]
    go_wp2_with fail
    refine XR.out.mono ?_
    rintro _ wy ⟨rfl, hwy⟩
    subst hwy
    go_upto_region 6 with (first
      | (rw [← HP.out]; refine wpList_store_mid rfl 41 (.tmp 4) (.tmp 19) rfl p 0 pa rfl (by rw [HPA.out]; rfl) HTP.out HPI.out HPO.out ?_; rw [← HW2.out])
      | fail)
    simp only [Act.put]
    go_wp2_with fail
    refine (HCT.out _).mono ?_
    rintro _ wz ⟨rfl, hwz⟩
    subst hwz
    go_upto_region 9 with fail
    go_cut [] from 6 (fun wx => Hid (wx.heap[p]? = some (.cells X1.toArray 41 (0, 0))) ∧ Below p wy wx)
    case first =>
      have HB2P : Hid (Below p wy wz) := by unfold Hid; rw [HP.out]; exact HB2.out
      have HBD := hid (below_drew HB2P.out)
      have HPS : Hid (0 < O1.length → ∃ ad, a0 = some ad ∧ ∀ j v, O1[j]? = some v → wz.drew.cell? (ad.add j) = some v) := fun _ => HP1.out _ HBD.out
      have HMN : Hid (O1.length = Nat.min 6 6) := HO1L.out
      have HFT : Hid (0 + O1.length ≤ X0.length) := by unfold Hid; rw [HO1L.out, HX0L.out]; omega
      go_region_law (first
        | (refine step_copy_splice rfl (.tmp 28) (.tmp 30) 25 25 rfl 5 Try.underlying25 size5 (some ⟨p, 0, none⟩) a0 6 6 6 cap rfl rfl p 0 X0 41 HR2.out O1 HMN.out (fun hp => ⟨rfl, HPS.out hp⟩) HFT.out HO11.out p wy HBD.out (Nat.le_refl _) ?_; intro w5 hg5 hb5)
        | fail)
      all_goals (
        go_wp2_with fail
        go_meet
        case rel => exact ⟨by rw [← HX1.out]; exact hg5.out, hb5⟩)
    case rest =>
    obtain ⟨HG3, hb3⟩ := hcut
    obtain ⟨w3, hw3⟩ : ∃ w3, w3 = wc := ⟨_, rfl⟩
    rw [← hw3] at HG3 hb3 ⊢
    have HB3 := hid hb3
    clear hw3 hb3 c12 c13
    go_upto_region 10 with fail
    go_cut [] from 6 (fun wx => Hid (wx.heap[p]? = some (.cells X2.toArray 41 (0, 0))) ∧ Below p wy wx)
    case first =>
      have HBD := hid (below_drew HB3.out)
      have HPS : Hid (0 < O2.length → ∃ ad, a6 = some ad ∧ ∀ j v, O2[j]? = some v → w3.drew.cell? (ad.add j) = some v) := fun _ => HP2.out _ HBD.out
      have HMN : Hid (O2.length = Nat.min 6 6) := HO2L.out
      have HFT : Hid (6 + O2.length ≤ X1.length) := by unfold Hid; rw [HO2L.out, HX1L.out]; omega
      go_region_law (first
        | (refine step_copy_splice rfl (.tmp 33) (.tmp 35) 25 25 rfl 5 Try.underlying25 size5 (some ⟨p, 6, none⟩) a6 6 6 6 (cap - 6) rfl rfl p 6 X1 41 HG3.out O2 HMN.out (fun hp => ⟨rfl, HPS.out hp⟩) HFT.out HO21.out p wy HBD.out (Nat.le_refl _) ?_; intro w5 hg5 hb5)
        | fail)
      all_goals (
        go_wp2_with fail
        go_meet
        case rel => exact ⟨by rw [← HX2.out]; exact hg5.out, hb5⟩)
    case rest =>
    obtain ⟨HG4, hb4⟩ := hcut
    obtain ⟨w4, hw4⟩ : ∃ w4, w4 = wc := ⟨_, rfl⟩
    rw [← hw4] at HG4 hb4 ⊢
    have HB4 : Hid (Below wy.heap.size wy w4) := by unfold Hid; rw [← HP.out]; exact hb4
    have X4 := hid (HCO.out w4 HB4.out)
    clear hw4 hb4 HP1 HP2 HO11 HO21 HO1L HO2L HX1L HX0L HX1 HX2 HCO
    go_wp2_with fail
    refine X4.out.mono ?_
    rintro _ w5 ⟨g, rfl, hB5, hg5, hb5⟩
    have hr5 : w5.heap[p]? = some (.cells (frc DD SS ty (.slice none 0 0)).toArray 41 (0, 0)) := by
      rw [← HX2E.out]
      exact (hb5.block p (Array.getElem?_eq_some_iff.1 HG4.out).1).trans HG4.out
    have d13 : w5.cell? ⟨p, 13, none⟩ = some (.slice none 0 0) := (cell_fr hr5 13).trans (frc_ty HL.out.1 HL.out.2 ty _).2
    have z13 : w5.frozen? ⟨p, 13, none⟩ = false := frozen_of_row _ _ _ _ _ hr5
    obtain ⟨w6, hw6⟩ : ∃ w6, w6 = w5.setCell ⟨p, 13, none⟩ (.slice (some ⟨g, 0, none⟩) (n - 14) (n - 14)) := ⟨_, rfl⟩
    obtain ⟨yy, hyy⟩ : ∃ yy : Array Value, yy = (frc DD SS ty (.slice (some ⟨g, 0, none⟩) (n - 14) (n - 14))).toArray := ⟨_, rfl⟩
    have hr6 : w6.heap[p]? = some (.cells yy 41 (0, 0)) := by
      rw [hw6, hyy, ← frc_set HL.out.1 HL.out.2]
      exact heap_setCell_row hr5 _
    have hpg : p ≠ g := by
      have h1 := (Array.getElem?_eq_some_iff.1 HG4.out).1
      omega
    have hb45 : Below wy.heap.size wy w5 := HB4.out.trans (hb5.mono HB4.out.size)
    have hb6 : Below wy.heap.size wy w6 := by rw [hw6]; exact hb45.setCell (p := ⟨p, 13, none⟩) (by show wy.heap.size ≤ p; rw [HP.out]; exact Nat.le_refl _) _
    have hB6 : Blk w6 g BB := by rw [hw6]; unfold Blk; rw [show (w5.setCell ⟨p, 13, none⟩ (.slice (some ⟨g, 0, none⟩) (n - 14) (n - 14))).heap[g]? = w5.heap[g]? by simp [World.setCell, Array.getElem?_modify, hpg]]; exact hB5
    have HYS : Hid (yy.size = 14) := by unfold Hid; rw [hyy]; simp only [List.size_toArray]; exact frc_len HL.out.1 HL.out.2 _ _
    have HYI := hid (HI.out yy HYS.out)
    have HYO : Hid (yy.all (·.oneCell') = true) := by unfold Hid; rw [hyy]; exact frc_one
    have HL6 : Hid ((Instr.loadAt 41 (.pointer (some ⟨p, 0, none⟩))).run Try.prog w6 = .ok (.agg yy) w6) := load_rowAt hr6 Try.underlying41 rfl HYI.out
    obtain ⟨q1, q2⟩ := HCE.out yy w6 HYS.out hb6
    have HTU := hid q1
    have HLV := hid q2
    have HBF := hid (HBF0.out yy w6 hb6)
    have hsb := sees_blk hB6 HLB.out (by omega) HBB.out
    have hgr : w.heap.size < g := by have := HB4.out.size; have := HS1.out; omega
    have HSF := hid (sees_set' (b := w.heap.size) (vs := yy.toList) hsb (fun a ha => by cases ha; show g ≠ w.heap.size; omega))
    have HYY := hid hyy
    have HW6 := hid hw6
    have HGR := hid hgr
    clear hyy hw6 hr5 hr6 hb45 hb6 hB6 hB5 hg5 hb5 q1 q2 hsb X4 hgr
    go_upto_region 12 with fail
    rw [← HW6.out]
    go_wp2_with (first
      | (refine wpList_ld 41 ⟨p, 0, none⟩ _ rfl rfl HL6.out rfl ?_)
      | (refine wpList_store_mid rfl 41 (.tmp 2) (.tmp 41) rfl w.heap.size 0 yy rfl rfl HTU.out HYI.out HYO.out ?_)
      | fail)
    generalize w6.setCells w.heap.size 0 yy.toList = wf at HLV HBF HSF ⊢
    refine bodyPost_ret (v := .tuple #[.agg yy, .int .i64 0]) (by simp [results, Try.results30, asAddr, HLV.out]) rfl ?_
    rw [HPE2.out, HD.out]
    exact ⟨_, _, _, by rw [HYY.out]; rfl, HSF.out, (fun a ha => by cases ha; exact Nat.le_of_lt HGR.out), HBF.out⟩
  · have HE := hid (pf_bad hpe ht)
    generalize Tn.tyE ty = E at *
    have r1 : (E == 0) = false := by simp [ht]
    have r2 : (E != 0) = true := by simp [ht]
    clear hpe hp
    go_enter Try.func30, Try.ntmps30
    go_upto_region 1 with fail
    rw [← HW1.out]
    go_wp2_with fail
    refine XR.out.mono ?_
    rintro _ wy ⟨rfl, hwy⟩
    subst hwy
    go_upto_region 6 with (first
      | (rw [← HP.out]; refine wpList_store_mid rfl 41 (.tmp 4) (.tmp 19) rfl p 0 pa rfl (by rw [HPA.out]; rfl) HTP.out HPI.out HPO.out ?_; rw [← HW2.out])
      | fail)
    simp only [Act.put]
    go_wp2_with fail
    refine (HCT.out _).mono ?_
    rintro _ wz ⟨rfl, hwz⟩
    subst hwz
    obtain ⟨q1, q2⟩ := HCE.out zz wz HZS.out HB2.out
    have HTU := hid q1
    have HLV := hid q2
    have HBF := hid (HBF0.out zz wz HB2.out)
    clear q1 q2
    go_wp2_with (first
      | (refine wpList_store_mid rfl 41 (.tmp 2) (.tmp 25) rfl w.heap.size 0 zz rfl (by rw [HZ.out]; rfl) HTU.out HINF.out HONE.out ?_)
      | fail)
    generalize wz.setCells w.heap.size 0 zz.toList = wf at HLV HBF ⊢
    refine bodyPost_ret (v := .tuple #[.agg zz, .int .i64 E]) (by simp [results, Try.results30, asAddr, HLV.out]) rfl ?_
    rw [HE.out.1, HE.out.2]
    exact ⟨none, 0, 0, by rw [HZC.out], sees_nil _, (fun a ha => by cases ha), HBF.out⟩
end Go.Proofs.Ytcelcnafcfefhaa.N
