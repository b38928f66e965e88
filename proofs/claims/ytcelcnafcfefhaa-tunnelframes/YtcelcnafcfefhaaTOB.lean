/-
  weftref7: BuildFrame, ParseFrame.
-/
import Derived.Test.YtcelcnafcfefhaaTL
import Derived.Test.YtcelcnafcfefhaaTH
namespace Go.Proofs.Ytcelcnafcfefhaa.N
open Go.ChangeShapes Go.WideShapes Go.ChangeAt Go.RowKit
set_option maxHeartbeats 8000000
set_option maxRecDepth 100000

/-- The first k bytes of a list, and zeros behind. -/
def mixk (A : List Nat) (k : Nat) : List Nat := A.take k ++ List.replicate (6 - k) 0
theorem mixk_len {A : List Nat} (hA : A.length = 6) {k : Nat} (hk : k ≤ 6) : (mixk A k).length = 6 := by
  unfold mixk
  rw [List.length_append, List.length_take, List.length_replicate]
  omega
theorem mixk_set {A : List Nat} (hA : A.length = 6) {k : Nat} (hk : k < 6) : (mixk A k).set k (A.getD k 0) = mixk A (k + 1) := by
  unfold mixk
  have hk' : k < A.length := by omega
  have hl : (A.take k).length = k := by rw [List.length_take]; omega
  rw [List.set_append_right _ _ (by omega), hl, Nat.sub_self, show 6 - k = (6 - (k + 1)) + 1 by omega, List.replicate_succ, List.set_cons_zero, List.take_succ_eq_append_getElem hk', List.append_assoc]
  simp [hk']
theorem mixk_six {A : List Nat} (hA : A.length = 6) : mixk A 6 = A := by
  unfold mixk
  rw [List.take_of_length_le (by omega)]
  simp

theorem frc_setD {D S : List Nat} (hD : D.length = 6) (ty : Nat) (v : Value) (k x : Nat) (hk : k < 6) : (frc D S ty v).toArray.setIfInBounds k (.int .u8 (x : Int)) = (frc (D.set k x) S ty v).toArray := by
  unfold frc
  apply Array.toList_inj.1
  rw [Array.toList_setIfInBounds]
  show (bs D ++ _).set k _ = bs (D.set k x) ++ _
  rw [List.set_append_left _ _ (by rw [bs_len, hD]; exact hk)]
  simp [bs, List.map_set]
theorem frc_setS {D S : List Nat} (hD : D.length = 6) (hS : S.length = 6) (ty : Nat) (v : Value) (k x : Nat) (hk : k < 6) : (frc D S ty v).toArray.setIfInBounds (6 + k) (.int .u8 (x : Int)) = (frc D (S.set k x) ty v).toArray := by
  unfold frc
  apply Array.toList_inj.1
  rw [Array.toList_setIfInBounds]
  show (bs D ++ (bs S ++ _)).set (6 + k) _ = bs D ++ (bs (S.set k x) ++ _)
  rw [List.set_append_right _ _ (by rw [bs_len, hD]; omega), bs_len, hD, Nat.add_sub_cancel_left, List.set_append_left _ _ (by rw [bs_len, hS]; exact hk)]
  simp [bs, List.map_set]

theorem parseFR_any (v : Value) (L : List Nat) (w : World) (hv : SeesB w v L) :
    Calls Try.prog 31 #[v] w fun e w' => ∃ ao n cap, e = .returned (.tuple #[.agg (frCells (Tn.pfF L) (.slice ao n cap)), .int .i64 (Tn.pfE L)]) ∧ SeesB w' (.slice ao n cap) (Tn.pfF L).B ∧ (∀ a, ao = some a → w.heap.size ≤ a.block) ∧ Below w.heap.size w w' := by
  obtain ⟨w1, hw1⟩ : ∃ w1, w1 = w.alloc (.cells zeroF 41) := ⟨_, rfl⟩
  have hs1 : w1.heap.size = w.heap.size + 1 := by rw [hw1]; simp
  have hb1 : Below w.heap.size w w1 := by rw [hw1]; exact (Below.refl _ _).alloc (Nat.le_refl _) _
  have hr1 : w1.heap[w.heap.size]? = some (.cells zeroF 41 (0, 0)) := by rw [hw1]; exact heap_alloc_new w _
  obtain ⟨ao, n, cap, rfl, HN, hn1, hn2⟩ := hv.shape
  unfold maxLen at hn2
  have HV1 := hid (hv.below hb1)
  have HBY := hid hv.bytes
  have HI : Hid (∀ zz : Array Value, zz.size = 14 → (Try.prog.info? 41).map (·.size) = some zz.size) := fun zz hz => by rw [hz]; kernel_rfl
  have HCE : Hid (∀ (zz : Array Value) (u : World), zz.size = 14 → Below w1.heap.size w1 u → u.there w.heap.size 0 zz.size ∧ (loadVar 41 ⟨w.heap.size, 0, none⟩).run Try.prog (u.setCells w.heap.size 0 zz.toList) = .ok (.agg zz) (u.setCells w.heap.size 0 zz.toList)) := fun zz u hz hb =>
    cell_end hr1 hb (by rw [hz]; rfl) Try.underlying41 rfl (HI.out zz hz)
  have HBW : Hid (∀ u, Below w1.heap.size w1 u → Below w.heap.size w u) := fun u hu => hb1.trans (hu.mono hb1.size)
  have HBF0 : Hid (∀ (zz : Array Value) (u : World), Below w1.heap.size w1 u → Below w.heap.size w (u.setCells w.heap.size 0 zz.toList)) := fun zz u hu => below_setCells' (Nat.le_refl _) _ _ _ (HBW.out u hu)
  have HW1 : Hid (w1 = w.alloc (.cells zeroF 41)) := hw1
  unfold zeroF at HW1
  obtain ⟨zz, hzz⟩ : ∃ zz : Array Value, zz = zeroF := ⟨_, rfl⟩
  have HZ := hid hzz
  unfold zeroF at HZ
  have HZS : Hid (zz.size = 14) := by unfold Hid; rw [hzz]; rfl
  have HONE : Hid (zz.all (·.oneCell') = true) := by unfold Hid; rw [hzz]; simp [zeroF, Value.oneCell']
  have HZC : Hid (zz = frCells Tn.noneF (.slice none 0 0)) := hzz
  have HINF := hid (HI.out zz HZS.out)
  have HS1 := hid hs1
  clear hzz hw1 hs1 hb1 hr1 hv
  by_cases hA : 65499 < n
  · have HE := hid (pf_bad (L := L) (e := 2) (by unfold Tn.pfE; rw [if_pos (by have := HN.out; omega)]) (by decide))
    have hA' : (65499 : Int) < (n : Int) := by omega
    go_enter Try.func31, Try.ntmps31
    go_upto_region 1 with fail
    rw [← HW1.out]
    obtain ⟨q1, q2⟩ := HCE.out zz w1 HZS.out (Below.refl _ _)
    have HTU := hid q1
    have HLV := hid q2
    have HBF := hid (HBF0.out zz w1 (Below.refl _ _))
    clear q1 q2
    go_wp2_with (first
      | (refine wpList_store_mid rfl 41 (.tmp 2) (.tmp 11) rfl w.heap.size 0 zz rfl (by rw [HZ.out]; rfl) HTU.out HINF.out HONE.out ?_)
      | fail)
    generalize w1.setCells w.heap.size 0 zz.toList = wf at HLV HBF ⊢
    refine bodyPost_ret (v := .tuple #[.agg zz, .int .i64 2]) (by simp [results, Try.results31, asAddr, HLV.out]) rfl ?_
    rw [HE.out.1, HE.out.2]
    exact ⟨none, 0, 0, by rw [HZC.out], sees_nil _, (fun a ha => by cases ha), HBF.out⟩
  have hA' : ¬ (65499 : Int) < (n : Int) := by omega
  by_cases hB : n < 14
  · have HE := hid (pf_bad (L := L) (e := 70) (by unfold Tn.pfE; rw [if_neg (by have := HN.out; omega), if_pos (by have := HN.out; omega)]) (by decide))
    have hB' : (n : Int) < 14 := by omega
    go_enter Try.func31, Try.ntmps31
    go_upto_region 1 with fail
    rw [← HW1.out]
    obtain ⟨q1, q2⟩ := HCE.out zz w1 HZS.out (Below.refl _ _)
    have HTU := hid q1
    have HLV := hid q2
    have HBF := hid (HBF0.out zz w1 (Below.refl _ _))
    clear q1 q2
    go_wp2_with (first
      | (refine wpList_store_mid rfl 41 (.tmp 2) (.tmp 15) rfl w.heap.size 0 zz rfl (by rw [HZ.out]; rfl) HTU.out HINF.out HONE.out ?_)
      | fail)
    generalize w1.setCells w.heap.size 0 zz.toList = wf at HLV HBF ⊢
    refine bodyPost_ret (v := .tuple #[.agg zz, .int .i64 70]) (by simp [results, Try.results31, asAddr, HLV.out]) rfl ?_
    rw [HE.out.1, HE.out.2]
    exact ⟨none, 0, 0, by rw [HZC.out], sees_nil _, (fun a ha => by cases ha), HBF.out⟩
  have hB' : ¬ (n : Int) < 14 := by omega
  have XR : Hid (Calls Try.prog 56 #[.slice ao n cap, .int .i64 12, .int .i64 2] w1 fun e w' => e = .returned (.int .i64 ((Tn.num2 L 12 : Nat) : Int)) ∧ Below w1.heap.size w1 w') := by
    have := numberR_any _ L 12 2 w1 HV1.out (by omega) (by have := HN.out; omega)
    rw [numN_two] at this
    exact this
  have hpe : Tn.pfE L = Tn.tyE (Tn.num2 L 12) := by
    unfold Tn.pfE
    rw [if_neg (by have := HN.out; omega), if_neg (by have := HN.out; omega)]
  have hty16 : Tn.num2 L 12 < 65536 := by
    rw [num2_byt]
    have h1 := byt_lt HBY.out 12
    have h2 := byt_lt HBY.out (12 + 1)
    omega
  have HPD : Hid (Tn.pfE L = 0 → Tn.pfF L = ⟨L.take 6, (L.drop 6).take 6, Tn.num2 L 12, L.drop 14⟩) := fun h => by unfold Tn.pfF; rw [if_pos h]
  obtain ⟨ty, hty⟩ : ∃ ty, ty = Tn.num2 L 12 := ⟨_, rfl⟩
  rw [← hty] at XR hpe hty16 HPD
  have HCT := hid (fun u => typedR_any ty u hty16)
  by_cases ht : Tn.tyE ty = 0
  · rw [ht] at HCT hpe
    have HPE2 := hid hpe
    have HD := hid (HPD.out hpe)
    have HJO : Hid (∀ u, Below w1.heap.size w1 u → Calls Try.prog 58 #[.slice none 0 0, .slice ao n cap, .int .i64 14, .int .i64 (n : Int)] u fun e w' => ∃ a2 n2 c2, e = .returned (.slice a2 n2 c2) ∧ SeesB w' (.slice a2 n2 c2) (L.drop 14) ∧ (∀ a, a2 = some a → u.heap.size ≤ a.block) ∧ Below u.heap.size u w') := fun u hu => by
      have := joinedR_any (.slice none 0 0) _ [] L 14 n u u (Below.refl _ _) (ownB_nil _ _) (HV1.out.below hu) (by omega) (by have := HN.out; omega) (by simp; omega)
      rw [List.take_of_length_le (by have := HN.out; omega), List.nil_append] at this
      refine this.mono ?_
      rintro e w' ⟨l', rfl, ho, hb⟩
      have hsee := ho.sees (fun x hx => HBY.out x (List.mem_of_mem_drop hx))
      obtain ⟨a2, n2, c2, rfl, _, _, _⟩ := hsee.shape
      exact ⟨a2, n2, c2, rfl, hsee, ho.new, hb⟩
    have hl6 : (L.take 6).length = 6 := by rw [List.length_take, ← HN.out]; omega
    have hl12 : ((L.drop 6).take 6).length = 6 := by rw [List.length_take, List.length_drop, ← HN.out]; omega
    have hgd : ∀ k, k < 6 → (L.take 6).getD k 0 = byt L k ∧ ((L.drop 6).take 6).getD k 0 = byt L (6 + k) := fun k hk => by
      unfold byt
      refine ⟨?_, ?_⟩
      · rw [List.getD_eq_getElem?_getD, List.getD_eq_getElem?_getD, List.getElem?_take_of_lt hk]
      · rw [List.getD_eq_getElem?_getD, List.getD_eq_getElem?_getD, List.getElem?_take_of_lt hk, List.getElem?_drop]
    have HGD := hid hgd
    have HL := hid (And.intro hl6 hl12)
    generalize L.take 6 = DD at *
    generalize (L.drop 6).take 6 = SS at *
    clear hpe hl6 hl12 hgd hty HPD
    go_enter Try.func31, Try.ntmps31
    go_upto_region 1 with fail
    rw [← HW1.out]
    go_wp2_with fail
    refine XR.out.mono ?_
    rintro _ w2 ⟨rfl, hb2⟩
    have HB2 := hid hb2
    clear hb2 XR
    go_wp2_with fail
    refine (HCT.out _).mono ?_
    rintro _ wz ⟨rfl, hwz⟩
    subst hwz
    have XJ := hid (HJO.out _ HB2.out)
    clear HJO
    go_wp2_with fail
    refine XJ.out.mono ?_
    rintro _ w3 ⟨a3, n3, c3, rfl, hs3, hn3, hb3⟩
    have hb13 := HB2.out.trans (hb3.mono HB2.out.size)
    obtain ⟨p, hp⟩ : ∃ p, p = w3.heap.size := ⟨_, rfl⟩
    obtain ⟨pa, hpa⟩ : ∃ pa : Array Value, pa = (frc (mixk DD 0) (mixk SS 0) ty (.slice a3 n3 c3)).toArray := ⟨_, rfl⟩
    have HPA : Hid (pa = #[.int .u8 0, .int .u8 0, .int .u8 0, .int .u8 0, .int .u8 0, .int .u8 0, .int .u8 0, .int .u8 0, .int .u8 0, .int .u8 0, .int .u8 0, .int .u8 0, .int .u16 (ty : Int), .slice a3 n3 c3]) := hpa
    have hps : pa.size = 14 := by rw [hpa]; rfl
    have HPI := hid (HI.out pa hps)
    have HPO : Hid (pa.all (·.oneCell') = true) := by unfold Hid; rw [hpa]; exact frc_one
    have hrp : (w3.alloc (.cells zeroF 41)).heap[p]? = some (.cells zeroF 41 (0, 0)) := by rw [hp]; exact heap_alloc_new w3 _
    have HTP : Hid ((w3.alloc (.cells zeroF 41)).there p 0 pa.size) := there_blk hrp (by rw [hps]; rfl)
    obtain ⟨w4, hw4⟩ : ∃ w4, w4 = (w3.alloc (.cells zeroF 41)).setCells p 0 pa.toList := ⟨_, rfl⟩
    have hr4 : w4.heap[p]? = some (.cells (frc (mixk DD 0) (mixk SS 0) ty (.slice a3 n3 c3)).toArray 41 (0, 0)) := by rw [hw4, ← hpa]; exact row_put hrp (by rw [hps]; rfl)
    have hb34 : Below w3.heap.size w3 w4 := by rw [hw4]; exact below_setCells' (by omega) _ _ _ ((Below.refl _ _).alloc (Nat.le_refl _) _)
    have HW4 := hid hw4
    unfold zeroF at HW4 HTP
    have HP := hid hp
    have HB34 : Hid (Below p w3 w4) := by unfold Hid; rw [hp]; exact hb34
    have HR4 := hid hr4
    have HS3 := hid hs3
    have HB13 := hid hb13
    have HPW : Hid (w1.heap.size ≤ p) := by unfold Hid; rw [hp]; exact hb13.size
    have HN3 : Hid (∀ a, a3 = some a → w.heap.size < a.block) := fun a ha => by have h1 := hn3 a ha; have h2 := HB2.out.size; have h3 := HS1.out; omega
    have HVK : Hid (∀ (j : Nat) (u : World), j < n → Below p w3 u → ∃ g off, ao = some ⟨g, off, none⟩ ∧ byt L j < 256 ∧ u.cell? ⟨g, off + j, none⟩ = some (.int .u8 ((byt L j : Nat) : Int)) ∧ g < p) := fun j u hj hu => by
      obtain ⟨g, off, h1, h2, h3⟩ := (HV1.out.below hb13).atB j hj
      have hg : g < p := by rw [hp]; exact h2
      exact ⟨g, off, h1, byt_lt HBY.out j, (hu.cell (p := ⟨g, off + j, none⟩) hg).trans h3, hg⟩
    clear hw4 hpa hps hrp hb34 hr4 hp hs3 hn3 hb3 hb13 XJ
    go_upto_region 10 with (first
      | (rw [← HP.out]; refine wpList_store_mid rfl 41 (.tmp 6) (.tmp 30) rfl p 0 pa rfl (by rw [HPA.out]; rfl) HTP.out HPI.out HPO.out ?_; rw [← HW4.out])
      | fail)
    simp only [Act.put]
    go_wp2_with fail
    go_loopw [7] (fun i wv => ∃ (k : Nat) (wr : World), i = .int .i64 (k : Int) ∧ k ≤ 6 ∧ wr = wv ∧ Hid (wr.heap[p]? = some (.cells (frc (mixk DD k) (mixk SS k) ty (.slice a3 n3 c3)).toArray 41 (0, 0)) ∧ Below p w3 wr)) (fun i _ => 6 - (intOf i).toNat)
    case atStart => exact ⟨0, _, rfl, by omega, rfl, HR4.out, HB34.out⟩
    case round =>
      obtain ⟨k, wr, rfl, hk, rfl, HRK⟩ := hrel
      obtain ⟨hrk, hbk⟩ := HRK.out
      by_cases hlt : k < 6
      · obtain ⟨g, off, rfl, hx, hcx, hg⟩ := HVK.out k wr (by omega) hbk
        have hmD := mixk_len HL.out.1 hk
        have hmS := mixk_len HL.out.2 hk
        have c0 := cell_fr hrk k
        rw [frc_dst hmD ty _ k hlt, bs_get (by rw [hmD]; exact hlt)] at c0
        have z0 : wr.frozen? ⟨p, k, none⟩ = false := frozen_of_row _ _ _ _ _ hrk
        obtain ⟨wa, hwa⟩ : ∃ wa, wa = wr.setCell ⟨p, k, none⟩ (.int .u8 ((byt L k : Nat) : Int)) := ⟨_, rfl⟩
        obtain ⟨wn, hwn⟩ : ∃ wn, wn = wa.setCell ⟨p, 6 + k, none⟩ (.int .u8 ((byt L (6 + k) : Nat) : Int)) := ⟨_, rfl⟩
        have hra : wa.heap[p]? = some (.cells (frc (mixk DD (k + 1)) (mixk SS k) ty (.slice a3 n3 c3)).toArray 41 (0, 0)) := by
          rw [hwa]
          have h1 := heap_setCell_row (o := k) hrk (.int .u8 ((byt L k : Nat) : Int))
          rw [frc_setD hmD ty _ k _ hlt, ← (HGD.out k hlt).1, mixk_set HL.out.1 hlt] at h1
          rw [(HGD.out k hlt).1] at h1
          exact h1
        have hmD1 := mixk_len HL.out.1 (show k + 1 ≤ 6 by omega)
        have hrn : wn.heap[p]? = some (.cells (frc (mixk DD (k + 1)) (mixk SS (k + 1)) ty (.slice a3 n3 c3)).toArray 41 (0, 0)) := by
          rw [hwn]
          have h2 := heap_setCell_row (o := 6 + k) hra (.int .u8 ((byt L (6 + k) : Nat) : Int))
          rw [frc_setS hmD1 hmS ty _ k _ hlt, ← (HGD.out k hlt).2, mixk_set HL.out.2 hlt] at h2
          rw [(HGD.out k hlt).2] at h2
          exact h2
        have hba : Below p w3 wa := by rw [hwa]; exact hbk.setCell (p := ⟨p, k, none⟩) (Nat.le_refl _) _
        have hbn : Below p w3 wn := by rw [hwn]; exact hba.setCell (p := ⟨p, 6 + k, none⟩) (Nat.le_refl _) _
        obtain ⟨g2, off2, he, _, hcy, _⟩ := HVK.out (6 + k) wa (by omega) hba
        simp at he
        obtain ⟨rfl, rfl⟩ := he
        have c6 := cell_fr hra (6 + k)
        rw [frc_src hmD1 hmS ty _ k hlt, bs_get (by rw [hmS]; exact hlt)] at c6
        have z6 : wa.frozen? ⟨p, 6 + k, none⟩ = false := frozen_of_row _ _ _ _ _ hra
        obtain ⟨m, hm⟩ : ∃ m, m = 6 + k := ⟨_, rfl⟩
        have hcm : wa.cell? ⟨g, off + m, none⟩ = some (.int .u8 ((byt L (6 + k) : Nat) : Int)) := by rw [hm]; exact hcy
        clear hcy
        have HNX := hid (And.intro hrn hbn)
        have HWN := hid hwn
        have HWA := hid hwa
        have hy256 := byt_lt HBY.out (6 + k)
        generalize byt L k = xk at *
        generalize byt L (6 + k) = yk at *
        generalize ((mixk DD k)[k]'_ : Nat) = ok at c0
        generalize ((mixk SS k)[k]'_ : Nat) = sk at c6
        have b0 : (k : Int) < 6 := by omega
        have b1 : (0 : Int) ≤ (k : Int) := by omega
        have b2 : (k : Int) < (n : Int) := by omega
        have b3 : (m : Int) < (n : Int) := by omega
        have b4 : (0 : Int) ≤ (m : Int) := by omega
        have e6 : (6 : Int) + (k : Int) = (m : Int) := by omega
        have HM := hid hm
        clear hrn hbn hwn hrk hbk hmD hmS hm hra hba hwa hmD1
        go_upto_region 14 with fail
        rw [← HWA.out]
        go_wp2_with fail
        go_roundw
        case rel => exact ⟨k + 1, wn, by go_num, by omega, by rw [HWN.out], HNX⟩
        case measure => simp [intOf]; omega
      · have hk6 : k = 6 := by omega
        rw [hk6, mixk_six HL.out.1, mixk_six HL.out.2] at hrk
        have hge : ¬ (k : Int) < 6 := by omega
        clear hk6
        obtain ⟨yy, hyy⟩ : ∃ yy : Array Value, yy = (frc DD SS ty (.slice a3 n3 c3)).toArray := ⟨_, rfl⟩
        rw [← hyy] at hrk
        have HYS : Hid (yy.size = 14) := by unfold Hid; rw [hyy]; simp only [List.size_toArray]; exact frc_len HL.out.1 HL.out.2 _ _
        have HYI := hid (HI.out yy HYS.out)
        have HYO : Hid (yy.all (·.oneCell') = true) := by unfold Hid; rw [hyy]; exact frc_one
        have HL6 : Hid ((Instr.loadAt 41 (.pointer (some ⟨p, 0, none⟩))).run Try.prog wr = .ok (.agg yy) wr) := load_rowAt hrk Try.underlying41 rfl HYI.out
        have hb1r : Below w1.heap.size w1 wr := HB13.out.trans (hbk.mono HPW.out)
        obtain ⟨q1, q2⟩ := HCE.out yy wr HYS.out hb1r
        have HTU := hid q1
        have HLV := hid q2
        have HBF := hid (HBF0.out yy wr hb1r)
        have hsr : SeesB wr (.slice a3 n3 c3) (L.drop 14) := HS3.out.below (by rw [← HP.out]; exact hbk)
        have HSF := hid (sees_set' (b := w.heap.size) (vs := yy.toList) hsr (fun a ha => by have := HN3.out a ha; omega))
        have HYY := hid hyy
        clear hyy hrk hbk q1 q2 hsr hb1r HRK
        go_wp2_with (first
          | (refine wpList_ld 41 ⟨p, 0, none⟩ _ rfl rfl HL6.out rfl ?_)
          | (refine wpList_store_mid rfl 41 (.tmp 2) (.tmp 50) rfl w.heap.size 0 yy rfl rfl HTU.out HYI.out HYO.out ?_)
          | fail)
        generalize wr.setCells w.heap.size 0 yy.toList = wf at HLV HBF HSF ⊢
        refine bodyPost_ret (v := .tuple #[.agg yy, .int .i64 0]) (by simp [results, Try.results31, asAddr, HLV.out]) rfl ?_
        rw [HPE2.out, HD.out]
        exact ⟨_, _, _, by rw [HYY.out]; rfl, HSF.out, (fun a ha => Nat.le_of_lt (HN3.out a ha)), HBF.out⟩
  · have HE := hid (pf_bad hpe ht)
    generalize Tn.tyE ty = E at *
    have r1 : (E == 0) = false := by simp [ht]
    have r2 : (E != 0) = true := by simp [ht]
    clear hpe hty HPD
    go_enter Try.func31, Try.ntmps31
    go_upto_region 1 with fail
    rw [← HW1.out]
    go_wp2_with fail
    refine XR.out.mono ?_
    rintro _ w2 ⟨rfl, hb2⟩
    have HB2 := hid hb2
    clear hb2
    go_wp2_with fail
    refine (HCT.out _).mono ?_
    rintro _ wz ⟨rfl, hwz⟩
    subst hwz
    obtain ⟨q1, q2⟩ := HCE.out zz wz HZS.out HB2.out
    have HTU := hid q1
    have HLV := hid q2
    have HBF := hid (HBF0.out zz wz HB2.out)
    clear q1 q2
    go_wp2_with (first
      | (refine wpList_store_mid rfl 41 (.tmp 2) (.tmp 22) rfl w.heap.size 0 zz rfl (by rw [HZ.out]; rfl) HTU.out HINF.out HONE.out ?_)
      | fail)
    generalize wz.setCells w.heap.size 0 zz.toList = wf at HLV HBF ⊢
    refine bodyPost_ret (v := .tuple #[.agg zz, .int .i64 E]) (by simp [results, Try.results31, asAddr, HLV.out]) rfl ?_
    rw [HE.out.1, HE.out.2]
    exact ⟨none, 0, 0, by rw [HZC.out], sees_nil _, (fun a ha => by cases ha), HBF.out⟩
end Go.Proofs.Ytcelcnafcfefhaa.N
