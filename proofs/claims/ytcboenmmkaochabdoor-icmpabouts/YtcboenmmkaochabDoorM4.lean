import Derived.Test.YtcboenmmkaochabDoorM3
import Derived.Deep.RegionWith
import Derived.Laws.CopyOwn
import Derived.Laws.MakeOwn
import Derived.Deep.RegionHeld3
namespace Go.Proofs.YtcboenmmkaochabDoor.N
open Go.ChangeShapes Go.WideShapes Go.ChangeAt Go.RowKit
set_option maxHeartbeats 2000000
set_option maxRecDepth 100000

theorem clone6_any (v : Value) (L : List Nat) (w : World) (hv : SeesB w v L) (hl : L.length ≤ 1099511627776) :
    Calls Tryd.prog 36 #[v] w fun e w' => ∃ v', e = .returned v' ∧ OwnB w' w.heap.size v' L ∧ Below w.heap.size w w' := by
  obtain ⟨ao, n, cap, rfl, HN, hn1, hn2⟩ := hv.shape
  have HV := hid hv
  have hnl : n ≤ 1099511627776 := by have := HN.out; omega
  clear hv hl
  unfold maxLen at hn2
  go_enter Tryd.func36, Tryd.ntmps36
  go_wp2_with fail
  go_loopw [3, 4] (fun t i wr => ∃ q : Nat, i = .int .i64 q ∧ q ≤ n ∧ Hid (OwnB wr w.heap.size t (L.take q)) ∧ Below w.heap.size w wr) (fun _ i _ => n - (intOf i).toNat)
  case atStart => exact ⟨0, rfl, by omega, ownB_nil _ _, Below.refl _ _⟩
  case round =>
    obtain ⟨q, rfl, hq, HO, hb⟩ := hrel
    by_cases hlt : q < n
    · obtain ⟨ga, oa, x, rfl, hga, hca, hx, HX⟩ := (HV.out.below hb).at q hlt
      have HF : Hid (L.take q ++ [x] = L.take (q + 1)) := by unfold Hid; rw [take_snoc HX.out]
      go_wp2_with (at_builtin; refine wpList_append_bytes rfl _ _ rfl w.heap.size _ _ rfl (HO.out.alloc _) _ [x] rfl (sees_one rfl x hx _) ?c1 ?c2 ?_)
      case c1 => rw [List.length_take]; simp only [List.length_cons, List.length_nil]; omega
      case c2 => have := hb.size; simp; omega
      intro v' w6 ho hb6
      rw [HF.out] at ho
      have HO6 := hid ho
      have hb7 := (hb.alloc hb.size _).trans hb6
      clear ho hb6 hca
      go_wp2_with fail
      go_roundw
      case rel => exact ⟨q + 1, by go_num, by omega, HO6, hb7⟩
      case measure => simp [intOf]; omega
    · have HE : Hid (L.take q = L) := by
        unfold Hid; rw [List.take_of_length_le (by have := HN.out; omega)]
      rw [HE.out] at HO
      go_wp2_with fail
      go_ret
      exact ⟨_, rfl, HO.out, hb⟩

theorem ownB_blk {w : World} {g n : Nat} {X : List Nat} (h : w.heap[g]? = some (.cells (bs X).toArray 5 (0, 0))) (hn : X.length = n) (hl : n ≤ 65536) {base : Nat} (hb : base ≤ g) : OwnB w base (.slice (some ⟨g, 0, none⟩) n n) X := by
  subst hn
  refine ⟨by simp [bs], .inr ⟨g, X.length, (bs X).toArray, rfl, hb, h, Nat.le_refl _, by unfold maxLen; omega, by simp [bs], ?_⟩⟩
  rw [Nat.mul_one]
  exact List.take_of_length_le (by simp [bs])

theorem raw_any (m : Im.Ct) (vb : Value) (s : Nat) (w : World) (hok : m.Ok) (hvb : SeesB w vb m.B) (hl : m.B.length ≤ 65507) (hs : s < 65536) :
    Calls Tryd.prog 38 #[.agg (ctCells m vb), .int .u16 (s : Int)] w fun e w' => ∃ v', e = .returned v' ∧ OwnB w' w.heap.size v' (Im.msg m s) ∧ Below w.heap.size w w' := by
  obtain ⟨w1, hw1⟩ : ∃ w1, w1 = w.alloc (.cells (ctCells m vb) 29) := ⟨_, rfl⟩
  have hb1 : Below w.heap.size w w1 := by rw [hw1]; exact (Below.refl _ _).alloc (Nat.le_refl _) _
  have hs1 : w1.heap.size = w.heap.size + 1 := by rw [hw1]; simp
  have hk1 : w1.heap[w.heap.size]? = some (.cells (ctCells m vb) 29) := by rw [hw1]; exact heap_alloc_new w _
  have HVB := hid hvb
  obtain ⟨ab, nb, capb, rfl, HNB, hnb1, hnb2⟩ := hvb.shape
  unfold maxLen at hnb2
  have hnb : nb ≤ 65507 := by have := HNB.out; omega
  obtain ⟨d0, d1, d2, d3⟩ := ct_at hk1
  have HD3 : Hid (∀ u, Below w1.heap.size w1 u → u.cell? ⟨w.heap.size, 3, none⟩ = some (.slice ab nb capb)) := fun u hu => (hu.cell (p := ⟨w.heap.size, 3, none⟩) (show w.heap.size < w1.heap.size by omega)).trans d3
  obtain ⟨ht1, hc1, hr1⟩ := hok
  have HW1 := hid hw1
  have HB1 := hid hb1
  clear hw1 hvb hk1 d3 hb1
  obtain ⟨mt, mc, mr, mB⟩ := m
  simp only at *
  have HCT : Hid (ctCells ⟨mt, mc, mr, mB⟩ (.slice ab nb capb) = #[.int .u8 (mt : Int), .int .u8 (mc : Int), .int .u32 (mr : Int), .slice ab nb capb]) := rfl
  rw [HCT.out] at HW1 ⊢
  go_enter Tryd.func38, Tryd.ntmps38
  go_upto_region 1 with fail
  rw [← HW1.out]
  go_upto_region 3 with fail
  obtain ⟨w2, hw2⟩ : ∃ w2, w2 = w1.alloc (.cells #[.int .u8 (mt : Int), .int .u8 (mc : Int), .int .u8 ((s : Int) / 256), .int .u8 ((s : Int) % 256), .int .u8 ((mr : Int) / 16777216), .int .u8 ((mr : Int) / 65536 % 256), .int .u8 ((mr : Int) / 256 % 256), .int .u8 ((mr : Int) % 256)] 5) := ⟨_, rfl⟩
  rw [← hw2]
  have hb2 : Below w1.heap.size w1 w2 := by rw [hw2]; exact (Below.refl _ _).alloc (Nat.le_refl _) _
  have hO2 : OwnB w2 w1.heap.size (.slice (some ⟨w.heap.size + 1, 0, none⟩) 8 8) [mt, mc, s / 256, s % 256, mr / 65536 / 256, mr / 65536 % 256, mr % 65536 / 256, mr % 65536 % 256] := by
    refine ownB_blk ?_ rfl (by simp) (by omega)
    rw [← hs1, hw2]
    refine (heap_alloc_new w1 _).trans ?_
    simp only [bs, List.map_cons, List.map_nil]
    rw [show ((s / 256 : Nat) : Int) = (s : Int) / 256 by omega, show ((s % 256 : Nat) : Int) = (s : Int) % 256 by omega, show ((mr / 65536 / 256 : Nat) : Int) = (mr : Int) / 16777216 by omega,
      show ((mr / 65536 % 256 : Nat) : Int) = (mr : Int) / 65536 % 256 by omega, show ((mr % 65536 / 256 : Nat) : Int) = (mr : Int) / 256 % 256 by omega, show ((mr % 65536 % 256 : Nat) : Int) = (mr : Int) % 256 by omega]
  have HM : Hid (Im.msg ⟨mt, mc, mr, mB⟩ s = [mt, mc, s / 256, s % 256, mr / 65536 / 256, mr / 65536 % 256, mr % 65536 / 256, mr % 65536 % 256] ++ mB) := rfl
  generalize hfr : [mt, mc, s / 256, s % 256, mr / 65536 / 256, mr / 65536 % 256, mr % 65536 / 256, mr % 65536 % 256] = fr at *
  have hfl : fr.length = 8 := by rw [← hfr]; rfl
  have HFL := hid hfl
  have HO2 := hid hO2
  have HS1 := hid hs1
  clear hw2 hO2 hfr hfl d0 d1 d2 hs1
  go_wp2_with fail
  go_loopw [6, 7] (fun t i wr => ∃ q : Nat, i = .int .i64 q ∧ q ≤ nb ∧ Hid (OwnB wr w1.heap.size t (fr ++ mB.take q)) ∧ Below w1.heap.size w1 wr) (fun _ i _ => nb - (intOf i).toNat)
  case atStart => exact ⟨0, rfl, by omega, by rw [List.take_zero, List.append_nil]; exact HO2, hb2⟩
  case round =>
    obtain ⟨q, rfl, hq, HO, hb⟩ := hrel
    have e3 := HD3.out _ hb
    by_cases hlt : q < nb
    · obtain ⟨ga, oa, x, rfl, hga, hca, hx, HX⟩ := ((HVB.out.below HB1.out).below hb).at q hlt
      have HF : Hid (fr ++ (mB.take q ++ [x]) = fr ++ mB.take (q + 1)) := by unfold Hid; rw [take_snoc HX.out]
      go_wp2_with (at_builtin; refine wpList_append_bytes rfl _ _ rfl w1.heap.size _ _ rfl (HO.out.alloc _) _ [x] rfl (sees_one rfl x hx _) ?c1 ?c2 ?_)
      case c1 => rw [List.length_append, List.length_take]; simp only [List.length_cons, List.length_nil]; have := HFL.out; omega
      case c2 => have := hb.size; simp; omega
      intro v' w6 ho hb6
      rw [HF.out] at ho
      have HO6 := hid ho
      have hb7 := (hb.alloc hb.size _).trans hb6
      clear ho hb6 hca
      go_wp2_with fail
      go_roundw
      case rel => exact ⟨q + 1, by go_num, by omega, HO6, hb7⟩
      case measure => simp [intOf]; omega
    · have HE : Hid (mB.take q = mB) := by
        unfold Hid; rw [List.take_of_length_le (by have := HNB.out; omega)]
      rw [HE.out] at HO
      go_wp2_with fail
      go_ret
      rw [HM.out]
      exact ⟨_, rfl, OwnB.mono HO.out (by have := HS1.out; omega), HB1.out.trans (hb.mono HB1.out.size)⟩

theorem rbuild_any (m : Im.Ct) (vb : Value) (w : World) (hok : m.Ok) (hvb : SeesB w vb m.B) :
    Calls Tryd.prog 19 #[.agg (ctCells m vb)] w fun e w' => ∃ v', e = .returned (.tuple #[v', .int .i64 (Im.bdE m)]) ∧ OwnB w' w.heap.size v' (Im.bdL m) ∧ Below w.heap.size w w' := by
  obtain ⟨w1, hw1⟩ : ∃ w1, w1 = w.alloc (.cells (ctCells m vb) 29) := ⟨_, rfl⟩
  have hb1 : Below w.heap.size w w1 := by rw [hw1]; exact (Below.refl _ _).alloc (Nat.le_refl _) _
  have hs1 : w1.heap.size = w.heap.size + 1 := by rw [hw1]; simp
  have hk1 : w1.heap[w.heap.size]? = some (.cells (ctCells m vb) 29) := by rw [hw1]; exact heap_alloc_new w _
  have HVB := hid hvb
  obtain ⟨ab, nb, capb, rfl, HNB, hnb1, hnb2⟩ := hvb.shape
  unfold maxLen at hnb2
  obtain ⟨d0, d1, d2, d3⟩ := ct_at hk1
  have HOK := hid hok
  have HW1 := hid hw1
  have HB1 := hid hb1
  have HLD : Hid (∀ u, Below w1.heap.size w1 u → (Instr.loadAt 29 (.pointer (some ⟨w.heap.size, 0, none⟩))).run Tryd.prog u = .ok (.agg (ctCells m (.slice ab nb capb))) u) := fun u hu => by
    have hk : u.heap[w.heap.size]? = some (.cells (ctCells m (.slice ab nb capb)) 29) := (hu.block _ (by omega)).trans hk1
    refine run_loadAt_mid u w.heap.size 0 29 (ctCells m (.slice ab nb capb)).toList (.struct _) (fun j v hv => ?_) Tryd.underlying29 rfl (by rw [show (Tryd.prog.info? 29).map (·.size) = some 4 from by kernel_rfl]; rfl)
    rw [Nat.zero_add, cell_of_row _ _ _ _ _ _ hk, ← hv, Array.getElem?_toList]
  by_cases hl : m.B.length ≤ 65507
  · have HE : Hid (Im.bdE m = 0 ∧ Im.bdL m = Im.laid m) := ⟨by unfold Im.bdE; rw [if_neg (by omega)], by unfold Im.bdL; rw [if_neg (by omega)]⟩
    have HR0 := hid (raw_any m (.slice ab nb capb) 0 w1 hok (hvb.below hb1) hl (by decide))
    have HR : Hid (∀ (s : Nat), s < 65536 → ∀ u, Below w1.heap.size w1 u → Calls Tryd.prog 38 #[.agg (ctCells m (.slice ab nb capb)), .int .u16 (s : Int)] u fun e w' => ∃ v', e = .returned v' ∧ OwnB w' u.heap.size v' (Im.msg m s) ∧ Below u.heap.size u w') := fun s hs u hu => raw_any m (.slice ab nb capb) s u HOK.out ((HVB.out.below HB1.out).below hu) hl hs
    have HMB : Hid (∀ x ∈ Im.msg m 0, x < 256) := Im.msg_bytes hok hvb.bytes (by decide)
    have HLAID : Hid (Im.laid m = Im.msg m (M.csum (Im.msg m 0))) := rfl
    have hcl := M.csum_lt (Im.msg m 0)
    have HML : Hid ((Im.msg m 0).length ≤ 65515) := by unfold Hid; rw [Im.msg_len]; omega
    have hnb : nb ≤ 65507 := by have := HNB.out; omega
    clear hw1 hb1 hk1 hvb d0 d1 d2 hl hok HNB
    generalize ctCells m (.slice ab nb capb) = pk at *
    go_enter Tryd.func19, Tryd.ntmps19
    go_upto_region 1 with fail
    rw [← HW1.out]
    have HLD1 := hid (HLD.out _ (Below.refl _ _))
    go_wp2_with (first | (refine wpList_ld 29 ⟨w.heap.size, 0, none⟩ _ rfl rfl HLD1.out rfl ?_) | fail)
    refine HR0.out.mono ?_
    rintro _ w2 ⟨v2, rfl, ho2, hb2⟩
    have hs2 := ho2.sees HMB.out
    have hso := seesBB_one (w := w2) rfl _ _ hs2 26
    have HSM0 := sum_ref _ _ _ hso (by simp; have := HML.out; omega)
    rw [show [Im.msg m 0].flatten = Im.msg m 0 by simp] at HSM0
    have HSM : Hid (Calls Tryd.prog 35 #[.slice (some ⟨w2.heap.size, 0, none⟩) 1 1] (w2.alloc (.cells #[v2] 26)) fun e w' => e = .returned (.int .u16 ((M.csum (Im.msg m 0) : Nat) : Int)) ∧ Below w1.heap.size w1 w') := by
      refine HSM0.mono ?_
      rintro e w' ⟨rfl, hb⟩
      have hbA : Below w2.heap.size w2 (w2.alloc (.cells #[v2] 26)) := (Below.refl w2.heap.size w2).alloc (Nat.le_refl _) _
      exact ⟨rfl, hb2.trans ((hbA.trans (hb.mono hbA.size)).mono hb2.size)⟩
    obtain ⟨a2, n2, c2, rfl, _, _, _⟩ := hs2.shape
    clear HSM0 hso ho2 hb2 hs2 HR0 HLD1
    go_wp2_with fail
    refine HSM.out.mono ?_
    rintro _ w3 ⟨rfl, hb3⟩
    have HLD3 := hid (HLD.out _ hb3)
    have HR3 := hid (HR.out _ hcl w3 hb3)
    rw [← HLAID.out] at HR3
    generalize M.csum (Im.msg m 0) = sm at *
    go_wp2_with (first | (refine wpList_ld 29 ⟨w.heap.size, 0, none⟩ _ rfl rfl HLD3.out rfl ?_) | fail)
    refine HR3.out.mono ?_
    rintro _ w4 ⟨v4, rfl, ho4, hb4⟩
    go_wp2_with fail
    refine bodyPost_ret (results_tmp2 Tryd.results19 _ _ _) rfl ?_
    rw [HE.out.1, HE.out.2]
    have hb34 := hb3.trans (hb4.mono hb3.size)
    exact ⟨_, rfl, OwnB.mono ho4 (by have := hb3.size; have := HB1.out.size; omega), HB1.out.trans (hb34.mono HB1.out.size)⟩
  · have HE : Hid (Im.bdE m = 37 ∧ Im.bdL m = []) := ⟨by unfold Im.bdE; rw [if_pos (by omega)], by unfold Im.bdL; rw [if_pos (by omega)]⟩
    have hnb : ¬ nb ≤ 65507 := by have := HNB.out; omega
    clear hw1 hb1 hk1 hvb d0 d1 d2 hl hok HNB HLD
    generalize ctCells m (.slice ab nb capb) = pk at *
    go_enter Tryd.func19, Tryd.ntmps19
    go_upto_region 1 with fail
    rw [← HW1.out]
    go_wp2_with fail
    refine bodyPost_ret (results_tmp2 Tryd.results19 _ _ _) rfl ?_
    rw [HE.out.1, HE.out.2]
    exact ⟨_, rfl, ownB_nil _ _, HB1.out⟩
end Go.Proofs.YtcboenmmkaochabDoor.N

namespace Go.Proofs.YtcboenmmkaochabDoor.N
open Go.ChangeShapes Go.WideShapes Go.ChangeAt Go.RowKit
set_option maxHeartbeats 2000000
set_option maxRecDepth 100000

theorem rparse_bad (v : Value) (L : List Nat) (w : World) (hv : SeesB w v L) (he : Im.prE L ≠ 0) :
    Calls Tryd.prog 16 #[v] w fun e w' => e = .returned (.tuple #[.agg zeroC, .int .i64 (Im.prE L)]) ∧ Below w.heap.size w w' := by
  obtain ⟨zz, hzz⟩ : ∃ zz : Array Value, zz = zeroC := ⟨_, rfl⟩
  obtain ⟨w1, hw1⟩ : ∃ w1, w1 = (w.alloc (.cells zeroC 29)).alloc (.cells zeroC 29) := ⟨_, rfl⟩
  have hb1 : Below w.heap.size w w1 := by rw [hw1]; exact ((Below.refl _ _).alloc (Nat.le_refl _) _).alloc (by simp) _
  have hs1 : w1.heap.size = w.heap.size + 2 := by rw [hw1]; simp
  have hk0 : w1.heap[w.heap.size]? = some (.cells zeroC 29) := by
    rw [hw1, Below.heap_alloc _ _ _ (by simp)]; exact heap_alloc_new w _
  have hk1 : w1.heap[w.heap.size + 1]? = some (.cells zeroC 29) := by
    rw [hw1]
    have := heap_alloc_new (w.alloc (.cells zeroC 29)) (.cells zeroC 29)
    rwa [World.size_alloc] at this
  have HTH : Hid (∀ u, Below w1.heap.size w1 u → u.there w.heap.size 0 zz.size) := fun u hu => by
    rw [hzz]
    exact there_blk (C := zeroC) (t := 29) ((hu.block _ (by omega)).trans hk0) rfl
  have HLD : Hid (∀ u, Below w1.heap.size w1 u → (Instr.loadAt 29 (.pointer (some ⟨w.heap.size + 1, 0, none⟩))).run Tryd.prog u = .ok (.agg zz) u) := fun u hu => by
    rw [hzz]
    exact ct_load rfl ((hu.block _ (by omega)).trans hk1)
  have HW1 : Hid (w1 = (w.alloc (.cells #[.int .u8 0, .int .u8 0, .int .u32 0, .slice none 0 0] 29)).alloc (.cells #[.int .u8 0, .int .u8 0, .int .u32 0, .slice none 0 0] 29)) := hw1
  have HB1 := hid hb1
  have HONE : Hid (zz.all (·.oneCell') = true) := by unfold Hid; rw [hzz]; simp [zeroC, Value.oneCell']
  have HINF : Hid ((Tryd.prog.info? 29).map (·.size) = some zz.size) := by unfold Hid; rw [hzz]; exact size_ct
  obtain ⟨ao, n, cap, rfl, HN, hn1, hn2⟩ := hv.shape
  unfold maxLen at hn2
  rw [← hzz]
  have HLV : Hid (∀ u, Below w1.heap.size w1 u → (loadVar 29 ⟨w.heap.size, 0, none⟩).run Tryd.prog (u.setCells w.heap.size 0 zz.toList) = .ok (.agg zz) (u.setCells w.heap.size 0 zz.toList)) := fun u hu => load_cell (HTH.out u hu) Tryd.underlying29 HINF.out
  have HBF : Hid (∀ u, Below w1.heap.size w1 u → Below w.heap.size w (u.setCells w.heap.size 0 zz.toList)) := fun u hu => below_setCells (Nat.le_refl _) _ _ _ (HB1.out.trans (hu.mono HB1.out.size))
  have HPE : Hid (Im.prE L = if n < 8 then 30 else if 65515 < n then 37 else if M.csum L = 0 then 0 else 33) := by unfold Hid; rw [HN.out]; rfl
  by_cases h8 : n < 8
  · have HE : Hid (Im.prE L = 30) := by unfold Hid; rw [HPE.out, if_pos h8]
    have h0 := Below.refl w1.heap.size w1
    have HTZ := hid (HTH.out _ h0)
    have HLV := hid (HLV.out _ h0)
    have HBF := hid (HBF.out _ h0)
    have HLD := hid (HLD.out _ h0)
    clear hw1 hb1 hs1 hv he hzz HPE h0 hk0 hk1
    go_enter Tryd.func16, Tryd.ntmps16
    go_upto_region 2 with fail
    rw [← HW1.out]
    go_wp2_with (first
      | (refine wpList_ld 29 ⟨w.heap.size + 1, 0, none⟩ _ rfl rfl HLD.out rfl ?_)
      | (refine wpList_store_mid rfl 29 (.tmp 2) (.tmp 10) rfl w.heap.size 0 zz rfl rfl HTZ.out HINF.out HONE.out ?_)
      | fail)
    generalize w1.setCells w.heap.size 0 zz.toList = wf at HLV HBF ⊢
    refine bodyPost_ret (v := .tuple #[.agg zz, .int .i64 30]) (by simp [results, Tryd.results16, asAddr, HLV.out]) rfl ?_
    exact ⟨by rw [HE.out], HBF.out⟩
  · by_cases hB : 65515 < n
    · have HE : Hid (Im.prE L = 37) := by unfold Hid; rw [HPE.out, if_neg h8, if_pos hB]
      have h0 := Below.refl w1.heap.size w1
      have HTZ := hid (HTH.out _ h0)
      have HLV := hid (HLV.out _ h0)
      have HBF := hid (HBF.out _ h0)
      have HLD := hid (HLD.out _ h0)
      clear hw1 hb1 hs1 hv he hzz HPE h0 hk0 hk1
      go_enter Tryd.func16, Tryd.ntmps16
      go_upto_region 2 with fail
      rw [← HW1.out]
      go_wp2_with (first
        | (refine wpList_ld 29 ⟨w.heap.size + 1, 0, none⟩ _ rfl rfl HLD.out rfl ?_)
        | (refine wpList_store_mid rfl 29 (.tmp 2) (.tmp 14) rfl w.heap.size 0 zz rfl rfl HTZ.out HINF.out HONE.out ?_)
        | fail)
      generalize w1.setCells w.heap.size 0 zz.toList = wf at HLV HBF ⊢
      refine bodyPost_ret (v := .tuple #[.agg zz, .int .i64 37]) (by simp [results, Tryd.results16, asAddr, HLV.out]) rfl ?_
      exact ⟨by rw [HE.out], HBF.out⟩
    · have hc : M.csum L ≠ 0 := fun h => he (by rw [HPE.out, if_neg h8, if_neg hB, if_pos h])
      have HE : Hid (Im.prE L = 33) := by unfold Hid; rw [HPE.out, if_neg h8, if_neg hB, if_neg hc]
      have hs := seesBB_one (w := w1) rfl _ _ (hv.below hb1) 26
      have HSM0 := sum_ref _ _ _ hs (by simp; have := HN.out; omega)
      rw [show [L].flatten = L by simp] at HSM0
      have HSM : Hid (Calls Tryd.prog 35 #[.slice (some ⟨w1.heap.size, 0, none⟩) 1 1] (w1.alloc (.cells #[.slice ao n cap] 26)) fun e w' => e = .returned (.int .u16 ((M.csum L : Nat) : Int)) ∧ Below w1.heap.size w1 w') := by
        refine HSM0.mono ?_
        rintro e w' ⟨rfl, hb⟩
        have hbA : Below w1.heap.size w1 (w1.alloc (.cells #[.slice ao n cap] 26)) := (Below.refl w1.heap.size w1).alloc (Nat.le_refl _) _
        exact ⟨rfl, hbA.trans (hb.mono hbA.size)⟩
      generalize M.csum L = s at *
      have hq : ((s : Int) != 0) = true := by simp; omega
      clear hw1 hb1 hs1 hv he hzz HPE hs HSM0 hc hk0 hk1
      go_enter Tryd.func16, Tryd.ntmps16
      go_upto_region 2 with fail
      rw [← HW1.out]
      go_wp2_with fail
      refine HSM.out.mono ?_
      rintro _ w2 ⟨rfl, hb2⟩
      have HTZ := hid (HTH.out _ hb2)
      have HLV := hid (HLV.out _ hb2)
      have HBF := hid (HBF.out _ hb2)
      have HLD := hid (HLD.out _ hb2)
      go_wp2_with (first
        | (refine wpList_ld 29 ⟨w.heap.size + 1, 0, none⟩ _ rfl rfl HLD.out rfl ?_)
        | (refine wpList_store_mid rfl 29 (.tmp 2) (.tmp 19) rfl w.heap.size 0 zz rfl rfl HTZ.out HINF.out HONE.out ?_)
        | fail)
      generalize w2.setCells w.heap.size 0 zz.toList = wf at HLV HBF ⊢
      refine bodyPost_ret (v := .tuple #[.agg zz, .int .i64 33]) (by simp [results, Tryd.results16, asAddr, HLV.out]) rfl ?_
      exact ⟨by rw [HE.out], HBF.out⟩

theorem conv32 (x : Nat) (hx : x < 4294967296) (u : World) : (convert 3 27 (.int .i64 (x : Int))).run Tryd.prog u = .ok (.int .u32 (x : Int)) u := by
  have h1 : Tryd.prog.underlying 3 = some (.int .i64) := by kernel_rfl
  have h2 : Tryd.prog.underlying 27 = some (.int .u32) := by kernel_rfl
  simp [convert, run_underlying h1, run_underlying h2, go_sem]
  rw [IntKind.wrap_u32]
  omega

theorem ex_conv {P : Program} {o : Oper} {a : Act} {w : World} (S D : TypeId) (x : Operand) (s v : Value) (ho : o.op = .convert S D x) (hx : a.eval x = s) (hr : (convert S D s).run P w = .ok v w) : (execOp a.eval o).run P w = .ok (.value v) w := by
  unfold execOp
  simp only [ho, hx, Sem.run_bind, hr, Result.andThen_ok, Sem.run_pure]

/-- Values of a region with one list of its own among them. -/
def Vo (l : List Value) (base : Nat) (D : List Nat) (p q : Nat) (mk : Value → Value) (i : Nat) (v : Value) (w : World) : Prop :=
  if i = p then OwnB w base v D else if i = q then ∃ vb, v = mk vb ∧ OwnB w base vb D else l[i]? = some v

theorem Vo.keeps (l : List Value) (base : Nat) (D : List Nat) (p q : Nat) (mk : Value → Value) : ∀ (i : Nat) (v : Value) (w w' : World), Vo l base D p q mk i v w → Below w.heap.size w w' → Vo l base D p q mk i v w' := fun i v w w' h hb => by
  unfold Vo at *
  split at h
  · rename_i h1; rw [if_pos h1]; exact h.below hb
  · rename_i h1
    rw [if_neg h1]
    split at h
    · rename_i h2; rw [if_pos h2]
      obtain ⟨vb, e, ho⟩ := h
      exact ⟨vb, e, ho.below hb⟩
    · rename_i h2; rw [if_neg h2]; exact h

theorem Vo.plain {l : List Value} {base : Nat} {D : List Nat} {p q : Nat} {mk : Value → Value} {i : Nat} {v y : Value} {w : World} (h : Vo l base D p q mk i v w) (h1 : i ≠ p) (h2 : i ≠ q) (hy : l[i]? = some y) : v = y := by
  unfold Vo at h
  rw [if_neg h1, if_neg h2, hy] at h
  exact (Option.some.inj h).symm

theorem wp_stillO {P : Program} {o : Oper} {a : Act} {W w : World} {Q : Exit → Act → World → Prop} {l : List Value} {base : Nat} {D : List Nat} {p q : Nat} {mk : Value → Value} {i : Nat} {t : Tmp} {v : Value} (hr : (execOp a.eval o).run P w = .ok (.value v) w) (ht : o.dst = some t) (h1 : i ≠ p) (h2 : i ≠ q) (hv : l[i]? = some v) (hW : Below W.heap.size W w) :
    o.wp P a w (fun a' w' => ∃ v', a' = a.put (some t) v' ∧ Vo l base D p q mk i v' w' ∧ Below W.heap.size W w' ∧ Below w.heap.size w w') Q :=
  wp_val hr (by rw [ht]; exact ⟨v, rfl, by unfold Vo; rw [if_neg h1, if_neg h2]; exact hv, hW, Below.refl _ _⟩)

theorem rparse_good (v : Value) (L : List Nat) (w : World) (hv : SeesB w v L) (he : Im.prE L = 0) :
    Calls Tryd.prog 16 #[v] w fun e w' => ∃ vb, e = .returned (.tuple #[.agg (ctCells (Im.prC L) vb), .int .i64 0]) ∧ SeesB w' vb (Im.prC L).B ∧ (∀ a n c, vb = .slice (some a) n c → w.heap.size ≤ a.block) ∧ Below w.heap.size w w' := by
  have hC : Im.prC L = ⟨byt L 0, byt L 1, Im.rest4 L, L.drop 8⟩ := by unfold Im.prC; rw [if_pos he]; rfl
  have hr4 : Im.rest4 L = (byt L 4 * 256 + byt L 5) * 65536 + (byt L 6 * 256 + byt L 7) := rfl
  rw [hC, hr4]
  obtain ⟨w1, hw1⟩ : ∃ w1, w1 = (w.alloc (.cells zeroC 29)).alloc (.cells zeroC 29) := ⟨_, rfl⟩
  have hb1 : Below w.heap.size w w1 := by rw [hw1]; exact ((Below.refl _ _).alloc (Nat.le_refl _) _).alloc (by simp) _
  have hs1 : w1.heap.size = w.heap.size + 2 := by rw [hw1]; simp
  have hk0 : w1.heap[w.heap.size]? = some (.cells zeroC 29) := by
    rw [hw1, Below.heap_alloc _ _ _ (by simp)]; exact heap_alloc_new w _
  obtain ⟨ao, n, cap, rfl, HN, hn1, hn2⟩ := hv.shape
  unfold maxLen at hn2
  have h8 : 8 ≤ n ∧ n ≤ 65515 ∧ M.csum L = 0 := by
    rw [HN.out]
    unfold Im.prE at he
    split at he
    · cases he
    · split at he
      · cases he
      · split at he
        · omega
        · cases he
  obtain ⟨h8, hB, hc⟩ := h8
  have hs := seesBB_one (w := w1) rfl _ _ (hv.below hb1) 26
  have HSM0 := sum_ref _ _ _ hs (by simp; have := HN.out; omega)
  rw [show [L].flatten = L by simp, hc] at HSM0
  have HSM : Hid (Calls Tryd.prog 35 #[.slice (some ⟨w1.heap.size, 0, none⟩) 1 1] (w1.alloc (.cells #[.slice ao n cap] 26)) fun e w' => e = .returned (.int .u16 0) ∧ Below w1.heap.size w1 w') := by
    refine HSM0.mono ?_
    rintro e w' ⟨rfl, hb⟩
    have hbA : Below w1.heap.size w1 (w1.alloc (.cells #[.slice ao n cap] 26)) := (Below.refl w1.heap.size w1).alloc (Nat.le_refl _) _
    exact ⟨rfl, hbA.trans (hb.mono hbA.size)⟩
  obtain ⟨a8, HS8, hl8⟩ := hv.low 8 8 rfl (by omega)
  obtain ⟨g0, off, rfl, hg0, hc0⟩ := hv.atB 0 (by omega)
  have hcell : ∀ j, j < n → w.cell? ⟨g0, off + j, none⟩ = some (.int .u8 ((byt L j : Nat) : Int)) := fun j hj => by
    obtain ⟨g1, off1, he1, _, hc1⟩ := hv.atB j hj
    simp at he1
    obtain ⟨rfl, rfl⟩ := he1
    exact hc1
  have hlt := fun j => byt_lt hv.bytes j
  have HLL : Hid ((L.drop 8).length ≤ 65535) := by unfold Hid; rw [List.length_drop]; have := HN.out; omega
  have HSV := hid hv
  have HW1 : Hid (w1 = (w.alloc (.cells #[.int .u8 0, .int .u8 0, .int .u32 0, .slice none 0 0] 29)).alloc (.cells #[.int .u8 0, .int .u8 0, .int .u32 0, .slice none 0 0] 29)) := hw1
  have HB1 := hid hb1
  have HTH : Hid (∀ u, Below w1.heap.size w1 u → u.there w.heap.size 0 4) := fun u hu =>
    there_blk (C := zeroC) (t := 29) ((hu.block _ (by omega)).trans hk0) rfl
  have HS1 := hid hs1
  have HCE : Hid (∀ u, Below w1.heap.size w1 u → ∀ j, j < n → u.cell? ⟨g0, off + j, none⟩ = some (.int .u8 ((byt L j : Nat) : Int))) := fun u hu j hj =>
    ((HB1.out.trans (hu.mono HB1.out.size)).cell (p := ⟨g0, off + j, none⟩) hg0).trans (hcell j hj)
  have q4 := hlt 4
  have q5 := hlt 5
  have q6 := hlt 6
  have q7 := hlt 7
  have HC6 : Hid (∀ u, Below w1.heap.size w1 u → u.cell? ⟨g0, off, none⟩ = some (.int .u8 ((byt L 0 : Nat) : Int)) ∧ u.cell? ⟨g0, off + 1, none⟩ = some (.int .u8 ((byt L 1 : Nat) : Int)) ∧ u.cell? ⟨g0, off + 4, none⟩ = some (.int .u8 ((byt L 4 : Nat) : Int)) ∧ u.cell? ⟨g0, off + 5, none⟩ = some (.int .u8 ((byt L 5 : Nat) : Int)) ∧ u.cell? ⟨g0, off + 6, none⟩ = some (.int .u8 ((byt L 6 : Nat) : Int)) ∧ u.cell? ⟨g0, off + 7, none⟩ = some (.int .u8 ((byt L 7 : Nat) : Int))) := fun u hu =>
    ⟨by have := HCE.out u hu 0 (by omega); rwa [Nat.add_zero] at this, HCE.out u hu 1 (by omega), HCE.out u hu 4 (by omega), HCE.out u hu 5 (by omega), HCE.out u hu 6 (by omega), HCE.out u hu 7 (by omega)⟩
  clear hw1 hb1 hs1 hv hs HSM0 hc hC he hk0 hcell hlt hr4 hc0 HCE
  generalize byt L 4 = x4 at *
  generalize byt L 5 = x5 at *
  generalize byt L 6 = x6 at *
  generalize byt L 7 = x7 at *
  generalize byt L 0 = x0 at *
  generalize byt L 1 = x1 at *
  go_enter Tryd.func16, Tryd.ntmps16
  go_upto_region 2 with fail
  rw [← HW1.out]
  go_wp2_with fail
  refine HSM.out.mono ?_
  rintro _ w2 ⟨rfl, hb2⟩
  obtain ⟨d0, d1, d4, d5, d6, d7⟩ := HC6.out w2 hb2
  have b0 : (0 : Int) < (n : Int) := by omega
  have b4 : (4 : Int) < (n : Int) := by omega
  have b5 : (5 : Int) < (n : Int) := by omega
  have b6 : (6 : Int) < (n : Int) := by omega
  have b7 : (7 : Int) < (n : Int) := by omega
  have HB2 := hid hb2
  have HD := hid (And.intro d0 d1)
  clear hb2 HSM HC6 d0 d1
  go_wp2_with fail
  refine wp_loop_rounds 5 ?_
  rw [rounds_succ]
  go_wp2_with fail
  rw [rounds_succ]
  go_wp2_with fail
  rw [rounds_succ]
  go_wp2_with fail
  rw [rounds_succ]
  go_wp2_with fail
  rw [rounds_succ]
  go_wp2_with fail
  obtain ⟨r, hr⟩ : ∃ r : Nat, r = (x4 * 256 + x5) * 65536 + (x6 * 256 + x7) := ⟨_, rfl⟩
  have HR := hid hr
  have hrl : r < 4294967296 := by omega
  rw [show (256 * (256 * (256 * (x4 : Int) + (x5 : Int)) + (x6 : Int)) + (x7 : Int)) = (r : Int) by omega]
  have HCL : Hid (∀ u, Below w2.heap.size w2 u → Calls Tryd.prog 36 #[.slice a8 (n - 8) (cap - 8)] u fun e w' => ∃ v', e = .returned v' ∧ OwnB w' u.heap.size v' (L.drop 8) ∧ Below u.heap.size u w') := fun u hu => by
    have hb := HB1.out.trans ((HB2.out.trans (hu.mono HB2.out.size)).mono HB1.out.size)
    exact clone6_any _ (L.drop 8) u (HS8.out.below hb) (by have := HLL.out; omega)
  have HBS : Hid (∀ x ∈ L.drop 8, x < 256) := fun x hx => HSV.out.bytes x (List.mem_of_mem_drop hx)
  clear d4 d5 d6 d7 hr
  refine wp_region_mono' 12 (fun i => 32 + i) (Vo [.slice (some ⟨g0, off, none⟩) n cap, .pointer (some ⟨g0, off, none⟩), .int .u8 (x0 : Int), .slice (some ⟨g0, off, none⟩) n cap, .pointer (some ⟨g0, off + 1, none⟩), .int .u8 (x1 : Int), .int .i64 (r : Int), .int .u32 (r : Int), .slice (some ⟨g0, off, none⟩) n cap, .slice a8 (n - 8) (cap - 8)] w2.heap.size (L.drop 8) 10 11 (fun vb => .agg #[.int .u8 (x0 : Int), .int .u8 (x1 : Int), .int .u32 (r : Int), vb])) (by kernel_rfl) (by kernel_rfl) (Vo.keeps _ _ _ _ _ _) ?_ ?_
  · simp only [List.take_succ_cons, List.take_zero, stepsOk]
    refine ⟨?_, ?_, ?_, ?_, ?_, ?_, ?_, ?_, ?_, ?_, ?_, ?_, trivial⟩
    · intro a u vs hb hold hdep
      exact wp_stillO (ex_move (.tmp 0) _ rfl (hold 0 (fun j _ => low (by decide)))) rfl (by decide) (by decide) rfl hb
    · intro a u vs hb hold hdep
      have h := hdep ⟨0, .data⟩ (by simp) rfl (by decide)
      exact wp_stillO (ex_index _ _ _ _ _ _ rfl (h.1.trans (h.2.plain (by decide) (by decide) rfl)) rfl (idx_at n cap g0 off 0 0 rfl (by omega) u)) rfl (by decide) (by decide) rfl hb
    · intro a u vs hb hold hdep
      have h := hdep ⟨1, .data⟩ (by simp) rfl (by decide)
      exact wp_stillO (ex_load _ _ _ _ rfl (h.1.trans (h.2.plain (by decide) (by decide) rfl)) (load_u8 ((hb.cell (p := ⟨g0, _, none⟩) (World.block_lt_of_cell? w2 _ HD.out.1)).trans HD.out.1))) rfl (by decide) (by decide) rfl hb
    · intro a u vs hb hold hdep
      exact wp_stillO (ex_move (.tmp 0) _ rfl (hold 0 (fun j _ => low (by decide)))) rfl (by decide) (by decide) rfl hb
    · intro a u vs hb hold hdep
      have h := hdep ⟨3, .data⟩ (by simp) rfl (by decide)
      exact wp_stillO (ex_index _ _ _ _ _ _ rfl (h.1.trans (h.2.plain (by decide) (by decide) rfl)) rfl (idx_at n cap g0 off 1 1 rfl (by omega) u)) rfl (by decide) (by decide) rfl hb
    · intro a u vs hb hold hdep
      have h := hdep ⟨4, .data⟩ (by simp) rfl (by decide)
      exact wp_stillO (ex_load _ _ _ _ rfl (h.1.trans (h.2.plain (by decide) (by decide) rfl)) (load_u8 ((hb.cell (p := ⟨g0, _, none⟩) (World.block_lt_of_cell? w2 _ HD.out.2)).trans HD.out.2))) rfl (by decide) (by decide) rfl hb
    · intro a u vs hb hold hdep
      exact wp_stillO (ex_move (.tmp 5) _ rfl (hold 5 (fun j _ => low (by decide)))) rfl (by decide) (by decide) rfl hb
    · intro a u vs hb hold hdep
      have h := hdep ⟨6, .data⟩ (by simp) rfl (by decide)
      exact wp_stillO (ex_conv _ _ _ _ _ rfl (h.1.trans (h.2.plain (by decide) (by decide) rfl)) (conv32 r hrl u)) rfl (by decide) (by decide) rfl hb
    · intro a u vs hb hold hdep
      exact wp_stillO (ex_move (.tmp 0) _ rfl (hold 0 (fun j _ => low (by decide)))) rfl (by decide) (by decide) rfl hb
    · intro a u vs hb hold hdep
      have h := hdep ⟨8, .data⟩ (by simp) rfl (by decide)
      exact wp_stillO (ex_cut _ _ _ _ _ _ rfl (h.1.trans (h.2.plain (by decide) (by decide) rfl)) rfl (hl8 u)) rfl (by decide) (by decide) rfl hb
    · intro a u vs hb hold hdep
      have h := hdep ⟨9, .data⟩ (by simp) rfl (by decide)
      have e1 : a.eval (.tmp 41) = .slice a8 (n - 8) (cap - 8) := h.1.trans (h.2.plain (by decide) (by decide) rfl)
      refine wp_call 36 _ _ rfl (enters_of Tryd.func36 (by kernel_rfl) rfl) #[.slice a8 (n - 8) (cap - 8)] (by simp only [List.map_toArray, List.map_cons, List.map_nil, e1]) ?_
      refine (HCL.out u hb).mono ?_
      rintro _ u' ⟨v', rfl, ho, hb'⟩
      exact ⟨_, rfl, _, rfl, (by unfold Vo; rw [if_pos rfl]; exact OwnB.mono ho hb.size), hb.trans (hb'.mono hb.size), hb'⟩
    · intro a u vs hb hold hdep
      have h2 := hdep ⟨2, .data⟩ (by simp) rfl (by decide)
      have h5 := hdep ⟨5, .data⟩ (by simp) rfl (by decide)
      have h7 := hdep ⟨7, .data⟩ (by simp) rfl (by decide)
      have h10 := hdep ⟨10, .data⟩ (by simp) rfl (by decide)
      have e2 : a.eval (.tmp 34) = .int .u8 (x0 : Int) := h2.1.trans (h2.2.plain (by decide) (by decide) rfl)
      have e5 : a.eval (.tmp 37) = .int .u8 (x1 : Int) := h5.1.trans (h5.2.plain (by decide) (by decide) rfl)
      have e7 : a.eval (.tmp 39) = .int .u32 (r : Int) := h7.1.trans (h7.2.plain (by decide) (by decide) rfl)
      have ho : OwnB u w2.heap.size (vs 10) (L.drop 8) := by have := h10.2; unfold Vo at this; rwa [if_pos rfl] at this
      obtain ⟨a1, n1, c1, hvv, _, _, _⟩ := (ho.sees HBS.out).shape
      have e10 : a.eval (.tmp 42) = .slice a1 n1 c1 := h10.1.trans hvv
      rw [hvv] at ho
      exact wp_val (ex_build _ _ #[(0, .int .u8 (x0 : Int)), (1, .int .u8 (x1 : Int)), (2, .int .u32 (r : Int)), (3, .slice a1 n1 c1)] (.agg #[.int .u8 (x0 : Int), .int .u8 (x1 : Int), .int .u32 (r : Int), .slice a1 n1 c1]) rfl (by simp only [List.map_toArray, List.map_cons, List.map_nil, e2, e5, e7, e10]) (build_ct _ _ _ _ _ _ u))
        ⟨_, rfl, (by unfold Vo; rw [if_neg (by decide), if_pos rfl]; exact ⟨_, rfl, ho⟩), hb, Below.refl _ _⟩
  intro vs u hb hF
  have e0 := (hF 0 (by decide)).plain (by decide) (by decide) rfl
  have e1 := (hF 1 (by decide)).plain (by decide) (by decide) rfl
  have e2 := (hF 2 (by decide)).plain (by decide) (by decide) rfl
  have e3 := (hF 3 (by decide)).plain (by decide) (by decide) rfl
  have e4 := (hF 4 (by decide)).plain (by decide) (by decide) rfl
  have e5 := (hF 5 (by decide)).plain (by decide) (by decide) rfl
  have e6 := (hF 6 (by decide)).plain (by decide) (by decide) rfl
  have e7 := (hF 7 (by decide)).plain (by decide) (by decide) rfl
  have e8 := (hF 8 (by decide)).plain (by decide) (by decide) rfl
  have e9 := (hF 9 (by decide)).plain (by decide) (by decide) rfl
  obtain ⟨vb, e11, ho⟩ : ∃ vb, vs 11 = .agg #[.int .u8 (x0 : Int), .int .u8 (x1 : Int), .int .u32 (r : Int), vb] ∧ OwnB u w2.heap.size vb (L.drop 8) := by
    have := hF 11 (by decide)
    unfold Vo at this
    rwa [if_neg (by decide), if_pos rfl] at this
  obtain ⟨a1, n1, c1, rfl, _, _, _⟩ := (ho.sees HBS.out).shape
  obtain ⟨zz, hzz⟩ : ∃ zz : Array Value, zz = #[.int .u8 (x0 : Int), .int .u8 (x1 : Int), .int .u32 (r : Int), .slice a1 n1 c1] := ⟨_, rfl⟩
  rw [← hzz] at e11
  simp only [List.drop_succ_cons, List.drop_zero, puts, List.range, List.range.loop, List.foldr, if_true, Act.put, e0, e1, e2, e3, e4, e5, e6, e7, e8, e9, e11, Nat.reduceAdd, List.setIfInBounds_toArray, List.set_cons_succ, List.set_cons_zero]
  generalize vs 10 = v10
  clear e0 e1 e2 e3 e4 e5 e6 e7 e8 e9 e11 hF
  have HZ := hid hzz
  have HONE : Hid (zz.all (·.oneCell') = true) := by unfold Hid; rw [hzz]; simp [Value.oneCell']
  have HINF : Hid ((Tryd.prog.info? 29).map (·.size) = some zz.size) := by unfold Hid; rw [hzz]; exact size_ct
  have hb12 := HB2.out.trans (hb.mono HB2.out.size)
  have HTU : Hid (u.there w.heap.size 0 zz.size) := by unfold Hid; rw [hzz]; exact HTH.out _ hb12
  have HLV := hid (load_cell HTU.out Tryd.underlying29 HINF.out)
  have HBF := hid (below_setCells (Nat.le_refl _) zz.toList 0 u (HB1.out.trans (hb12.mono HB1.out.size)))
  have HSF : Hid (SeesB (u.setCells w.heap.size 0 zz.toList) (.slice a1 n1 c1) (L.drop 8)) := by
    refine sees_setI (ho.sees HBS.out) (fun a ha => ?_)
    have h1 := (World.ownsRow.lt ho a.block (by rw [ha]; rfl)).1
    have := HB2.out.size
    have := HS1.out
    omega
  have HNEW : Hid (∀ a n c, (Value.slice a1 n1 c1) = .slice (some a) n c → w.heap.size ≤ a.block) := fun a n c e => by
    have h1 := (World.ownsRow.lt ho a.block (by rw [e]; rfl)).1
    have := HB2.out.size
    have := HS1.out
    omega
  clear hzz ho hb12
  go_wp2_with (first
    | (refine wpList_store_mid rfl 29 (.tmp 2) (.tmp 43) rfl w.heap.size 0 zz rfl rfl HTU.out HINF.out HONE.out ?_)
    | fail)
  generalize u.setCells w.heap.size 0 zz.toList = wf at HLV HBF HSF ⊢
  refine bodyPost_ret (v := .tuple #[.agg zz, .int .i64 0]) (by simp [results, Tryd.results16, asAddr, HLV.out]) rfl ?_
  exact ⟨_, by rw [HZ.out, HR.out]; rfl, HSF.out, HNEW.out, HBF.out⟩

theorem rparse_any (v : Value) (L : List Nat) (w : World) (hv : SeesB w v L) :
    Calls Tryd.prog 16 #[v] w fun e w' => ∃ ao n cap, e = .returned (.tuple #[.agg (ctCells (Im.prC L) (.slice ao n cap)), .int .i64 (Im.prE L)]) ∧ SeesB w' (.slice ao n cap) (Im.prC L).B ∧ (∀ a, ao = some a → w.heap.size ≤ a.block) ∧ Below w.heap.size w w' := by
  by_cases he : Im.prE L = 0
  · refine (rparse_good v L w hv he).mono ?_
    rintro e w' ⟨vb, rfl, hs, hn, hb⟩
    rw [he]
    obtain ⟨a1, n1, c1, rfl, _, _, _⟩ := hs.shape
    exact ⟨_, _, _, rfl, hs, (fun a ha => hn a n1 c1 (by rw [ha])), hb⟩
  · refine (rparse_bad v L w hv he).mono ?_
    rintro e w' ⟨rfl, hb⟩
    have hc : Im.prC L = Im.none0 := by unfold Im.prC; rw [if_neg he]
    rw [hc]
    exact ⟨none, 0, 0, rfl, sees_nil _, (fun a ha => by cases ha), hb⟩
end Go.Proofs.YtcboenmmkaochabDoor.N

namespace Go.Proofs.YtcboenmmkaochabDoor.N
open Go.ChangeShapes Go.WideShapes Go.ChangeAt Go.RowKit
set_option maxHeartbeats 400000
set_option maxRecDepth 100000

def Z58i : Array Value := #[.int .i64 0, .slice none 0 0, .int .u8 0, .int .u8 0, .int .u32 0, .slice none 0 0, .int .u8 0, .int .u16 0, .bool false, .bool false, .int .i64 0, .int .u8 0, .int .u8 0, .int .u32 0, .int .u32 0, .slice none 0 0, .slice none 0 0, .int .u8 0, .int .u8 0, .int .i64 0, .int .u32 0]

theorem und58i : ∃ fs, Tryd.prog.underlying 37 = some (.struct fs) := ⟨_, Tryd.underlying37⟩
theorem size58i : (Tryd.prog.info? 37).map (·.size) = some 21 := by kernel_rfl

theorem range_load58i {w : World} {b o : Nat} {cs : List Value} (h : w.rangeAt b o cs) (hl : cs.length = 21) : (Instr.loadAt 37 (.pointer (some ⟨b, o, none⟩))).run Tryd.prog w = .ok (.agg cs.toArray) w := by
  obtain ⟨fs, hu⟩ := und58i
  exact run_loadAt_mid w b o 37 cs (.struct fs) h hu rfl (by rw [size58i, hl])

/-- The cells of a step, and its kind. -/
structure StepI (cs : List Value) (k : Int) : Prop where
  len : cs.length = 21
  kind : cs[0]? = some (.int .i64 k)
  one : ∀ v ∈ cs, v.oneCell' = true
  lo : -9223372036854775808 ≤ k
  hi : k ≤ 9223372036854775807

/-- The slice value v shows the steps L. -/
def SeesP (w : World) (v : Value) (L : List (List Value × Int)) : Prop :=
  ∃ ao cap, v = .slice ao L.length cap ∧ L.length ≤ cap ∧ cap ≤ maxLen ∧
    ∀ j (h : j < L.length), StepI L[j].1 L[j].2 ∧ ∃ g off, ao = some ⟨g, off, none⟩ ∧ g < w.heap.size ∧ w.rangeAt g (off + j * 21) L[j].1

set_option maxHeartbeats 2000000 in
theorem upTo6_any (v : Value) (lo hi : Nat) (L : List (List Value × Int)) (w : World) (hv : SeesP w v L) (_hlo : lo ≤ 10) (hhi : hi ≤ 10) (hlh : lo ≤ hi)
    (hh : ∀ k : Nat, lo ≤ k → k ≤ hi → ∀ u, Below w.heap.size w u → Calls Tryd.prog 10 #[.int .i64 (k : Int)] u fun e w' => e = .returned (.bool true) ∧ Below u.heap.size u w')
    (hp : ∀ j (h : j < L.length), (lo : Int) ≤ L[j].2 → L[j].2 ≤ (hi : Int) → ∀ u, Below w.heap.size w u → Calls Tryd.prog 11 #[.agg L[j].1.toArray] u fun e w' => e = .returned (.bool true) ∧ Below u.heap.size u w') :
    Calls Tryd.prog 9 #[v, .int .i64 (lo : Int), .int .i64 (hi : Int)] w fun e w' => e = .returned (.bool true) ∧ Below w.heap.size w w' := by
  obtain ⟨ao, cap, rfl, hnc, hcap, hcell⟩ := hv
  have HC := hid hcell
  have HH := hid hh
  have HP := hid hp
  obtain ⟨n, hn⟩ : ∃ n, n = L.length := ⟨_, rfl⟩
  rw [← hn] at hnc ⊢
  have HN := hid hn
  unfold maxLen at hcap
  clear hcell hh hp hn
  go_enter Tryd.func9, Tryd.ntmps9
  go_wp2_with fail
  go_loopw [7] (fun i wr => ∃ k : Nat, i = .int .i64 k ∧ lo ≤ k ∧ k ≤ hi + 1 ∧ Below w.heap.size w wr) (fun i _ => hi + 1 - (intOf i).toNat)
  case atStart => exact ⟨lo, rfl, by omega, by omega, Below.refl _ _⟩
  case round =>
    obtain ⟨k, rfl, hk1, hk2, hb⟩ := hrel
    by_cases hle : k ≤ hi
    · go_wp2_with fail
      refine (HH.out k hk1 hle _ hb).mono ?_
      rintro _ w1 ⟨rfl, hb1⟩
      have hb2 := hb.trans (hb1.mono hb.size)
      clear hb1
      go_wp2_with fail
      go_roundw
      case rel => exact ⟨k + 1, by go_num, by omega, by omega, hb2⟩
      case measure => simp [intOf]; omega
    · go_wp2_with fail
      go_loopw [8, 9] (fun i _ wv => ∃ (j : Nat) (wr : World), i = .int .i64 j ∧ j ≤ n ∧ wr = wv ∧ Below w.heap.size w wr) (fun i _ _ => n - (intOf i).toNat)
      case atStart => exact ⟨0, _, rfl, by omega, rfl, hb⟩
      case round =>
        clear hb
        obtain ⟨j, wr, rfl, hj, rfl, hbr⟩ := hrel
        by_cases hjn : j < n
        case neg =>
          go_wp2_with fail
          go_ret
          exact ⟨rfl, hbr⟩
        obtain ⟨hst, g, off, rfl, hg, hrange⟩ := HC.out j (by have := HN.out; omega)
        have HPJ := hid (HP.out j (by have := HN.out; omega))
        generalize L[j]'(by have := HN.out; omega) = ck at hst hrange HPJ
        obtain ⟨cs, kd⟩ := ck
        simp only at hst hrange HPJ
        obtain ⟨hl, hkd, hone, hk3, hk4⟩ := hst
        obtain ⟨wz, hwz⟩ : ∃ wz, wz = wr.alloc (.cells Z58i 37) := ⟨_, rfl⟩
        have hrow : wz.heap[wr.heap.size]? = some (.cells Z58i 37 (0, 0)) := by rw [hwz]; exact heap_alloc_new wr _
        have hth : wz.there wr.heap.size 0 cs.toArray.size := fun i hi => by
          have hi' : i < 21 := by simpa [hl] using hi
          refine ⟨?_, by rw [Nat.zero_add]; exact frozen_of_row _ _ _ _ _ hrow⟩
          rw [Nat.zero_add, cell_of_row _ _ _ _ _ _ hrow, Array.getElem?_eq_getElem (by exact hi' : i < Z58i.size)]; rfl
        have hinf : (Tryd.prog.info? 37).map (·.size) = some cs.toArray.size := by rw [size58i]; simp [hl]
        obtain ⟨w2, hw2⟩ : ∃ w2, w2 = wz.setCells wr.heap.size 0 cs := ⟨_, rfl⟩
        have hrg2 : w2.rangeAt wr.heap.size 0 cs := by rw [hw2]; exact World.rangeAt_setCells_same wz _ 0 _ (by simpa using hth)
        have hb12 : Below wr.heap.size wr w2 := by
          rw [hw2]; refine below_setCells (Nat.le_refl _) _ _ _ ?_
          rw [hwz]; exact (Below.refl _ _).alloc (Nat.le_refl _) _
        have hbr2 : Below w.heap.size w w2 := hbr.trans (hb12.mono hbr.size)
        have HLD0 := hid (range_load58i (range_below hrange hbr) hl)
        have HLD2 := hid (range_load58i hrg2 hl)
        have c0 : w2.cell? ⟨wr.heap.size, 0, none⟩ = some (.int .i64 kd) := hrg2 0 _ hkd
        have HONE := hid (all_oneCell_toArray hone)
        have HTH := hid hth
        have HINF := hid hinf
        have HW2 := hid hw2
        have HWZ := hid hwz
        have HBR2 := hid hbr2
        clear hwz hrow hth hinf hw2 hrg2 hb12 hbr2 hrange hl hkd hone hbr
        unfold Z58i at HWZ
        have hj0 : (0 : Int) ≤ (j : Int) := by omega
        have hj1 : (j : Int) < (n : Int) := by omega
        go_upto_region 10 with (first
          | (refine wpList_ld 37 ⟨g, off + j * 21, none⟩ (.tmp 27) rfl rfl HLD0.out rfl ?_)
          | (refine wpList_store_mid rfl 37 (.tmp 9) (.tmp 28) rfl wr.heap.size 0 cs.toArray rfl rfl (by rw [← HWZ.out]; exact HTH.out) HINF.out HONE.out ?_)
          | fail)
        rw [← HWZ.out, ← HW2.out]
        by_cases h1 : (lo : Int) ≤ kd
        · by_cases h2 : kd ≤ (hi : Int)
          · go_wp2_with (first | (refine wpList_ld 37 ⟨wr.heap.size, 0, none⟩ (.tmp 9) rfl rfl HLD2.out rfl ?_) | fail)
            refine (HPJ.out h1 h2 _ HBR2.out).mono ?_
            rintro _ w3 ⟨rfl, hb3⟩
            have hb4 := HBR2.out.trans (hb3.mono HBR2.out.size)
            clear hb3
            go_wp2_with fail
            go_roundw
            case rel => exact ⟨j + 1, w3, by go_num, by omega, rfl, hb4⟩
            case measure => simp [intOf]; omega
          · go_wp2_with fail
            go_roundw
            case rel => exact ⟨j + 1, w2, by go_num, by omega, rfl, HBR2.out⟩
            case measure => simp [intOf]; omega
        · go_wp2_with fail
          go_roundw
          case rel => exact ⟨j + 1, w2, by go_num, by omega, rfl, HBR2.out⟩
          case measure => simp [intOf]; omega
end Go.Proofs.YtcboenmmkaochabDoor.N

namespace Go.Proofs.YtcboenmmkaochabDoor.N
open Go.ChangeShapes Go.WideShapes Go.ChangeAt Go.RowKit
set_option maxHeartbeats 1000000
set_option maxRecDepth 100000

theorem hd_row {u : World} {n : Nat} {h : Hd} {vo : Value} (hb : u.heap[n]? = some (.cells (hdCells h vo) 33 (0, 0))) (i : Nat) (hi : i < 10) : u.cell? ⟨n, i, none⟩ = some ((hdCells h vo)[i]'hi) := by
  rw [cell_of_row _ _ _ _ _ _ hb, Array.getElem?_eq_getElem hi]

/-- heads: the same header on both sides. -/
theorem heads_same (h : Hd) (va vb : Value) (w : World) (ha : SeesB w va h.opts) (hb : SeesB w vb h.opts) :
    Calls Tryd.prog 27 #[.agg (hdCells h va), .agg (hdCells h vb)] w fun e w' => e = .returned (.bool true) ∧ Below w.heap.size w w' := by
  obtain ⟨w1, hw1⟩ : ∃ w1, w1 = (w.alloc (.cells (hdCells h va) 33)).alloc (.cells (hdCells h vb) 33) := ⟨_, rfl⟩
  have hb1 : Below w.heap.size w w1 := by rw [hw1]; exact ((Below.refl _ _).alloc (Nat.le_refl _) _).alloc (by simp) _
  have HS := hid (same_any va vb h.opts h.opts w1 (ha.below hb1) (hb.below hb1))
  obtain ⟨a1, n1, c1, rfl, _, _, _⟩ := ha.shape
  obtain ⟨a2, n2, c2, rfl, _, _, _⟩ := hb.shape
  have HW1 := hid hw1
  have HB1 := hid hb1
  clear hw1 hb1 ha hb
  obtain ⟨tos, id, df, mf, off, ttl, proto, src, dst, opts⟩ := h
  unfold hdCells at *
  simp only at *
  go_enter Tryd.func27, Tryd.ntmps27
  go_wp2_with fail
  rw [← HW1.out]
  refine HS.out.mono ?_
  rintro _ w2 ⟨rfl, hb2⟩
  go_wp2_with fail
  go_ret
  exact ⟨ret_bool (by simp), HB1.out.trans (hb2.mono HB1.out.size)⟩

/-- packets: the same packet on both sides. -/
theorem packets_same (h : Hd) (B : List Nat) (va vb xa xb : Value) (w : World) (ha : SeesB w va h.opts) (hb : SeesB w vb h.opts) (ka : SeesB w xa B) (kb : SeesB w xb B) :
    Calls Tryd.prog 22 #[.agg (pkCells h va xa), .agg (pkCells h vb xb)] w fun e w' => e = .returned (.bool true) ∧ Below w.heap.size w w' := by
  obtain ⟨w1, hw1⟩ : ∃ w1, w1 = (w.alloc (.cells (pkCells h va xa) 35)).alloc (.cells (pkCells h vb xb) 35) := ⟨_, rfl⟩
  have hb1 : Below w.heap.size w w1 := by rw [hw1]; exact ((Below.refl _ _).alloc (Nat.le_refl _) _).alloc (by simp) _
  have hs1 : w1.heap.size = w.heap.size + 2 := by rw [hw1]; simp
  have HB0 : Hid (∀ u, Below w1.heap.size w1 u → u.heap[w.heap.size]? = some (.cells (pkCells h va xa) 35)) := fun u hu => by
    have h1 : Below (w.heap.size + 1) (w.alloc (.cells (pkCells h va xa) 35)) w1 := by rw [hw1]; exact (Below.refl _ _).alloc (by simp) _
    rw [hu.block _ (by omega), h1.block _ (by omega)]
    exact heap_alloc_new w _
  have HB2 : Hid (∀ u, Below w1.heap.size w1 u → u.heap[w.heap.size + 1]? = some (.cells (pkCells h vb xb) 35)) := fun u hu => by
    rw [hu.block _ (by omega), hw1]
    have := heap_alloc_new (w.alloc (.cells (pkCells h va xa) 35)) (.cells (pkCells h vb xb) 35)
    rw [World.size_alloc] at this
    exact this
  have HL0 := hid (pk_loadH (HB0.out _ (Below.refl _ _)))
  have HL1 := hid (pk_loadH (HB2.out _ (Below.refl _ _)))
  have HH := hid (heads_same h va vb w1 (ha.below hb1) (hb.below hb1))
  have HSM : Hid (∀ u, Below w1.heap.size w1 u → Calls Tryd.prog 20 #[xa, xb] u fun e w' => e = .returned (.bool true) ∧ Below u.heap.size u w') := fun u hu => by
    have hbu := hb1.trans (hu.mono hb1.size)
    have := same_any xa xb B B u (ka.below hbu) (kb.below hbu)
    rw [decide_eq_true (rfl : B = B)] at this
    exact this
  have HC0 : Hid (∀ u, Below w1.heap.size w1 u → u.cell? ⟨w.heap.size, 10, none⟩ = some xa ∧ u.cell? ⟨w.heap.size + 1, 10, none⟩ = some xb) := fun u hu => ⟨pk_at (HB0.out _ hu) 10 (by omega), pk_at (HB2.out _ hu) 10 (by omega)⟩
  obtain ⟨a1, n1, c1, rfl, _, _, _⟩ := ka.shape
  obtain ⟨a2, n2, c2, rfl, _, _, _⟩ := kb.shape
  have HW1 := hid hw1
  have HB1 := hid hb1
  generalize hdCells h va = ca at *
  generalize hdCells h vb = cb at *
  generalize pkCells h va (.slice a1 n1 c1) = pa at *
  generalize pkCells h vb (.slice a2 n2 c2) = pb at *
  clear hw1 hb1 ha hb ka kb HB0 HB2 hs1
  go_enter Tryd.func22, Tryd.ntmps22
  go_upto_region 1 with fail
  rw [← HW1.out]
  go_wp2_with (first
    | (refine wpList_ld 33 ⟨w.heap.size, 0, none⟩ (.tmp 5) rfl rfl HL0.out rfl ?_)
    | (refine wpList_ld 33 ⟨w.heap.size + 1, 0, none⟩ (.tmp 7) rfl rfl HL1.out rfl ?_)
    | fail)
  refine HH.out.mono ?_
  rintro _ w2 ⟨rfl, hb2⟩
  obtain ⟨e0, e1⟩ := HC0.out _ hb2
  go_wp2_with fail
  refine (HSM.out _ hb2).mono ?_
  rintro _ w3 ⟨rfl, hb3⟩
  go_wp2_with fail
  go_ret
  exact ⟨rfl, HB1.out.trans ((hb2.trans (hb3.mono hb2.size)).mono HB1.out.size)⟩
end Go.Proofs.YtcboenmmkaochabDoor.N

namespace Go.Proofs.YtcboenmmkaochabDoor.N
open Go.ChangeShapes Go.WideShapes Go.ChangeAt Go.RowKit
set_option maxHeartbeats 1000000
set_option maxRecDepth 100000

theorem bit5 (x : Nat) : ((x : Int) / 32 % 2 == 1) = decide (x / 32 % 2 = 1) := by
  rw [Bool.eq_iff_iff]; simp; omega
theorem bit6 (x : Nat) (hx : x < 128) : ((x : Int) / 32 / 2 == 1) = decide (x / 64 % 2 = 1) := by
  rw [Bool.eq_iff_iff]; simp; omega

theorem read_bad (v : Value) (L : List Nat) (whole : Bool) (w : World) (hv : SeesB w v L) (hl : L.length ≤ 140737488355328) (he : (exam L whole).2.2 ≠ 0) :
    Calls Tryd.prog 69 #[v, .bool whole] w fun e w' => e = .returned (.tuple #[.agg Z29, .int .i64 (exam L whole).2.2]) ∧ Below w.heap.size w w' := by
  obtain ⟨w1, hw1⟩ : ∃ w1, w1 = (w.alloc (.cells Z29 35)).alloc (.cells Z29 35) := ⟨_, rfl⟩
  have hs1 : w1.heap.size = w.heap.size + 2 := by rw [hw1]; simp
  have hb1 : Below w.heap.size w w1 := by rw [hw1]; exact ((Below.refl _ _).alloc (Nat.le_refl _) _).alloc (by simp) _
  have HENDS : Hid (∀ u, Below (w.heap.size + 2) w1 u → Ends w Z29 u) := fun u hu => by rw [hw1] at hu; exact ends_any hu
  have HLEN := hid (lens_ref v L whole w1 (hv.below hb1) hl)
  obtain ⟨ao, n, cap, rfl, HN, hn1, hn2⟩ := hv.shape
  have HBY := hid hv.bytes
  unfold maxLen at hn2
  obtain ⟨R, hR⟩ : ∃ R, R = (exam L whole).2.2 := ⟨_, rfl⟩
  have HR : Hid (R = (exam L whole).2.2) := hR
  have HRN : Hid (R ≠ 0) := by unfold Hid; rw [hR]; exact he
  rw [← hR]
  unfold exam at HR
  obtain ⟨zz, hzz⟩ : ∃ zz : Array Value, zz = Z29 := ⟨_, rfl⟩
  rw [← hzz] at HENDS ⊢
  have HONE : Hid (zz.all (·.oneCell') = true) := by unfold Hid; rw [hzz]; simp [Z29, Value.oneCell']
  have HINF : Hid ((Tryd.prog.info? 35).map (·.size) = some zz.size) := by unfold Hid; rw [hzz]; exact size29'
  have HW1 : Hid (w1 = (w.alloc (.cells #[.int .u8 0, .int .u16 0, .bool false, .bool false, .int .i64 0, .int .u8 0, .int .u8 0, .int .u32 0, .int .u32 0, .slice none 0 0, .slice none 0 0] 35)).alloc (.cells #[.int .u8 0, .int .u16 0, .bool false, .bool false, .int .i64 0, .int .u8 0, .int .u8 0, .int .u32 0, .int .u32 0, .slice none 0 0, .slice none 0 0] 35)) := hw1
  have HS1 := hid hs1
  have HB1 := hid hb1
  have HSV := hid hv
  clear hR he hw1 hzz hs1 hb1 hv
  rw [HS1.out] at HLEN
  by_cases h1 : (lens L whole).2.2 = 0
  case neg =>
    have HRE : Hid (R = (lens L whole).2.2) := by unfold Hid; rw [HR.out, if_pos h1]
    generalize lens L whole = t at *
    obtain ⟨h, l, z⟩ := t
    simp only at *
    have hq : (z != 0) = true := by simp [h1]
    clear HR h1
    go_enter Tryd.func69, Tryd.ntmps69
    go_upto_region 2 with fail
    rw [← HW1.out]
    go_wp2_with fail
    refine HLEN.out.mono ?_
    rintro _ w2 ⟨rfl, hb2⟩
    have HEN := hid (HENDS.out _ hb2)
    clear HENDS HLEN hb2
    go_wp2_with (first
      | (refine wpList_ld 35 ⟨w.heap.size + 1, 0, none⟩ (.tmp 6) rfl rfl HEN.out.ld rfl ?_)
      | (refine wpList_store_mid rfl 35 (.tmp 4) (.tmp 22) rfl w.heap.size 0 zz rfl rfl HEN.out.th HINF.out HONE.out ?_)
      | fail)
    have HLV := hid HEN.out.lv
    have HBF := hid HEN.out.bf
    generalize w2.setCells w.heap.size 0 zz.toList = wf at HLV HBF ⊢
    refine bodyPost_ret (v := .tuple #[.agg zz, .int .i64 z]) (by simp [results, Tryd.results69, asAddr, HLV.out]) rfl ?_
    exact ⟨by rw [HRE.out], HBF.out⟩
  obtain ⟨a1, a2, a3, a4, a5, a6, a7⟩ := lens_ok h1
  have hl16 := w16_lt HBY.out 2
  rw [← a7] at hl16
  rw [if_neg (by simp [h1])] at HR
  clear a5 a6 a7
  obtain ⟨ah, HSH, hhigh⟩ := HSV.out.high (lens L whole).1 ((lens L whole).1 : Int) rfl (by have := HN.out; omega)
  have HRE : Hid (R = hdE (L.take (lens L whole).1) ((lens L whole).2.1 - (lens L whole).1)) := by
    have h2 : hdE (L.take (lens L whole).1) ((lens L whole).2.1 - (lens L whole).1) ≠ 0 := fun e => HRN.out (by rw [HR.out, if_neg (by simp [e]), h1])
    unfold Hid; rw [HR.out, if_pos h2]
  rw [h1] at HLEN
  unfold hdE at HRE
  generalize lens L whole = t at *
  obtain ⟨h, l, z⟩ := t
  simp only at *
  clear HR h1
  have HSUM : Hid (∀ u, Below (w.heap.size + 2) w1 u → Calls Tryd.prog 35 #[.slice (some ⟨u.heap.size, 0, none⟩) 1 1] (u.alloc (.cells #[.slice ah h cap] 26)) fun e w' => e = .returned (.int .u16 ((M.csum (L.take h) : Nat) : Int)) ∧ Below (w.heap.size + 2) w1 w') := fun u hu => by
    have hbu : Below w.heap.size w u := HB1.out.trans (hu.mono (by omega))
    have := sum_ref _ _ _ (seesBB_one rfl _ _ (HSH.out.below hbu) 26) (by simp; omega)
    rw [show [L.take h].flatten = L.take h by simp] at this
    refine this.mono ?_
    rintro e w' ⟨rfl, hb⟩
    have hsz := hu.size
    rw [HS1.out] at hsz
    exact ⟨rfl, (hu.alloc (by omega) _).trans (hb.mono (by simp; omega))⟩
  by_cases c1 : M.csum (L.take h) = 0
  case neg =>
    have HRF : Hid (R = 33) := by unfold Hid; rw [HRE.out, if_pos c1]
    have hq : (((M.csum (L.take h) : Nat) : Int) != 0) = true := by simp [c1]
    clear HRE
    generalize M.csum (L.take h) = cs at *
    go_enter Tryd.func69, Tryd.ntmps69
    go_upto_region 2 with fail
    rw [← HW1.out]
    go_wp2_with fail
    refine HLEN.out.mono ?_
    rintro _ w2 ⟨rfl, hb2⟩
    go_wp2_with fail
    refine (HSUM.out _ hb2).mono ?_
    rintro _ w3 ⟨rfl, hb3⟩
    have HEN := hid (HENDS.out _ hb3)
    clear HENDS HLEN HSUM hb2 hb3
    go_wp2_with (first
      | (refine wpList_ld 35 ⟨w.heap.size + 1, 0, none⟩ (.tmp 6) rfl rfl HEN.out.ld rfl ?_)
      | (refine wpList_store_mid rfl 35 (.tmp 4) (.tmp 30) rfl w.heap.size 0 zz rfl rfl HEN.out.th HINF.out HONE.out ?_)
      | fail)
    have HLV := hid HEN.out.lv
    have HBF := hid HEN.out.bf
    generalize w3.setCells w.heap.size 0 zz.toList = wf at HLV HBF ⊢
    refine bodyPost_ret (v := .tuple #[.agg zz, .int .i64 33]) (by simp [results, Tryd.results69, asAddr, HLV.out]) rfl ?_
    exact ⟨by rw [HRF.out], HBF.out⟩
  obtain ⟨g, off, rfl, hg, hc6⟩ := HSV.out.atB 6 (by have := HN.out; omega)
  obtain ⟨am, HSM, hmid⟩ := HSV.out.mid 20 h 20 (h : Int) rfl rfl a1 (by have := HN.out; omega)
  have HC6 : Hid (∀ u, Below (w.heap.size + 2) w1 u → u.cell? ⟨g, off + 6, none⟩ = some (.int .u8 (byt L 6 : Int))) := fun u hu => ((HB1.out.trans (hu.mono (by omega))).cell (p := ⟨g, _, none⟩) hg).trans hc6
  have hx6 := byt_lt HBY.out 6
  have hw6 := w16_lt HBY.out 6
  have HAREA : Hid (∀ u, Below (w.heap.size + 2) w1 u → Calls Tryd.prog 70 #[.slice am (h - 20) (cap - 20)] u fun e w' => e = .returned (.bool (M.area ((L.take h).drop 20))) ∧ u = w') := fun u hu =>
    (area_ref _ _ u (HSM.out.below (HB1.out.trans (hu.mono (by omega))))).mono fun e w' ⟨a, b⟩ => ⟨a, b.symm⟩
  have HTWO : Hid (∀ u, Below (w.heap.size + 2) w1 u → Calls Tryd.prog 84 #[.slice (some ⟨g, off, none⟩) n cap, .int .i64 6] u fun e w' => e = .returned (.int .i64 ((w16 L 6 : Nat) : Int)) ∧ w' = u.drew) := fun u hu =>
    two_x _ 6 6 L u (HSV.out.below (HB1.out.trans (hu.mono (by omega)))) rfl (by omega) (by omega)
  have HPC : Hid (∀ (i j : Int) (b : Bool) (u : World), i = ((w16 L 6 % 8192 * 8 : Nat) : Int) → j = ((l - h : Nat) : Int) → b = decide (byt L 6 / 32 % 2 = 1) → Calls Tryd.prog 71 #[.int .i64 i, .int .i64 j, .bool b] u fun e w' => e = .returned (.bool (M.pieceOk ((w16 L 6 % 8192 * 8 : Nat) : Int) (l - h) (decide (byt L 6 / 32 % 2 = 1)))) ∧ u = w') := fun i j b u hi hj hb => by
    subst hi hj hb
    exact (piece_ref _ _ _ u ⟨by omega, by omega⟩ (by omega)).mono fun e w' ⟨a, b⟩ => ⟨a, b.symm⟩
  have b6 : (6 : Int) < (n : Int) := by have := HN.out; omega
  rw [if_neg (by simp [c1]), byt_take (by omega), show w16 (L.take h) 6 = w16 L 6 by unfold w16; rw [byt_take (by omega), byt_take (by omega)]] at HRE
  rw [c1] at HSUM
  clear c1
  generalize M.area ((L.take h).drop 20) = ar at *
  generalize M.pieceOk ((w16 L 6 % 8192 * 8 : Nat) : Int) (l - h) (decide (byt L 6 / 32 % 2 = 1)) = pc at *
  generalize byt L 6 = x6 at *
  generalize w16 L 6 = f6 at *
  clear HSM hc6 HSH
  by_cases c2 : 128 ≤ x6
  · have HRF : Hid (R = 32) := by unfold Hid; rw [HRE.out, if_pos c2]
    clear HRE
    go_enter Tryd.func69, Tryd.ntmps69
    go_upto_region 2 with fail
    rw [← HW1.out]
    go_wp2_with fail
    refine HLEN.out.mono ?_
    rintro _ w2 ⟨rfl, hb2⟩
    go_wp2_with fail
    refine (HSUM.out _ hb2).mono ?_
    rintro _ w3 ⟨rfl, hb3⟩
    have HEN := hid (HENDS.out _ hb3)
    have c6 := HC6.out _ hb3
    clear HENDS HLEN HSUM hb2 hb3
    go_wp2_with (first
      | (refine wpList_ld 35 ⟨w.heap.size + 1, 0, none⟩ (.tmp 6) rfl rfl HEN.out.ld rfl ?_)
      | (refine wpList_store_mid rfl 35 (.tmp 4) (.tmp 38) rfl w.heap.size 0 zz rfl rfl HEN.out.th HINF.out HONE.out ?_)
      | fail)
    have HLV := hid HEN.out.lv
    have HBF := hid HEN.out.bf
    generalize w3.setCells w.heap.size 0 zz.toList = wf at HLV HBF ⊢
    refine bodyPost_ret (v := .tuple #[.agg zz, .int .i64 32]) (by simp [results, Tryd.results69, asAddr, HLV.out]) rfl ?_
    exact ⟨by rw [HRF.out], HBF.out⟩
  rw [if_neg c2] at HRE
  cases ar
  · have HRF : Hid (R = 34) := by unfold Hid; rw [HRE.out, if_pos rfl]
    clear HRE
    go_enter Tryd.func69, Tryd.ntmps69
    go_upto_region 2 with fail
    rw [← HW1.out]
    go_wp2_with fail
    refine HLEN.out.mono ?_
    rintro _ w2 ⟨rfl, hb2⟩
    go_wp2_with fail
    refine (HSUM.out _ hb2).mono ?_
    rintro _ w3 ⟨rfl, hb3⟩
    have HEN := hid (HENDS.out _ hb3)
    have c6 := HC6.out _ hb3
    go_wp2_with fail
    refine (HAREA.out _ hb3).mono ?_
    rintro _ _ ⟨rfl, rfl⟩
    clear HENDS HLEN HSUM hb2 hb3
    go_wp2_with (first
      | (refine wpList_ld 35 ⟨w.heap.size + 1, 0, none⟩ (.tmp 6) rfl rfl HEN.out.ld rfl ?_)
      | (refine wpList_store_mid rfl 35 (.tmp 4) (.tmp 44) rfl w.heap.size 0 zz rfl rfl HEN.out.th HINF.out HONE.out ?_)
      | fail)
    have HLV := hid HEN.out.lv
    have HBF := hid HEN.out.bf
    generalize w3.setCells w.heap.size 0 zz.toList = wf at HLV HBF ⊢
    refine bodyPost_ret (v := .tuple #[.agg zz, .int .i64 34]) (by simp [results, Tryd.results69, asAddr, HLV.out]) rfl ?_
    exact ⟨by rw [HRF.out], HBF.out⟩
  · rw [if_neg (by simp)] at HRE
    cases pc
    case true => exact absurd HRE.out (by simpa using HRN.out)
    have HRF : Hid (R = 36) := by unfold Hid; rw [HRE.out, if_pos rfl]
    clear HRE
    go_enter Tryd.func69, Tryd.ntmps69
    go_upto_region 2 with fail
    rw [← HW1.out]
    go_wp2_with fail
    refine HLEN.out.mono ?_
    rintro _ w2 ⟨rfl, hb2⟩
    go_wp2_with fail
    refine (HSUM.out _ hb2).mono ?_
    rintro _ w3 ⟨rfl, hb3⟩
    have HEN := hid (HENDS.out _ hb3)
    have c6 := HC6.out _ hb3
    go_wp2_with fail
    refine (HAREA.out _ hb3).mono ?_
    rintro _ _ ⟨rfl, rfl⟩
    go_wp2_with fail
    refine (HTWO.out _ hb3).mono ?_
    rintro _ _ ⟨rfl, rfl⟩
    go_wp2_with fail
    refine (HPC.out _ _ _ _ ?_ ?_ ?_).mono ?_
    · omega
    · omega
    · exact bit5 x6
    rintro _ _ ⟨rfl, rfl⟩
    clear HEN
    have HEN := hid (HENDS.out _ (below_drew hb3))
    clear HENDS HLEN HSUM hb2 hb3
    go_wp2_with (first
      | (refine wpList_ld 35 ⟨w.heap.size + 1, 0, none⟩ (.tmp 6) rfl rfl HEN.out.ld rfl ?_)
      | (refine wpList_store_mid rfl 35 (.tmp 4) (.tmp 58) rfl w.heap.size 0 zz rfl rfl HEN.out.th HINF.out HONE.out ?_)
      | fail)
    have HLV := hid HEN.out.lv
    have HBF := hid HEN.out.bf
    generalize w3.drew.setCells w.heap.size 0 zz.toList = wf at HLV HBF ⊢
    refine bodyPost_ret (v := .tuple #[.agg zz, .int .i64 36]) (by simp [results, Tryd.results69, asAddr, HLV.out]) rfl ?_
    exact ⟨by rw [HRF.out], HBF.out⟩
end Go.Proofs.YtcboenmmkaochabDoor.N

namespace Go.Proofs.YtcboenmmkaochabDoor.N
open Go.ChangeShapes Go.WideShapes Go.ChangeAt Go.RowKit
set_option maxHeartbeats 400000
set_option maxRecDepth 100000

theorem step_ld {ops : Array Oper} {o : Oper} {a : Act} {w : World} {K : Act → World → Prop} {Q : Exit → Act → World → Prop} {E : Prop} {v : Value} (hg : o.guard = none) (T : TypeId) (p : Addr) (x : Operand) (ho : o.op = .load T x) (hx : a.eval x = .pointer (some p))
    (hr : (Instr.loadAt T (.pointer (some p))).run Tryd.prog w = .ok v w) (h : K (a.put o.dst v) w) : if Region.wanted o (yielded ops a.tmps) = true then Oper.wp Tryd.prog o a w K Q else E := by
  have hw : Region.wanted o (yielded ops a.tmps) = true := by simp [Region.wanted, hg]
  rw [if_pos hw]
  unfold Oper.wp execOp
  simp only [ho, hx, Sem.run_bind, hr, Result.andThen_ok, Sem.run_pure]
  exact h

theorem step_st {ops : Array Oper} {o : Oper} {a : Act} {w : World} {K : Act → World → Prop} {Q : Exit → Act → World → Prop} {E : Prop} (hg : o.guard = none) (ty : TypeId) (x y : Operand) (ho : o.op = .store ty x y)
    (b n : Nat) (cells : Array Value) (hx : a.eval x = .pointer (some ⟨b, n, none⟩)) (hy : a.eval y = .agg cells)
    (ht : w.there b n cells.size) (hi : (Tryd.prog.info? ty).map (·.size) = some cells.size) (h1 : cells.all (·.oneCell') = true)
    (h : K (a.put o.dst undef) (w.setCells b n cells.toList)) : if Region.wanted o (yielded ops a.tmps) = true then Oper.wp Tryd.prog o a w K Q else E := by
  have hw : Region.wanted o (yielded ops a.tmps) = true := by simp [Region.wanted, hg]
  rw [if_pos hw]
  exact wp_store_mid ty x y ho b n cells hx hy ht hi h1 h

theorem below_setCells' {B b : Nat} {a : World} (hb : B ≤ b) : ∀ (vs : List Value) (o : Nat) (w : World), Below B a w → Below B a (w.setCells b o vs)
  | [], _, _, h => h
  | v :: vs, o, w, h => by
    rw [World.setCells]
    exact below_setCells' hb vs (o + 1) _ (h.setCell (p := ⟨b, o, none⟩) hb v)

theorem sees_set {w : World} {ao : Option Addr} {n cap b : Nat} {L : List Nat} {vs : List Value} (h : SeesB w (.slice ao n cap) L) (hne : ∀ a, ao = some a → a.block ≠ b) : SeesB (w.setCells b 0 vs).drew (.slice ao n cap) L := by
  obtain ⟨ao', cap', hv, h1, h2, h3⟩ := h
  simp at hv
  obtain ⟨rfl, hn, rfl⟩ := hv
  refine ⟨ao, cap, by rw [hn], h1, h2, fun j hj => ?_⟩
  obtain ⟨g, off, ha, hg, hc, hb⟩ := h3 j hj
  have hg' := hne _ ha
  have e := World.cell?_setCells_out b vs 0 w ⟨g, off + j, none⟩ (fun hb _ => absurd hb hg')
  refine ⟨g, off, ha, ?_, ?_, hb⟩
  · exact World.block_lt_of_cell? (w.setCells b 0 vs).drew ⟨g, off + j, none⟩ (show (w.setCells b 0 vs).cell? _ = _ from e.trans hc)
  · exact (show (w.setCells b 0 vs).cell? _ = _ from e.trans hc)

def zeroH : Hd := ⟨0, 0, false, false, 0, 0, 0, 0, 0, []⟩

/-- Four bytes at a slice's head: three draws. -/
theorem read32_e (v : Value) (L : List Nat) (w : World) (hv : SeesB w v L) (hl : 4 ≤ L.length) :
    Calls Tryd.prog 82 #[v] w fun e w' => e = .returned (.int .u32 ((w32 L 0 : Nat) : Int)) ∧ w' = w.drew.drew.drew := by
  obtain ⟨ao, n, cap, rfl, HN, hn1, hn2⟩ := hv.shape
  have h4 : 4 ≤ n := by have := HN.out; omega
  obtain ⟨al, HSL, hlow⟩ := hv.low 2 2 rfl (by omega)
  have HC : Hid (∀ (v : Value) (x : Nat), ((v = .slice ao n cap ∧ x = w16 L 0) ∨ (v = .slice al (n - 2) (cap - 2) ∧ x = w16 L 2)) → ∀ u, Below w.heap.size w u → Calls Tryd.prog 54 #[v] u fun e w' => e = .returned (.int .u16 (x : Int)) ∧ w' = u.drew) := by
    rintro v x (⟨rfl, rfl⟩ | ⟨rfl, rfl⟩) u hu
    · exact read16_x _ L _ (hv.below hu) (by omega)
    · have := read16_x _ (L.drop 2) u (HSL.out.below hu) (by rw [List.length_drop]; omega)
      rw [w16_drop] at this; exact this
  have hx := w16_lt hv.bytes 0
  have hy := w16_lt hv.bytes 2
  have HR : Hid (bits .or .u32 ((w16 L 0 * 65536 : Nat) : Int) (w16 L 2 : Int) = ((w32 L 0 : Nat) : Int)) := by unfold Hid; rw [or_u32 _ _ hx hy]; rfl
  generalize w32 L 0 = r at *
  generalize w16 L 0 = p at *
  generalize w16 L 2 = q at *
  clear hv HSL
  generalize n - 2 = n2 at *
  generalize cap - 2 = cap2 at *
  have ew : ∀ z : Int, 0 ≤ z → z ≤ 4294967295 → IntKind.u32.wrap z = z := fun z h0 h1 => by
    unfold IntKind.wrap
    simp [IntKind.signed, IntKind.bits]
    omega
  have e1 := ew (p : Int) (by omega) (by omega)
  have e2 := ew (q : Int) (by omega) (by omega)
  have e3 := ew ((p : Int) * 65536) (by omega) (by omega)
  clear ew
  go_enter Tryd.func82, Tryd.ntmps82
  go_wp2_with fail
  go_region_with (first | (go_at_call 54; apply Calls.mono (HC.out _ _ _ _ (by repeat (first | exact Below.refl _ _ | apply below_drew))); (all_goals first | exact Or.inl ⟨rfl, rfl⟩ | exact Or.inr ⟨rfl, rfl⟩ | skip); rintro _ _ ⟨rfl, rfl⟩) | fail)
  all_goals go_wp2_with fail
  all_goals go_ret
  all_goals exact ⟨ret_int (by rw [← HR.out]; simp), rfl⟩
set_option maxHeartbeats 2000000 in
theorem unpack_any (v : Value) (L : List Nat) (h : Nat) (w : World) (hv : SeesB w v L) (h20 : 20 ≤ h) (hh : h ≤ L.length) (hl : L.length ≤ 1099511627776) :
    Calls Tryd.prog 68 #[v, .int .i64 (h : Int)] w fun e w' => ∃ vo vb, e = .returned (.tuple #[.agg (hdCells (rdH L h) vo), vb]) ∧ SeesB w' vo (rdH L h).opts ∧ SeesB w' vb (L.drop h) ∧ (∀ a n c, vo = .slice (some a) n c → w.heap.size ≤ a.block) ∧ (∀ a n c, vb = .slice (some a) n c → w.heap.size ≤ a.block) ∧ Below w.heap.size w w' := by
  obtain ⟨ao, m, cap, rfl, HN, hn1, hn2⟩ := hv.shape
  unfold maxLen at hn2
  have hm20 : 20 ≤ m := by have := HN.out; omega
  have hml : m ≤ 1099511627776 := by have := HN.out; omega
  obtain ⟨k, hk⟩ : ∃ k, m = k + 20 := ⟨m - 20, by omega⟩
  obtain ⟨c, hc⟩ : ∃ c, h = c + 20 := ⟨h - 20, by omega⟩
  have hck : c ≤ k := by have := HN.out; omega
  obtain ⟨a20, HS20, hl20⟩ := hv.low 20 20 rfl (by omega)
  obtain ⟨a6, HS6, hl6⟩ := hv.low 6 6 rfl (by omega)
  obtain ⟨a4, HS4, hl4⟩ := hv.low 4 4 rfl (by omega)
  obtain ⟨a12, HS12, hl12⟩ := hv.low 12 12 rfl (by omega)
  obtain ⟨a16, HS16, hl16⟩ := hv.low 16 16 rfl (by omega)
  have ek : (m : Int) - 20 = (k : Int) := by omega
  have ec : (h : Int) - 20 = (c : Int) := by omega
  have hmk := make_bytes k (by omega)
  obtain ⟨g0, off, rfl, hg0, hc1⟩ := hv.atB 1 (by omega)
  obtain ⟨g1, off1, he1, _, hc8⟩ := hv.atB 8 (by omega)
  simp at he1
  obtain ⟨rfl, rfl⟩ := he1
  obtain ⟨g1, off1, he1, _, hc9⟩ := hv.atB 9 (by omega)
  simp at he1
  obtain ⟨rfl, rfl⟩ := he1
  have HSV := hid hv
  have HKL : Hid ((L.drop 20).length = k) := by unfold Hid; rw [List.length_drop]; have := HN.out; omega
  have HM20 : Hid (m - 20 = k) := by unfold Hid; omega
  rw [HM20.out] at hl20 HS20
  have hk' := hid hk
  have hc' := hid hc
  clear hk hc hv
  have hf := w16_lt HSV.out.bytes 6
  have h14 := bit14 L HSV.out.bytes
  have h13 := bit13 L HSV.out.bytes
  have HRD : Hid (rdH L h = ⟨byt L 1, w16 L 4, decide (byt L 6 / 64 % 2 = 1), decide (byt L 6 / 32 % 2 = 1), ((w16 L 6 % 8192 * 8 : Nat) : Int), byt L 8, byt L 9, w32 L 12, w32 L 16, (L.drop 20).take c⟩) := by
    unfold Hid rdH; rw [List.drop_take, show h - 20 = c by have := hc'.out; omega]
  have HDR : Hid ((L.drop 20).drop c = L.drop h) := by unfold Hid; rw [List.drop_drop, show 20 + c = h by have := hc'.out; omega]
  rw [HRD.out]
  have HRDX := hid trivial
  clear HRD
  generalize E8 : w16 L 6 % 8192 * 8 = o8 at *
  generalize decide (byt L 6 / 64 % 2 = 1) = q14 at *
  generalize decide (byt L 6 / 32 % 2 = 1) = q13 at *
  generalize Ef : w16 L 6 = f at *
  generalize Ei : w16 L 4 = id at *
  generalize Es : w32 L 12 = src at *
  generalize Ed : w32 L 16 = dst at *
  generalize byt L 1 = x1 at *
  generalize byt L 8 = x8 at *
  generalize byt L 9 = x9 at *
  have HEf := hid Ef
  have HEi := hid Ei
  have HEs := hid Es
  have HEd := hid Ed
  have HE8 := hid E8
  clear Ef Ei Es Ed E8 HRDX
  have b1 : (1 : Int) < (m : Int) := by omega
  have b8 : (8 : Int) < (m : Int) := by omega
  have b9 : (9 : Int) < (m : Int) := by omega
  go_enter Tryd.func68, Tryd.ntmps68
  go_wp2_with (first | (refine wpList_copy_splice rfl (.tmp 15) (.tmp 17) 26 26 rfl 5 Tryd.underlying26 size5 _ _ k k k (cap - 20) rfl rfl (w.heap.size + 1) 0 (madeCells #[.int .u8 0] k).toList 5 ?c1 (bs (L.drop 20)) ?c2 ?c3 ?c4 ?c5 (w.heap.size + 1) (w.alloc (.cells #[.int .u8 0, .int .u16 0, .bool false, .bool false, .int .i64 0, .int .u8 0, .int .u8 0, .int .u32 0, .int .u32 0, .slice none 0 0] 33)) ?c6 ?c7 ?_) | fail)
  case c1 =>
    have e := heap_alloc_new (w.alloc (.cells #[.int .u8 0, .int .u16 0, .bool false, .bool false, .int .i64 0, .int .u8 0, .int .u8 0, .int .u32 0, .int .u32 0, .slice none 0 0] 33)) (.cells (madeCells #[.int .u8 0] k) 5)
    rw [World.size_alloc] at e
    rw [Array.toArray_toList]; exact e
  case c2 => show (bs _).length = min k k; rw [Nat.min_self, bs, List.length_map]; exact HKL.out
  case c3 => exact fun hp => (HS20.out.below (((Below.refl w.heap.size w).alloc (Nat.le_refl _) _).alloc (by simp) _)).src hp
  case c4 => rw [bs, List.length_map, HKL.out, Array.length_toList, size_madeCells]; omega
  case c5 => intro q hq; obtain ⟨y, _, rfl⟩ := List.mem_map.1 hq; rfl
  case c6 => exact (Below.refl _ _).alloc (by simp) _
  case c7 => exact Nat.le_refl _
  intro w3 HG hb3
  rw [splice_whole (by rw [bs, List.length_map, HKL.out, Array.length_toList, size_madeCells])] at HG
  have hbw : Below w.heap.size w w3 := ((Below.refl w.heap.size w).alloc (Nat.le_refl _) _).trans (hb3.mono (by omega))
  have hbytes : ∀ x ∈ L.drop 20, x < 256 := fun x hx => HSV.out.bytes x (List.mem_of_mem_drop hx)
  have hblk := sees_blk HG.out HKL.out (by omega) hbytes
  obtain ⟨aH, HSO, HAH, hcutH⟩ := hblk.high3 c (c : Int) rfl hck (by simp)
  obtain ⟨aL, HSB, HAL, hcutL⟩ := hblk.low3 c (c : Int) (k : Int) rfl rfl hck
  have HC6 := read16_x _ (L.drop 6) w3 (HS6.out.below hbw) (by rw [List.length_drop]; have := HN.out; omega)
  rw [w16_drop, show (6 : Nat) + 0 = 6 from rfl, HEf.out] at HC6
  have HC6 := hid HC6
  have d1 : w3.cell? ⟨g0, off + 1, none⟩ = some (.int .u8 (x1 : Int)) := (hbw.cell (p := ⟨g0, _, none⟩) hg0).trans hc1
  have d8 : w3.cell? ⟨g0, off + 8, none⟩ = some (.int .u8 (x8 : Int)) := (hbw.cell (p := ⟨g0, _, none⟩) hg0).trans hc8
  have d9 : w3.cell? ⟨g0, off + 9, none⟩ = some (.int .u8 (x9 : Int)) := (hbw.cell (p := ⟨g0, _, none⟩) hg0).trans hc9
  have HBL : Hid (∀ u, Below w3.heap.size w3 u → Below w.heap.size w u) := fun u hu => hbw.trans (hu.mono hbw.size)
  have HC4 : Hid (∀ u, (Below w3.heap.size w3 u ∧ u.cell? ⟨g0, off + 1, none⟩ = some (.int .u8 (x1 : Int)) ∧ u.cell? ⟨g0, off + 8, none⟩ = some (.int .u8 (x8 : Int)) ∧ u.cell? ⟨g0, off + 9, none⟩ = some (.int .u8 (x9 : Int))) → Calls Tryd.prog 54 #[.slice a4 (m - 4) (cap - 4)] u fun e w' => e = .returned (.int .u16 (id : Int)) ∧ w' = u.drew) := fun u hu => by
    have := read16_x _ (L.drop 4) u (HS4.out.below (HBL.out _ hu.1)) (by rw [List.length_drop]; have := HN.out; omega)
    rw [w16_drop, show (4 : Nat) + 0 = 4 from rfl, HEi.out] at this; exact this
  have HC50 : Hid (∀ u, (Below w3.heap.size w3 u ∧ u.cell? ⟨g0, off + 1, none⟩ = some (.int .u8 (x1 : Int)) ∧ u.cell? ⟨g0, off + 8, none⟩ = some (.int .u8 (x8 : Int)) ∧ u.cell? ⟨g0, off + 9, none⟩ = some (.int .u8 (x9 : Int))) → Calls Tryd.prog 81 #[.int .u16 (f : Int)] u fun e w' => e = .returned (.int .i64 (o8 : Int)) ∧ w' = u) := fun u hu => by
    have := offset_any f u hf
    rw [← HE8.out]; exact this
  have w32d : ∀ i, w32 (L.drop i) 0 = w32 L i := fun i => by unfold w32; rw [w16_drop, w16_drop]; rfl
  have HC51 : Hid (∀ (v : Value) (x : Nat), ((v = .slice a12 (m - 12) (cap - 12) ∧ x = src) ∨ (v = .slice a16 (m - 16) (cap - 16) ∧ x = dst)) → ∀ u, (Below w3.heap.size w3 u ∧ u.cell? ⟨g0, off + 1, none⟩ = some (.int .u8 (x1 : Int)) ∧ u.cell? ⟨g0, off + 8, none⟩ = some (.int .u8 (x8 : Int)) ∧ u.cell? ⟨g0, off + 9, none⟩ = some (.int .u8 (x9 : Int))) → Calls Tryd.prog 82 #[v] u fun e w' => e = .returned (.int .u32 (x : Int)) ∧ w' = u.drew.drew.drew) := by
    rintro v x (⟨rfl, rfl⟩ | ⟨rfl, rfl⟩) u hu
    · have := read32_e _ (L.drop 12) u (HS12.out.below (HBL.out _ hu.1)) (by rw [List.length_drop]; have := HN.out; omega)
      rw [w32d, HEs.out] at this; exact this
    · have := read32_e _ (L.drop 16) u (HS16.out.below (HBL.out _ hu.1)) (by rw [List.length_drop]; have := HN.out; omega)
      rw [w32d, HEd.out] at this; exact this
  generalize m - 4 = m4 at *
  generalize m - 6 = m6 at *
  generalize m - 12 = m12 at *
  generalize m - 16 = m16 at *
  have HB3 := hid hb3
  clear HS20 HS6 HS4 HS12 HS16 hmk hblk hbytes w32d hc1 hc8 hc9 hl20 hb3 hl HG
  go_wp2_with fail
  refine HC6.out.mono ?_
  rintro _ _ ⟨rfl, rfl⟩
  go_upto_region 5 with fail
  go_cut [10] from 26 (fun p wx => p = .pointer (some ⟨w3.heap.size, 0, none⟩) ∧ Below w3.heap.size w3 wx ∧ Hid (wx.heap[w3.heap.size]? = some (.cells #[.int .u8 (x1 : Int), .int .u16 (id : Int), .bool q14, .bool q13, .int .i64 (o8 : Int), .int .u8 (x8 : Int), .int .u8 (x9 : Int), .int .u32 (src : Int), .int .u32 (dst : Int), .slice aH c c] 33)))
  case first =>
    go_region_held3 (fun w' => Below w3.heap.size w3 w' ∧ w'.cell? ⟨g0, off + 1, none⟩ = some (.int .u8 (x1 : Int)) ∧ w'.cell? ⟨g0, off + 8, none⟩ = some (.int .u8 (x8 : Int)) ∧ w'.cell? ⟨g0, off + 9, none⟩ = some (.int .u8 (x9 : Int)))
      (repeat (first | assumption | exact ⟨Below.refl _ _, d1, d8, d9⟩ | apply keep_drew | refine keep_alloc ?_ _ rfl))
      (first | (go_at_call 54; refine (HC4.out _ (by assumption)).mono ?_; rintro _ _ ⟨rfl, rfl⟩) | (go_at_call 81; refine (HC50.out _ (by assumption)).mono ?_; rintro _ _ ⟨rfl, rfl⟩) | (go_at_call 82; apply Calls.mono (HC51.out _ _ _ _ (by assumption)); (all_goals first | exact Or.inl ⟨rfl, rfl⟩ | exact Or.inr ⟨rfl, rfl⟩ | skip); rintro _ _ ⟨rfl, rfl⟩) | fail)
    all_goals (
      go_wp2_with fail
      go_meet
      case rel => exact ⟨rfl, by repeat (first | exact Below.refl _ _ | apply below_drew | refine Below.alloc ?_ (Nat.le_refl _) _), heap_alloc_new w3 _⟩)
  case rest =>
    obtain ⟨rfl, hbc, HBK⟩ := hcut
    have hz : wc.heap[w.heap.size]? = some (.cells (hdCells zeroH (.slice none 0 0)) 33) := by
      have hlt : w.heap.size < w3.heap.size := by have := HB3.out.size; simp at this; omega
      rw [hbc.block w.heap.size hlt, HB3.out.block w.heap.size (by omega)]
      exact heap_alloc_new w _
    obtain ⟨z0, z1, z2, z3, z4, z5, z6, z7, z8, z9⟩ := hd_at hz
    have hfz : ∀ j, wc.frozen? ⟨w.heap.size, j, none⟩ = false := fun j => frozen_of_row _ _ _ _ _ hz
    obtain ⟨r0, r1, r2, r3, r4, r5, r6, r7, r8, r9⟩ := hd_at (h := ⟨x1, id, q14, q13, (o8 : Int), x8, x9, src, dst, []⟩) (vo := .slice aH c c) HBK.out
    simp only [zeroH] at z0 z1 z2 z3 z4 z5 z6 z7 z8 z9
    simp only at r0 r1 r2 r3 r4 r5 r6 r7 r8 r9
    have hne : ¬ w3.heap.size = w.heap.size := by have := HB3.out.size; simp at this; omega
    have hne' : ¬ w.heap.size = w3.heap.size := fun h => hne h.symm
    have hthc : wc.there w.heap.size 0 10 := there_blk (C := hdCells zeroH (.slice none 0 0)) hz rfl
    obtain ⟨fs, hu27⟩ := und27
    have hrg := World.rangeAt_setCells_same wc w.heap.size 0 [.int .u8 (x1 : Int), .int .u16 (id : Int), .bool q14, .bool q13, .int .i64 (o8 : Int), .int .u8 (x8 : Int), .int .u8 (x9 : Int), .int .u32 (src : Int), .int .u32 (dst : Int), .slice aH c c] hthc
    have HLV : Hid ((loadVar 33 ⟨w.heap.size, 0, none⟩).run Tryd.prog (wc.setCells w.heap.size 0 [.int .u8 (x1 : Int), .int .u16 (id : Int), .bool q14, .bool q13, .int .i64 (o8 : Int), .int .u8 (x8 : Int), .int .u8 (x9 : Int), .int .u32 (src : Int), .int .u32 (dst : Int), .slice aH c c]).drew = .ok (.agg #[.int .u8 (x1 : Int), .int .u16 (id : Int), .bool q14, .bool q13, .int .i64 (o8 : Int), .int .u8 (x8 : Int), .int .u8 (x9 : Int), .int .u32 (src : Int), .int .u32 (dst : Int), .slice aH c c]) (wc.setCells w.heap.size 0 [.int .u8 (x1 : Int), .int .u16 (id : Int), .bool q14, .bool q13, .int .i64 (o8 : Int), .int .u8 (x8 : Int), .int .u8 (x9 : Int), .int .u32 (src : Int), .int .u32 (dst : Int), .slice aH c c]).drew) := run_loadVar_mid _ w.heap.size 0 33 [.int .u8 (x1 : Int), .int .u16 (id : Int), .bool q14, .bool q13, .int .i64 (o8 : Int), .int .u8 (x8 : Int), .int .u8 (x9 : Int), .int .u32 (src : Int), .int .u32 (dst : Int), .slice aH c c] (.struct fs) ((World.rangeAt_drew _ _ _ _).2 hrg) hu27 rfl size27
    have HBF : Hid (Below w.heap.size w (wc.setCells w.heap.size 0 [.int .u8 (x1 : Int), .int .u16 (id : Int), .bool q14, .bool q13, .int .i64 (o8 : Int), .int .u8 (x8 : Int), .int .u8 (x9 : Int), .int .u32 (src : Int), .int .u32 (dst : Int), .slice aH c c]).drew) := below_drew (below_setCells' (Nat.le_refl _) _ _ _ (HBL.out _ hbc))
    have HSOF : Hid (SeesB (wc.setCells w.heap.size 0 [.int .u8 (x1 : Int), .int .u16 (id : Int), .bool q14, .bool q13, .int .i64 (o8 : Int), .int .u8 (x8 : Int), .int .u8 (x9 : Int), .int .u32 (src : Int), .int .u32 (dst : Int), .slice aH c c]).drew (.slice aH c c) ((L.drop 20).take c)) := sees_set (HSO.out.below hbc) (fun a ha => by
      rw [HAH.out] at ha; cases ha; show w.heap.size + 1 ≠ w.heap.size; omega)
    have HSBF : Hid (SeesB (wc.setCells w.heap.size 0 [.int .u8 (x1 : Int), .int .u16 (id : Int), .bool q14, .bool q13, .int .i64 (o8 : Int), .int .u8 (x8 : Int), .int .u8 (x9 : Int), .int .u32 (src : Int), .int .u32 (dst : Int), .slice aH c c]).drew (.slice (some aL) (k - c) (k - c)) ((L.drop 20).drop c)) := sees_set (HSB.out.below hbc) (fun a ha => by
      cases ha; rw [HAL.out]; omega)
    have HBC := hid hbc
    clear hthc hrg hu27
    clear hz d1 d8 d9 HC4 HC50 HC51 HC6 hbc HBK h14 h13
    go_upto_region 6 with fail
    go_region_held3 (fun w' => w'.cell? ⟨w3.heap.size, 0, none⟩ = some (.int .u8 (x1 : Int)) ∧ w'.cell? ⟨w3.heap.size, 1, none⟩ = some (.int .u16 (id : Int)) ∧ w'.cell? ⟨w3.heap.size, 2, none⟩ = some (.bool q14) ∧ w'.cell? ⟨w3.heap.size, 3, none⟩ = some (.bool q13) ∧ w'.cell? ⟨w3.heap.size, 4, none⟩ = some (.int .i64 (o8 : Int)) ∧ w'.cell? ⟨w3.heap.size, 5, none⟩ = some (.int .u8 (x8 : Int)) ∧ w'.cell? ⟨w3.heap.size, 6, none⟩ = some (.int .u8 (x9 : Int)) ∧ w'.cell? ⟨w3.heap.size, 7, none⟩ = some (.int .u32 (src : Int)) ∧ w'.cell? ⟨w3.heap.size, 8, none⟩ = some (.int .u32 (dst : Int)) ∧ w'.cell? ⟨w3.heap.size, 9, none⟩ = some (.slice aH c c)) (go_keep) (fail)
    go_wp2_with fail
    show bodyPost Tryd.prog Tryd.f68 _ Exit.ret _ (World.setCells wc w.heap.size 0 [.int .u8 (x1 : Int), .int .u16 (id : Int), .bool q14, .bool q13, .int .i64 (o8 : Int), .int .u8 (x8 : Int), .int .u8 (x9 : Int), .int .u32 (src : Int), .int .u32 (dst : Int), .slice aH c c]).drew
    generalize (World.setCells wc w.heap.size 0 [.int .u8 (x1 : Int), .int .u16 (id : Int), .bool q14, .bool q13, .int .i64 (o8 : Int), .int .u8 (x8 : Int), .int .u8 (x9 : Int), .int .u32 (src : Int), .int .u32 (dst : Int), .slice aH c c]).drew = wf at HLV HBF HSOF HSBF ⊢
    refine bodyPost_ret (v := .tuple #[.agg #[.int .u8 (x1 : Int), .int .u16 (id : Int), .bool q14, .bool q13, .int .i64 (o8 : Int), .int .u8 (x8 : Int), .int .u8 (x9 : Int), .int .u32 (src : Int), .int .u32 (dst : Int), .slice aH c c], .slice (some aL) (k - c) (k - c)]) (by simp [results, Tryd.results68, asAddr, HLV.out]) rfl ?_
    exact ⟨.slice aH c c, .slice (some aL) (k - c) (k - c), rfl, HSOF.out, by rw [← HDR.out]; exact HSBF.out, (fun a _ _ e => by have h1 := (Value.slice.inj e).1; rw [HAH.out] at h1; cases h1; show w.heap.size ≤ w.heap.size + 1; omega), (fun a _ _ e => by have h1 := (Value.slice.inj e).1; cases h1; rw [HAL.out]; omega), HBF.out⟩
end Go.Proofs.YtcboenmmkaochabDoor.N

namespace Go.Proofs.YtcboenmmkaochabDoor.N
open Go.ChangeShapes Go.WideShapes Go.ChangeAt Go.RowKit
set_option maxHeartbeats 400000
set_option maxRecDepth 100000

theorem size29 : (Tryd.prog.info? 35).map (·.size) = some 11 := by kernel_rfl

/-- What Parse answers: the header, the body, the error. -/
def parsed (L : List Nat) : Hd × List Nat × Int :=
  if (exam L true).2.2 = 0 then (rdH (L.take (exam L true).2.1) (exam L true).1, (L.take (exam L true).2.1).drop (exam L true).1, 0) else (zeroH, [], (exam L true).2.2)

end Go.Proofs.YtcboenmmkaochabDoor.N

namespace Go.Proofs.YtcboenmmkaochabDoor.N
open Go.ChangeShapes Go.WideShapes Go.ChangeAt Go.RowKit
set_option maxHeartbeats 400000
set_option maxRecDepth 100000

theorem sees_set' {w : World} {ao : Option Addr} {n cap b : Nat} {L : List Nat} {vs : List Value} (h : SeesB w (.slice ao n cap) L) (hne : ∀ a, ao = some a → a.block ≠ b) : SeesB (w.setCells b 0 vs) (.slice ao n cap) L := by
  obtain ⟨ao', cap', hv, h1, h2, h3⟩ := h
  simp at hv
  obtain ⟨rfl, hn, rfl⟩ := hv
  refine ⟨ao, cap, by rw [hn], h1, h2, fun j hj => ?_⟩
  obtain ⟨g, off, ha, hg, hc, hb⟩ := h3 j hj
  have hg' := hne _ ha
  have e := World.cell?_setCells_out b vs 0 w ⟨g, off + j, none⟩ (fun hb _ => absurd hb hg')
  exact ⟨g, off, ha, World.block_lt_of_cell? (w.setCells b 0 vs) ⟨g, off + j, none⟩ (e.trans hc), e.trans hc, hb⟩

end Go.Proofs.YtcboenmmkaochabDoor.N
