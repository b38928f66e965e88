/-
  weftref6: clone, raw.
-/
import Derived.Test.YtcboenmmkaochabDoorIE
namespace Go.Proofs.YtcboenmmkaochabDoor.N
open Go.ChangeShapes Go.WideShapes Go.ChangeAt Go.RowKit
set_option maxHeartbeats 2000000
set_option maxRecDepth 100000

theorem clone6_any (v : Value) (L : List Nat) (w : World) (hv : SeesB w v L) (hl : L.length ≤ 1099511627776) :
    Calls Tryd.prog 36 #[v] w fun e w' => ∃ v', e = .returned v' ∧ OwnB w' w.heap.size v' L ∧ Below w.heap.size w w' := by
  obtain ⟨ao, n, cap, rfl, HN, hn1, hn2⟩ := hv.shape
  have HV := hid hv
  have hnl : n ≤ 1099511627776 := by have := HN.out; omega
  clear hv hl
  unfold maxLen at hn2
  go_enter Tryd.func36, Tryd.ntmps36
  go_wp2_with fail
  go_loopw [3, 4] (fun t i wr => ∃ q : Nat, i = .int .i64 q ∧ q ≤ n ∧ Hid (OwnB wr w.heap.size t (L.take q)) ∧ Below w.heap.size w wr) (fun _ i _ => n - (intOf i).toNat)
  case atStart => exact ⟨0, rfl, by omega, ownB_nil _ _, Below.refl _ _⟩
  case round =>
    obtain ⟨q, rfl, hq, HO, hb⟩ := hrel
    by_cases hlt : q < n
    · obtain ⟨ga, oa, x, rfl, hga, hca, hx, HX⟩ := (HV.out.below hb).at q hlt
      have HF : Hid (L.take q ++ [x] = L.take (q + 1)) := by unfold Hid; rw [take_snoc HX.out]
      go_wp2_with (at_builtin; refine wpList_append_bytes rfl _ _ rfl w.heap.size _ _ rfl (HO.out.alloc _) _ [x] rfl (sees_one rfl x hx _) ?c1 ?c2 ?_)
      case c1 => rw [List.length_take]; simp only [List.length_cons, List.length_nil]; omega
      case c2 => have := hb.size; simp; omega
      intro v' w6 ho hb6
      rw [HF.out] at ho
      have HO6 := hid ho
      have hb7 := (hb.alloc hb.size _).trans hb6
      clear ho hb6 hca
      go_wp2_with fail
      go_roundw
      case rel => exact ⟨q + 1, by go_num, by omega, HO6, hb7⟩
      case measure => simp [intOf]; omega
    · have HE : Hid (L.take q = L) := by
        unfold Hid; rw [List.take_of_length_le (by have := HN.out; omega)]
      rw [HE.out] at HO
      go_wp2_with fail
      go_ret
      exact ⟨_, rfl, HO.out, hb⟩

theorem ownB_blk {w : World} {g n : Nat} {X : List Nat} (h : w.heap[g]? = some (.cells (bs X).toArray 5 (0, 0))) (hn : X.length = n) (hl : n ≤ 65536) {base : Nat} (hb : base ≤ g) : OwnB w base (.slice (some ⟨g, 0, none⟩) n n) X := by
  subst hn
  refine ⟨by simp [bs], .inr ⟨g, X.length, (bs X).toArray, rfl, hb, h, Nat.le_refl _, by unfold maxLen; omega, by simp [bs], ?_⟩⟩
  rw [Nat.mul_one]
  exact List.take_of_length_le (by simp [bs])

theorem raw_any (m : Im.Ct) (vb : Value) (s : Nat) (w : World) (hok : m.Ok) (hvb : SeesB w vb m.B) (hl : m.B.length ≤ 65507) (hs : s < 65536) :
    Calls Tryd.prog 38 #[.agg (ctCells m vb), .int .u16 (s : Int)] w fun e w' => ∃ v', e = .returned v' ∧ OwnB w' w.heap.size v' (Im.msg m s) ∧ Below w.heap.size w w' := by
  obtain ⟨w1, hw1⟩ : ∃ w1, w1 = w.alloc (.cells (ctCells m vb) 29) := ⟨_, rfl⟩
  have hb1 : Below w.heap.size w w1 := by rw [hw1]; exact (Below.refl _ _).alloc (Nat.le_refl _) _
  have hs1 : w1.heap.size = w.heap.size + 1 := by rw [hw1]; simp
  have hk1 : w1.heap[w.heap.size]? = some (.cells (ctCells m vb) 29) := by rw [hw1]; exact heap_alloc_new w _
  have HVB := hid hvb
  obtain ⟨ab, nb, capb, rfl, HNB, hnb1, hnb2⟩ := hvb.shape
  unfold maxLen at hnb2
  have hnb : nb ≤ 65507 := by have := HNB.out; omega
  obtain ⟨d0, d1, d2, d3⟩ := ct_at hk1
  have HD3 : Hid (∀ u, Below w1.heap.size w1 u → u.cell? ⟨w.heap.size, 3, none⟩ = some (.slice ab nb capb)) := fun u hu => (hu.cell (p := ⟨w.heap.size, 3, none⟩) (show w.heap.size < w1.heap.size by omega)).trans d3
  obtain ⟨ht1, hc1, hr1⟩ := hok
  have HW1 := hid hw1
  have HB1 := hid hb1
  clear hw1 hvb hk1 d3 hb1
  obtain ⟨mt, mc, mr, mB⟩ := m
  simp only at *
  have HCT : Hid (ctCells ⟨mt, mc, mr, mB⟩ (.slice ab nb capb) = #[.int .u8 (mt : Int), .int .u8 (mc : Int), .int .u32 (mr : Int), .slice ab nb capb]) := rfl
  rw [HCT.out] at HW1 ⊢
  go_enter Tryd.func38, Tryd.ntmps38
  go_upto_region 1 with fail
  rw [← HW1.out]
  go_upto_region 3 with fail
  obtain ⟨w2, hw2⟩ : ∃ w2, w2 = w1.alloc (.cells #[.int .u8 (mt : Int), .int .u8 (mc : Int), .int .u8 ((s : Int) / 256), .int .u8 ((s : Int) % 256), .int .u8 ((mr : Int) / 16777216), .int .u8 ((mr : Int) / 65536 % 256), .int .u8 ((mr : Int) / 256 % 256), .int .u8 ((mr : Int) % 256)] 5) := ⟨_, rfl⟩
  rw [← hw2]
  have hb2 : Below w1.heap.size w1 w2 := by rw [hw2]; exact (Below.refl _ _).alloc (Nat.le_refl _) _
  have hO2 : OwnB w2 w1.heap.size (.slice (some ⟨w.heap.size + 1, 0, none⟩) 8 8) [mt, mc, s / 256, s % 256, mr / 65536 / 256, mr / 65536 % 256, mr % 65536 / 256, mr % 65536 % 256] := by
    refine ownB_blk ?_ rfl (by simp) (by omega)
    rw [← hs1, hw2]
    refine (heap_alloc_new w1 _).trans ?_
    simp only [bs, List.map_cons, List.map_nil]
    rw [show ((s / 256 : Nat) : Int) = (s : Int) / 256 by omega, show ((s % 256 : Nat) : Int) = (s : Int) % 256 by omega, show ((mr / 65536 / 256 : Nat) : Int) = (mr : Int) / 16777216 by omega,
      show ((mr / 65536 % 256 : Nat) : Int) = (mr : Int) / 65536 % 256 by omega, show ((mr % 65536 / 256 : Nat) : Int) = (mr : Int) / 256 % 256 by omega, show ((mr % 65536 % 256 : Nat) : Int) = (mr : Int) % 256 by omega]
  have HM : Hid (Im.msg ⟨mt, mc, mr, mB⟩ s = [mt, mc, s / 256, s % 256, mr / 65536 / 256, mr / 65536 % 256, mr % 65536 / 256, mr % 65536 % 256] ++ mB) := rfl
  generalize hfr : [mt, mc, s / 256, s % 256, mr / 65536 / 256, mr / 65536 % 256, mr % 65536 / 256, mr % 65536 % 256] = fr at *
  have hfl : fr.length = 8 := by rw [← hfr]; rfl
  have HFL := hid hfl
  have HO2 := hid hO2
  have HS1 := hid hs1
  clear hw2 hO2 hfr hfl d0 d1 d2 hs1
  go_wp2_with fail
  go_loopw [6, 7] (fun t i wr => ∃ q : Nat, i = .int .i64 q ∧ q ≤ nb ∧ Hid (OwnB wr w1.heap.size t (fr ++ mB.take q)) ∧ Below w1.heap.size w1 wr) (fun _ i _ => nb - (intOf i).toNat)
  case atStart => exact ⟨0, rfl, by omega, by rw [List.take_zero, List.append_nil]; exact HO2, hb2⟩
  case round =>
    obtain ⟨q, rfl, hq, HO, hb⟩ := hrel
    have e3 := HD3.out _ hb
    by_cases hlt : q < nb
    · obtain ⟨ga, oa, x, rfl, hga, hca, hx, HX⟩ := ((HVB.out.below HB1.out).below hb).at q hlt
      have HF : Hid (fr ++ (mB.take q ++ [x]) = fr ++ mB.take (q + 1)) := by unfold Hid; rw [take_snoc HX.out]
      go_wp2_with (at_builtin; refine wpList_append_bytes rfl _ _ rfl w1.heap.size _ _ rfl (HO.out.alloc _) _ [x] rfl (sees_one rfl x hx _) ?c1 ?c2 ?_)
      case c1 => rw [List.length_append, List.length_take]; simp only [List.length_cons, List.length_nil]; have := HFL.out; omega
      case c2 => have := hb.size; simp; omega
      intro v' w6 ho hb6
      rw [HF.out] at ho
      have HO6 := hid ho
      have hb7 := (hb.alloc hb.size _).trans hb6
      clear ho hb6 hca
      go_wp2_with fail
      go_roundw
      case rel => exact ⟨q + 1, by go_num, by omega, HO6, hb7⟩
      case measure => simp [intOf]; omega
    · have HE : Hid (mB.take q = mB) := by
        unfold Hid; rw [List.take_of_length_le (by have := HNB.out; omega)]
      rw [HE.out] at HO
      go_wp2_with fail
      go_ret
      rw [HM.out]
      exact ⟨_, rfl, OwnB.mono HO.out (by have := HS1.out; omega), HB1.out.trans (hb.mono HB1.out.size)⟩

theorem rbuild_any (m : Im.Ct) (vb : Value) (w : World) (hok : m.Ok) (hvb : SeesB w vb m.B) :
    Calls Tryd.prog 19 #[.agg (ctCells m vb)] w fun e w' => ∃ v', e = .returned (.tuple #[v', .int .i64 (Im.bdE m)]) ∧ OwnB w' w.heap.size v' (Im.bdL m) ∧ Below w.heap.size w w' := by
  obtain ⟨w1, hw1⟩ : ∃ w1, w1 = w.alloc (.cells (ctCells m vb) 29) := ⟨_, rfl⟩
  have hb1 : Below w.heap.size w w1 := by rw [hw1]; exact (Below.refl _ _).alloc (Nat.le_refl _) _
  have hs1 : w1.heap.size = w.heap.size + 1 := by rw [hw1]; simp
  have hk1 : w1.heap[w.heap.size]? = some (.cells (ctCells m vb) 29) := by rw [hw1]; exact heap_alloc_new w _
  have HVB := hid hvb
  obtain ⟨ab, nb, capb, rfl, HNB, hnb1, hnb2⟩ := hvb.shape
  unfold maxLen at hnb2
  obtain ⟨d0, d1, d2, d3⟩ := ct_at hk1
  have HOK := hid hok
  have HW1 := hid hw1
  have HB1 := hid hb1
  have HLD : Hid (∀ u, Below w1.heap.size w1 u → (Instr.loadAt 29 (.pointer (some ⟨w.heap.size, 0, none⟩))).run Tryd.prog u = .ok (.agg (ctCells m (.slice ab nb capb))) u) := fun u hu => by
    have hk : u.heap[w.heap.size]? = some (.cells (ctCells m (.slice ab nb capb)) 29) := (hu.block _ (by omega)).trans hk1
    refine run_loadAt_mid u w.heap.size 0 29 (ctCells m (.slice ab nb capb)).toList (.struct _) (fun j v hv => ?_) Tryd.underlying29 rfl (by rw [show (Tryd.prog.info? 29).map (·.size) = some 4 from by kernel_rfl]; rfl)
    rw [Nat.zero_add, cell_of_row _ _ _ _ _ _ hk, ← hv, Array.getElem?_toList]
  by_cases hl : m.B.length ≤ 65507
  · have HE : Hid (Im.bdE m = 0 ∧ Im.bdL m = Im.laid m) := ⟨by unfold Im.bdE; rw [if_neg (by omega)], by unfold Im.bdL; rw [if_neg (by omega)]⟩
    have HR0 := hid (raw_any m (.slice ab nb capb) 0 w1 hok (hvb.below hb1) hl (by decide))
    have HR : Hid (∀ (s : Nat), s < 65536 → ∀ u, Below w1.heap.size w1 u → Calls Tryd.prog 38 #[.agg (ctCells m (.slice ab nb capb)), .int .u16 (s : Int)] u fun e w' => ∃ v', e = .returned v' ∧ OwnB w' u.heap.size v' (Im.msg m s) ∧ Below u.heap.size u w') := fun s hs u hu => raw_any m (.slice ab nb capb) s u HOK.out ((HVB.out.below HB1.out).below hu) hl hs
    have HMB : Hid (∀ x ∈ Im.msg m 0, x < 256) := Im.msg_bytes hok hvb.bytes (by decide)
    have HLAID : Hid (Im.laid m = Im.msg m (M.csum (Im.msg m 0))) := rfl
    have hcl := M.csum_lt (Im.msg m 0)
    have HML : Hid ((Im.msg m 0).length ≤ 65515) := by unfold Hid; rw [Im.msg_len]; omega
    have hnb : nb ≤ 65507 := by have := HNB.out; omega
    clear hw1 hb1 hk1 hvb d0 d1 d2 hl hok HNB
    generalize ctCells m (.slice ab nb capb) = pk at *
    go_enter Tryd.func19, Tryd.ntmps19
    go_upto_region 1 with fail
    rw [← HW1.out]
    have HLD1 := hid (HLD.out _ (Below.refl _ _))
    go_wp2_with (first | (refine wpList_ld 29 ⟨w.heap.size, 0, none⟩ _ rfl rfl HLD1.out rfl ?_) | fail)
    refine HR0.out.mono ?_
    rintro _ w2 ⟨v2, rfl, ho2, hb2⟩
    have hs2 := ho2.sees HMB.out
    have hso := seesBB_one (w := w2) rfl _ _ hs2 26
    have HSM0 := sum_ref _ _ _ hso (by simp; have := HML.out; omega)
    rw [show [Im.msg m 0].flatten = Im.msg m 0 by simp] at HSM0
    have HSM : Hid (Calls Tryd.prog 35 #[.slice (some ⟨w2.heap.size, 0, none⟩) 1 1] (w2.alloc (.cells #[v2] 26)) fun e w' => e = .returned (.int .u16 ((M.csum (Im.msg m 0) : Nat) : Int)) ∧ Below w1.heap.size w1 w') := by
      refine HSM0.mono ?_
      rintro e w' ⟨rfl, hb⟩
      have hbA : Below w2.heap.size w2 (w2.alloc (.cells #[v2] 26)) := (Below.refl w2.heap.size w2).alloc (Nat.le_refl _) _
      exact ⟨rfl, hb2.trans ((hbA.trans (hb.mono hbA.size)).mono hb2.size)⟩
    obtain ⟨a2, n2, c2, rfl, _, _, _⟩ := hs2.shape
    clear HSM0 hso ho2 hb2 hs2 HR0 HLD1
    go_wp2_with fail
    refine HSM.out.mono ?_
    rintro _ w3 ⟨rfl, hb3⟩
    have HLD3 := hid (HLD.out _ hb3)
    have HR3 := hid (HR.out _ hcl w3 hb3)
    rw [← HLAID.out] at HR3
    generalize M.csum (Im.msg m 0) = sm at *
    go_wp2_with (first | (refine wpList_ld 29 ⟨w.heap.size, 0, none⟩ _ rfl rfl HLD3.out rfl ?_) | fail)
    refine HR3.out.mono ?_
    rintro _ w4 ⟨v4, rfl, ho4, hb4⟩
    go_wp2_with fail
    refine bodyPost_ret (results_tmp2 Tryd.results19 _ _ _) rfl ?_
    rw [HE.out.1, HE.out.2]
    have hb34 := hb3.trans (hb4.mono hb3.size)
    exact ⟨_, rfl, OwnB.mono ho4 (by have := hb3.size; have := HB1.out.size; omega), HB1.out.trans (hb34.mono HB1.out.size)⟩
  · have HE : Hid (Im.bdE m = 37 ∧ Im.bdL m = []) := ⟨by unfold Im.bdE; rw [if_pos (by omega)], by unfold Im.bdL; rw [if_pos (by omega)]⟩
    have hnb : ¬ nb ≤ 65507 := by have := HNB.out; omega
    clear hw1 hb1 hk1 hvb d0 d1 d2 hl hok HNB HLD
    generalize ctCells m (.slice ab nb capb) = pk at *
    go_enter Tryd.func19, Tryd.ntmps19
    go_upto_region 1 with fail
    rw [← HW1.out]
    go_wp2_with fail
    refine bodyPost_ret (results_tmp2 Tryd.results19 _ _ _) rfl ?_
    rw [HE.out.1, HE.out.2]
    exact ⟨_, rfl, ownB_nil _ _, HB1.out⟩
end Go.Proofs.YtcboenmmkaochabDoor.N
