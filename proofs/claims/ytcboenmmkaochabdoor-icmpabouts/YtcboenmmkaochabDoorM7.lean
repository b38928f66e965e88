import Derived.Test.YtcboenmmkaochabDoorM6
namespace Go.Proofs.YtcboenmmkaochabDoor.N
open Go.ChangeShapes Go.WideShapes Go.ChangeAt Go.RowKit
set_option maxHeartbeats 2000000
set_option maxRecDepth 100000

/-- The error of an echo. -/
def ecE (h : Hd) (B : List Nat) : Int :=
  if msgE h B ≠ 0 then msgE h B else if (msgC h B).t ≠ 8 ∨ (msgC h B).c ≠ 0 then 62 else if (pln h.src && pln h.dst) = true then 0 else 61
def ecM (h : Hd) (B : List Nat) : Im.Ct := ⟨0, (msgC h B).c, (msgC h B).r, (msgC h B).B⟩
def ecP (h : Hd) (B : List Nat) : Hd × List Nat := if ecE h B = 0 then (mdH h.tos h.dst h.src, Im.laid (ecM h B)) else (zeroH, [])

theorem ec_bad {h : Hd} {B : List Nat} {e : Int} (he : ecE h B = e) (hn : e ≠ 0) : ecP h B = (zeroH, []) := by unfold ecP; rw [if_neg (by rw [he]; exact hn)]

theorem echo_any (h : Hd) (vo vb : Value) (B : List Nat) (w : World) (hok : h.Ok) (hvo : SeesB w vo h.opts) (hvb : SeesB w vb B) (hlo : h.opts.length ≤ 140737488355328) (hlb : B.length ≤ 140737488355328) (htC : Ad.TabC w) :
    Calls Tryd.prog 23 #[.agg (pkCells h vo vb)] w fun e w' => ∃ a2 n2 c2, e = .returned (.tuple #[.agg (pkCells (ecP h B).1 (.slice none 0 0) (.slice a2 n2 c2)), .int .i64 (ecE h B)]) ∧ SeesB w' (.slice a2 n2 c2) (ecP h B).2 ∧ (∀ a, a2 = some a → w.heap.size ≤ a.block) ∧ Below w.heap.size w w' := by
  obtain ⟨wa, hwa⟩ : ∃ wa, wa = w.alloc (.cells (pkCells h vo vb) 35) := ⟨_, rfl⟩
  obtain ⟨w1, hw1⟩ : ∃ w1, w1 = wa.alloc (.cells zeroP 35) := ⟨_, rfl⟩
  have hsa : wa.heap.size = w.heap.size + 1 := by rw [hwa]; simp
  have hs1 : w1.heap.size = w.heap.size + 2 := by rw [hw1]; simp [hsa]
  have hba : Below w.heap.size w wa := by rw [hwa]; exact (Below.refl _ _).alloc (Nat.le_refl _) _
  have hbb : Below wa.heap.size wa w1 := by rw [hw1]; exact (Below.refl _ _).alloc (Nat.le_refl _) _
  have hb1 : Below w.heap.size w w1 := hba.trans (hbb.mono (by omega))
  have k0 : w1.heap[w.heap.size]? = some (.cells (pkCells h vo vb) 35 (0, 0)) := by
    rw [hbb.block _ (by omega), hwa]; exact heap_alloc_new w _
  have k1 : w1.heap[w.heap.size + 1]? = some (.cells zeroP 35 (0, 0)) := by
    rw [← hsa, hw1]; exact heap_alloc_new wa _
  have HLD := hid (pk_load k0)
  have HMS := hid (message_any h vo vb B w1 hok (hvo.below hb1) (hvb.below hb1) hlo hlb)
  obtain ⟨hC1, hC2, hC3⟩ := msgC_ok (h := h) hvb.bytes
  have HTH : Hid (∀ u, Below w1.heap.size w1 u → u.there (w.heap.size + 1) 0 11) := fun u hu => there_blk (C := zeroP) (t := 35) ((hu.block _ (by omega)).trans k1) rfl
  have HPC : Hid (∀ u, Below w1.heap.size w1 u → (Instr.loadAt 33 (.pointer (some ⟨w.heap.size, 0, none⟩))).run Tryd.prog u = .ok (.agg (hdCells h vo)) u ∧ u.cell? ⟨w.heap.size, 0, none⟩ = some (.int .u8 (h.tos : Int)) ∧ u.cell? ⟨w.heap.size, 7, none⟩ = some (.int .u32 (h.src : Int)) ∧ u.cell? ⟨w.heap.size, 8, none⟩ = some (.int .u32 (h.dst : Int))) := fun u hu => by
    have hk := (hu.block w.heap.size (by omega)).trans k0
    exact ⟨pk_loadH hk, pk_at hk 0 (by omega), pk_at hk 7 (by omega), pk_at hk 8 (by omega)⟩
  have HEN : Hid (∀ u, Below w1.heap.size w1 u → Calls Tryd.prog 46 #[.agg (hdCells h vo)] u fun e w' => e = .returned (.bool (pln h.src && pln h.dst)) ∧ Below u.heap.size u w') := fun u hu => plainEnds_any h vo u hok ((htC.below hb1).below hu)
  have HCA : Hid (∀ (v : Value) (u : World), SeesB u v (msgC h B).B → Calls Tryd.prog 44 #[.agg (ctCells (ecM h B) v), .agg (hdCells (md0 h.tos h.dst h.src) (.slice none 0 0))] u fun e w' => ∃ g k, e = .returned (.agg (pkCells (mdH h.tos h.dst h.src) (.slice none 0 0) (.slice (some ⟨g, 0, none⟩) k k))) ∧ SeesB w' (.slice (some ⟨g, 0, none⟩) k k) (Im.laid (ecM h B)) ∧ u.heap.size ≤ g ∧ Below u.heap.size u w') := fun v u hs => carry_any (ecM h B) v h.tos h.dst h.src u ⟨by show 0 < 256; omega, hC1.c, hC1.r⟩ hs hC3
  have HW1 : Hid (w1 = (w.alloc (.cells (pkCells h vo vb) 35)).alloc (.cells #[.int .u8 0, .int .u16 0, .bool false, .bool false, .int .i64 0, .int .u8 0, .int .u8 0, .int .u32 0, .int .u32 0, .slice none 0 0, .slice none 0 0] 35)) := by unfold Hid; rw [hw1, hwa]; rfl
  have HB1 := hid hb1
  have HS1 := hid hs1
  have HBW : Hid (∀ u, Below w1.heap.size w1 u → Below w.heap.size w u) := fun u hu => hb1.trans (hu.mono hb1.size)
  have HA : Hid (ecE h B = if msgE h B ≠ 0 then msgE h B else if (msgC h B).t ≠ 8 ∨ (msgC h B).c ≠ 0 then 62 else if (pln h.src && pln h.dst) = true then 0 else 61) := rfl
  have HPP : Hid (ecP h B = if ecE h B = 0 then (mdH h.tos h.dst h.src, Im.laid (ecM h B)) else (zeroH, [])) := rfl
  have HEM : Hid (∀ v, ctCells (ecM h B) v = #[.int .u8 0, .int .u8 ((msgC h B).c : Int), .int .u32 ((msgC h B).r : Int), v]) := fun v => rfl
  have HHD : Hid (hdCells (md0 h.tos h.dst h.src) (.slice none 0 0) = #[.int .u8 (h.tos : Int), .int .u16 0, .bool false, .bool false, .int .i64 0, .int .u8 0, .int .u8 0, .int .u32 (h.dst : Int), .int .u32 (h.src : Int), .slice none 0 0]) := rfl
  clear hwa hw1 hsa hs1 hba hbb hb1 k0 k1 hvb hvo hok hlo hlb hC1 hC2 hC3 htC
  generalize ecP h B = AB at *
  generalize ecE h B = AE at *
  generalize msgE h B = q at *
  generalize ecM h B = EM at *
  generalize msgC h B = MC at *
  generalize pkCells h vo vb = pk at *
  generalize hdCells h vo = hc at *
  generalize mdH h.tos h.dst h.src = MH at *
  generalize (pln h.src && pln h.dst) = en at *
  rw [HHD.out] at HCA
  generalize h.tos = tos at *
  generalize h.src = src at *
  generalize h.dst = dst at *
  obtain ⟨zz, hzz⟩ : ∃ zz : Array Value, zz = zeroP := ⟨_, rfl⟩
  have HZ : Hid (zz = #[.int .u8 0, .int .u16 0, .bool false, .bool false, .int .i64 0, .int .u8 0, .int .u8 0, .int .u32 0, .int .u32 0, .slice none 0 0, .slice none 0 0]) := hzz
  have HONE : Hid (zz.all (·.oneCell') = true) := by unfold Hid; rw [hzz]; simp [zeroP, Value.oneCell']
  have HINF : Hid ((Tryd.prog.info? 35).map (·.size) = some zz.size) := by unfold Hid; rw [hzz]; exact size_pk
  have HZC : Hid (zz = pkCells zeroH (.slice none 0 0) (.slice none 0 0)) := hzz
  have HZS : Hid (zz.size = 11) := by unfold Hid; rw [hzz]; rfl
  clear hzz
  go_enter Tryd.func23, Tryd.ntmps23
  go_upto_region 1 with fail
  rw [← HW1.out]
  go_wp2_with (first | (refine wpList_ld 35 ⟨w.heap.size, 0, none⟩ _ rfl rfl HLD.out rfl ?_) | fail)
  refine HMS.out.mono ?_
  rintro _ w2 ⟨a2, n2, c2, rfl, hs2, hn2, hb2⟩
  obtain ⟨pa, hpa⟩ : ∃ pa : Array Value, pa = ctCells MC (.slice a2 n2 c2) := ⟨_, rfl⟩
  obtain ⟨w3, hw3⟩ : ∃ w3, w3 = (w2.alloc (.cells zeroC 29)).setCells w2.heap.size 0 pa.toList := ⟨_, rfl⟩
  have HZA : Hid ((Tryd.prog.info? 29).map (·.size) = some pa.size) := by unfold Hid; rw [hpa]; exact size_ct
  have HOA : Hid (pa.all (·.oneCell') = true) := by unfold Hid; rw [hpa]; simp [ctCells, Value.oneCell']
  have HTA : Hid ((w2.alloc (.cells zeroC 29)).there w2.heap.size 0 pa.size) := by unfold Hid; rw [hpa]; exact there_blk (C := zeroC) (t := 29) (heap_alloc_new w2 _) rfl
  have hr3 : w3.heap[w2.heap.size]? = some (.cells (ctCells MC (.slice a2 n2 c2)) 29 (0, 0)) := by
    rw [hw3, hpa]
    have := heap_setCells_row (b := w2.heap.size) (T := 29) (ctCells MC (.slice a2 n2 c2)).toList 0 _ zeroC (heap_alloc_new w2 (.cells zeroC 29))
    rwa [show wr zeroC 0 (ctCells MC (.slice a2 n2 c2)).toList = ctCells MC (.slice a2 n2 c2) by simp [wr, zeroC, ctCells]] at this
  have hb23 : Below w2.heap.size w2 w3 := by rw [hw3]; exact below_setCells (Nat.le_refl _) _ _ _ ((Below.refl _ _).alloc (Nat.le_refl _) _)
  have hb3 : Below w1.heap.size w1 w3 := hb2.trans (hb23.mono hb2.size)
  obtain ⟨d0, d1, d2, d3⟩ := ct_at hr3
  have HR3 := hid hr3
  have HSV := hid hs2
  have HB23 := hid hb23
  have HW3 : Hid (w3 = (w2.alloc (.cells #[.int .u8 0, .int .u8 0, .int .u32 0, .slice none 0 0] 29)).setCells w2.heap.size 0 pa.toList) := hw3
  have HB3 := hid hb3
  have hlt3 : w2.heap.size < w3.heap.size := (Array.getElem?_eq_some_iff.1 hr3).1
  have HLT := hid hlt3
  have HLT2 : Hid (w.heap.size + 2 ≤ w2.heap.size) := by unfold Hid; have := hb2.size; have := HS1.out; omega
  rw [← hpa]
  clear hpa hw3 hr3 hb23 hb3 hs2 hn2 hb2 hlt3
  go_upto_region 2 with (first
    | (refine wpList_store_mid rfl 29 (.tmp 4) (.tmp 9) rfl w2.heap.size 0 pa rfl rfl HTA.out HZA.out HOA.out ?_)
    | fail)
  rw [← HW3.out]
  by_cases hq : q = 0
  · subst hq
    have HA2 : Hid (AE = if MC.t ≠ 8 ∨ MC.c ≠ 0 then 62 else if en = true then 0 else 61) := by unfold Hid; rw [HA.out, if_neg (by simp)]
    by_cases h8 : MC.t = 8
    · by_cases h0 : MC.c = 0
      · have HA3 : Hid (AE = if en = true then 0 else 61) := by unfold Hid; rw [HA2.out, if_neg (by simp [h8, h0])]
        have HMC := hid (And.intro h8 h0)
        rw [h8] at d0
        rw [h0] at d1
        clear h8 h0
        obtain ⟨q0, r0, r7, r8⟩ := HPC.out _ HB3.out
        have HLH := hid q0
        clear q0 r0 r7 r8
        go_wp2_with (first | (refine wpList_ld 33 ⟨w.heap.size, 0, none⟩ _ rfl rfl HLH.out rfl ?_) | fail)
        refine (HEN.out _ HB3.out).mono ?_
        rintro _ w4 ⟨rfl, hb4⟩
        have hb14 := HB3.out.trans (hb4.mono HB3.out.size)
        cases en with
        | false =>
          have HE2 : Hid (AE = 61) := HA3.out
          have HP2 : Hid (AB = (zeroH, [])) := by unfold Hid; rw [HPP.out, HE2.out, if_neg (by decide)]
          have HTU : Hid (w4.there (w.heap.size + 1) 0 zz.size) := by unfold Hid; rw [HZS.out]; exact HTH.out _ hb14
          obtain ⟨q1, q2⟩ := res_end (w := w) HTU.out (by omega) (HBW.out _ hb14) Tryd.underlying35 HINF.out
          have HLV := hid q1
          have HBF := hid q2
          clear q1 q2
          go_wp2_with (first
            | (refine wpList_store_mid rfl 35 (.tmp 2) (.tmp 31) rfl (w.heap.size + 1) 0 zz rfl (by rw [HZ.out]; rfl) HTU.out HINF.out HONE.out ?_)
            | fail)
          generalize w4.setCells (w.heap.size + 1) 0 zz.toList = wf at HLV HBF ⊢
          refine bodyPost_ret (v := .tuple #[.agg zz, .int .i64 61]) (by simp [results, Tryd.results23, asAddr, HLV.out]) rfl ?_
          rw [HP2.out, HE2.out]
          exact ⟨none, 0, 0, by rw [HZC.out], sees_nil _, (fun a ha => by cases ha), HBF.out⟩
        | true =>
          have HE2 : Hid (AE = 0) := HA3.out
          have HP2 : Hid (AB = (MH, Im.laid EM)) := by unfold Hid; rw [HPP.out, HE2.out, if_pos rfl]
          have hr4 := (hb4.block _ HLT.out).trans HR3.out
          have g0 := (ct_at hr4).1
          have fz : w4.frozen? ⟨w2.heap.size, 0, none⟩ = false := frozen_of_row _ _ _ _ _ hr4
          obtain ⟨w5, hw5⟩ : ∃ w5, w5 = w4.setCell ⟨w2.heap.size, 0, none⟩ (.int .u8 0) := ⟨_, rfl⟩
          have hr5 : w5.heap[w2.heap.size]? = some (.cells (ctCells EM (.slice a2 n2 c2)) 29 (0, 0)) := by
            rw [hw5, HEM.out]; exact heap_setCell_row hr4 _
          have hb25 : Below w2.heap.size w2 w5 := by rw [hw5]; exact (HB23.out.trans (hb4.mono HB23.out.size)).setCell (p := ⟨w2.heap.size, 0, none⟩) (Nat.le_refl _) _
          have hb15 : Below w1.heap.size w1 w5 := by rw [hw5]; exact hb14.setCell (p := ⟨w2.heap.size, 0, none⟩) (by have := HLT2.out; have := HS1.out; show w1.heap.size ≤ w2.heap.size; omega) _
          have HLE := hid (ct_load (n := w2.heap.size) rfl hr5)
          have HCB := hid (HCA.out _ w5 (HSV.out.below hb25))
          obtain ⟨_, e0, e7, e8⟩ := HPC.out _ hb15
          have HB15 := hid hb15
          have HW5 := hid hw5
          have HMT := HMC.out.1
          rw [HMT] at g0
          clear hr4 hw5 hr5 hb25 hb15 HLH d0 d1 d2 d3 HMT
          generalize ctCells EM (.slice a2 n2 c2) = ec at *
          go_upto_region 9 with fail
          rw [← HW5.out]
          go_wp2_with (first | (refine wpList_ld 29 ⟨w2.heap.size, 0, none⟩ _ rfl rfl HLE.out rfl ?_) | fail)
          refine HCB.out.mono ?_
          rintro _ w6 ⟨g, k, rfl, hs6, hg6, hb6⟩
          obtain ⟨yy, hyy⟩ : ∃ yy : Array Value, yy = pkCells MH (.slice none 0 0) (.slice (some ⟨g, 0, none⟩) k k) := ⟨_, rfl⟩
          have HYC := hid hyy
          have HOY : Hid (yy.all (·.oneCell') = true) := by unfold Hid; rw [hyy]; simp [pkCells, Value.oneCell']
          have HIY : Hid ((Tryd.prog.info? 35).map (·.size) = some yy.size) := by unfold Hid; rw [hyy]; exact size_pk
          have hb16 := HB15.out.trans (hb6.mono HB15.out.size)
          have HTU : Hid (w6.there (w.heap.size + 1) 0 yy.size) := by unfold Hid; rw [hyy]; exact HTH.out _ hb16
          obtain ⟨q1, q2⟩ := res_end (w := w) HTU.out (by omega) (HBW.out _ hb16) Tryd.underlying35 HIY.out
          have HLV := hid q1
          have HBF := hid q2
          have hgs : w.heap.size + 2 ≤ g := by have := HB15.out.size; have := HS1.out; omega
          have HSF := hid (sees_setI (b := w.heap.size + 1) (vs := yy.toList) hs6 (fun a ha => by cases ha; show g ≠ w.heap.size + 1; omega))
          rw [← hyy]
          clear q1 q2 hyy hs6 hb16 hb6 hg6
          go_wp2_with (first
            | (refine wpList_store_mid rfl 35 (.tmp 2) (.tmp 44) rfl (w.heap.size + 1) 0 yy rfl rfl HTU.out HIY.out HOY.out ?_)
            | fail)
          generalize w6.setCells (w.heap.size + 1) 0 yy.toList = wf at HLV HBF HSF ⊢
          refine bodyPost_ret (v := .tuple #[.agg yy, .int .i64 0]) (by simp [results, Tryd.results23, asAddr, HLV.out]) rfl ?_
          rw [HP2.out, HE2.out]
          exact ⟨_, _, _, by rw [HYC.out], HSF.out, (fun a ha => by cases ha; show w.heap.size ≤ g; omega), HBF.out⟩
      · have HE2 : Hid (AE = 62) := by unfold Hid; rw [HA2.out, if_pos (.inr h0)]
        have qc : ((MC.c : Int) != 0) = true := by simp; omega
        rw [h8] at d0
        clear h8 h0
        generalize MC.c = mc at *
        have HP2 : Hid (AB = (zeroH, [])) := by unfold Hid; rw [HPP.out, HE2.out, if_neg (by decide)]
        have HTU : Hid (w3.there (w.heap.size + 1) 0 zz.size) := by unfold Hid; rw [HZS.out]; exact HTH.out _ HB3.out
        obtain ⟨q1, q2⟩ := res_end (w := w) HTU.out (by omega) (HBW.out _ HB3.out) Tryd.underlying35 HINF.out
        have HLV := hid q1
        have HBF := hid q2
        clear q1 q2
        go_wp2_with (first
          | (refine wpList_store_mid rfl 35 (.tmp 2) (.tmp 25) rfl (w.heap.size + 1) 0 zz rfl (by rw [HZ.out]; rfl) HTU.out HINF.out HONE.out ?_)
          | fail)
        generalize w3.setCells (w.heap.size + 1) 0 zz.toList = wf at HLV HBF ⊢
        refine bodyPost_ret (v := .tuple #[.agg zz, .int .i64 62]) (by simp [results, Tryd.results23, asAddr, HLV.out]) rfl ?_
        rw [HP2.out, HE2.out]
        exact ⟨none, 0, 0, by rw [HZC.out], sees_nil _, (fun a ha => by cases ha), HBF.out⟩
    · have HE2 : Hid (AE = 62) := by unfold Hid; rw [HA2.out, if_pos (.inl h8)]
      have qc : ((MC.t : Int) != 8) = true := by simp; omega
      clear h8
      generalize MC.t = mt at *
      have HP2 : Hid (AB = (zeroH, [])) := by unfold Hid; rw [HPP.out, HE2.out, if_neg (by decide)]
      have HTU : Hid (w3.there (w.heap.size + 1) 0 zz.size) := by unfold Hid; rw [HZS.out]; exact HTH.out _ HB3.out
      obtain ⟨q1, q2⟩ := res_end (w := w) HTU.out (by omega) (HBW.out _ HB3.out) Tryd.underlying35 HINF.out
      have HLV := hid q1
      have HBF := hid q2
      clear q1 q2
      go_wp2_with (first
        | (refine wpList_store_mid rfl 35 (.tmp 2) (.tmp 25) rfl (w.heap.size + 1) 0 zz rfl (by rw [HZ.out]; rfl) HTU.out HINF.out HONE.out ?_)
        | fail)
      generalize w3.setCells (w.heap.size + 1) 0 zz.toList = wf at HLV HBF ⊢
      refine bodyPost_ret (v := .tuple #[.agg zz, .int .i64 62]) (by simp [results, Tryd.results23, asAddr, HLV.out]) rfl ?_
      rw [HP2.out, HE2.out]
      exact ⟨none, 0, 0, by rw [HZC.out], sees_nil _, (fun a ha => by cases ha), HBF.out⟩
  · have HE2 : Hid (AE = q) := by unfold Hid; rw [HA.out, if_pos hq]
    have hqq : (q != 0) = true := by simp [hq]
    have HP2 : Hid (AB = (zeroH, [])) := by unfold Hid; rw [HPP.out, HE2.out, if_neg (by exact hq)]
    have HTU : Hid (w3.there (w.heap.size + 1) 0 zz.size) := by unfold Hid; rw [HZS.out]; exact HTH.out _ HB3.out
    obtain ⟨q1, q2⟩ := res_end (w := w) HTU.out (by omega) (HBW.out _ HB3.out) Tryd.underlying35 HINF.out
    have HLV := hid q1
    have HBF := hid q2
    clear q1 q2
    go_wp2_with (first
      | (refine wpList_store_mid rfl 35 (.tmp 2) (.tmp 14) rfl (w.heap.size + 1) 0 zz rfl (by rw [HZ.out]; rfl) HTU.out HINF.out HONE.out ?_)
      | fail)
    generalize w3.setCells (w.heap.size + 1) 0 zz.toList = wf at HLV HBF ⊢
    refine bodyPost_ret (v := .tuple #[.agg zz, .int .i64 q]) (by simp [results, Tryd.results23, asAddr, HLV.out]) rfl ?_
    rw [HP2.out, HE2.out]
    exact ⟨none, 0, 0, by rw [HZC.out], sees_nil _, (fun a ha => by cases ha), HBF.out⟩
end Go.Proofs.YtcboenmmkaochabDoor.N

namespace Go.Proofs.YtcboenmmkaochabDoor.N
open Go.ChangeShapes Go.WideShapes Go.ChangeAt Go.RowKit
set_option maxHeartbeats 2000000
set_option maxRecDepth 100000

/-- The error of a fault. -/
def fltE (h : Hd) (B : List Nat) (t c : Nat) (a : Int) (f : Nat) : Int :=
  if (mayT t c a && pln f) = true then (if refE h B.length ≠ 0 then refE h B.length else if told h B = true then 0 else 61) else 1
def fltQ (h : Hd) (B : List Nat) : Nat := 20 + h.opts.length + min B.length 8
def fltM (h : Hd) (B : List Nat) (t c : Nat) (a : Int) : Im.Ct := ⟨t, c, rstN t a.toNat, (builtL h B).take (fltQ h B)⟩
def fltP (h : Hd) (B : List Nat) (t c : Nat) (a : Int) (f : Nat) : Hd × List Nat := if fltE h B t c a f = 0 then (mdH 0 f h.src, Im.laid (fltM h B t c a)) else (zeroH, [])

theorem mxA_le (t c : Nat) : mxA t c ≤ 65535 := by unfold mxA; split; · omega
                                                   · split <;> omega

theorem rstN_lt {t c a : Nat} (h : (a : Int) ≤ mxA t c) : rstN t a < 4294967296 := by
  unfold rstN
  split
  · rename_i e
    subst e
    unfold mxA at h
    split at h
    · omega
    · split at h <;> omega
  · have := mxA_le t c; omega

theorem built_len {h : Hd} {B : List Nat} (he : refE h B.length = 0) : (builtL h B).length = 20 + h.opts.length + B.length := by
  unfold builtL
  rw [if_pos he, List.length_append, hdBytes_len]

theorem alloc_ct (u : World) : (Instr.alloc 29 true (.tuple #[])).run Tryd.prog u = .ok (.pointer (some ⟨u.heap.size, 0, none⟩)) (u.alloc (.cells zeroC 29)) := by
  simp [Instr.alloc, go_sem, zeroC]

theorem ex_alloc {P : Program} {o : Oper} {a : Act} {w w' : World} {v : Value} (T : TypeId) (ho : o.op = .alloc T) (hr : (Instr.alloc T true (.tuple #[])).run P w = .ok v w') : (execOp a.eval o).run P w = .ok (.value v) w' := by
  unfold execOp
  simp only [ho, Sem.run_bind, hr, Result.andThen_ok, Sem.run_pure]

theorem cut_high (ao : Option Addr) (n cap m : Nat) (i : Int) (hi : i = (m : Int)) (hm : m ≤ n) {w : World} {L : List Nat} (hs : SeesB w (.slice ao n cap) L) (u : World) : (Instr.sliceAt 26 (.slice ao n cap) none (some (.int .i64 i)) none).run Tryd.prog u = .ok (.slice ao m cap) u := by
  subst hi
  obtain ⟨ao', cap', hv, h1, h2, _⟩ := hs
  simp at hv
  obtain ⟨rfl, rfl, rfl⟩ := hv
  have hu : Tryd.prog.underlying 26 = some (.slice (Tryd.prog.elem 26)) := by kernel_rfl
  have hsz : (sizeOf (Tryd.prog.elem 26)).run Tryd.prog u = .ok 1 u := by kernel_rfl
  rw [run_sliceAt_slice (h := hu), run_slice_h (ht := hu) (h0 := by omega) (h2 := by omega), hsz]
  cases ao with
  | none =>
    have hc := h1.2 rfl
    have hm0 : m = 0 := by omega
    subst hm0
    simp [Result.andThen, sliced, hc]
  | some a => simp [Result.andThen, sliced, Addr.add]

/-- Values of a region with a block of its own among them. -/
def Va (l : List Value) (base : Nat) (i : Nat) (v : Value) (w : World) : Prop :=
  if i = 9 then ∃ b, v = .pointer (some ⟨b, 0, none⟩) ∧ w.heap[b]? = some (.cells zeroC 29 (0, 0)) ∧ base ≤ b else l[i]? = some v

theorem Va.keeps (l : List Value) (base : Nat) : ∀ (i : Nat) (v : Value) (w w' : World), Va l base i v w → Below w.heap.size w w' → Va l base i v w' := fun i v w w' h hb => by
  unfold Va at *
  split at h
  · rename_i h1
    rw [if_pos h1]
    obtain ⟨b, e, hk, hB⟩ := h
    exact ⟨b, e, (hb.block b (Array.getElem?_eq_some_iff.1 hk).1).trans hk, hB⟩
  · rename_i h1
    rw [if_neg h1]
    exact h

theorem Va.plain {l : List Value} {base i : Nat} {v y : Value} {w : World} (h : Va l base i v w) (h1 : i ≠ 9) (hy : l[i]? = some y) : v = y := by
  unfold Va at h
  rw [if_neg h1, hy] at h
  exact (Option.some.inj h).symm

theorem low9 {s j : Nat} (h : s < 15) : (if j = 9 then 15 else 50 + j) ≠ s := by split <;> omega

theorem wp_stillA {P : Program} {o : Oper} {a : Act} {W w : World} {Q : Exit → Act → World → Prop} {l : List Value} {base i : Nat} {t : Tmp} {v : Value} (hr : (execOp a.eval o).run P w = .ok (.value v) w) (ht : o.dst = some t) (h1 : i ≠ 9) (hv : l[i]? = some v) (hW : Below W.heap.size W w) :
    o.wp P a w (fun a' w' => ∃ v', a' = a.put (some t) v' ∧ Va l base i v' w' ∧ Below W.heap.size W w' ∧ Below w.heap.size w w') Q :=
  wp_val hr (by rw [ht]; exact ⟨v, rfl, by unfold Va; rw [if_neg h1]; exact hv, hW, Below.refl _ _⟩)

theorem fault_any (h : Hd) (vo vb : Value) (B : List Nat) (t c : Nat) (a : Int) (f : Nat) (w : World) (hok : h.Ok) (hvo : SeesB w vo h.opts) (hvb : SeesB w vb B) (hlo : h.opts.length ≤ 140737488355328) (hlb : B.length ≤ 140737488355328) (ht : t < 256) (hc : c < 256) (hf : f < 4294967296) (htC : Ad.TabC w) (htK : TabK w) :
    Calls Tryd.prog 21 #[.agg (pkCells h vo vb), .int .u8 (t : Int), .int .u8 (c : Int), .int .i64 a, .int .u32 (f : Int)] w fun e w' => ∃ a2 n2 c2, e = .returned (.tuple #[.agg (pkCells (fltP h B t c a f).1 (.slice none 0 0) (.slice a2 n2 c2)), .int .i64 (fltE h B t c a f)]) ∧ SeesB w' (.slice a2 n2 c2) (fltP h B t c a f).2 ∧ (∀ x, a2 = some x → w.heap.size ≤ x.block) ∧ Below w.heap.size w w' := by
  obtain ⟨wa, hwa⟩ : ∃ wa, wa = w.alloc (.cells (pkCells h vo vb) 35) := ⟨_, rfl⟩
  obtain ⟨w1, hw1⟩ : ∃ w1, w1 = wa.alloc (.cells zeroP 35) := ⟨_, rfl⟩
  have hsa : wa.heap.size = w.heap.size + 1 := by rw [hwa]; simp
  have hs1 : w1.heap.size = w.heap.size + 2 := by rw [hw1]; simp [hsa]
  have hba : Below w.heap.size w wa := by rw [hwa]; exact (Below.refl _ _).alloc (Nat.le_refl _) _
  have hbb : Below wa.heap.size wa w1 := by rw [hw1]; exact (Below.refl _ _).alloc (Nat.le_refl _) _
  have hb1 : Below w.heap.size w w1 := hba.trans (hbb.mono (by omega))
  have k0 : w1.heap[w.heap.size]? = some (.cells (pkCells h vo vb) 35 (0, 0)) := by
    rw [hbb.block _ (by omega), hwa]; exact heap_alloc_new w _
  have k1 : w1.heap[w.heap.size + 1]? = some (.cells zeroP 35 (0, 0)) := by
    rw [← hsa, hw1]; exact heap_alloc_new wa _
  obtain ⟨ao, no, capo, rfl, HNO, hno1, hno2⟩ := hvo.shape
  obtain ⟨ab, nb, capb, rfl, HNB, hnb1, hnb2⟩ := hvb.shape
  unfold maxLen at hno2 hnb2
  have HTH : Hid (∀ u, Below w1.heap.size w1 u → u.there (w.heap.size + 1) 0 11) := fun u hu => there_blk (C := zeroP) (t := 35) ((hu.block _ (by omega)).trans k1) rfl
  have HPC : Hid (∀ u, Below w1.heap.size w1 u → (Instr.loadAt 35 (.pointer (some ⟨w.heap.size, 0, none⟩))).run Tryd.prog u = .ok (.agg (pkCells h (.slice ao no capo) (.slice ab nb capb))) u ∧ u.cell? ⟨w.heap.size, 7, none⟩ = some (.int .u32 (h.src : Int)) ∧ u.cell? ⟨w.heap.size, 9, none⟩ = some (.slice ao no capo) ∧ u.cell? ⟨w.heap.size, 10, none⟩ = some (.slice ab nb capb)) := fun u hu => by
    have hk := (hu.block w.heap.size (by omega)).trans k0
    exact ⟨pk_load hk, pk_at hk 7 (by omega), pk_at hk 9 (by omega), pk_at hk 10 (by omega)⟩
  have HMT := hid (mayTell_any t c a w1 ht (htK.below hb1))
  have HIP : Hid (∀ u, Below w1.heap.size w1 u → Calls Tryd.prog 40 #[.int .u32 (f : Int)] u fun e w' => e = .returned (.bool (pln f)) ∧ Below u.heap.size u w') := fun u hu => isPlain_any f u hf ((htC.below hb1).below hu)
  have HBD : Hid (∀ u, Below w1.heap.size w1 u → Calls Tryd.prog 41 #[.agg (pkCells h (.slice ao no capo) (.slice ab nb capb))] u fun e w' => ∃ ao n cap, e = .returned (.tuple #[.slice ao n cap, .int .i64 (refE h B.length)]) ∧ SeesB w' (.slice ao n cap) (builtL h B) ∧ Below u.heap.size u w') := fun u hu => build_code h _ _ B u hok (hvo.below (hb1.trans (hu.mono hb1.size))) (hvb.below (hb1.trans (hu.mono hb1.size))) hlo hlb
  have HTD : Hid (∀ u, Below w1.heap.size w1 u → Calls Tryd.prog 42 #[.agg (pkCells h (.slice ao no capo) (.slice ab nb capb))] u fun e w' => e = .returned (.bool (told h B)) ∧ Below u.heap.size u w') := fun u hu => told_any h _ _ B u hok (hvb.below (hb1.trans (hu.mono hb1.size))) ((htC.below hb1).below hu) ((htK.below hb1).below hu)
  have HBL : Hid (refE h B.length = 0 → (builtL h B).length = 20 + no + nb ∧ no ≤ 40 ∧ 20 + no + nb ≤ 65535) := fun he => by
    obtain ⟨r1, r2, r3⟩ := refE_ok he
    obtain ⟨l1, l2⟩ := area_len r1
    have := built_len he
    have e1 := HNO.out
    have e2 := HNB.out
    omega
  have HQ : Hid (fltQ h B = 20 + no + min nb 8) := by unfold Hid fltQ; rw [HNO.out, HNB.out]
  have HBB : Hid (∀ x ∈ builtL h B, x < 256) := built_bytes hok hvo.bytes hvb.bytes
  have HW1 : Hid (w1 = (w.alloc (.cells (pkCells h (.slice ao no capo) (.slice ab nb capb)) 35)).alloc (.cells #[.int .u8 0, .int .u16 0, .bool false, .bool false, .int .i64 0, .int .u8 0, .int .u8 0, .int .u32 0, .int .u32 0, .slice none 0 0, .slice none 0 0] 35)) := by unfold Hid; rw [hw1, hwa]; rfl
  have HB1 := hid hb1
  have HS1 := hid hs1
  have HBW : Hid (∀ u, Below w1.heap.size w1 u → Below w.heap.size w u) := fun u hu => hb1.trans (hu.mono hb1.size)
  have HA : Hid (fltE h B t c a f = if (mayT t c a && pln f) = true then (if refE h B.length ≠ 0 then refE h B.length else if told h B = true then 0 else 61) else 1) := rfl
  have HPP : Hid (fltP h B t c a f = if fltE h B t c a f = 0 then (mdH 0 f h.src, Im.laid (fltM h B t c a)) else (zeroH, [])) := rfl
  have HFM : Hid (fltM h B t c a = ⟨t, c, rstN t a.toNat, (builtL h B).take (fltQ h B)⟩) := rfl
  have HMA : Hid (mayT t c a = true → 0 ≤ a ∧ a ≤ mxA t c) := fun e => by unfold mayT at e; simp at e; exact e.2
  have HSRC := hid hok.src
  clear hwa hw1 hsa hs1 hba hbb hb1 k0 k1 hvb hvo hok hlo hlb htC htK
  generalize fltP h B t c a f = AB at *
  generalize fltE h B t c a f = AE at *
  generalize fltM h B t c a = FM at *
  generalize fltQ h B = FQ at *
  generalize refE h B.length = q at *
  generalize builtL h B = BL at *
  generalize told h B = td at *
  generalize hmay : mayT t c a = my at *
  generalize hpl : pln f = pf at *
  generalize pkCells h (.slice ao no capo) (.slice ab nb capb) = pk at *
  generalize h.src = src at *
  clear hmay hpl
  obtain ⟨zz, hzz⟩ : ∃ zz : Array Value, zz = zeroP := ⟨_, rfl⟩
  have HZ : Hid (zz = #[.int .u8 0, .int .u16 0, .bool false, .bool false, .int .i64 0, .int .u8 0, .int .u8 0, .int .u32 0, .int .u32 0, .slice none 0 0, .slice none 0 0]) := hzz
  have HONE : Hid (zz.all (·.oneCell') = true) := by unfold Hid; rw [hzz]; simp [zeroP, Value.oneCell']
  have HINF : Hid ((Tryd.prog.info? 35).map (·.size) = some zz.size) := by unfold Hid; rw [hzz]; exact size_pk
  have HZC : Hid (zz = pkCells zeroH (.slice none 0 0) (.slice none 0 0)) := hzz
  have HZS : Hid (zz.size = 11) := by unfold Hid; rw [hzz]; rfl
  clear hzz
  go_enter Tryd.func21, Tryd.ntmps21
  go_upto_region 1 with fail
  rw [← HW1.out]
  go_wp2_with fail
  refine HMT.out.mono ?_
  rintro _ w2 ⟨rfl, hb2⟩
  cases my with
  | false =>
    have HE2 : Hid (AE = 1) := by unfold Hid; rw [HA.out, if_neg (by simp)]
    have HP2 : Hid (AB = (zeroH, [])) := by unfold Hid; rw [HPP.out, HE2.out, if_neg (by decide)]
    have HTU : Hid (w2.there (w.heap.size + 1) 0 zz.size) := by unfold Hid; rw [HZS.out]; exact HTH.out _ hb2
    obtain ⟨q1, q2⟩ := res_end (w := w) HTU.out (by omega) (HBW.out _ hb2) Tryd.underlying35 HINF.out
    have HLV := hid q1
    have HBF := hid q2
    clear q1 q2
    go_wp2_with (first
      | (refine wpList_store_mid rfl 35 (.tmp 10) (.tmp 26) rfl (w.heap.size + 1) 0 zz rfl (by rw [HZ.out]; rfl) HTU.out HINF.out HONE.out ?_)
      | fail)
    generalize w2.setCells (w.heap.size + 1) 0 zz.toList = wf at HLV HBF ⊢
    refine bodyPost_ret (v := .tuple #[.agg zz, .int .i64 1]) (by simp [results, Tryd.results21, asAddr, HLV.out]) rfl ?_
    rw [HP2.out, HE2.out]
    exact ⟨none, 0, 0, by rw [HZC.out], sees_nil _, (fun a ha => by cases ha), HBF.out⟩
  | true =>
    obtain ⟨ha0, ham⟩ := HMA.out rfl
    have HAM := hid (And.intro ha0 ham)
    clear ha0 ham
    go_wp2_with fail
    refine (HIP.out _ hb2).mono ?_
    rintro _ w3 ⟨rfl, hb3⟩
    have hb13 := hb2.trans (hb3.mono hb2.size)
    cases pf with
    | false =>
      have HE2 : Hid (AE = 1) := by unfold Hid; rw [HA.out, if_neg (by simp)]
      have HP2 : Hid (AB = (zeroH, [])) := by unfold Hid; rw [HPP.out, HE2.out, if_neg (by decide)]
      have HTU : Hid (w3.there (w.heap.size + 1) 0 zz.size) := by unfold Hid; rw [HZS.out]; exact HTH.out _ hb13
      obtain ⟨q1, q2⟩ := res_end (w := w) HTU.out (by omega) (HBW.out _ hb13) Tryd.underlying35 HINF.out
      have HLV := hid q1
      have HBF := hid q2
      clear q1 q2
      go_wp2_with (first
        | (refine wpList_store_mid rfl 35 (.tmp 10) (.tmp 26) rfl (w.heap.size + 1) 0 zz rfl (by rw [HZ.out]; rfl) HTU.out HINF.out HONE.out ?_)
        | fail)
      generalize w3.setCells (w.heap.size + 1) 0 zz.toList = wf at HLV HBF ⊢
      refine bodyPost_ret (v := .tuple #[.agg zz, .int .i64 1]) (by simp [results, Tryd.results21, asAddr, HLV.out]) rfl ?_
      rw [HP2.out, HE2.out]
      exact ⟨none, 0, 0, by rw [HZC.out], sees_nil _, (fun a ha => by cases ha), HBF.out⟩
    | true =>
      have HA2 : Hid (AE = if q ≠ 0 then q else if td = true then 0 else 61) := HA.out
      obtain ⟨p0, _, _, _⟩ := HPC.out _ hb13
      have HL3 := hid p0
      clear p0
      go_wp2_with (first | (refine wpList_ld 35 ⟨w.heap.size, 0, none⟩ _ rfl rfl HL3.out rfl ?_) | fail)
      refine (HBD.out _ hb13).mono ?_
      rintro _ w4 ⟨a4, n4, c4, rfl, hs4, hb4⟩
      have hb14 := hb13.trans (hb4.mono hb13.size)
      by_cases hq : q = 0
      · subst hq
        have HBLH := hid (HBL.out rfl)
        have HA3 : Hid (AE = if td = true then 0 else 61) := by unfold Hid; rw [HA2.out, if_neg (by simp)]
        obtain ⟨p0, _, _, _⟩ := HPC.out _ hb14
        have HL4 := hid p0
        clear p0
        have HS4 := hid hs4
        have HB14 := hid hb14
        clear hs4 hb4 hb13 hb3 hb2 HL3
        go_wp2_with (first | (refine wpList_ld 35 ⟨w.heap.size, 0, none⟩ _ rfl rfl HL4.out rfl ?_) | fail)
        refine (HTD.out _ HB14.out).mono ?_
        rintro _ w5 ⟨rfl, hb5⟩
        have hb15 := HB14.out.trans (hb5.mono HB14.out.size)
        cases td with
        | false =>
          have HE2 : Hid (AE = 61) := HA3.out
          have HP2 : Hid (AB = (zeroH, [])) := by unfold Hid; rw [HPP.out, HE2.out, if_neg (by decide)]
          have HTU : Hid (w5.there (w.heap.size + 1) 0 zz.size) := by unfold Hid; rw [HZS.out]; exact HTH.out _ hb15
          obtain ⟨q1, q2⟩ := res_end (w := w) HTU.out (by omega) (HBW.out _ hb15) Tryd.underlying35 HINF.out
          have HLV := hid q1
          have HBF := hid q2
          clear q1 q2
          go_wp2_with (first
            | (refine wpList_store_mid rfl 35 (.tmp 10) (.tmp 39) rfl (w.heap.size + 1) 0 zz rfl (by rw [HZ.out]; rfl) HTU.out HINF.out HONE.out ?_)
            | fail)
          generalize w5.setCells (w.heap.size + 1) 0 zz.toList = wf at HLV HBF ⊢
          refine bodyPost_ret (v := .tuple #[.agg zz, .int .i64 61]) (by simp [results, Tryd.results21, asAddr, HLV.out]) rfl ?_
          rw [HP2.out, HE2.out]
          exact ⟨none, 0, 0, by rw [HZC.out], sees_nil _, (fun a ha => by cases ha), HBF.out⟩
        | true =>
          have HE2 : Hid (AE = 0) := HA3.out
          have HP2 : Hid (AB = (mdH 0 f src, Im.laid FM)) := by unfold Hid; rw [HPP.out, HE2.out, if_pos rfl]
          obtain ⟨_, e7, e9, e10⟩ := HPC.out _ hb15
          have HB15 := hid hb15
          have HBLL := hid HBLH.out.1
          have hno40 := HBLH.out.2.1
          have hnb6 : nb ≤ 65535 := by have := HBLH.out.2.2; omega
          have hn4 : n4 = 20 + no + nb := by
            obtain ⟨_, _, hv, _⟩ := HS4.out
            simp at hv
            rw [hv.2.1, HBLL.out]
          have HQI : Hid ((20 : Int) + (no : Int) + (if (8 : Int) < (nb : Int) then 8 else (nb : Int)) = (FQ : Int)) := by
            unfold Hid
            rw [HQ.out]
            split <;> omega
          have hq4 : FQ ≤ n4 := by rw [HQ.out]; omega
          have hq4' : FQ ≤ 68 := by rw [HQ.out]; omega
          have HN4 := hid hn4
          clear hn4
          go_upto_region 9 with fail
          generalize (if (8 : Int) < (nb : Int) then (8 : Int) else (nb : Int)) = mn at HQI ⊢
          rw [HQI.out]
          obtain ⟨na, hna⟩ : ∃ na : Nat, a = (na : Int) := ⟨a.toNat, by have := HAM.out.1; omega⟩
          subst hna
          have hmx : (na : Int) ≤ mxA t c := HAM.out.2
          have HRS : Hid (∀ u, Calls Tryd.prog 43 #[.int .u8 (t : Int), .int .i64 (na : Int)] u fun e w' => e = .returned (.int .u32 ((rstN t na : Nat) : Int)) ∧ w' = u) := fun u => restOf_any t c na u hmx
          have HRL := hid (rstN_lt hmx)
          have hcut := cut_high a4 n4 c4 FQ (FQ : Int) rfl hq4 HS4.out
          have HSQ := hid (HS4.out.takeS FQ hq4)
          rw [show (na : Int).toNat = na by omega] at HFM
          clear hmx
          generalize rstN t na = r at *
          obtain ⟨ct, hct⟩ : ∃ ct : Array Value, ct = #[.int .u8 (t : Int), .int .u8 (c : Int), .int .u32 (r : Int), .slice a4 FQ c4] := ⟨_, rfl⟩
          have HCT := hid hct
          refine wp_region_mono' 10 (fun i => if i = 9 then 15 else 50 + i) (Va [.int .u8 (t : Int), .int .u8 (c : Int), .int .u8 (t : Int), .int .i64 (na : Int), .int .u32 (r : Int), .slice a4 n4 c4, .int .i64 (FQ : Int), .slice a4 FQ c4, .agg ct] w5.heap.size) (by kernel_rfl) (by kernel_rfl) (Va.keeps _ _) ?_ ?_
          · simp only [List.take_succ_cons, List.take_zero, stepsOk]
            refine ⟨?_, ?_, ?_, ?_, ?_, ?_, ?_, ?_, ?_, ?_, trivial⟩
            · intro a u vs hb hold hdep
              exact wp_stillA (ex_move (.tmp 1) _ rfl (hold 1 (fun j _ => low9 (by decide)))) rfl (by decide) rfl hb
            · intro a u vs hb hold hdep
              exact wp_stillA (ex_move (.tmp 2) _ rfl (hold 2 (fun j _ => low9 (by decide)))) rfl (by decide) rfl hb
            · intro a u vs hb hold hdep
              exact wp_stillA (ex_move (.tmp 1) _ rfl (hold 1 (fun j _ => low9 (by decide)))) rfl (by decide) rfl hb
            · intro a u vs hb hold hdep
              exact wp_stillA (ex_move (.tmp 3) _ rfl (hold 3 (fun j _ => low9 (by decide)))) rfl (by decide) rfl hb
            · intro a u vs hb hold hdep
              have h2 := hdep ⟨2, .data⟩ (by simp) rfl (by decide)
              have h3 := hdep ⟨3, .data⟩ (by simp) rfl (by decide)
              have e2 : a.eval (.tmp 52) = .int .u8 (t : Int) := h2.1.trans (h2.2.plain (by decide) rfl)
              have e3 : a.eval (.tmp 53) = .int .i64 (na : Int) := h3.1.trans (h3.2.plain (by decide) rfl)
              refine wp_call 43 _ _ rfl (enters_of Tryd.func43 (by kernel_rfl) rfl) #[.int .u8 (t : Int), .int .i64 (na : Int)] (by simp only [List.map_toArray, List.map_cons, List.map_nil, e2, e3]) ?_
              refine (HRS.out u).mono ?_
              rintro _ _ ⟨rfl, rfl⟩
              exact ⟨_, rfl, _, rfl, rfl, hb, Below.refl _ _⟩
            · intro a u vs hb hold hdep
              exact wp_stillA (ex_move (.tmp 12) _ rfl (hold 12 (fun j _ => low9 (by decide)))) rfl (by decide) rfl hb
            · intro a u vs hb hold hdep
              exact wp_stillA (ex_move (.tmp 14) _ rfl (hold 14 (fun j _ => low9 (by decide)))) rfl (by decide) rfl hb
            · intro a u vs hb hold hdep
              have h5 := hdep ⟨5, .data⟩ (by simp) rfl (by decide)
              have h6 := hdep ⟨6, .data⟩ (by simp) rfl (by decide)
              exact wp_stillA (ex_high _ _ _ _ _ _ rfl (h5.1.trans (h5.2.plain (by decide) rfl)) (h6.1.trans (h6.2.plain (by decide) rfl)) (hcut u)) rfl (by decide) rfl hb
            · intro a u vs hb hold hdep
              have h0 := hdep ⟨0, .data⟩ (by simp) rfl (by decide)
              have h1 := hdep ⟨1, .data⟩ (by simp) rfl (by decide)
              have h4 := hdep ⟨4, .data⟩ (by simp) rfl (by decide)
              have h7 := hdep ⟨7, .data⟩ (by simp) rfl (by decide)
              have e0 : a.eval (.tmp 50) = .int .u8 (t : Int) := h0.1.trans (h0.2.plain (by decide) rfl)
              have e1 : a.eval (.tmp 51) = .int .u8 (c : Int) := h1.1.trans (h1.2.plain (by decide) rfl)
              have e4 : a.eval (.tmp 54) = .int .u32 (r : Int) := h4.1.trans (h4.2.plain (by decide) rfl)
              have e7 : a.eval (.tmp 57) = .slice a4 FQ c4 := h7.1.trans (h7.2.plain (by decide) rfl)
              refine wp_stillA (ex_build _ _ #[(0, .int .u8 (t : Int)), (1, .int .u8 (c : Int)), (2, .int .u32 (r : Int)), (3, .slice a4 FQ c4)] (.agg ct) rfl (by simp only [List.map_toArray, List.map_cons, List.map_nil, e0, e1, e4, e7]) ?_) rfl (by decide) rfl hb
              rw [HCT.out]
              exact build_ct _ _ _ _ _ _ u
            · intro a u vs hb hold hdep
              have hba : Below u.heap.size u (u.alloc (.cells zeroC 29)) := (Below.refl _ _).alloc (Nat.le_refl _) _
              exact wp_val (ex_alloc _ rfl (alloc_ct u)) ⟨_, rfl, ⟨u.heap.size, rfl, heap_alloc_new u _, hb.size⟩, hb.trans (hba.mono hb.size), hba⟩
          intro vs u hb hF
          have e0 := (hF 0 (by decide)).plain (by decide) rfl
          have e1 := (hF 1 (by decide)).plain (by decide) rfl
          have e2 := (hF 2 (by decide)).plain (by decide) rfl
          have e3 := (hF 3 (by decide)).plain (by decide) rfl
          have e4 := (hF 4 (by decide)).plain (by decide) rfl
          have e5 := (hF 5 (by decide)).plain (by decide) rfl
          have e6 := (hF 6 (by decide)).plain (by decide) rfl
          have e7' := (hF 7 (by decide)).plain (by decide) rfl
          have e8 := (hF 8 (by decide)).plain (by decide) rfl
          obtain ⟨b, e9', hkb, hbb⟩ : ∃ b, vs 9 = .pointer (some ⟨b, 0, none⟩) ∧ u.heap[b]? = some (.cells zeroC 29 (0, 0)) ∧ w5.heap.size ≤ b := by
            have := hF 9 (by decide)
            unfold Va at this
            rwa [if_pos rfl] at this
          simp only [List.drop_succ_cons, List.drop_zero, puts, List.range, List.range.loop, List.foldr, if_true, Act.put, e0, e1, e2, e3, e4, e5, e6, e7', e8, e9', Nat.reduceAdd, Nat.reduceEqDiff, reduceIte, Nat.add_zero, Nat.zero_ne_add_one, List.setIfInBounds_toArray, List.set_cons_succ, List.set_cons_zero]
          clear e0 e1 e2 e3 e4 e5 e6 e7' e8 e9' hF hcut HRS
          obtain ⟨w6, hw6⟩ : ∃ w6, w6 = u.setCells b 0 ct.toList := ⟨_, rfl⟩
          have hr6 : w6.heap[b]? = some (.cells ct 29 (0, 0)) := by
            rw [hw6]
            have := heap_setCells_row (b := b) (T := 29) ct.toList 0 u zeroC hkb
            rwa [show wr zeroC 0 ct.toList = ct by rw [hct]; simp [wr, zeroC]] at this
          have hb56 : Below w5.heap.size w5 w6 := by rw [hw6]; exact below_setCells hbb _ _ _ hb
          have hb16 : Below w1.heap.size w1 w6 := HB15.out.trans (hb56.mono HB15.out.size)
          have HTB : Hid (u.there b 0 ct.size) := by unfold Hid; rw [hct]; exact there_blk (C := zeroC) (t := 29) hkb rfl
          have HOC : Hid (ct.all (·.oneCell') = true) := by unfold Hid; rw [hct]; simp [Value.oneCell']
          have HIC : Hid ((Tryd.prog.info? 29).map (·.size) = some ct.size) := by unfold Hid; rw [hct]; exact size_ct
          have HLC := hid (ct_load (n := b) (by rw [hct]; rfl) hr6)
          obtain ⟨_, g7, _, _⟩ := HPC.out _ hb16
          have HCA : Hid (Calls Tryd.prog 44 #[.agg ct, .agg #[.int .u8 0, .int .u16 0, .bool false, .bool false, .int .i64 0, .int .u8 0, .int .u8 0, .int .u32 (f : Int), .int .u32 (src : Int), .slice none 0 0]] w6 fun e w' => ∃ g k, e = .returned (.agg (pkCells (mdH 0 f src) (.slice none 0 0) (.slice (some ⟨g, 0, none⟩) k k))) ∧ SeesB w' (.slice (some ⟨g, 0, none⟩) k k) (Im.laid FM) ∧ w6.heap.size ≤ g ∧ Below w6.heap.size w6 w') := by
            have hsq : SeesB w6 (.slice a4 FQ c4) (BL.take FQ) := (HSQ.out.below hb5).below hb56
            have h := carry_any FM (.slice a4 FQ c4) 0 f src w6 (by rw [HFM.out]; exact ⟨ht, hc, HRL.out⟩) (by rw [HFM.out]; exact hsq) (by rw [HFM.out]; show (BL.take FQ).length ≤ 65507; rw [List.length_take]; omega)
            have e : ctCells FM (.slice a4 FQ c4) = ct := by rw [HFM.out, HCT.out]; rfl
            rw [e] at h
            exact h
          have HB16 := hid hb16
          have HW6 := hid hw6
          clear hw6 hr6 hb56 hb16 hkb hbb hct e7 e9 e10 HSQ hq4 hq4' hb5 hb
          go_upto_region 10 with (first
            | (refine wpList_store_mid rfl 29 (.tmp 15) (.tmp 58) rfl b 0 ct rfl rfl HTB.out HIC.out HOC.out ?_)
            | fail)
          rw [← HW6.out]
          go_wp2_with (first | (refine wpList_ld 29 ⟨b, 0, none⟩ _ rfl rfl HLC.out rfl ?_) | fail)
          refine HCA.out.mono ?_
          rintro _ w7 ⟨g, k, rfl, hs7, hg7, hb7⟩
          obtain ⟨yy, hyy⟩ : ∃ yy : Array Value, yy = pkCells (mdH 0 f src) (.slice none 0 0) (.slice (some ⟨g, 0, none⟩) k k) := ⟨_, rfl⟩
          have HYC := hid hyy
          have HOY : Hid (yy.all (·.oneCell') = true) := by unfold Hid; rw [hyy]; simp [pkCells, Value.oneCell']
          have HIY : Hid ((Tryd.prog.info? 35).map (·.size) = some yy.size) := by unfold Hid; rw [hyy]; exact size_pk
          have hb17 := HB16.out.trans (hb7.mono HB16.out.size)
          have HTU : Hid (w7.there (w.heap.size + 1) 0 yy.size) := by unfold Hid; rw [hyy]; exact HTH.out _ hb17
          obtain ⟨q1, q2⟩ := res_end (w := w) HTU.out (by omega) (HBW.out _ hb17) Tryd.underlying35 HIY.out
          have HLV := hid q1
          have HBF := hid q2
          have hgs : w.heap.size + 2 ≤ g := by have := HB16.out.size; have := HS1.out; omega
          have HSF := hid (sees_setI (b := w.heap.size + 1) (vs := yy.toList) hs7 (fun a ha => by cases ha; show g ≠ w.heap.size + 1; omega))
          rw [← hyy]
          clear q1 q2 hyy hs7 hb17 hb7 hg7
          go_wp2_with (first
            | (refine wpList_store_mid rfl 35 (.tmp 10) (.tmp 65) rfl (w.heap.size + 1) 0 yy rfl rfl HTU.out HIY.out HOY.out ?_)
            | fail)
          generalize w7.setCells (w.heap.size + 1) 0 yy.toList = wf at HLV HBF HSF ⊢
          refine bodyPost_ret (v := .tuple #[.agg yy, .int .i64 0]) (by simp [results, Tryd.results21, asAddr, HLV.out]) rfl ?_
          rw [HP2.out, HE2.out]
          exact ⟨_, _, _, by rw [HYC.out], HSF.out, (fun a ha => by cases ha; show w.heap.size ≤ g; omega), HBF.out⟩
      · have HE2 : Hid (AE = q) := by unfold Hid; rw [HA2.out, if_pos hq]
        have hqq : (q != 0) = true := by simp [hq]
        have HP2 : Hid (AB = (zeroH, [])) := by unfold Hid; rw [HPP.out, HE2.out, if_neg (by exact hq)]
        have HTU : Hid (w4.there (w.heap.size + 1) 0 zz.size) := by unfold Hid; rw [HZS.out]; exact HTH.out _ hb14
        obtain ⟨q1, q2⟩ := res_end (w := w) HTU.out (by omega) (HBW.out _ hb14) Tryd.underlying35 HINF.out
        have HLV := hid q1
        have HBF := hid q2
        clear q1 q2
        go_wp2_with (first
          | (refine wpList_store_mid rfl 35 (.tmp 10) (.tmp 34) rfl (w.heap.size + 1) 0 zz rfl (by rw [HZ.out]; rfl) HTU.out HINF.out HONE.out ?_)
          | fail)
        generalize w4.setCells (w.heap.size + 1) 0 zz.toList = wf at HLV HBF ⊢
        refine bodyPost_ret (v := .tuple #[.agg zz, .int .i64 q]) (by simp [results, Tryd.results21, asAddr, HLV.out]) rfl ?_
        rw [HP2.out, HE2.out]
        exact ⟨none, 0, 0, by rw [HZC.out], sees_nil _, (fun a ha => by cases ha), HBF.out⟩
end Go.Proofs.YtcboenmmkaochabDoor.N

namespace Go.Proofs.YtcboenmmkaochabDoor.N
open Go.ChangeShapes Go.WideShapes Go.ChangeAt Go.RowKit
set_option maxHeartbeats 2000000
set_option maxRecDepth 100000

theorem faulty_any (t : Nat) (w : World) :
    Calls Tryd.prog 50 #[.int .u8 (t : Int)] w fun e w' => e = .returned (.bool (kF t)) ∧ w' = w := by
  by_cases h3 : t = 3
  · subst h3
    have HR : Hid (kF 3 = true) := rfl
    rw [HR.out]
    go_enter Tryd.func50, Tryd.ntmps50
    go_wp2
    go_ret
    exact ⟨rfl, rfl⟩
  · by_cases h4 : t = 4
    · subst h4
      have HR : Hid (kF 4 = true) := rfl
      rw [HR.out]
      go_enter Tryd.func50, Tryd.ntmps50
      go_wp2
      go_ret
      exact ⟨rfl, rfl⟩
    · by_cases h5 : t = 5
      · subst h5
        have HR : Hid (kF 5 = true) := rfl
        rw [HR.out]
        go_enter Tryd.func50, Tryd.ntmps50
        go_wp2
        go_ret
        exact ⟨rfl, rfl⟩
      · by_cases h11 : t = 11
        · subst h11
          have HR : Hid (kF 11 = true) := rfl
          rw [HR.out]
          go_enter Tryd.func50, Tryd.ntmps50
          go_wp2
          go_ret
          exact ⟨rfl, rfl⟩
        · have q3 : ((t : Int) == 3) = false := by rw [beq_eq_false_iff_ne]; omega
          have q4 : ((t : Int) == 4) = false := by rw [beq_eq_false_iff_ne]; omega
          have q5 : ((t : Int) == 5) = false := by rw [beq_eq_false_iff_ne]; omega
          have q11 : ((t : Int) == 11) = false := by rw [beq_eq_false_iff_ne]; omega
          have HR : Hid (kF t = ((t : Int) == 12)) := by
            unfold Hid kF
            rw [show (t == 3) = false by simpa using h3, show (t == 4) = false by simpa using h4, show (t == 5) = false by simpa using h5, show (t == 11) = false by simpa using h11]
            rw [Bool.eq_iff_iff]
            simp
            omega
          rw [HR.out]
          clear h3 h4 h5 h11
          go_enter Tryd.func50, Tryd.ntmps50
          go_wp2
          go_ret
          exact ⟨rfl, rfl⟩

theorem plainR_any (a : Nat) (w : World) (ha : a < 4294967296) :
    Calls Tryd.prog 29 #[.int .u32 (a : Int)] w fun e w' => e = .returned (.bool (pln a)) ∧ w' = w := by
  by_cases h0 : a / 16777216 = 0
  · have HR : Hid (pln a = false) := by unfold Hid pln; simp [h0]
    have g0 : (((a : Int) / 16777216) != 0) = false := by simp; omega
    rw [HR.out]
    clear h0
    go_enter Tryd.func29, Tryd.ntmps29
    go_wp2
    go_ret
    exact ⟨rfl, rfl⟩
  · have g0 : (((a : Int) / 16777216) != 0) = true := by simp; omega
    by_cases h1 : a / 16777216 = 127
    · have HR : Hid (pln a = false) := by unfold Hid pln; simp [h1]
      have g1 : (((a : Int) / 16777216) != 127) = false := by simp; omega
      rw [HR.out]
      clear h0 h1
      go_enter Tryd.func29, Tryd.ntmps29
      go_wp2
      go_ret
      exact ⟨rfl, rfl⟩
    · have g1 : (((a : Int) / 16777216) != 127) = true := by simp; omega
      have HR : Hid (pln a = decide ((a : Int) / 16777216 < 224)) := by
        unfold Hid pln
        rw [decide_eq_true h0, decide_eq_true h1, Bool.true_and, Bool.true_and]
        congr 1
        apply propext
        omega
      rw [HR.out]
      clear h0 h1
      go_enter Tryd.func29, Tryd.ntmps29
      go_wp2
      go_ret
      exact ⟨rfl, rfl⟩

theorem may_any (t c : Nat) (a : Int) (w : World) :
    Calls Tryd.prog 28 #[.int .u8 (t : Int), .int .u8 (c : Int), .int .i64 a] w fun e w' => e = .returned (.bool (mayT t c a)) ∧ w' = w := by
  by_cases h3 : t = 3
  · subst h3
    by_cases h4 : c = 4
    · subst h4
      have HR : Hid (mayT 3 4 a = (decide (0 ≤ a) && decide (a ≤ 65535))) := rfl
      generalize mayT 3 4 a = r at *
      by_cases ha : 0 ≤ a
      · go_enter Tryd.func28, Tryd.ntmps28
        go_wp2
        go_ret
        exact ⟨ret_bool (by rw [HR.out]; simp [ha]), rfl⟩
      · go_enter Tryd.func28, Tryd.ntmps28
        go_wp2
        go_ret
        exact ⟨ret_bool (by rw [HR.out]; simp; omega), rfl⟩
    · have q4 : ((c : Int) == 4) = false := by rw [beq_eq_false_iff_ne]; omega
      have HR : Hid (mayT 3 c a = (decide (c ≤ 15) && (a == 0))) := by
        unfold Hid mayT mxA kC
        rw [Bool.eq_iff_iff]
        simp [h4]
        omega
      generalize mayT 3 c a = r at *
      by_cases hc : c ≤ 15
      · go_enter Tryd.func28, Tryd.ntmps28
        go_wp2
        go_ret
        exact ⟨ret_bool (by rw [HR.out]; simp [hc]), rfl⟩
      · go_enter Tryd.func28, Tryd.ntmps28
        go_wp2
        go_ret
        exact ⟨ret_bool (by rw [HR.out]; simp; omega), rfl⟩
  · have q3 : ((t : Int) == 3) = false := by rw [beq_eq_false_iff_ne]; omega
    by_cases h11 : t = 11
    · subst h11
      have HR : Hid (mayT 11 c a = (decide (c ≤ 1) && (a == 0))) := by
        unfold Hid mayT mxA kC
        rw [Bool.eq_iff_iff]
        simp
        omega
      generalize mayT 11 c a = r at *
      by_cases hc : c ≤ 1
      · go_enter Tryd.func28, Tryd.ntmps28
        go_wp2
        go_ret
        exact ⟨ret_bool (by rw [HR.out]; simp [hc]), rfl⟩
      · go_enter Tryd.func28, Tryd.ntmps28
        go_wp2
        go_ret
        exact ⟨ret_bool (by rw [HR.out]; simp; omega), rfl⟩
    · have q11 : ((t : Int) == 11) = false := by rw [beq_eq_false_iff_ne]; omega
      by_cases h12 : t = 12
      · subst h12
        by_cases h0 : c = 0
        · subst h0
          have HR : Hid (mayT 12 0 a = (decide (0 ≤ a) && decide (a ≤ 255))) := rfl
          generalize mayT 12 0 a = r at *
          by_cases ha : 0 ≤ a
          · go_enter Tryd.func28, Tryd.ntmps28
            go_wp2
            go_ret
            exact ⟨ret_bool (by rw [HR.out]; simp [ha]), rfl⟩
          · go_enter Tryd.func28, Tryd.ntmps28
            go_wp2
            go_ret
            exact ⟨ret_bool (by rw [HR.out]; simp; omega), rfl⟩
        · have q0 : ((c : Int) == 0) = false := by rw [beq_eq_false_iff_ne]; omega
          have HR : Hid (mayT 12 c a = (decide (c ≤ 2) && (a == 0))) := by
            unfold Hid mayT mxA kC
            rw [Bool.eq_iff_iff]
            simp [h0]
            omega
          generalize mayT 12 c a = r at *
          by_cases hc : c ≤ 2
          · go_enter Tryd.func28, Tryd.ntmps28
            go_wp2
            go_ret
            exact ⟨ret_bool (by rw [HR.out]; simp [hc]), rfl⟩
          · go_enter Tryd.func28, Tryd.ntmps28
            go_wp2
            go_ret
            exact ⟨ret_bool (by rw [HR.out]; simp; omega), rfl⟩
      · have q12 : ((t : Int) == 12) = false := by rw [beq_eq_false_iff_ne]; omega
        have HR : Hid (mayT t c a = false) := by
          unfold Hid mayT kC
          rw [if_neg h3, if_neg h11, if_neg h12]
          simp
        rw [HR.out]
        clear h3 h11 h12
        go_enter Tryd.func28, Tryd.ntmps28
        go_wp2
        go_ret
        exact ⟨rfl, rfl⟩

theorem quiet_any (h : Hd) (vo vb : Value) (B : List Nat) (w : World) (hok : h.Ok) (hvb : SeesB w vb B) :
    Calls Tryd.prog 31 #[.agg (pkCells h vo vb)] w fun e w' => e = .returned (.bool (!told h B)) ∧ Below w.heap.size w w' := by
  obtain ⟨w1, hw1⟩ : ∃ w1, w1 = w.alloc (.cells (pkCells h vo vb) 35) := ⟨_, rfl⟩
  have hb1 : Below w.heap.size w w1 := by rw [hw1]; exact (Below.refl _ _).alloc (Nat.le_refl _) _
  obtain ⟨ab, nb, capb, rfl, HNB, hnb1, hnb2⟩ := hvb.shape
  unfold maxLen at hnb2
  have hk : w1.heap[w.heap.size]? = some (.cells (pkCells h vo (.slice ab nb capb)) 35 (0, 0)) := by rw [hw1]; exact heap_alloc_new w _
  have c4 : w1.cell? ⟨w.heap.size, 4, none⟩ = some (.int .i64 h.off) := pk_at hk 4 (by omega)
  have c6 : w1.cell? ⟨w.heap.size, 6, none⟩ = some (.int .u8 (h.proto : Int)) := pk_at hk 6 (by omega)
  have c7 : w1.cell? ⟨w.heap.size, 7, none⟩ = some (.int .u32 (h.src : Int)) := pk_at hk 7 (by omega)
  have c8 : w1.cell? ⟨w.heap.size, 8, none⟩ = some (.int .u32 (h.dst : Int)) := pk_at hk 8 (by omega)
  have c10 : w1.cell? ⟨w.heap.size, 10, none⟩ = some (.slice ab nb capb) := pk_at hk 10 (by omega)
  have HP : Hid (∀ (a : Nat), a < 4294967296 → ∀ u, Calls Tryd.prog 29 #[.int .u32 (a : Int)] u fun e w' => e = .returned (.bool (pln a)) ∧ w' = u) := fun a ha u => plainR_any a u ha
  have HF : Hid (∀ (t : Nat) (u : World), Calls Tryd.prog 50 #[.int .u8 (t : Int)] u fun e w' => e = .returned (.bool (kF t)) ∧ w' = u) := fun t u => faulty_any t u
  have HVB := hid (hvb.below hb1)
  have HW1 := hid hw1
  have HB1 := hid hb1
  have HR : Hid (told h B = (!decide (0 < h.off) && ((pln h.src && pln h.dst) && (decide (h.proto ≠ 1) || (decide (B ≠ []) && !kF (byt B 0)))))) := rfl
  have hsrc := hok.src
  have hdst := hok.dst
  clear hw1 hb1 hk hvb hok
  generalize told h B = R at *
  generalize pkCells h vo (.slice ab nb capb) = pk at *
  generalize h.off = off at *
  generalize h.proto = pr at *
  generalize h.src = src at *
  generalize h.dst = dst at *
  by_cases ho : 0 < off
  · go_enter Tryd.func31, Tryd.ntmps31
    go_upto_region 1 with fail
    rw [← HW1.out]
    go_wp2_with fail
    go_ret
    exact ⟨ret_bool (by rw [HR.out]; simp [ho]), HB1.out⟩
  · have HPS := hid (HP.out src hsrc w1)
    have HPD := hid (HP.out dst hdst w1)
    cases hs : pln src with
    | false =>
      rw [hs] at HPS HR
      go_enter Tryd.func31, Tryd.ntmps31
      go_upto_region 1 with fail
      rw [← HW1.out]
      go_wp2_with fail
      refine HPS.out.mono ?_
      rintro _ _ ⟨rfl, e⟩
      obtain rfl := e.symm
      go_wp2_with fail
      go_ret
      exact ⟨ret_bool (by rw [HR.out]; simp), HB1.out⟩
    | true =>
      rw [hs] at HPS HR
      cases hd : pln dst with
      | false =>
        rw [hd] at HPD HR
        go_enter Tryd.func31, Tryd.ntmps31
        go_upto_region 1 with fail
        rw [← HW1.out]
        go_wp2_with fail
        refine HPS.out.mono ?_
        rintro _ _ ⟨rfl, e⟩
        obtain rfl := e.symm
        go_wp2_with fail
        refine HPD.out.mono ?_
        rintro _ _ ⟨rfl, e⟩
        obtain rfl := e.symm
        go_wp2_with fail
        go_ret
        exact ⟨ret_bool (by rw [HR.out]; simp), HB1.out⟩
      | true =>
        rw [hd] at HPD HR
        by_cases hp : pr = 1
        · subst hp
          by_cases hn : nb = 0
          · have HBN : Hid (B = []) := List.eq_nil_of_length_eq_zero (by have := HNB.out; omega)
            subst hn
            go_enter Tryd.func31, Tryd.ntmps31
            go_upto_region 1 with fail
            rw [← HW1.out]
            go_wp2_with fail
            refine HPS.out.mono ?_
            rintro _ _ ⟨rfl, e⟩
            obtain rfl := e.symm
            go_wp2_with fail
            refine HPD.out.mono ?_
            rintro _ _ ⟨rfl, e⟩
            obtain rfl := e.symm
            go_wp2_with fail
            go_ret
            exact ⟨ret_bool (by rw [HR.out, HBN.out]; simp), HB1.out⟩
          · have HBN : Hid (B ≠ []) := fun e => hn (by rw [HNB.out, e]; rfl)
            have hpos : 0 < nb := by omega
            have hposi : (0 : Int) < (nb : Int) := by omega
            have hnz : ((nb : Int) == 0) = false := by rw [beq_eq_false_iff_ne]; omega
            obtain ⟨g0, o0, rfl, hg0, hc0⟩ := HVB.out.atB 0 hpos
            rw [Nat.add_zero] at hc0
            generalize byt B 0 = x0 at *
            have HFX := hid (HF.out x0 w1)
            go_enter Tryd.func31, Tryd.ntmps31
            go_upto_region 1 with fail
            rw [← HW1.out]
            go_wp2_with fail
            refine HPS.out.mono ?_
            rintro _ _ ⟨rfl, e⟩
            obtain rfl := e.symm
            go_wp2_with fail
            refine HPD.out.mono ?_
            rintro _ _ ⟨rfl, e⟩
            obtain rfl := e.symm
            go_wp2_with fail
            refine HFX.out.mono ?_
            rintro _ _ ⟨rfl, e⟩
            obtain rfl := e.symm
            go_wp2_with fail
            go_ret
            exact ⟨ret_bool (by rw [HR.out]; simp [HBN.out]; omega), HB1.out⟩
        · have q1 : ((pr : Int) != 1) = true := by simp; omega
          go_enter Tryd.func31, Tryd.ntmps31
          go_upto_region 1 with fail
          rw [← HW1.out]
          go_wp2_with fail
          refine HPS.out.mono ?_
          rintro _ _ ⟨rfl, e⟩
          obtain rfl := e.symm
          go_wp2_with fail
          refine HPD.out.mono ?_
          rintro _ _ ⟨rfl, e⟩
          obtain rfl := e.symm
          go_wp2_with fail
          go_ret
          exact ⟨ret_bool (by rw [HR.out]; simp [hp]; omega), HB1.out⟩
end Go.Proofs.YtcboenmmkaochabDoor.N

namespace Go.Proofs.YtcboenmmkaochabDoor.N
open Go.ChangeShapes Go.WideShapes Go.ChangeAt Go.RowKit
set_option maxHeartbeats 2000000
set_option maxRecDepth 100000

theorem hd_load0 {u : World} {n : Nat} (hb : u.heap[n]? = some (.cells zeroHC 33 (0, 0))) : (Instr.loadAt 33 (.pointer (some ⟨n, 0, none⟩))).run Tryd.prog u = .ok (.agg zeroHC) u := by
  obtain ⟨fs, hu27⟩ := und27
  refine run_loadAt_mid u n 0 33 zeroHC.toList (.struct fs) (fun j v hv => ?_) hu27 rfl size_hd
  rw [Nat.zero_add, cell_of_row _ _ _ _ _ _ hb, ← hv, Array.getElem?_toList]

theorem pk_load0 {u : World} {n : Nat} (hb : u.heap[n]? = some (.cells zeroP 35 (0, 0))) : (Instr.loadAt 35 (.pointer (some ⟨n, 0, none⟩))).run Tryd.prog u = .ok (.agg zeroP) u := by
  obtain ⟨fs, hu29⟩ := und29
  refine run_loadAt_mid u n 0 35 zeroP.toList (.struct fs) (fun j v hv => ?_) hu29 rfl size_pk
  rw [Nat.zero_add, cell_of_row _ _ _ _ _ _ hb, ← hv, Array.getElem?_toList]

theorem rpacket_any (m : Im.Ct) (vm : Value) (tos src dst : Nat) (w : World) (hok : m.Ok) (hvm : SeesB w vm m.B) (hl : m.B.length ≤ 65507) :
    Calls Tryd.prog 32 #[.int .u8 (tos : Int), .int .u32 (src : Int), .int .u32 (dst : Int), .agg (ctCells m vm)] w fun e w' => ∃ a2 n2 c2, e = .returned (.tuple #[.agg (pkCells (mdH tos src dst) (.slice none 0 0) (.slice a2 n2 c2)), .int .i64 0]) ∧ SeesB w' (.slice a2 n2 c2) (Im.laid m) ∧ (∀ a, a2 = some a → w.heap.size ≤ a.block) ∧ Below w.heap.size w w' := by
  obtain ⟨wa, hwa⟩ : ∃ wa, wa = w.alloc (.cells (ctCells m vm) 29) := ⟨_, rfl⟩
  obtain ⟨w1, hw1⟩ : ∃ w1, w1 = (wa.alloc (.cells zeroP 35)).alloc (.cells zeroP 35) := ⟨_, rfl⟩
  have hsa : wa.heap.size = w.heap.size + 1 := by rw [hwa]; simp
  have hs1 : w1.heap.size = w.heap.size + 3 := by rw [hw1]; simp [hsa]
  have hba : Below w.heap.size w wa := by rw [hwa]; exact (Below.refl _ _).alloc (Nat.le_refl _) _
  have hbb : Below wa.heap.size wa w1 := by rw [hw1]; exact ((Below.refl _ _).alloc (Nat.le_refl _) _).alloc (by simp) _
  have hb1 : Below w.heap.size w w1 := hba.trans (hbb.mono (by omega))
  have k0 : w1.heap[w.heap.size]? = some (.cells (ctCells m vm) 29 (0, 0)) := by
    rw [hbb.block _ (by omega), hwa]; exact heap_alloc_new w _
  have k1 : w1.heap[w.heap.size + 1]? = some (.cells zeroP 35 (0, 0)) := by
    rw [hw1, Below.heap_alloc _ _ _ (by simp [hsa]), ← hsa]; exact heap_alloc_new wa _
  have HLD := hid (ct_load (n := w.heap.size) rfl k0)
  have HBD := rbuild_any m vm w1 hok (hvm.below hb1)
  rw [show Im.bdE m = 0 by (unfold Im.bdE; rw [if_neg (by omega)]), show Im.bdL m = Im.laid m by (unfold Im.bdL; rw [if_neg (by omega)])] at HBD
  have HBD := hid HBD
  have HBS : Hid (∀ x ∈ Im.laid m, x < 256) := Im.laid_bytes hok hvm.bytes
  have HTH : Hid (∀ u, Below w1.heap.size w1 u → u.there (w.heap.size + 1) 0 11) := fun u hu => there_blk (C := zeroP) (t := 35) ((hu.block _ (by omega)).trans k1) rfl
  have HW1 : Hid (w1 = ((w.alloc (.cells (ctCells m vm) 29)).alloc (.cells #[.int .u8 0, .int .u16 0, .bool false, .bool false, .int .i64 0, .int .u8 0, .int .u8 0, .int .u32 0, .int .u32 0, .slice none 0 0, .slice none 0 0] 35)).alloc (.cells #[.int .u8 0, .int .u16 0, .bool false, .bool false, .int .i64 0, .int .u8 0, .int .u8 0, .int .u32 0, .int .u32 0, .slice none 0 0, .slice none 0 0] 35)) := by unfold Hid; rw [hw1, hwa]; rfl
  have HBW : Hid (∀ u, Below w1.heap.size w1 u → Below w.heap.size w u) := fun u hu => hb1.trans (hu.mono hb1.size)
  have HS1 := hid hs1
  have HMH : Hid (∀ v, pkCells (mdH tos src dst) (.slice none 0 0) v = #[.int .u8 (tos : Int), .int .u16 0, .bool false, .bool false, .int .i64 0, .int .u8 64, .int .u8 1, .int .u32 (src : Int), .int .u32 (dst : Int), .slice none 0 0, v]) := fun v => rfl
  clear hwa hw1 hsa hs1 hba hbb hb1 k0 k1 hvm hok hl
  generalize mdH tos src dst = MH at *
  generalize Im.laid m = LD at *
  generalize ctCells m vm = ct at *
  go_enter Tryd.func32, Tryd.ntmps32
  go_upto_region 2 with fail
  rw [← HW1.out]
  go_wp2_with (first | (refine wpList_ld 29 ⟨w.heap.size, 0, none⟩ _ rfl rfl HLD.out rfl ?_) | fail)
  refine HBD.out.mono ?_
  rintro _ w2 ⟨v2, rfl, ho, hb2⟩
  have hs2 := ho.sees HBS.out
  obtain ⟨a2, n2, c2, rfl, _, _, _⟩ := hs2.shape
  have HN2 : Hid (∀ a, a2 = some a → w.heap.size + 3 ≤ a.block) := fun a ha => by
    have h1 := (World.ownsRow.lt ho a.block (by rw [ha]; rfl)).1
    have := HS1.out
    omega
  obtain ⟨yy, hyy⟩ : ∃ yy : Array Value, yy = pkCells MH (.slice none 0 0) (.slice a2 n2 c2) := ⟨_, rfl⟩
  have HYC := hid hyy
  have HY : Hid (yy = #[.int .u8 (tos : Int), .int .u16 0, .bool false, .bool false, .int .i64 0, .int .u8 64, .int .u8 1, .int .u32 (src : Int), .int .u32 (dst : Int), .slice none 0 0, .slice a2 n2 c2]) := by unfold Hid; rw [hyy, HMH.out]
  have HOY : Hid (yy.all (·.oneCell') = true) := by unfold Hid; rw [hyy]; simp [pkCells, Value.oneCell']
  have HIY : Hid ((Tryd.prog.info? 35).map (·.size) = some yy.size) := by unfold Hid; rw [hyy]; exact size_pk
  have HTU : Hid (w2.there (w.heap.size + 1) 0 yy.size) := by unfold Hid; rw [hyy]; exact HTH.out _ hb2
  obtain ⟨q1, q2⟩ := res_end (w := w) HTU.out (by omega) (HBW.out _ hb2) Tryd.underlying35 HIY.out
  have HLV := hid q1
  have HBF := hid q2
  have HSF := hid (sees_setI (b := w.heap.size + 1) (vs := yy.toList) hs2 (fun a ha => by have := HN2.out a ha; omega))
  clear q1 q2 hyy hs2 ho hb2
  go_wp2_with (first
    | (refine wpList_store_mid rfl 35 (.tmp 8) (.tmp 27) rfl (w.heap.size + 1) 0 yy rfl (by rw [HY.out]; rfl) HTU.out HIY.out HOY.out ?_)
    | fail)
  generalize w2.setCells (w.heap.size + 1) 0 yy.toList = wf at HLV HBF HSF ⊢
  refine bodyPost_ret (v := .tuple #[.agg yy, .int .i64 0]) (by simp [results, Tryd.results32, asAddr, HLV.out]) rfl ?_
  exact ⟨_, _, _, by rw [HYC.out], HSF.out, (fun a ha => by have := HN2.out a ha; omega), HBF.out⟩

theorem rmessage_any (h : Hd) (vo vb : Value) (B : List Nat) (w : World) (hok : h.Ok) (hvo : SeesB w vo h.opts) (hvb : SeesB w vb B) (hlb : B.length ≤ 140737488355328) :
    Calls Tryd.prog 47 #[.agg (pkCells h vo vb)] w fun e w' => ∃ ao n cap, e = .returned (.tuple #[.agg (ctCells (msgC h B) (.slice ao n cap)), .int .i64 (msgE h B)]) ∧ SeesB w' (.slice ao n cap) (msgC h B).B ∧ (∀ a, ao = some a → w.heap.size ≤ a.block) ∧ Below w.heap.size w w' := by
  obtain ⟨wa, hwa⟩ : ∃ wa, wa = w.alloc (.cells (pkCells h vo vb) 35) := ⟨_, rfl⟩
  obtain ⟨w1, hw1⟩ : ∃ w1, w1 = (wa.alloc (.cells zeroC 29)).alloc (.cells zeroC 29) := ⟨_, rfl⟩
  have hsa : wa.heap.size = w.heap.size + 1 := by rw [hwa]; simp
  have hs1 : w1.heap.size = w.heap.size + 3 := by rw [hw1]; simp [hsa]
  have hba : Below w.heap.size w wa := by rw [hwa]; exact (Below.refl _ _).alloc (Nat.le_refl _) _
  have hbb : Below wa.heap.size wa w1 := by rw [hw1]; exact ((Below.refl _ _).alloc (Nat.le_refl _) _).alloc (by simp) _
  have hb1 : Below w.heap.size w w1 := hba.trans (hbb.mono (by omega))
  have k0 : w1.heap[w.heap.size]? = some (.cells (pkCells h vo vb) 35 (0, 0)) := by
    rw [hbb.block _ (by omega), hwa]; exact heap_alloc_new w _
  have k1 : w1.heap[w.heap.size + 1]? = some (.cells zeroC 29 (0, 0)) := by
    rw [hw1, Below.heap_alloc _ _ _ (by simp [hsa]), ← hsa]; exact heap_alloc_new wa _
  have k2 : w1.heap[w.heap.size + 2]? = some (.cells zeroC 29 (0, 0)) := by
    have := heap_alloc_new (wa.alloc (.cells zeroC 29)) (.cells zeroC 29)
    rw [World.size_alloc, hsa] at this
    rw [hw1]; exact this
  have HLN : Hid (∀ u, Below w1.heap.size w1 u → (Instr.loadAt 29 (.pointer (some ⟨w.heap.size + 2, 0, none⟩))).run Tryd.prog u = .ok (.agg zeroC) u) := fun u hu => ct_load rfl ((hu.block _ (by omega)).trans k2)
  have HLD := hid (pk_load k0)
  have HBD := hid (build_refS h vo vb B w1 hok (hvo.below hb1) (hvb.below hb1) hlb)
  obtain ⟨ab, nb, capb, rfl, HNB, hnb1, hnb2⟩ := hvb.shape
  have HC : Hid (∀ u, Below w1.heap.size w1 u → u.cell? ⟨w.heap.size, 3, none⟩ = some (.bool h.mf) ∧ u.cell? ⟨w.heap.size, 4, none⟩ = some (.int .i64 h.off) ∧ u.cell? ⟨w.heap.size, 6, none⟩ = some (.int .u8 (h.proto : Int)) ∧ u.cell? ⟨w.heap.size, 10, none⟩ = some (.slice ab nb capb)) := fun u hu => by
    have hk := (hu.block w.heap.size (by omega)).trans k0
    exact ⟨pk_at hk 3 (by omega), pk_at hk 4 (by omega), pk_at hk 6 (by omega), pk_at hk 10 (by omega)⟩
  have HTH : Hid (∀ u, Below w1.heap.size w1 u → u.there (w.heap.size + 1) 0 4) := fun u hu => there_blk (C := zeroC) (t := 29) ((hu.block _ (by omega)).trans k1) rfl
  have HPR : Hid (∀ u, Below w1.heap.size w1 u → Calls Tryd.prog 16 #[.slice ab nb capb] u fun e w' => ∃ ao n cap, e = .returned (.tuple #[.agg (ctCells (Im.prC B) (.slice ao n cap)), .int .i64 (Im.prE B)]) ∧ SeesB w' (.slice ao n cap) (Im.prC B).B ∧ (∀ a, ao = some a → u.heap.size ≤ a.block) ∧ Below u.heap.size u w') := fun u hu => rparse_any _ B u (hvb.below (hb1.trans (hu.mono hb1.size)))
  have HW1 : Hid (w1 = ((w.alloc (.cells (pkCells h vo (.slice ab nb capb)) 35)).alloc (.cells #[.int .u8 0, .int .u8 0, .int .u32 0, .slice none 0 0] 29)).alloc (.cells #[.int .u8 0, .int .u8 0, .int .u32 0, .slice none 0 0] 29)) := by unfold Hid; rw [hw1, hwa]; rfl
  have HB1 := hid hb1
  have HS1 := hid hs1
  have HBW : Hid (∀ u, Below w1.heap.size w1 u → Below w.heap.size w u) := fun u hu => hb1.trans (hu.mono hb1.size)
  have HM0 := fun (e : Int) => @msg_bad h B e
  have HM1 := @msg_60 h B
  have HM2 := @msg_pr h B
  have HM := hid (And.intro HM0 (And.intro HM1 HM2))
  clear HM0 HM1 HM2 hwa hw1 hsa hs1 hba hbb hb1 k0 k1 k2 hvb hvo hok hlb
  generalize msgE h B = ME at *
  generalize msgC h B = MC at *
  generalize refE h B.length = q at *
  generalize pkCells h vo (.slice ab nb capb) = pk at *
  generalize h.mf = mf at *
  generalize h.off = off at *
  generalize h.proto = pr at *
  obtain ⟨zz, hzz⟩ : ∃ zz : Array Value, zz = zeroC := ⟨_, rfl⟩
  have HONE : Hid (zz.all (·.oneCell') = true) := by unfold Hid; rw [hzz]; simp [zeroC, Value.oneCell']
  have HINF : Hid ((Tryd.prog.info? 29).map (·.size) = some zz.size) := by unfold Hid; rw [hzz]; exact size_ct
  have HZC : Hid (zz = ctCells Im.none0 (.slice none 0 0)) := hzz
  have HZS : Hid (zz.size = 4) := by unfold Hid; rw [hzz]; rfl
  have HLZ : Hid (∀ u, Below w1.heap.size w1 u → (Instr.loadAt 29 (.pointer (some ⟨w.heap.size + 2, 0, none⟩))).run Tryd.prog u = .ok (.agg zz) u) := by unfold Hid; rw [hzz]; exact HLN.out
  clear hzz HLN
  by_cases hq : q = 0
  · subst hq
    by_cases hp : pr = 1
    · subst hp
      by_cases ho : 0 < off
      · have HE := hid (HM.out.2.1 rfl (.inr (.inl ho)))
        clear HM
        go_enter Tryd.func47, Tryd.ntmps47
        go_upto_region 2 with fail
        rw [← HW1.out]
        go_wp2_with (first | (refine wpList_ld 35 ⟨w.heap.size, 0, none⟩ _ rfl rfl HLD.out rfl ?_) | fail)
        refine HBD.out.mono ?_
        rintro _ w2 ⟨a2, n2, c2, rfl, _, hb2⟩
        obtain ⟨e3, e4, e6, e10⟩ := HC.out _ hb2
        have HTU : Hid (w2.there (w.heap.size + 1) 0 zz.size) := by unfold Hid; rw [HZS.out]; exact HTH.out _ hb2
        have HLZ2 := hid (HLZ.out _ hb2)
        obtain ⟨q1, q2⟩ := res_end (w := w) HTU.out (by omega) (HBW.out _ hb2) Tryd.underlying29 HINF.out
        have HLV := hid q1
        have HBF := hid q2
        clear q1 q2
        go_wp2_with (first
          | (refine wpList_ld 29 ⟨w.heap.size + 2, 0, none⟩ _ rfl rfl HLZ2.out rfl ?_)
          | (refine wpList_store_mid rfl 29 (.tmp 2) (.tmp 31) rfl (w.heap.size + 1) 0 zz rfl rfl HTU.out HINF.out HONE.out ?_)
          | fail)
        generalize w2.setCells (w.heap.size + 1) 0 zz.toList = wf at HLV HBF ⊢
        refine bodyPost_ret (v := .tuple #[.agg zz, .int .i64 60]) (by simp [results, Tryd.results47, asAddr, HLV.out]) rfl ?_
        rw [HE.out.1, HE.out.2]
        exact ⟨none, 0, 0, by rw [HZC.out], sees_nil _, (fun a ha => by cases ha), HBF.out⟩
      · cases mf with
        | true =>
          have HE := hid (HM.out.2.1 rfl (.inr (.inr rfl)))
          clear HM
          go_enter Tryd.func47, Tryd.ntmps47
          go_upto_region 2 with fail
          rw [← HW1.out]
          go_wp2_with (first | (refine wpList_ld 35 ⟨w.heap.size, 0, none⟩ _ rfl rfl HLD.out rfl ?_) | fail)
          refine HBD.out.mono ?_
          rintro _ w2 ⟨a2, n2, c2, rfl, _, hb2⟩
          obtain ⟨e3, e4, e6, e10⟩ := HC.out _ hb2
          have HTU : Hid (w2.there (w.heap.size + 1) 0 zz.size) := by unfold Hid; rw [HZS.out]; exact HTH.out _ hb2
          have HLZ2 := hid (HLZ.out _ hb2)
          obtain ⟨q1, q2⟩ := res_end (w := w) HTU.out (by omega) (HBW.out _ hb2) Tryd.underlying29 HINF.out
          have HLV := hid q1
          have HBF := hid q2
          clear q1 q2
          go_wp2_with (first
            | (refine wpList_ld 29 ⟨w.heap.size + 2, 0, none⟩ _ rfl rfl HLZ2.out rfl ?_)
            | (refine wpList_store_mid rfl 29 (.tmp 2) (.tmp 31) rfl (w.heap.size + 1) 0 zz rfl rfl HTU.out HINF.out HONE.out ?_)
            | fail)
          generalize w2.setCells (w.heap.size + 1) 0 zz.toList = wf at HLV HBF ⊢
          refine bodyPost_ret (v := .tuple #[.agg zz, .int .i64 60]) (by simp [results, Tryd.results47, asAddr, HLV.out]) rfl ?_
          rw [HE.out.1, HE.out.2]
          exact ⟨none, 0, 0, by rw [HZC.out], sees_nil _, (fun a ha => by cases ha), HBF.out⟩
        | false =>
          have HE := hid (HM.out.2.2 rfl (by simp; omega))
          clear HM
          go_enter Tryd.func47, Tryd.ntmps47
          go_upto_region 2 with fail
          rw [← HW1.out]
          go_wp2_with (first | (refine wpList_ld 35 ⟨w.heap.size, 0, none⟩ _ rfl rfl HLD.out rfl ?_) | fail)
          refine HBD.out.mono ?_
          rintro _ w2 ⟨a2, n2, c2, rfl, _, hb2⟩
          obtain ⟨e3, e4, e6, e10⟩ := HC.out _ hb2
          go_wp2_with fail
          refine (HPR.out _ hb2).mono ?_
          rintro _ w3 ⟨a3, n3, c3, rfl, hs3, hn3, hb3⟩
          obtain ⟨yy, hyy⟩ : ∃ yy : Array Value, yy = ctCells (Im.prC B) (.slice a3 n3 c3) := ⟨_, rfl⟩
          have HYC := hid hyy
          have HOY : Hid (yy.all (·.oneCell') = true) := by
            unfold Hid; rw [hyy]; simp [ctCells, Value.oneCell']
          have HIY : Hid ((Tryd.prog.info? 29).map (·.size) = some yy.size) := by unfold Hid; rw [hyy]; exact size_ct
          have hb13 := hb2.trans (hb3.mono hb2.size)
          have HTU : Hid (w3.there (w.heap.size + 1) 0 yy.size) := by unfold Hid; rw [hyy]; exact HTH.out _ hb13
          obtain ⟨q1, q2⟩ := res_end (w := w) HTU.out (by omega) (HBW.out _ hb13) Tryd.underlying29 HIY.out
          have HLV := hid q1
          have HBF := hid q2
          have HNW : Hid (∀ a, a3 = some a → w.heap.size + 3 ≤ a.block) := fun a ha => by have := hn3 a ha; have := hb2.size; have := HS1.out; omega
          have HSF := hid (sees_setI (b := w.heap.size + 1) (vs := yy.toList) hs3 (fun a ha => by have := HNW.out a ha; omega))
          rw [← hyy]
          clear q1 q2 hyy hs3 hn3 hb13
          go_wp2_with (first
            | (refine wpList_store_mid rfl 29 (.tmp 2) (.tmp 35) rfl (w.heap.size + 1) 0 yy rfl rfl HTU.out HIY.out HOY.out ?_)
            | fail)
          generalize w3.setCells (w.heap.size + 1) 0 yy.toList = wf at HLV HBF HSF ⊢
          refine bodyPost_ret (v := .tuple #[.agg yy, .int .i64 (Im.prE B)]) (by simp [results, Tryd.results47, asAddr, HLV.out]) rfl ?_
          rw [HE.out.1, HE.out.2]
          exact ⟨_, _, _, by rw [HYC.out], HSF.out, (fun a ha => by have := HNW.out a ha; omega), HBF.out⟩
    · have HE := hid (HM.out.2.1 rfl (.inl hp))
      have q1 : ((pr : Int) != 1) = true := by simp; omega
      clear HM
      go_enter Tryd.func47, Tryd.ntmps47
      go_upto_region 2 with fail
      rw [← HW1.out]
      go_wp2_with (first | (refine wpList_ld 35 ⟨w.heap.size, 0, none⟩ _ rfl rfl HLD.out rfl ?_) | fail)
      refine HBD.out.mono ?_
      rintro _ w2 ⟨a2, n2, c2, rfl, _, hb2⟩
      obtain ⟨e3, e4, e6, e10⟩ := HC.out _ hb2
      have HTU : Hid (w2.there (w.heap.size + 1) 0 zz.size) := by unfold Hid; rw [HZS.out]; exact HTH.out _ hb2
      have HLZ2 := hid (HLZ.out _ hb2)
      obtain ⟨q1, q2⟩ := res_end (w := w) HTU.out (by omega) (HBW.out _ hb2) Tryd.underlying29 HINF.out
      have HLV := hid q1
      have HBF := hid q2
      clear q1 q2
      go_wp2_with (first
        | (refine wpList_ld 29 ⟨w.heap.size + 2, 0, none⟩ _ rfl rfl HLZ2.out rfl ?_)
        | (refine wpList_store_mid rfl 29 (.tmp 2) (.tmp 31) rfl (w.heap.size + 1) 0 zz rfl rfl HTU.out HINF.out HONE.out ?_)
        | fail)
      generalize w2.setCells (w.heap.size + 1) 0 zz.toList = wf at HLV HBF ⊢
      refine bodyPost_ret (v := .tuple #[.agg zz, .int .i64 60]) (by simp [results, Tryd.results47, asAddr, HLV.out]) rfl ?_
      rw [HE.out.1, HE.out.2]
      exact ⟨none, 0, 0, by rw [HZC.out], sees_nil _, (fun a ha => by cases ha), HBF.out⟩
  · have HE := hid (HM.out.1 q rfl hq)
    have hqq : (q != 0) = true := by simp [hq]
    clear HM
    go_enter Tryd.func47, Tryd.ntmps47
    go_upto_region 2 with fail
    rw [← HW1.out]
    go_wp2_with (first | (refine wpList_ld 35 ⟨w.heap.size, 0, none⟩ _ rfl rfl HLD.out rfl ?_) | fail)
    refine HBD.out.mono ?_
    rintro _ w2 ⟨a2, n2, c2, rfl, _, hb2⟩
    obtain ⟨e3, e4, e6, e10⟩ := HC.out _ hb2
    have HTU : Hid (w2.there (w.heap.size + 1) 0 zz.size) := by unfold Hid; rw [HZS.out]; exact HTH.out _ hb2
    have HLZ2 := hid (HLZ.out _ hb2)
    obtain ⟨q1, q2⟩ := res_end (w := w) HTU.out (by omega) (HBW.out _ hb2) Tryd.underlying29 HINF.out
    have HLV := hid q1
    have HBF := hid q2
    clear q1 q2
    go_wp2_with (first
      | (refine wpList_ld 29 ⟨w.heap.size + 2, 0, none⟩ _ rfl rfl HLZ2.out rfl ?_)
      | (refine wpList_store_mid rfl 29 (.tmp 2) (.tmp 14) rfl (w.heap.size + 1) 0 zz rfl rfl HTU.out HINF.out HONE.out ?_)
      | fail)
    generalize w2.setCells (w.heap.size + 1) 0 zz.toList = wf at HLV HBF ⊢
    refine bodyPost_ret (v := .tuple #[.agg zz, .int .i64 q]) (by simp [results, Tryd.results47, asAddr, HLV.out]) rfl ?_
    rw [HE.out.1, HE.out.2]
    exact ⟨none, 0, 0, by rw [HZC.out], sees_nil _, (fun a ha => by cases ha), HBF.out⟩

theorem rabout_any (h : Hd) (vo vb : Value) (B : List Nat) (w : World) (hok : h.Ok) (hvo : SeesB w vo h.opts) (hvb : SeesB w vb B) (hlb : B.length ≤ 140737488355328) :
    Calls Tryd.prog 26 #[.agg (pkCells h vo vb)] w fun e w' => ∃ a1 n1 c1 a2 n2 c2, e = .returned (.tuple #[.agg (hdCells (abt h B).1 (.slice a1 n1 c1)), .slice a2 n2 c2, .int .i64 (abt h B).2.2]) ∧ SeesB w' (.slice a1 n1 c1) (abt h B).1.opts ∧ SeesB w' (.slice a2 n2 c2) (abt h B).2.1 ∧ Below w.heap.size w w' := by
  obtain ⟨wa, hwa⟩ : ∃ wa, wa = w.alloc (.cells (pkCells h vo vb) 35) := ⟨_, rfl⟩
  obtain ⟨w1, hw1⟩ : ∃ w1, w1 = (wa.alloc (.cells zeroHC 33)).alloc (.cells zeroHC 33) := ⟨_, rfl⟩
  have hsa : wa.heap.size = w.heap.size + 1 := by rw [hwa]; simp
  have hs1 : w1.heap.size = w.heap.size + 3 := by rw [hw1]; simp [hsa]
  have hba : Below w.heap.size w wa := by rw [hwa]; exact (Below.refl _ _).alloc (Nat.le_refl _) _
  have hbb : Below wa.heap.size wa w1 := by rw [hw1]; exact ((Below.refl _ _).alloc (Nat.le_refl _) _).alloc (by simp) _
  have hb1 : Below w.heap.size w w1 := hba.trans (hbb.mono (by omega))
  have k0 : w1.heap[w.heap.size]? = some (.cells (pkCells h vo vb) 35 (0, 0)) := by
    rw [hbb.block _ (by omega), hwa]; exact heap_alloc_new w _
  have k1 : w1.heap[w.heap.size + 1]? = some (.cells zeroHC 33 (0, 0)) := by
    rw [hw1, Below.heap_alloc _ _ _ (by simp [hsa]), ← hsa]; exact heap_alloc_new wa _
  have k2 : w1.heap[w.heap.size + 2]? = some (.cells zeroHC 33 (0, 0)) := by
    have := heap_alloc_new (wa.alloc (.cells zeroHC 33)) (.cells zeroHC 33)
    rw [World.size_alloc, hsa] at this
    rw [hw1]; exact this
  have HLN : Hid (∀ u, Below w1.heap.size w1 u → (Instr.loadAt 33 (.pointer (some ⟨w.heap.size + 2, 0, none⟩))).run Tryd.prog u = .ok (.agg zeroHC) u) := fun u hu => hd_load0 ((hu.block _ (by omega)).trans k2)
  have HLD := hid (pk_load k0)
  have HMS := hid (rmessage_any h vo vb B w1 hok (hvo.below hb1) (hvb.below hb1) hlb)
  obtain ⟨hC1, hC2, hC3⟩ := msgC_ok (h := h) hvb.bytes
  have HTH : Hid (∀ u, Below w1.heap.size w1 u → u.there (w.heap.size + 1) 0 10) := fun u hu => there_blk (C := zeroHC) (t := 33) ((hu.block _ (by omega)).trans k1) rfl
  have HFL : Hid (∀ u, Below w1.heap.size w1 u → Calls Tryd.prog 50 #[.int .u8 ((msgC h B).t : Int)] u fun e w' => e = .returned (.bool (kF (msgC h B).t)) ∧ Below u.heap.size u w') := fun u hu => (faulty_any _ u).mono fun e w' hh => ⟨hh.1, by rw [hh.2]; exact Below.refl _ _⟩
  have HPK : Hid (∀ (v : Value) (u : World), SeesB u v (msgC h B).B → Calls Tryd.prog 51 #[v] u fun e w' => ∃ vo vb, e = .returned (.tuple #[.agg (hdCells (readL (msgC h B).B false).1 vo), vb, .int .i64 (readL (msgC h B).B false).2.2]) ∧ SeesB w' vo (readL (msgC h B).B false).1.opts ∧ SeesB w' vb (readL (msgC h B).B false).2.1 ∧ (∀ a n c, vo = .slice (some a) n c → u.heap.size ≤ a.block) ∧ (∀ a n c, vb = .slice (some a) n c → u.heap.size ≤ a.block) ∧ Below u.heap.size u w') := fun v u hs => peek_ref v _ u hs (by omega)
  have HW1 : Hid (w1 = ((w.alloc (.cells (pkCells h vo vb) 35)).alloc (.cells #[.int .u8 0, .int .u16 0, .bool false, .bool false, .int .i64 0, .int .u8 0, .int .u8 0, .int .u32 0, .int .u32 0, .slice none 0 0] 33)).alloc (.cells #[.int .u8 0, .int .u16 0, .bool false, .bool false, .int .i64 0, .int .u8 0, .int .u8 0, .int .u32 0, .int .u32 0, .slice none 0 0] 33)) := by unfold Hid; rw [hw1, hwa]; rfl
  have HB1 := hid hb1
  have HS1 := hid hs1
  have HBW : Hid (∀ u, Below w1.heap.size w1 u → Below w.heap.size w u) := fun u hu => hb1.trans (hu.mono hb1.size)
  have HA : Hid (abt h B = if msgE h B ≠ 0 then (zeroH, [], msgE h B) else if kF (msgC h B).t then readL (msgC h B).B false else (zeroH, [], 62)) := rfl
  clear hwa hw1 hsa hs1 hba hbb hb1 k0 k1 k2 hvb hvo hok hlb hC1 hC2 hC3
  generalize abt h B = AB at *
  generalize msgE h B = q at *
  generalize msgC h B = MC at *
  generalize pkCells h vo vb = pk at *
  obtain ⟨zz, hzz⟩ : ∃ zz : Array Value, zz = zeroHC := ⟨_, rfl⟩
  have HONE : Hid (zz.all (·.oneCell') = true) := by unfold Hid; rw [hzz]; simp [zeroHC, Value.oneCell']
  have HINF : Hid ((Tryd.prog.info? 33).map (·.size) = some zz.size) := by unfold Hid; rw [hzz]; exact size_hd
  have HZC : Hid (zz = hdCells zeroH (.slice none 0 0)) := hzz
  have HZS : Hid (zz.size = 10) := by unfold Hid; rw [hzz]; rfl
  have HLZ : Hid (∀ u, Below w1.heap.size w1 u → (Instr.loadAt 33 (.pointer (some ⟨w.heap.size + 2, 0, none⟩))).run Tryd.prog u = .ok (.agg zz) u) := by unfold Hid; rw [hzz]; exact HLN.out
  clear hzz HLN
  go_enter Tryd.func26, Tryd.ntmps26
  go_upto_region 2 with fail
  rw [← HW1.out]
  go_wp2_with (first | (refine wpList_ld 35 ⟨w.heap.size, 0, none⟩ _ rfl rfl HLD.out rfl ?_) | fail)
  refine HMS.out.mono ?_
  rintro _ w2 ⟨a2, n2, c2, rfl, hs2, hn2, hb2⟩
  obtain ⟨pa, hpa⟩ : ∃ pa : Array Value, pa = ctCells MC (.slice a2 n2 c2) := ⟨_, rfl⟩
  obtain ⟨w3, hw3⟩ : ∃ w3, w3 = (w2.alloc (.cells zeroC 29)).setCells w2.heap.size 0 pa.toList := ⟨_, rfl⟩
  have HZA : Hid ((Tryd.prog.info? 29).map (·.size) = some pa.size) := by unfold Hid; rw [hpa]; exact size_ct
  have HOA : Hid (pa.all (·.oneCell') = true) := by unfold Hid; rw [hpa]; simp [ctCells, Value.oneCell']
  have HTA : Hid ((w2.alloc (.cells zeroC 29)).there w2.heap.size 0 pa.size) := by unfold Hid; rw [hpa]; exact there_blk (C := zeroC) (t := 29) (heap_alloc_new w2 _) rfl
  have hr3 : w3.heap[w2.heap.size]? = some (.cells (ctCells MC (.slice a2 n2 c2)) 29 (0, 0)) := by
    rw [hw3, hpa]
    have := heap_setCells_row (b := w2.heap.size) (T := 29) (ctCells MC (.slice a2 n2 c2)).toList 0 _ zeroC (heap_alloc_new w2 (.cells zeroC 29))
    rwa [show wr zeroC 0 (ctCells MC (.slice a2 n2 c2)).toList = ctCells MC (.slice a2 n2 c2) by simp [wr, zeroC, ctCells]] at this
  have hb23 : Below w2.heap.size w2 w3 := by rw [hw3]; exact below_setCells (Nat.le_refl _) _ _ _ ((Below.refl _ _).alloc (Nat.le_refl _) _)
  have hb3 : Below w1.heap.size w1 w3 := hb2.trans (hb23.mono hb2.size)
  obtain ⟨d0, d1, d2, d3⟩ := ct_at hr3
  have HR3 := hid hr3
  have HS3 := hid (hs2.below hb23)
  have HW3 : Hid (w3 = (w2.alloc (.cells #[.int .u8 0, .int .u8 0, .int .u32 0, .slice none 0 0] 29)).setCells w2.heap.size 0 pa.toList) := hw3
  have HB3 := hid hb3
  have hlt3 : w2.heap.size < w3.heap.size := (Array.getElem?_eq_some_iff.1 hr3).1
  have HLT := hid hlt3
  rw [← hpa]
  clear hpa hw3 hr3 hb23 hb3 hs2 hn2 hb2 hlt3
  go_upto_region 3 with (first
    | (refine wpList_store_mid rfl 29 (.tmp 6) (.tmp 11) rfl w2.heap.size 0 pa rfl rfl HTA.out HZA.out HOA.out ?_)
    | fail)
  rw [← HW3.out]
  by_cases hq : q = 0
  · subst hq
    have HA2 : Hid (AB = if kF MC.t then readL MC.B false else (zeroH, [], 62)) := by unfold Hid; rw [HA.out, if_neg (by simp)]
    cases hk : kF MC.t with
    | false =>
      have HA3 : Hid (AB = (zeroH, [], 62)) := by unfold Hid; rw [HA2.out, hk]; rfl
      have HF3 := hid (HFL.out _ HB3.out)
      rw [hk] at HF3
      generalize MC.t = mt at *
      go_wp2_with fail
      refine HF3.out.mono ?_
      rintro _ w4 ⟨rfl, hb4⟩
      have hb14 := HB3.out.trans (hb4.mono HB3.out.size)
      have HTU : Hid (w4.there (w.heap.size + 1) 0 zz.size) := by unfold Hid; rw [HZS.out]; exact HTH.out _ hb14
      have HLZ2 := hid (HLZ.out _ hb14)
      obtain ⟨q1, q2⟩ := res_end (w := w) HTU.out (by omega) (HBW.out _ hb14) Tryd.underlying33 HINF.out
      have HLV := hid q1
      have HBF := hid q2
      clear q1 q2 hb14
      go_wp2_with (first
        | (refine wpList_ld 33 ⟨w.heap.size + 2, 0, none⟩ _ rfl rfl HLZ2.out rfl ?_)
        | (refine wpList_store_mid rfl 33 (.tmp 2) (.tmp 21) rfl (w.heap.size + 1) 0 zz rfl rfl HTU.out HINF.out HONE.out ?_)
        | fail)
      generalize w4.setCells (w.heap.size + 1) 0 zz.toList = wf at HLV HBF ⊢
      refine bodyPost_ret (v := .tuple #[.agg zz, .slice none 0 0, .int .i64 62]) (by simp [results, Tryd.results26, asAddr, HLV.out]) rfl ?_
      rw [HA3.out]
      exact ⟨none, 0, 0, none, 0, 0, by rw [HZC.out], sees_nil _, sees_nil _, HBF.out⟩
    | true =>
      have HA3 : Hid (AB = readL MC.B false) := by unfold Hid; rw [HA2.out, hk]; rfl
      have HF3 := hid (HFL.out _ HB3.out)
      rw [hk] at HF3
      have HC4 : Hid (∀ u, Below w3.heap.size w3 u → u.cell? ⟨w2.heap.size, 3, none⟩ = some (.slice a2 n2 c2)) := fun u hu => (ct_at ((hu.block _ HLT.out).trans HR3.out)).2.2.2
      go_wp2_with fail
      refine HF3.out.mono ?_
      rintro _ w4 ⟨rfl, hb4⟩
      have e4 := HC4.out _ hb4
      have HP4 := hid (HPK.out _ w4 (HS3.out.below hb4))
      have hb14 := HB3.out.trans (hb4.mono HB3.out.size)
      have HB14 := hid hb14
      clear d0 d1 d2 d3 hb14 HC4 hb4 HF3 HFL HPK
      generalize readL MC.B false = RL at *
      go_wp2_with fail
      refine HP4.out.mono ?_
      rintro _ w5 ⟨vo5, vb5, rfl, ho5, hbd5, hno, hnb, hb5⟩
      obtain ⟨a5, n5, c5, rfl, _, _, _⟩ := ho5.shape
      obtain ⟨a6, n6, c6, rfl, _, _, _⟩ := hbd5.shape
      obtain ⟨yy, hyy⟩ : ∃ yy : Array Value, yy = hdCells RL.1 (.slice a5 n5 c5) := ⟨_, rfl⟩
      have HYC := hid hyy
      have HOY : Hid (yy.all (·.oneCell') = true) := by unfold Hid; rw [hyy]; exact hd_one _ _ _ _
      have HIY : Hid ((Tryd.prog.info? 33).map (·.size) = some yy.size) := by unfold Hid; rw [hyy]; exact size_hd
      have hb15 := HB14.out.trans (hb5.mono HB14.out.size)
      have HTU : Hid (w5.there (w.heap.size + 1) 0 yy.size) := by unfold Hid; rw [hyy]; exact HTH.out _ hb15
      obtain ⟨q1, q2⟩ := res_end (w := w) HTU.out (by omega) (HBW.out _ hb15) Tryd.underlying33 HIY.out
      have HLV := hid q1
      have HBF := hid q2
      have hsz : w.heap.size + 3 ≤ w4.heap.size := by have := HB14.out.size; have := HS1.out; omega
      have HSO := hid (sees_setI (b := w.heap.size + 1) (vs := yy.toList) ho5 (fun a ha => by have := hno a n5 c5 (by rw [ha]); omega))
      have HSB := hid (sees_setI (b := w.heap.size + 1) (vs := yy.toList) hbd5 (fun a ha => by have := hnb a n6 c6 (by rw [ha]); omega))
      rw [← hyy]
      clear q1 q2 hyy ho5 hbd5 hno hnb hb15 hsz hb5
      go_wp2_with (first
        | (refine wpList_store_mid rfl 33 (.tmp 2) (.tmp 25) rfl (w.heap.size + 1) 0 yy rfl rfl HTU.out HIY.out HOY.out ?_)
        | fail)
      generalize w5.setCells (w.heap.size + 1) 0 yy.toList = wf at HLV HBF HSO HSB ⊢
      refine bodyPost_ret (v := .tuple #[.agg yy, .slice a6 n6 c6, .int .i64 RL.2.2]) (by simp [results, Tryd.results26, asAddr, HLV.out]) rfl ?_
      rw [HA3.out]
      exact ⟨_, _, _, _, _, _, by rw [HYC.out], HSO.out, HSB.out, HBF.out⟩
  · have HA3 : Hid (AB = (zeroH, [], q)) := by unfold Hid; rw [HA.out, if_pos hq]
    have hqq : (q != 0) = true := by simp [hq]
    have HTU : Hid (w3.there (w.heap.size + 1) 0 zz.size) := by unfold Hid; rw [HZS.out]; exact HTH.out _ HB3.out
    have HLZ2 := hid (HLZ.out _ HB3.out)
    obtain ⟨q1, q2⟩ := res_end (w := w) HTU.out (by omega) (HBW.out _ HB3.out) Tryd.underlying33 HINF.out
    have HLV := hid q1
    have HBF := hid q2
    clear q1 q2
    go_wp2_with (first
      | (refine wpList_ld 33 ⟨w.heap.size + 2, 0, none⟩ _ rfl rfl HLZ2.out rfl ?_)
      | (refine wpList_store_mid rfl 33 (.tmp 2) (.tmp 15) rfl (w.heap.size + 1) 0 zz rfl rfl HTU.out HINF.out HONE.out ?_)
      | fail)
    generalize w3.setCells (w.heap.size + 1) 0 zz.toList = wf at HLV HBF ⊢
    refine bodyPost_ret (v := .tuple #[.agg zz, .slice none 0 0, .int .i64 q]) (by simp [results, Tryd.results26, asAddr, HLV.out]) rfl ?_
    rw [HA3.out]
    exact ⟨none, 0, 0, none, 0, 0, by rw [HZC.out], sees_nil _, sees_nil _, HBF.out⟩
end Go.Proofs.YtcboenmmkaochabDoor.N

namespace Go.Proofs.YtcboenmmkaochabDoor.N
open Go.ChangeShapes Go.WideShapes Go.ChangeAt Go.RowKit
set_option maxHeartbeats 2000000
set_option maxRecDepth 100000

theorem recho_any (h : Hd) (vo vb : Value) (B : List Nat) (w : World) (hok : h.Ok) (hvo : SeesB w vo h.opts) (hvb : SeesB w vb B) (hlb : B.length ≤ 140737488355328) :
    Calls Tryd.prog 24 #[.agg (pkCells h vo vb)] w fun e w' => ∃ a2 n2 c2, e = .returned (.tuple #[.agg (pkCells (ecP h B).1 (.slice none 0 0) (.slice a2 n2 c2)), .int .i64 (ecE h B)]) ∧ SeesB w' (.slice a2 n2 c2) (ecP h B).2 ∧ (∀ a, a2 = some a → w.heap.size ≤ a.block) ∧ Below w.heap.size w w' := by
  obtain ⟨wa, hwa⟩ : ∃ wa, wa = w.alloc (.cells (pkCells h vo vb) 35) := ⟨_, rfl⟩
  obtain ⟨w1, hw1⟩ : ∃ w1, w1 = (wa.alloc (.cells zeroP 35)).alloc (.cells zeroP 35) := ⟨_, rfl⟩
  have hsa : wa.heap.size = w.heap.size + 1 := by rw [hwa]; simp
  have hs1 : w1.heap.size = w.heap.size + 3 := by rw [hw1]; simp [hsa]
  have hba : Below w.heap.size w wa := by rw [hwa]; exact (Below.refl _ _).alloc (Nat.le_refl _) _
  have hbb : Below wa.heap.size wa w1 := by rw [hw1]; exact ((Below.refl _ _).alloc (Nat.le_refl _) _).alloc (by simp) _
  have hb1 : Below w.heap.size w w1 := hba.trans (hbb.mono (by omega))
  have k0 : w1.heap[w.heap.size]? = some (.cells (pkCells h vo vb) 35 (0, 0)) := by
    rw [hbb.block _ (by omega), hwa]; exact heap_alloc_new w _
  have k1 : w1.heap[w.heap.size + 1]? = some (.cells zeroP 35 (0, 0)) := by
    rw [hw1, Below.heap_alloc _ _ _ (by simp [hsa]), ← hsa]; exact heap_alloc_new wa _
  have k2 : w1.heap[w.heap.size + 2]? = some (.cells zeroP 35 (0, 0)) := by
    have := heap_alloc_new (wa.alloc (.cells zeroP 35)) (.cells zeroP 35)
    rw [World.size_alloc, hsa] at this
    rw [hw1]; exact this
  have HLN : Hid (∀ u, Below w1.heap.size w1 u → (Instr.loadAt 35 (.pointer (some ⟨w.heap.size + 2, 0, none⟩))).run Tryd.prog u = .ok (.agg zeroP) u) := fun u hu => pk_load0 ((hu.block _ (by omega)).trans k2)
  have HLD := hid (pk_load k0)
  have HMS := hid (rmessage_any h vo vb B w1 hok (hvo.below hb1) (hvb.below hb1) hlb)
  obtain ⟨hC1, hC2, hC3⟩ := msgC_ok (h := h) hvb.bytes
  have HTH : Hid (∀ u, Below w1.heap.size w1 u → u.there (w.heap.size + 1) 0 11) := fun u hu => there_blk (C := zeroP) (t := 35) ((hu.block _ (by omega)).trans k1) rfl
  have HPC : Hid (∀ u, Below w1.heap.size w1 u → (Instr.loadAt 33 (.pointer (some ⟨w.heap.size, 0, none⟩))).run Tryd.prog u = .ok (.agg (hdCells h vo)) u ∧ u.cell? ⟨w.heap.size, 0, none⟩ = some (.int .u8 (h.tos : Int)) ∧ u.cell? ⟨w.heap.size, 7, none⟩ = some (.int .u32 (h.src : Int)) ∧ u.cell? ⟨w.heap.size, 8, none⟩ = some (.int .u32 (h.dst : Int))) := fun u hu => by
    have hk := (hu.block w.heap.size (by omega)).trans k0
    exact ⟨pk_loadH hk, pk_at hk 0 (by omega), pk_at hk 7 (by omega), pk_at hk 8 (by omega)⟩
  have HPL : Hid (∀ (a : Nat), a < 4294967296 → ∀ u, Calls Tryd.prog 29 #[.int .u32 (a : Int)] u fun e w' => e = .returned (.bool (pln a)) ∧ w' = u) := fun a ha u => plainR_any a u ha
  have hsrc := hok.src
  have hdst := hok.dst
  have HCA : Hid (∀ (v : Value) (u : World), SeesB u v (msgC h B).B → Calls Tryd.prog 32 #[.int .u8 (h.tos : Int), .int .u32 (h.dst : Int), .int .u32 (h.src : Int), .agg (ctCells (ecM h B) v)] u fun e w' => ∃ a2 n2 c2, e = .returned (.tuple #[.agg (pkCells (mdH h.tos h.dst h.src) (.slice none 0 0) (.slice a2 n2 c2)), .int .i64 0]) ∧ SeesB w' (.slice a2 n2 c2) (Im.laid (ecM h B)) ∧ (∀ a, a2 = some a → u.heap.size ≤ a.block) ∧ Below u.heap.size u w') := fun v u hs => rpacket_any (ecM h B) v h.tos h.dst h.src u ⟨by show 0 < 256; omega, hC1.c, hC1.r⟩ hs hC3
  have HW1 : Hid (w1 = ((w.alloc (.cells (pkCells h vo vb) 35)).alloc (.cells #[.int .u8 0, .int .u16 0, .bool false, .bool false, .int .i64 0, .int .u8 0, .int .u8 0, .int .u32 0, .int .u32 0, .slice none 0 0, .slice none 0 0] 35)).alloc (.cells #[.int .u8 0, .int .u16 0, .bool false, .bool false, .int .i64 0, .int .u8 0, .int .u8 0, .int .u32 0, .int .u32 0, .slice none 0 0, .slice none 0 0] 35)) := by unfold Hid; rw [hw1, hwa]; rfl
  have HB1 := hid hb1
  have HS1 := hid hs1
  have HBW : Hid (∀ u, Below w1.heap.size w1 u → Below w.heap.size w u) := fun u hu => hb1.trans (hu.mono hb1.size)
  have HA : Hid (ecE h B = if msgE h B ≠ 0 then msgE h B else if (msgC h B).t ≠ 8 ∨ (msgC h B).c ≠ 0 then 62 else if (pln h.src && pln h.dst) = true then 0 else 61) := rfl
  have HPP : Hid (ecP h B = if ecE h B = 0 then (mdH h.tos h.dst h.src, Im.laid (ecM h B)) else (zeroH, [])) := rfl
  have HEM : Hid (∀ v, ctCells (ecM h B) v = #[.int .u8 0, .int .u8 ((msgC h B).c : Int), .int .u32 ((msgC h B).r : Int), v]) := fun v => rfl
  clear hwa hw1 hsa hs1 hba hbb hb1 k0 k1 k2 hvb hvo hok hlb hC1 hC2 hC3
  generalize ecP h B = AB at *
  generalize ecE h B = AE at *
  generalize msgE h B = q at *
  generalize ecM h B = EM at *
  generalize msgC h B = MC at *
  generalize pkCells h vo vb = pk at *
  generalize hdCells h vo = hc at *
  generalize mdH h.tos h.dst h.src = MH at *
  generalize h.tos = tos at *
  generalize h.src = src at *
  generalize h.dst = dst at *
  generalize hes : pln src = es at *
  generalize hed : pln dst = ed at *
  have HPS := hid (HPL.out src hsrc)
  have HPD := hid (HPL.out dst hdst)
  rw [hes] at HPS
  rw [hed] at HPD
  clear hes hed HPL
  obtain ⟨zz, hzz⟩ : ∃ zz : Array Value, zz = zeroP := ⟨_, rfl⟩
  have HONE : Hid (zz.all (·.oneCell') = true) := by unfold Hid; rw [hzz]; simp [zeroP, Value.oneCell']
  have HINF : Hid ((Tryd.prog.info? 35).map (·.size) = some zz.size) := by unfold Hid; rw [hzz]; exact size_pk
  have HZC : Hid (zz = pkCells zeroH (.slice none 0 0) (.slice none 0 0)) := hzz
  have HZS : Hid (zz.size = 11) := by unfold Hid; rw [hzz]; rfl
  have HLZ : Hid (∀ u, Below w1.heap.size w1 u → (Instr.loadAt 35 (.pointer (some ⟨w.heap.size + 2, 0, none⟩))).run Tryd.prog u = .ok (.agg zz) u) := by unfold Hid; rw [hzz]; exact HLN.out
  clear hzz HLN
  go_enter Tryd.func24, Tryd.ntmps24
  go_upto_region 2 with fail
  rw [← HW1.out]
  go_wp2_with (first | (refine wpList_ld 35 ⟨w.heap.size, 0, none⟩ _ rfl rfl HLD.out rfl ?_) | fail)
  refine HMS.out.mono ?_
  rintro _ w2 ⟨a2, n2, c2, rfl, hs2, hn2, hb2⟩
  obtain ⟨pa, hpa⟩ : ∃ pa : Array Value, pa = ctCells MC (.slice a2 n2 c2) := ⟨_, rfl⟩
  obtain ⟨w3, hw3⟩ : ∃ w3, w3 = (w2.alloc (.cells zeroC 29)).setCells w2.heap.size 0 pa.toList := ⟨_, rfl⟩
  have HZA : Hid ((Tryd.prog.info? 29).map (·.size) = some pa.size) := by unfold Hid; rw [hpa]; exact size_ct
  have HOA : Hid (pa.all (·.oneCell') = true) := by unfold Hid; rw [hpa]; simp [ctCells, Value.oneCell']
  have HTA : Hid ((w2.alloc (.cells zeroC 29)).there w2.heap.size 0 pa.size) := by unfold Hid; rw [hpa]; exact there_blk (C := zeroC) (t := 29) (heap_alloc_new w2 _) rfl
  have hr3 : w3.heap[w2.heap.size]? = some (.cells (ctCells MC (.slice a2 n2 c2)) 29 (0, 0)) := by
    rw [hw3, hpa]
    have := heap_setCells_row (b := w2.heap.size) (T := 29) (ctCells MC (.slice a2 n2 c2)).toList 0 _ zeroC (heap_alloc_new w2 (.cells zeroC 29))
    rwa [show wr zeroC 0 (ctCells MC (.slice a2 n2 c2)).toList = ctCells MC (.slice a2 n2 c2) by simp [wr, zeroC, ctCells]] at this
  have hb23 : Below w2.heap.size w2 w3 := by rw [hw3]; exact below_setCells (Nat.le_refl _) _ _ _ ((Below.refl _ _).alloc (Nat.le_refl _) _)
  have hb3 : Below w1.heap.size w1 w3 := hb2.trans (hb23.mono hb2.size)
  obtain ⟨d0, d1, d2, d3⟩ := ct_at hr3
  have HR3 := hid hr3
  have HSV := hid hs2
  have HB23 := hid hb23
  have HW3 : Hid (w3 = (w2.alloc (.cells #[.int .u8 0, .int .u8 0, .int .u32 0, .slice none 0 0] 29)).setCells w2.heap.size 0 pa.toList) := hw3
  have HB3 := hid hb3
  have hlt3 : w2.heap.size < w3.heap.size := (Array.getElem?_eq_some_iff.1 hr3).1
  have HLT := hid hlt3
  have HLT2 : Hid (w.heap.size + 3 ≤ w2.heap.size) := by unfold Hid; have := hb2.size; have := HS1.out; omega
  rw [← hpa]
  clear hpa hw3 hr3 hb23 hb3 hs2 hn2 hb2 hlt3
  go_upto_region 3 with (first
    | (refine wpList_store_mid rfl 29 (.tmp 5) (.tmp 10) rfl w2.heap.size 0 pa rfl rfl HTA.out HZA.out HOA.out ?_)
    | fail)
  rw [← HW3.out]
  by_cases hq : q = 0
  · subst hq
    have HA2 : Hid (AE = if MC.t ≠ 8 ∨ MC.c ≠ 0 then 62 else if (es && ed) = true then 0 else 61) := by unfold Hid; rw [HA.out, if_neg (by simp)]
    by_cases h8 : MC.t = 8
    · by_cases h0 : MC.c = 0
      · have HA3 : Hid (AE = if (es && ed) = true then 0 else 61) := by unfold Hid; rw [HA2.out, if_neg (by simp [h8, h0])]
        have HMC := hid (And.intro h8 h0)
        rw [h8] at d0
        rw [h0] at d1
        clear h8 h0
        obtain ⟨_, r0, r7, r8⟩ := HPC.out _ HB3.out
        go_wp2_with fail
        refine (HPS.out _).mono ?_
        rintro _ _ ⟨rfl, e⟩
        obtain rfl := e.symm
        cases es with
        | false =>
          have HE2 : Hid (AE = 61) := HA3.out
          have HP2 : Hid (AB = (zeroH, [])) := by unfold Hid; rw [HPP.out, HE2.out, if_neg (by decide)]
          have HTU : Hid (w3.there (w.heap.size + 1) 0 zz.size) := by unfold Hid; rw [HZS.out]; exact HTH.out _ HB3.out
          have HLZ2 := hid (HLZ.out _ HB3.out)
          obtain ⟨q1, q2⟩ := res_end (w := w) HTU.out (by omega) (HBW.out _ HB3.out) Tryd.underlying35 HINF.out
          have HLV := hid q1
          have HBF := hid q2
          clear q1 q2
          go_wp2_with (first
            | (refine wpList_ld 35 ⟨w.heap.size + 2, 0, none⟩ _ rfl rfl HLZ2.out rfl ?_)
            | (refine wpList_store_mid rfl 35 (.tmp 2) (.tmp 37) rfl (w.heap.size + 1) 0 zz rfl rfl HTU.out HINF.out HONE.out ?_)
            | fail)
          generalize w3.setCells (w.heap.size + 1) 0 zz.toList = wf at HLV HBF ⊢
          refine bodyPost_ret (v := .tuple #[.agg zz, .int .i64 61]) (by simp [results, Tryd.results24, asAddr, HLV.out]) rfl ?_
          rw [HP2.out, HE2.out]
          exact ⟨none, 0, 0, by rw [HZC.out], sees_nil _, (fun a ha => by cases ha), HBF.out⟩
        | true =>
          go_wp2_with fail
          refine (HPD.out _).mono ?_
          rintro _ _ ⟨rfl, e⟩
          obtain rfl := e.symm
          cases ed with
          | false =>
            have HE2 : Hid (AE = 61) := HA3.out
            have HP2 : Hid (AB = (zeroH, [])) := by unfold Hid; rw [HPP.out, HE2.out, if_neg (by decide)]
            have HTU : Hid (w3.there (w.heap.size + 1) 0 zz.size) := by unfold Hid; rw [HZS.out]; exact HTH.out _ HB3.out
            have HLZ2 := hid (HLZ.out _ HB3.out)
            obtain ⟨q1, q2⟩ := res_end (w := w) HTU.out (by omega) (HBW.out _ HB3.out) Tryd.underlying35 HINF.out
            have HLV := hid q1
            have HBF := hid q2
            clear q1 q2
            go_wp2_with (first
              | (refine wpList_ld 35 ⟨w.heap.size + 2, 0, none⟩ _ rfl rfl HLZ2.out rfl ?_)
              | (refine wpList_store_mid rfl 35 (.tmp 2) (.tmp 37) rfl (w.heap.size + 1) 0 zz rfl rfl HTU.out HINF.out HONE.out ?_)
              | fail)
            generalize w3.setCells (w.heap.size + 1) 0 zz.toList = wf at HLV HBF ⊢
            refine bodyPost_ret (v := .tuple #[.agg zz, .int .i64 61]) (by simp [results, Tryd.results24, asAddr, HLV.out]) rfl ?_
            rw [HP2.out, HE2.out]
            exact ⟨none, 0, 0, by rw [HZC.out], sees_nil _, (fun a ha => by cases ha), HBF.out⟩
          | true =>
            have HE2 : Hid (AE = 0) := HA3.out
            have HP2 : Hid (AB = (MH, Im.laid EM)) := by unfold Hid; rw [HPP.out, HE2.out, if_pos rfl]
            have hr4 := HR3.out
            have g0 := (ct_at hr4).1
            have fz : w3.frozen? ⟨w2.heap.size, 0, none⟩ = false := frozen_of_row _ _ _ _ _ hr4
            obtain ⟨w5, hw5⟩ : ∃ w5, w5 = w3.setCell ⟨w2.heap.size, 0, none⟩ (.int .u8 0) := ⟨_, rfl⟩
            have hr5 : w5.heap[w2.heap.size]? = some (.cells (ctCells EM (.slice a2 n2 c2)) 29 (0, 0)) := by
              rw [hw5, HEM.out]; exact heap_setCell_row hr4 _
            have hb25 : Below w2.heap.size w2 w5 := by rw [hw5]; exact HB23.out.setCell (p := ⟨w2.heap.size, 0, none⟩) (Nat.le_refl _) _
            have hb15 : Below w1.heap.size w1 w5 := by rw [hw5]; exact HB3.out.setCell (p := ⟨w2.heap.size, 0, none⟩) (by have := HLT2.out; have := HS1.out; show w1.heap.size ≤ w2.heap.size; omega) _
            have HLE := hid (ct_load (n := w2.heap.size) rfl hr5)
            have HCB := hid (HCA.out _ w5 (HSV.out.below hb25))
            obtain ⟨_, e0, e7, e8⟩ := HPC.out _ hb15
            have HB15 := hid hb15
            have HW5 := hid hw5
            have HMT := HMC.out.1
            rw [HMT] at g0
            clear hr4 hw5 hr5 hb25 hb15 d0 d1 d2 d3 HMT
            generalize ctCells EM (.slice a2 n2 c2) = ec at *
            go_upto_region 10 with fail
            rw [← HW5.out]
            go_wp2_with (first | (refine wpList_ld 29 ⟨w2.heap.size, 0, none⟩ _ rfl rfl HLE.out rfl ?_) | fail)
            refine HCB.out.mono ?_
            rintro _ w6 ⟨a6, n6, c6, rfl, hs6, hg6, hb6⟩
            obtain ⟨yy, hyy⟩ : ∃ yy : Array Value, yy = pkCells MH (.slice none 0 0) (.slice a6 n6 c6) := ⟨_, rfl⟩
            have HYC := hid hyy
            have HOY : Hid (yy.all (·.oneCell') = true) := by unfold Hid; rw [hyy]; simp [pkCells, Value.oneCell']
            have HIY : Hid ((Tryd.prog.info? 35).map (·.size) = some yy.size) := by unfold Hid; rw [hyy]; exact size_pk
            have hb16 := HB15.out.trans (hb6.mono HB15.out.size)
            have HTU : Hid (w6.there (w.heap.size + 1) 0 yy.size) := by unfold Hid; rw [hyy]; exact HTH.out _ hb16
            obtain ⟨q1, q2⟩ := res_end (w := w) HTU.out (by omega) (HBW.out _ hb16) Tryd.underlying35 HIY.out
            have HLV := hid q1
            have HBF := hid q2
            have HGS : Hid (∀ a, a6 = some a → w.heap.size + 3 ≤ a.block) := fun a ha => by have := hg6 a ha; have := HB15.out.size; have := HS1.out; omega
            have HSF := hid (sees_setI (b := w.heap.size + 1) (vs := yy.toList) hs6 (fun a ha => by have := HGS.out a ha; omega))
            rw [← hyy]
            clear q1 q2 hyy hs6 hb16 hb6 hg6
            go_wp2_with (first
              | (refine wpList_store_mid rfl 35 (.tmp 2) (.tmp 50) rfl (w.heap.size + 1) 0 yy rfl rfl HTU.out HIY.out HOY.out ?_)
              | fail)
            generalize w6.setCells (w.heap.size + 1) 0 yy.toList = wf at HLV HBF HSF ⊢
            refine bodyPost_ret (v := .tuple #[.agg yy, .int .i64 0]) (by simp [results, Tryd.results24, asAddr, HLV.out]) rfl ?_
            rw [HP2.out, HE2.out]
            exact ⟨_, _, _, by rw [HYC.out], HSF.out, (fun a ha => by have := HGS.out a ha; omega), HBF.out⟩
      · have HE2 : Hid (AE = 62) := by unfold Hid; rw [HA2.out, if_pos (.inr h0)]
        have qc : ((MC.c : Int) != 0) = true := by simp; omega
        rw [h8] at d0
        clear h8 h0
        generalize MC.c = mc at *
        have HP2 : Hid (AB = (zeroH, [])) := by unfold Hid; rw [HPP.out, HE2.out, if_neg (by decide)]
        have HTU : Hid (w3.there (w.heap.size + 1) 0 zz.size) := by unfold Hid; rw [HZS.out]; exact HTH.out _ HB3.out
        have HLZ2 := hid (HLZ.out _ HB3.out)
        obtain ⟨q1, q2⟩ := res_end (w := w) HTU.out (by omega) (HBW.out _ HB3.out) Tryd.underlying35 HINF.out
        have HLV := hid q1
        have HBF := hid q2
        clear q1 q2
        go_wp2_with (first
          | (refine wpList_ld 35 ⟨w.heap.size + 2, 0, none⟩ _ rfl rfl HLZ2.out rfl ?_)
          | (refine wpList_store_mid rfl 35 (.tmp 2) (.tmp 24) rfl (w.heap.size + 1) 0 zz rfl rfl HTU.out HINF.out HONE.out ?_)
          | fail)
        generalize w3.setCells (w.heap.size + 1) 0 zz.toList = wf at HLV HBF ⊢
        refine bodyPost_ret (v := .tuple #[.agg zz, .int .i64 62]) (by simp [results, Tryd.results24, asAddr, HLV.out]) rfl ?_
        rw [HP2.out, HE2.out]
        exact ⟨none, 0, 0, by rw [HZC.out], sees_nil _, (fun a ha => by cases ha), HBF.out⟩
    · have HE2 : Hid (AE = 62) := by unfold Hid; rw [HA2.out, if_pos (.inl h8)]
      have qc : ((MC.t : Int) != 8) = true := by simp; omega
      clear h8
      generalize MC.t = mt at *
      have HP2 : Hid (AB = (zeroH, [])) := by unfold Hid; rw [HPP.out, HE2.out, if_neg (by decide)]
      have HTU : Hid (w3.there (w.heap.size + 1) 0 zz.size) := by unfold Hid; rw [HZS.out]; exact HTH.out _ HB3.out
      have HLZ2 := hid (HLZ.out _ HB3.out)
      obtain ⟨q1, q2⟩ := res_end (w := w) HTU.out (by omega) (HBW.out _ HB3.out) Tryd.underlying35 HINF.out
      have HLV := hid q1
      have HBF := hid q2
      clear q1 q2
      go_wp2_with (first
        | (refine wpList_ld 35 ⟨w.heap.size + 2, 0, none⟩ _ rfl rfl HLZ2.out rfl ?_)
        | (refine wpList_store_mid rfl 35 (.tmp 2) (.tmp 24) rfl (w.heap.size + 1) 0 zz rfl rfl HTU.out HINF.out HONE.out ?_)
        | fail)
      generalize w3.setCells (w.heap.size + 1) 0 zz.toList = wf at HLV HBF ⊢
      refine bodyPost_ret (v := .tuple #[.agg zz, .int .i64 62]) (by simp [results, Tryd.results24, asAddr, HLV.out]) rfl ?_
      rw [HP2.out, HE2.out]
      exact ⟨none, 0, 0, by rw [HZC.out], sees_nil _, (fun a ha => by cases ha), HBF.out⟩
  · have HE2 : Hid (AE = q) := by unfold Hid; rw [HA.out, if_pos hq]
    have hqq : (q != 0) = true := by simp [hq]
    have HP2 : Hid (AB = (zeroH, [])) := by unfold Hid; rw [HPP.out, HE2.out, if_neg (by exact hq)]
    have HTU : Hid (w3.there (w.heap.size + 1) 0 zz.size) := by unfold Hid; rw [HZS.out]; exact HTH.out _ HB3.out
    have HLZ2 := hid (HLZ.out _ HB3.out)
    obtain ⟨q1, q2⟩ := res_end (w := w) HTU.out (by omega) (HBW.out _ HB3.out) Tryd.underlying35 HINF.out
    have HLV := hid q1
    have HBF := hid q2
    clear q1 q2
    go_wp2_with (first
      | (refine wpList_ld 35 ⟨w.heap.size + 2, 0, none⟩ _ rfl rfl HLZ2.out rfl ?_)
      | (refine wpList_store_mid rfl 35 (.tmp 2) (.tmp 14) rfl (w.heap.size + 1) 0 zz rfl rfl HTU.out HINF.out HONE.out ?_)
      | fail)
    generalize w3.setCells (w.heap.size + 1) 0 zz.toList = wf at HLV HBF ⊢
    refine bodyPost_ret (v := .tuple #[.agg zz, .int .i64 q]) (by simp [results, Tryd.results24, asAddr, HLV.out]) rfl ?_
    rw [HP2.out, HE2.out]
    exact ⟨none, 0, 0, by rw [HZC.out], sees_nil _, (fun a ha => by cases ha), HBF.out⟩
end Go.Proofs.YtcboenmmkaochabDoor.N
