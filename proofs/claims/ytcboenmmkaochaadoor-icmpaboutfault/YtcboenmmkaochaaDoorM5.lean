import Derived.Test.YtcboenmmkaochaaDoorM4
namespace Go.Proofs.YtcboenmmkaochaaDoor.N
open Go.ChangeShapes Go.WideShapes Go.ChangeAt Go.RowKit
set_option maxHeartbeats 2000000
set_option maxRecDepth 100000

/-- The error of an echo. -/
def ecE (h : Hd) (B : List Nat) : Int :=
  if msgE h B ≠ 0 then msgE h B else if (msgC h B).t ≠ 8 ∨ (msgC h B).c ≠ 0 then 62 else if (pln h.src && pln h.dst) = true then 0 else 61
def ecM (h : Hd) (B : List Nat) : Im.Ct := ⟨0, (msgC h B).c, (msgC h B).r, (msgC h B).B⟩
def ecP (h : Hd) (B : List Nat) : Hd × List Nat := if ecE h B = 0 then (mdH h.tos h.dst h.src, Im.laid (ecM h B)) else (zeroH, [])

theorem ec_bad {h : Hd} {B : List Nat} {e : Int} (he : ecE h B = e) (hn : e ≠ 0) : ecP h B = (zeroH, []) := by unfold ecP; rw [if_neg (by rw [he]; exact hn)]

theorem echo_any (h : Hd) (vo vb : Value) (B : List Nat) (w : World) (hok : h.Ok) (hvo : SeesB w vo h.opts) (hvb : SeesB w vb B) (hlo : h.opts.length ≤ 140737488355328) (hlb : B.length ≤ 140737488355328) (htC : Ad.TabC w) :
    Calls Tryd.prog 22 #[.agg (pkCells h vo vb)] w fun e w' => ∃ a2 n2 c2, e = .returned (.tuple #[.agg (pkCells (ecP h B).1 (.slice none 0 0) (.slice a2 n2 c2)), .int .i64 (ecE h B)]) ∧ SeesB w' (.slice a2 n2 c2) (ecP h B).2 ∧ (∀ a, a2 = some a → w.heap.size ≤ a.block) ∧ Below w.heap.size w w' := by
  obtain ⟨wa, hwa⟩ : ∃ wa, wa = w.alloc (.cells (pkCells h vo vb) 29) := ⟨_, rfl⟩
  obtain ⟨w1, hw1⟩ : ∃ w1, w1 = wa.alloc (.cells zeroP 29) := ⟨_, rfl⟩
  have hsa : wa.heap.size = w.heap.size + 1 := by rw [hwa]; simp
  have hs1 : w1.heap.size = w.heap.size + 2 := by rw [hw1]; simp [hsa]
  have hba : Below w.heap.size w wa := by rw [hwa]; exact (Below.refl _ _).alloc (Nat.le_refl _) _
  have hbb : Below wa.heap.size wa w1 := by rw [hw1]; exact (Below.refl _ _).alloc (Nat.le_refl _) _
  have hb1 : Below w.heap.size w w1 := hba.trans (hbb.mono (by omega))
  have k0 : w1.heap[w.heap.size]? = some (.cells (pkCells h vo vb) 29 (0, 0)) := by
    rw [hbb.block _ (by omega), hwa]; exact heap_alloc_new w _
  have k1 : w1.heap[w.heap.size + 1]? = some (.cells zeroP 29 (0, 0)) := by
    rw [← hsa, hw1]; exact heap_alloc_new wa _
  have HLD := hid (pk_load k0)
  have HMS := hid (message_any h vo vb B w1 hok (hvo.below hb1) (hvb.below hb1) hlo hlb)
  obtain ⟨hC1, hC2, hC3⟩ := msgC_ok (h := h) hvb.bytes
  have HTH : Hid (∀ u, Below w1.heap.size w1 u → u.there (w.heap.size + 1) 0 11) := fun u hu => there_blk (C := zeroP) (t := 29) ((hu.block _ (by omega)).trans k1) rfl
  have HPC : Hid (∀ u, Below w1.heap.size w1 u → (Instr.loadAt 27 (.pointer (some ⟨w.heap.size, 0, none⟩))).run Tryd.prog u = .ok (.agg (hdCells h vo)) u ∧ u.cell? ⟨w.heap.size, 0, none⟩ = some (.int .u8 (h.tos : Int)) ∧ u.cell? ⟨w.heap.size, 7, none⟩ = some (.int .u32 (h.src : Int)) ∧ u.cell? ⟨w.heap.size, 8, none⟩ = some (.int .u32 (h.dst : Int))) := fun u hu => by
    have hk := (hu.block w.heap.size (by omega)).trans k0
    exact ⟨pk_loadH hk, pk_at hk 0 (by omega), pk_at hk 7 (by omega), pk_at hk 8 (by omega)⟩
  have HEN : Hid (∀ u, Below w1.heap.size w1 u → Calls Tryd.prog 35 #[.agg (hdCells h vo)] u fun e w' => e = .returned (.bool (pln h.src && pln h.dst)) ∧ Below u.heap.size u w') := fun u hu => plainEnds_any h vo u hok ((htC.below hb1).below hu)
  have HCA : Hid (∀ (v : Value) (u : World), SeesB u v (msgC h B).B → Calls Tryd.prog 21 #[.agg (ctCells (ecM h B) v), .agg (hdCells (md0 h.tos h.dst h.src) (.slice none 0 0))] u fun e w' => ∃ g k, e = .returned (.agg (pkCells (mdH h.tos h.dst h.src) (.slice none 0 0) (.slice (some ⟨g, 0, none⟩) k k))) ∧ SeesB w' (.slice (some ⟨g, 0, none⟩) k k) (Im.laid (ecM h B)) ∧ u.heap.size ≤ g ∧ Below u.heap.size u w') := fun v u hs => carry_any (ecM h B) v h.tos h.dst h.src u ⟨by show 0 < 256; omega, hC1.c, hC1.r⟩ hs hC3
  have HW1 : Hid (w1 = (w.alloc (.cells (pkCells h vo vb) 29)).alloc (.cells #[.int .u8 0, .int .u16 0, .bool false, .bool false, .int .i64 0, .int .u8 0, .int .u8 0, .int .u32 0, .int .u32 0, .slice none 0 0, .slice none 0 0] 29)) := by unfold Hid; rw [hw1, hwa]; rfl
  have HB1 := hid hb1
  have HS1 := hid hs1
  have HBW : Hid (∀ u, Below w1.heap.size w1 u → Below w.heap.size w u) := fun u hu => hb1.trans (hu.mono hb1.size)
  have HA : Hid (ecE h B = if msgE h B ≠ 0 then msgE h B else if (msgC h B).t ≠ 8 ∨ (msgC h B).c ≠ 0 then 62 else if (pln h.src && pln h.dst) = true then 0 else 61) := rfl
  have HPP : Hid (ecP h B = if ecE h B = 0 then (mdH h.tos h.dst h.src, Im.laid (ecM h B)) else (zeroH, [])) := rfl
  have HEM : Hid (∀ v, ctCells (ecM h B) v = #[.int .u8 0, .int .u8 ((msgC h B).c : Int), .int .u32 ((msgC h B).r : Int), v]) := fun v => rfl
  have HHD : Hid (hdCells (md0 h.tos h.dst h.src) (.slice none 0 0) = #[.int .u8 (h.tos : Int), .int .u16 0, .bool false, .bool false, .int .i64 0, .int .u8 0, .int .u8 0, .int .u32 (h.dst : Int), .int .u32 (h.src : Int), .slice none 0 0]) := rfl
  clear hwa hw1 hsa hs1 hba hbb hb1 k0 k1 hvb hvo hok hlo hlb hC1 hC2 hC3 htC
  generalize ecP h B = AB at *
  generalize ecE h B = AE at *
  generalize msgE h B = q at *
  generalize ecM h B = EM at *
  generalize msgC h B = MC at *
  generalize pkCells h vo vb = pk at *
  generalize hdCells h vo = hc at *
  generalize mdH h.tos h.dst h.src = MH at *
  generalize (pln h.src && pln h.dst) = en at *
  rw [HHD.out] at HCA
  generalize h.tos = tos at *
  generalize h.src = src at *
  generalize h.dst = dst at *
  obtain ⟨zz, hzz⟩ : ∃ zz : Array Value, zz = zeroP := ⟨_, rfl⟩
  have HZ : Hid (zz = #[.int .u8 0, .int .u16 0, .bool false, .bool false, .int .i64 0, .int .u8 0, .int .u8 0, .int .u32 0, .int .u32 0, .slice none 0 0, .slice none 0 0]) := hzz
  have HONE : Hid (zz.all (·.oneCell') = true) := by unfold Hid; rw [hzz]; simp [zeroP, Value.oneCell']
  have HINF : Hid ((Tryd.prog.info? 29).map (·.size) = some zz.size) := by unfold Hid; rw [hzz]; exact size_pk
  have HZC : Hid (zz = pkCells zeroH (.slice none 0 0) (.slice none 0 0)) := hzz
  have HZS : Hid (zz.size = 11) := by unfold Hid; rw [hzz]; rfl
  clear hzz
  go_enter Tryd.func22, Tryd.ntmps22
  go_upto_region 1 with fail
  rw [← HW1.out]
  go_wp2_with (first | (refine wpList_ld 29 ⟨w.heap.size, 0, none⟩ _ rfl rfl HLD.out rfl ?_) | fail)
  refine HMS.out.mono ?_
  rintro _ w2 ⟨a2, n2, c2, rfl, hs2, hn2, hb2⟩
  obtain ⟨pa, hpa⟩ : ∃ pa : Array Value, pa = ctCells MC (.slice a2 n2 c2) := ⟨_, rfl⟩
  obtain ⟨w3, hw3⟩ : ∃ w3, w3 = (w2.alloc (.cells zeroC 37)).setCells w2.heap.size 0 pa.toList := ⟨_, rfl⟩
  have HZA : Hid ((Tryd.prog.info? 37).map (·.size) = some pa.size) := by unfold Hid; rw [hpa]; exact size_ct
  have HOA : Hid (pa.all (·.oneCell') = true) := by unfold Hid; rw [hpa]; simp [ctCells, Value.oneCell']
  have HTA : Hid ((w2.alloc (.cells zeroC 37)).there w2.heap.size 0 pa.size) := by unfold Hid; rw [hpa]; exact there_blk (C := zeroC) (t := 37) (heap_alloc_new w2 _) rfl
  have hr3 : w3.heap[w2.heap.size]? = some (.cells (ctCells MC (.slice a2 n2 c2)) 37 (0, 0)) := by
    rw [hw3, hpa]
    have := heap_setCells_row (b := w2.heap.size) (T := 37) (ctCells MC (.slice a2 n2 c2)).toList 0 _ zeroC (heap_alloc_new w2 (.cells zeroC 37))
    rwa [show wr zeroC 0 (ctCells MC (.slice a2 n2 c2)).toList = ctCells MC (.slice a2 n2 c2) by simp [wr, zeroC, ctCells]] at this
  have hb23 : Below w2.heap.size w2 w3 := by rw [hw3]; exact below_setCells (Nat.le_refl _) _ _ _ ((Below.refl _ _).alloc (Nat.le_refl _) _)
  have hb3 : Below w1.heap.size w1 w3 := hb2.trans (hb23.mono hb2.size)
  obtain ⟨d0, d1, d2, d3⟩ := ct_at hr3
  have HR3 := hid hr3
  have HSV := hid hs2
  have HB23 := hid hb23
  have HW3 : Hid (w3 = (w2.alloc (.cells #[.int .u8 0, .int .u8 0, .int .u32 0, .slice none 0 0] 37)).setCells w2.heap.size 0 pa.toList) := hw3
  have HB3 := hid hb3
  have hlt3 : w2.heap.size < w3.heap.size := (Array.getElem?_eq_some_iff.1 hr3).1
  have HLT := hid hlt3
  have HLT2 : Hid (w.heap.size + 2 ≤ w2.heap.size) := by unfold Hid; have := hb2.size; have := HS1.out; omega
  rw [← hpa]
  clear hpa hw3 hr3 hb23 hb3 hs2 hn2 hb2 hlt3
  go_upto_region 2 with (first
    | (refine wpList_store_mid rfl 37 (.tmp 4) (.tmp 9) rfl w2.heap.size 0 pa rfl rfl HTA.out HZA.out HOA.out ?_)
    | fail)
  rw [← HW3.out]
  by_cases hq : q = 0
  · subst hq
    have HA2 : Hid (AE = if MC.t ≠ 8 ∨ MC.c ≠ 0 then 62 else if en = true then 0 else 61) := by unfold Hid; rw [HA.out, if_neg (by simp)]
    by_cases h8 : MC.t = 8
    · by_cases h0 : MC.c = 0
      · have HA3 : Hid (AE = if en = true then 0 else 61) := by unfold Hid; rw [HA2.out, if_neg (by simp [h8, h0])]
        have HMC := hid (And.intro h8 h0)
        rw [h8] at d0
        rw [h0] at d1
        clear h8 h0
        obtain ⟨q0, r0, r7, r8⟩ := HPC.out _ HB3.out
        have HLH := hid q0
        clear q0 r0 r7 r8
        go_wp2_with (first | (refine wpList_ld 27 ⟨w.heap.size, 0, none⟩ _ rfl rfl HLH.out rfl ?_) | fail)
        refine (HEN.out _ HB3.out).mono ?_
        rintro _ w4 ⟨rfl, hb4⟩
        have hb14 := HB3.out.trans (hb4.mono HB3.out.size)
        cases en with
        | false =>
          have HE2 : Hid (AE = 61) := HA3.out
          have HP2 : Hid (AB = (zeroH, [])) := by unfold Hid; rw [HPP.out, HE2.out, if_neg (by decide)]
          have HTU : Hid (w4.there (w.heap.size + 1) 0 zz.size) := by unfold Hid; rw [HZS.out]; exact HTH.out _ hb14
          obtain ⟨q1, q2⟩ := res_end (w := w) HTU.out (by omega) (HBW.out _ hb14) Tryd.underlying29 HINF.out
          have HLV := hid q1
          have HBF := hid q2
          clear q1 q2
          go_wp2_with (first
            | (refine wpList_store_mid rfl 29 (.tmp 2) (.tmp 31) rfl (w.heap.size + 1) 0 zz rfl (by rw [HZ.out]; rfl) HTU.out HINF.out HONE.out ?_)
            | fail)
          generalize w4.setCells (w.heap.size + 1) 0 zz.toList = wf at HLV HBF ⊢
          refine bodyPost_ret (v := .tuple #[.agg zz, .int .i64 61]) (by simp [results, Tryd.results22, asAddr, HLV.out]) rfl ?_
          rw [HP2.out, HE2.out]
          exact ⟨none, 0, 0, by rw [HZC.out], sees_nil _, (fun a ha => by cases ha), HBF.out⟩
        | true =>
          have HE2 : Hid (AE = 0) := HA3.out
          have HP2 : Hid (AB = (MH, Im.laid EM)) := by unfold Hid; rw [HPP.out, HE2.out, if_pos rfl]
          have hr4 := (hb4.block _ HLT.out).trans HR3.out
          have g0 := (ct_at hr4).1
          have fz : w4.frozen? ⟨w2.heap.size, 0, none⟩ = false := frozen_of_row _ _ _ _ _ hr4
          obtain ⟨w5, hw5⟩ : ∃ w5, w5 = w4.setCell ⟨w2.heap.size, 0, none⟩ (.int .u8 0) := ⟨_, rfl⟩
          have hr5 : w5.heap[w2.heap.size]? = some (.cells (ctCells EM (.slice a2 n2 c2)) 37 (0, 0)) := by
            rw [hw5, HEM.out]; exact heap_setCell_row hr4 _
          have hb25 : Below w2.heap.size w2 w5 := by rw [hw5]; exact (HB23.out.trans (hb4.mono HB23.out.size)).setCell (p := ⟨w2.heap.size, 0, none⟩) (Nat.le_refl _) _
          have hb15 : Below w1.heap.size w1 w5 := by rw [hw5]; exact hb14.setCell (p := ⟨w2.heap.size, 0, none⟩) (by have := HLT2.out; have := HS1.out; show w1.heap.size ≤ w2.heap.size; omega) _
          have HLE := hid (ct_load (n := w2.heap.size) rfl hr5)
          have HCB := hid (HCA.out _ w5 (HSV.out.below hb25))
          obtain ⟨_, e0, e7, e8⟩ := HPC.out _ hb15
          have HB15 := hid hb15
          have HW5 := hid hw5
          have HMT := HMC.out.1
          rw [HMT] at g0
          clear hr4 hw5 hr5 hb25 hb15 HLH d0 d1 d2 d3 HMT
          generalize ctCells EM (.slice a2 n2 c2) = ec at *
          go_upto_region 9 with fail
          rw [← HW5.out]
          go_wp2_with (first | (refine wpList_ld 37 ⟨w2.heap.size, 0, none⟩ _ rfl rfl HLE.out rfl ?_) | fail)
          refine HCB.out.mono ?_
          rintro _ w6 ⟨g, k, rfl, hs6, hg6, hb6⟩
          obtain ⟨yy, hyy⟩ : ∃ yy : Array Value, yy = pkCells MH (.slice none 0 0) (.slice (some ⟨g, 0, none⟩) k k) := ⟨_, rfl⟩
          have HYC := hid hyy
          have HOY : Hid (yy.all (·.oneCell') = true) := by unfold Hid; rw [hyy]; simp [pkCells, Value.oneCell']
          have HIY : Hid ((Tryd.prog.info? 29).map (·.size) = some yy.size) := by unfold Hid; rw [hyy]; exact size_pk
          have hb16 := HB15.out.trans (hb6.mono HB15.out.size)
          have HTU : Hid (w6.there (w.heap.size + 1) 0 yy.size) := by unfold Hid; rw [hyy]; exact HTH.out _ hb16
          obtain ⟨q1, q2⟩ := res_end (w := w) HTU.out (by omega) (HBW.out _ hb16) Tryd.underlying29 HIY.out
          have HLV := hid q1
          have HBF := hid q2
          have hgs : w.heap.size + 2 ≤ g := by have := HB15.out.size; have := HS1.out; omega
          have HSF := hid (sees_setI (b := w.heap.size + 1) (vs := yy.toList) hs6 (fun a ha => by cases ha; show g ≠ w.heap.size + 1; omega))
          rw [← hyy]
          clear q1 q2 hyy hs6 hb16 hb6 hg6
          go_wp2_with (first
            | (refine wpList_store_mid rfl 29 (.tmp 2) (.tmp 44) rfl (w.heap.size + 1) 0 yy rfl rfl HTU.out HIY.out HOY.out ?_)
            | fail)
          generalize w6.setCells (w.heap.size + 1) 0 yy.toList = wf at HLV HBF HSF ⊢
          refine bodyPost_ret (v := .tuple #[.agg yy, .int .i64 0]) (by simp [results, Tryd.results22, asAddr, HLV.out]) rfl ?_
          rw [HP2.out, HE2.out]
          exact ⟨_, _, _, by rw [HYC.out], HSF.out, (fun a ha => by cases ha; show w.heap.size ≤ g; omega), HBF.out⟩
      · have HE2 : Hid (AE = 62) := by unfold Hid; rw [HA2.out, if_pos (.inr h0)]
        have qc : ((MC.c : Int) != 0) = true := by simp; omega
        rw [h8] at d0
        clear h8 h0
        generalize MC.c = mc at *
        have HP2 : Hid (AB = (zeroH, [])) := by unfold Hid; rw [HPP.out, HE2.out, if_neg (by decide)]
        have HTU : Hid (w3.there (w.heap.size + 1) 0 zz.size) := by unfold Hid; rw [HZS.out]; exact HTH.out _ HB3.out
        obtain ⟨q1, q2⟩ := res_end (w := w) HTU.out (by omega) (HBW.out _ HB3.out) Tryd.underlying29 HINF.out
        have HLV := hid q1
        have HBF := hid q2
        clear q1 q2
        go_wp2_with (first
          | (refine wpList_store_mid rfl 29 (.tmp 2) (.tmp 25) rfl (w.heap.size + 1) 0 zz rfl (by rw [HZ.out]; rfl) HTU.out HINF.out HONE.out ?_)
          | fail)
        generalize w3.setCells (w.heap.size + 1) 0 zz.toList = wf at HLV HBF ⊢
        refine bodyPost_ret (v := .tuple #[.agg zz, .int .i64 62]) (by simp [results, Tryd.results22, asAddr, HLV.out]) rfl ?_
        rw [HP2.out, HE2.out]
        exact ⟨none, 0, 0, by rw [HZC.out], sees_nil _, (fun a ha => by cases ha), HBF.out⟩
    · have HE2 : Hid (AE = 62) := by unfold Hid; rw [HA2.out, if_pos (.inl h8)]
      have qc : ((MC.t : Int) != 8) = true := by simp; omega
      clear h8
      generalize MC.t = mt at *
      have HP2 : Hid (AB = (zeroH, [])) := by unfold Hid; rw [HPP.out, HE2.out, if_neg (by decide)]
      have HTU : Hid (w3.there (w.heap.size + 1) 0 zz.size) := by unfold Hid; rw [HZS.out]; exact HTH.out _ HB3.out
      obtain ⟨q1, q2⟩ := res_end (w := w) HTU.out (by omega) (HBW.out _ HB3.out) Tryd.underlying29 HINF.out
      have HLV := hid q1
      have HBF := hid q2
      clear q1 q2
      go_wp2_with (first
        | (refine wpList_store_mid rfl 29 (.tmp 2) (.tmp 25) rfl (w.heap.size + 1) 0 zz rfl (by rw [HZ.out]; rfl) HTU.out HINF.out HONE.out ?_)
        | fail)
      generalize w3.setCells (w.heap.size + 1) 0 zz.toList = wf at HLV HBF ⊢
      refine bodyPost_ret (v := .tuple #[.agg zz, .int .i64 62]) (by simp [results, Tryd.results22, asAddr, HLV.out]) rfl ?_
      rw [HP2.out, HE2.out]
      exact ⟨none, 0, 0, by rw [HZC.out], sees_nil _, (fun a ha => by cases ha), HBF.out⟩
  · have HE2 : Hid (AE = q) := by unfold Hid; rw [HA.out, if_pos hq]
    have hqq : (q != 0) = true := by simp [hq]
    have HP2 : Hid (AB = (zeroH, [])) := by unfold Hid; rw [HPP.out, HE2.out, if_neg (by exact hq)]
    have HTU : Hid (w3.there (w.heap.size + 1) 0 zz.size) := by unfold Hid; rw [HZS.out]; exact HTH.out _ HB3.out
    obtain ⟨q1, q2⟩ := res_end (w := w) HTU.out (by omega) (HBW.out _ HB3.out) Tryd.underlying29 HINF.out
    have HLV := hid q1
    have HBF := hid q2
    clear q1 q2
    go_wp2_with (first
      | (refine wpList_store_mid rfl 29 (.tmp 2) (.tmp 14) rfl (w.heap.size + 1) 0 zz rfl (by rw [HZ.out]; rfl) HTU.out HINF.out HONE.out ?_)
      | fail)
    generalize w3.setCells (w.heap.size + 1) 0 zz.toList = wf at HLV HBF ⊢
    refine bodyPost_ret (v := .tuple #[.agg zz, .int .i64 q]) (by simp [results, Tryd.results22, asAddr, HLV.out]) rfl ?_
    rw [HP2.out, HE2.out]
    exact ⟨none, 0, 0, by rw [HZC.out], sees_nil _, (fun a ha => by cases ha), HBF.out⟩
end Go.Proofs.YtcboenmmkaochaaDoor.N

namespace Go.Proofs.YtcboenmmkaochaaDoor.N
open Go.ChangeShapes Go.WideShapes Go.ChangeAt Go.RowKit
set_option maxHeartbeats 2000000
set_option maxRecDepth 100000

/-- The error of a fault. -/
def fltE (h : Hd) (B : List Nat) (t c : Nat) (a : Int) (f : Nat) : Int :=
  if (mayT t c a && pln f) = true then (if refE h B.length ≠ 0 then refE h B.length else if told h B = true then 0 else 61) else 1
def fltQ (h : Hd) (B : List Nat) : Nat := 20 + h.opts.length + min B.length 8
def fltM (h : Hd) (B : List Nat) (t c : Nat) (a : Int) : Im.Ct := ⟨t, c, rstN t a.toNat, (builtL h B).take (fltQ h B)⟩
def fltP (h : Hd) (B : List Nat) (t c : Nat) (a : Int) (f : Nat) : Hd × List Nat := if fltE h B t c a f = 0 then (mdH 0 f h.src, Im.laid (fltM h B t c a)) else (zeroH, [])

theorem mxA_le (t c : Nat) : mxA t c ≤ 65535 := by unfold mxA; split; · omega
                                                   · split <;> omega

theorem rstN_lt {t c a : Nat} (h : (a : Int) ≤ mxA t c) : rstN t a < 4294967296 := by
  unfold rstN
  split
  · rename_i e
    subst e
    unfold mxA at h
    split at h
    · omega
    · split at h <;> omega
  · have := mxA_le t c; omega

theorem built_len {h : Hd} {B : List Nat} (he : refE h B.length = 0) : (builtL h B).length = 20 + h.opts.length + B.length := by
  unfold builtL
  rw [if_pos he, List.length_append, hdBytes_len]

theorem alloc_ct (u : World) : (Instr.alloc 37 true (.tuple #[])).run Tryd.prog u = .ok (.pointer (some ⟨u.heap.size, 0, none⟩)) (u.alloc (.cells zeroC 37)) := by
  simp [Instr.alloc, go_sem, zeroC]

theorem ex_alloc {P : Program} {o : Oper} {a : Act} {w w' : World} {v : Value} (T : TypeId) (ho : o.op = .alloc T) (hr : (Instr.alloc T true (.tuple #[])).run P w = .ok v w') : (execOp a.eval o).run P w = .ok (.value v) w' := by
  unfold execOp
  simp only [ho, Sem.run_bind, hr, Result.andThen_ok, Sem.run_pure]

theorem cut_high (ao : Option Addr) (n cap m : Nat) (i : Int) (hi : i = (m : Int)) (hm : m ≤ n) {w : World} {L : List Nat} (hs : SeesB w (.slice ao n cap) L) (u : World) : (Instr.sliceAt 25 (.slice ao n cap) none (some (.int .i64 i)) none).run Tryd.prog u = .ok (.slice ao m cap) u := by
  subst hi
  obtain ⟨ao', cap', hv, h1, h2, _⟩ := hs
  simp at hv
  obtain ⟨rfl, rfl, rfl⟩ := hv
  have hu : Tryd.prog.underlying 25 = some (.slice (Tryd.prog.elem 25)) := by kernel_rfl
  have hsz : (sizeOf (Tryd.prog.elem 25)).run Tryd.prog u = .ok 1 u := by kernel_rfl
  rw [run_sliceAt_slice (h := hu), run_slice_h (ht := hu) (h0 := by omega) (h2 := by omega), hsz]
  cases ao with
  | none =>
    have hc := h1.2 rfl
    have hm0 : m = 0 := by omega
    subst hm0
    simp [Result.andThen, sliced, hc]
  | some a => simp [Result.andThen, sliced, Addr.add]

/-- Values of a region with a block of its own among them. -/
def Va (l : List Value) (base : Nat) (i : Nat) (v : Value) (w : World) : Prop :=
  if i = 9 then ∃ b, v = .pointer (some ⟨b, 0, none⟩) ∧ w.heap[b]? = some (.cells zeroC 37 (0, 0)) ∧ base ≤ b else l[i]? = some v

theorem Va.keeps (l : List Value) (base : Nat) : ∀ (i : Nat) (v : Value) (w w' : World), Va l base i v w → Below w.heap.size w w' → Va l base i v w' := fun i v w w' h hb => by
  unfold Va at *
  split at h
  · rename_i h1
    rw [if_pos h1]
    obtain ⟨b, e, hk, hB⟩ := h
    exact ⟨b, e, (hb.block b (Array.getElem?_eq_some_iff.1 hk).1).trans hk, hB⟩
  · rename_i h1
    rw [if_neg h1]
    exact h

theorem Va.plain {l : List Value} {base i : Nat} {v y : Value} {w : World} (h : Va l base i v w) (h1 : i ≠ 9) (hy : l[i]? = some y) : v = y := by
  unfold Va at h
  rw [if_neg h1, hy] at h
  exact (Option.some.inj h).symm

theorem low9 {s j : Nat} (h : s < 15) : (if j = 9 then 15 else 50 + j) ≠ s := by split <;> omega

theorem wp_stillA {P : Program} {o : Oper} {a : Act} {W w : World} {Q : Exit → Act → World → Prop} {l : List Value} {base i : Nat} {t : Tmp} {v : Value} (hr : (execOp a.eval o).run P w = .ok (.value v) w) (ht : o.dst = some t) (h1 : i ≠ 9) (hv : l[i]? = some v) (hW : Below W.heap.size W w) :
    o.wp P a w (fun a' w' => ∃ v', a' = a.put (some t) v' ∧ Va l base i v' w' ∧ Below W.heap.size W w' ∧ Below w.heap.size w w') Q :=
  wp_val hr (by rw [ht]; exact ⟨v, rfl, by unfold Va; rw [if_neg h1]; exact hv, hW, Below.refl _ _⟩)

theorem fault_any (h : Hd) (vo vb : Value) (B : List Nat) (t c : Nat) (a : Int) (f : Nat) (w : World) (hok : h.Ok) (hvo : SeesB w vo h.opts) (hvb : SeesB w vb B) (hlo : h.opts.length ≤ 140737488355328) (hlb : B.length ≤ 140737488355328) (ht : t < 256) (hc : c < 256) (hf : f < 4294967296) (htC : Ad.TabC w) (htK : TabK w) :
    Calls Tryd.prog 9 #[.agg (pkCells h vo vb), .int .u8 (t : Int), .int .u8 (c : Int), .int .i64 a, .int .u32 (f : Int)] w fun e w' => ∃ a2 n2 c2, e = .returned (.tuple #[.agg (pkCells (fltP h B t c a f).1 (.slice none 0 0) (.slice a2 n2 c2)), .int .i64 (fltE h B t c a f)]) ∧ SeesB w' (.slice a2 n2 c2) (fltP h B t c a f).2 ∧ (∀ x, a2 = some x → w.heap.size ≤ x.block) ∧ Below w.heap.size w w' := by
  obtain ⟨wa, hwa⟩ : ∃ wa, wa = w.alloc (.cells (pkCells h vo vb) 29) := ⟨_, rfl⟩
  obtain ⟨w1, hw1⟩ : ∃ w1, w1 = wa.alloc (.cells zeroP 29) := ⟨_, rfl⟩
  have hsa : wa.heap.size = w.heap.size + 1 := by rw [hwa]; simp
  have hs1 : w1.heap.size = w.heap.size + 2 := by rw [hw1]; simp [hsa]
  have hba : Below w.heap.size w wa := by rw [hwa]; exact (Below.refl _ _).alloc (Nat.le_refl _) _
  have hbb : Below wa.heap.size wa w1 := by rw [hw1]; exact (Below.refl _ _).alloc (Nat.le_refl _) _
  have hb1 : Below w.heap.size w w1 := hba.trans (hbb.mono (by omega))
  have k0 : w1.heap[w.heap.size]? = some (.cells (pkCells h vo vb) 29 (0, 0)) := by
    rw [hbb.block _ (by omega), hwa]; exact heap_alloc_new w _
  have k1 : w1.heap[w.heap.size + 1]? = some (.cells zeroP 29 (0, 0)) := by
    rw [← hsa, hw1]; exact heap_alloc_new wa _
  obtain ⟨ao, no, capo, rfl, HNO, hno1, hno2⟩ := hvo.shape
  obtain ⟨ab, nb, capb, rfl, HNB, hnb1, hnb2⟩ := hvb.shape
  unfold maxLen at hno2 hnb2
  have HTH : Hid (∀ u, Below w1.heap.size w1 u → u.there (w.heap.size + 1) 0 11) := fun u hu => there_blk (C := zeroP) (t := 29) ((hu.block _ (by omega)).trans k1) rfl
  have HPC : Hid (∀ u, Below w1.heap.size w1 u → (Instr.loadAt 29 (.pointer (some ⟨w.heap.size, 0, none⟩))).run Tryd.prog u = .ok (.agg (pkCells h (.slice ao no capo) (.slice ab nb capb))) u ∧ u.cell? ⟨w.heap.size, 7, none⟩ = some (.int .u32 (h.src : Int)) ∧ u.cell? ⟨w.heap.size, 9, none⟩ = some (.slice ao no capo) ∧ u.cell? ⟨w.heap.size, 10, none⟩ = some (.slice ab nb capb)) := fun u hu => by
    have hk := (hu.block w.heap.size (by omega)).trans k0
    exact ⟨pk_load hk, pk_at hk 7 (by omega), pk_at hk 9 (by omega), pk_at hk 10 (by omega)⟩
  have HMT := hid (mayTell_any t c a w1 ht (htK.below hb1))
  have HIP : Hid (∀ u, Below w1.heap.size w1 u → Calls Tryd.prog 18 #[.int .u32 (f : Int)] u fun e w' => e = .returned (.bool (pln f)) ∧ Below u.heap.size u w') := fun u hu => isPlain_any f u hf ((htC.below hb1).below hu)
  have HBD : Hid (∀ u, Below w1.heap.size w1 u → Calls Tryd.prog 13 #[.agg (pkCells h (.slice ao no capo) (.slice ab nb capb))] u fun e w' => ∃ ao n cap, e = .returned (.tuple #[.slice ao n cap, .int .i64 (refE h B.length)]) ∧ SeesB w' (.slice ao n cap) (builtL h B) ∧ Below u.heap.size u w') := fun u hu => build_code h _ _ B u hok (hvo.below (hb1.trans (hu.mono hb1.size))) (hvb.below (hb1.trans (hu.mono hb1.size))) hlo hlb
  have HTD : Hid (∀ u, Below w1.heap.size w1 u → Calls Tryd.prog 19 #[.agg (pkCells h (.slice ao no capo) (.slice ab nb capb))] u fun e w' => e = .returned (.bool (told h B)) ∧ Below u.heap.size u w') := fun u hu => told_any h _ _ B u hok (hvb.below (hb1.trans (hu.mono hb1.size))) ((htC.below hb1).below hu) ((htK.below hb1).below hu)
  have HBL : Hid (refE h B.length = 0 → (builtL h B).length = 20 + no + nb ∧ no ≤ 40 ∧ 20 + no + nb ≤ 65535) := fun he => by
    obtain ⟨r1, r2, r3⟩ := refE_ok he
    obtain ⟨l1, l2⟩ := area_len r1
    have := built_len he
    have e1 := HNO.out
    have e2 := HNB.out
    omega
  have HQ : Hid (fltQ h B = 20 + no + min nb 8) := by unfold Hid fltQ; rw [HNO.out, HNB.out]
  have HBB : Hid (∀ x ∈ builtL h B, x < 256) := built_bytes hok hvo.bytes hvb.bytes
  have HW1 : Hid (w1 = (w.alloc (.cells (pkCells h (.slice ao no capo) (.slice ab nb capb)) 29)).alloc (.cells #[.int .u8 0, .int .u16 0, .bool false, .bool false, .int .i64 0, .int .u8 0, .int .u8 0, .int .u32 0, .int .u32 0, .slice none 0 0, .slice none 0 0] 29)) := by unfold Hid; rw [hw1, hwa]; rfl
  have HB1 := hid hb1
  have HS1 := hid hs1
  have HBW : Hid (∀ u, Below w1.heap.size w1 u → Below w.heap.size w u) := fun u hu => hb1.trans (hu.mono hb1.size)
  have HA : Hid (fltE h B t c a f = if (mayT t c a && pln f) = true then (if refE h B.length ≠ 0 then refE h B.length else if told h B = true then 0 else 61) else 1) := rfl
  have HPP : Hid (fltP h B t c a f = if fltE h B t c a f = 0 then (mdH 0 f h.src, Im.laid (fltM h B t c a)) else (zeroH, [])) := rfl
  have HFM : Hid (fltM h B t c a = ⟨t, c, rstN t a.toNat, (builtL h B).take (fltQ h B)⟩) := rfl
  have HMA : Hid (mayT t c a = true → 0 ≤ a ∧ a ≤ mxA t c) := fun e => by unfold mayT at e; simp at e; exact e.2
  have HSRC := hid hok.src
  clear hwa hw1 hsa hs1 hba hbb hb1 k0 k1 hvb hvo hok hlo hlb htC htK
  generalize fltP h B t c a f = AB at *
  generalize fltE h B t c a f = AE at *
  generalize fltM h B t c a = FM at *
  generalize fltQ h B = FQ at *
  generalize refE h B.length = q at *
  generalize builtL h B = BL at *
  generalize told h B = td at *
  generalize hmay : mayT t c a = my at *
  generalize hpl : pln f = pf at *
  generalize pkCells h (.slice ao no capo) (.slice ab nb capb) = pk at *
  generalize h.src = src at *
  clear hmay hpl
  obtain ⟨zz, hzz⟩ : ∃ zz : Array Value, zz = zeroP := ⟨_, rfl⟩
  have HZ : Hid (zz = #[.int .u8 0, .int .u16 0, .bool false, .bool false, .int .i64 0, .int .u8 0, .int .u8 0, .int .u32 0, .int .u32 0, .slice none 0 0, .slice none 0 0]) := hzz
  have HONE : Hid (zz.all (·.oneCell') = true) := by unfold Hid; rw [hzz]; simp [zeroP, Value.oneCell']
  have HINF : Hid ((Tryd.prog.info? 29).map (·.size) = some zz.size) := by unfold Hid; rw [hzz]; exact size_pk
  have HZC : Hid (zz = pkCells zeroH (.slice none 0 0) (.slice none 0 0)) := hzz
  have HZS : Hid (zz.size = 11) := by unfold Hid; rw [hzz]; rfl
  clear hzz
  go_enter Tryd.func9, Tryd.ntmps9
  go_upto_region 1 with fail
  rw [← HW1.out]
  go_wp2_with fail
  refine HMT.out.mono ?_
  rintro _ w2 ⟨rfl, hb2⟩
  cases my with
  | false =>
    have HE2 : Hid (AE = 1) := by unfold Hid; rw [HA.out, if_neg (by simp)]
    have HP2 : Hid (AB = (zeroH, [])) := by unfold Hid; rw [HPP.out, HE2.out, if_neg (by decide)]
    have HTU : Hid (w2.there (w.heap.size + 1) 0 zz.size) := by unfold Hid; rw [HZS.out]; exact HTH.out _ hb2
    obtain ⟨q1, q2⟩ := res_end (w := w) HTU.out (by omega) (HBW.out _ hb2) Tryd.underlying29 HINF.out
    have HLV := hid q1
    have HBF := hid q2
    clear q1 q2
    go_wp2_with (first
      | (refine wpList_store_mid rfl 29 (.tmp 10) (.tmp 26) rfl (w.heap.size + 1) 0 zz rfl (by rw [HZ.out]; rfl) HTU.out HINF.out HONE.out ?_)
      | fail)
    generalize w2.setCells (w.heap.size + 1) 0 zz.toList = wf at HLV HBF ⊢
    refine bodyPost_ret (v := .tuple #[.agg zz, .int .i64 1]) (by simp [results, Tryd.results9, asAddr, HLV.out]) rfl ?_
    rw [HP2.out, HE2.out]
    exact ⟨none, 0, 0, by rw [HZC.out], sees_nil _, (fun a ha => by cases ha), HBF.out⟩
  | true =>
    obtain ⟨ha0, ham⟩ := HMA.out rfl
    have HAM := hid (And.intro ha0 ham)
    clear ha0 ham
    go_wp2_with fail
    refine (HIP.out _ hb2).mono ?_
    rintro _ w3 ⟨rfl, hb3⟩
    have hb13 := hb2.trans (hb3.mono hb2.size)
    cases pf with
    | false =>
      have HE2 : Hid (AE = 1) := by unfold Hid; rw [HA.out, if_neg (by simp)]
      have HP2 : Hid (AB = (zeroH, [])) := by unfold Hid; rw [HPP.out, HE2.out, if_neg (by decide)]
      have HTU : Hid (w3.there (w.heap.size + 1) 0 zz.size) := by unfold Hid; rw [HZS.out]; exact HTH.out _ hb13
      obtain ⟨q1, q2⟩ := res_end (w := w) HTU.out (by omega) (HBW.out _ hb13) Tryd.underlying29 HINF.out
      have HLV := hid q1
      have HBF := hid q2
      clear q1 q2
      go_wp2_with (first
        | (refine wpList_store_mid rfl 29 (.tmp 10) (.tmp 26) rfl (w.heap.size + 1) 0 zz rfl (by rw [HZ.out]; rfl) HTU.out HINF.out HONE.out ?_)
        | fail)
      generalize w3.setCells (w.heap.size + 1) 0 zz.toList = wf at HLV HBF ⊢
      refine bodyPost_ret (v := .tuple #[.agg zz, .int .i64 1]) (by simp [results, Tryd.results9, asAddr, HLV.out]) rfl ?_
      rw [HP2.out, HE2.out]
      exact ⟨none, 0, 0, by rw [HZC.out], sees_nil _, (fun a ha => by cases ha), HBF.out⟩
    | true =>
      have HA2 : Hid (AE = if q ≠ 0 then q else if td = true then 0 else 61) := HA.out
      obtain ⟨p0, _, _, _⟩ := HPC.out _ hb13
      have HL3 := hid p0
      clear p0
      go_wp2_with (first | (refine wpList_ld 29 ⟨w.heap.size, 0, none⟩ _ rfl rfl HL3.out rfl ?_) | fail)
      refine (HBD.out _ hb13).mono ?_
      rintro _ w4 ⟨a4, n4, c4, rfl, hs4, hb4⟩
      have hb14 := hb13.trans (hb4.mono hb13.size)
      by_cases hq : q = 0
      · subst hq
        have HBLH := hid (HBL.out rfl)
        have HA3 : Hid (AE = if td = true then 0 else 61) := by unfold Hid; rw [HA2.out, if_neg (by simp)]
        obtain ⟨p0, _, _, _⟩ := HPC.out _ hb14
        have HL4 := hid p0
        clear p0
        have HS4 := hid hs4
        have HB14 := hid hb14
        clear hs4 hb4 hb13 hb3 hb2 HL3
        go_wp2_with (first | (refine wpList_ld 29 ⟨w.heap.size, 0, none⟩ _ rfl rfl HL4.out rfl ?_) | fail)
        refine (HTD.out _ HB14.out).mono ?_
        rintro _ w5 ⟨rfl, hb5⟩
        have hb15 := HB14.out.trans (hb5.mono HB14.out.size)
        cases td with
        | false =>
          have HE2 : Hid (AE = 61) := HA3.out
          have HP2 : Hid (AB = (zeroH, [])) := by unfold Hid; rw [HPP.out, HE2.out, if_neg (by decide)]
          have HTU : Hid (w5.there (w.heap.size + 1) 0 zz.size) := by unfold Hid; rw [HZS.out]; exact HTH.out _ hb15
          obtain ⟨q1, q2⟩ := res_end (w := w) HTU.out (by omega) (HBW.out _ hb15) Tryd.underlying29 HINF.out
          have HLV := hid q1
          have HBF := hid q2
          clear q1 q2
          go_wp2_with (first
            | (refine wpList_store_mid rfl 29 (.tmp 10) (.tmp 39) rfl (w.heap.size + 1) 0 zz rfl (by rw [HZ.out]; rfl) HTU.out HINF.out HONE.out ?_)
            | fail)
          generalize w5.setCells (w.heap.size + 1) 0 zz.toList = wf at HLV HBF ⊢
          refine bodyPost_ret (v := .tuple #[.agg zz, .int .i64 61]) (by simp [results, Tryd.results9, asAddr, HLV.out]) rfl ?_
          rw [HP2.out, HE2.out]
          exact ⟨none, 0, 0, by rw [HZC.out], sees_nil _, (fun a ha => by cases ha), HBF.out⟩
        | true =>
          have HE2 : Hid (AE = 0) := HA3.out
          have HP2 : Hid (AB = (mdH 0 f src, Im.laid FM)) := by unfold Hid; rw [HPP.out, HE2.out, if_pos rfl]
          obtain ⟨_, e7, e9, e10⟩ := HPC.out _ hb15
          have HB15 := hid hb15
          have HBLL := hid HBLH.out.1
          have hno40 := HBLH.out.2.1
          have hnb6 : nb ≤ 65535 := by have := HBLH.out.2.2; omega
          have hn4 : n4 = 20 + no + nb := by
            obtain ⟨_, _, hv, _⟩ := HS4.out
            simp at hv
            rw [hv.2.1, HBLL.out]
          have HQI : Hid ((20 : Int) + (no : Int) + (if (8 : Int) < (nb : Int) then 8 else (nb : Int)) = (FQ : Int)) := by
            unfold Hid
            rw [HQ.out]
            split <;> omega
          have hq4 : FQ ≤ n4 := by rw [HQ.out]; omega
          have hq4' : FQ ≤ 68 := by rw [HQ.out]; omega
          have HN4 := hid hn4
          clear hn4
          go_upto_region 9 with fail
          generalize (if (8 : Int) < (nb : Int) then (8 : Int) else (nb : Int)) = mn at HQI ⊢
          rw [HQI.out]
          obtain ⟨na, hna⟩ : ∃ na : Nat, a = (na : Int) := ⟨a.toNat, by have := HAM.out.1; omega⟩
          subst hna
          have hmx : (na : Int) ≤ mxA t c := HAM.out.2
          have HRS : Hid (∀ u, Calls Tryd.prog 20 #[.int .u8 (t : Int), .int .i64 (na : Int)] u fun e w' => e = .returned (.int .u32 ((rstN t na : Nat) : Int)) ∧ w' = u) := fun u => restOf_any t c na u hmx
          have HRL := hid (rstN_lt hmx)
          have hcut := cut_high a4 n4 c4 FQ (FQ : Int) rfl hq4 HS4.out
          have HSQ := hid (HS4.out.takeS FQ hq4)
          rw [show (na : Int).toNat = na by omega] at HFM
          clear hmx
          generalize rstN t na = r at *
          obtain ⟨ct, hct⟩ : ∃ ct : Array Value, ct = #[.int .u8 (t : Int), .int .u8 (c : Int), .int .u32 (r : Int), .slice a4 FQ c4] := ⟨_, rfl⟩
          have HCT := hid hct
          refine wp_region_mono' 10 (fun i => if i = 9 then 15 else 50 + i) (Va [.int .u8 (t : Int), .int .u8 (c : Int), .int .u8 (t : Int), .int .i64 (na : Int), .int .u32 (r : Int), .slice a4 n4 c4, .int .i64 (FQ : Int), .slice a4 FQ c4, .agg ct] w5.heap.size) (by kernel_rfl) (by kernel_rfl) (Va.keeps _ _) ?_ ?_
          · simp only [List.take_succ_cons, List.take_zero, stepsOk]
            refine ⟨?_, ?_, ?_, ?_, ?_, ?_, ?_, ?_, ?_, ?_, trivial⟩
            · intro a u vs hb hold hdep
              exact wp_stillA (ex_move (.tmp 1) _ rfl (hold 1 (fun j _ => low9 (by decide)))) rfl (by decide) rfl hb
            · intro a u vs hb hold hdep
              exact wp_stillA (ex_move (.tmp 2) _ rfl (hold 2 (fun j _ => low9 (by decide)))) rfl (by decide) rfl hb
            · intro a u vs hb hold hdep
              exact wp_stillA (ex_move (.tmp 1) _ rfl (hold 1 (fun j _ => low9 (by decide)))) rfl (by decide) rfl hb
            · intro a u vs hb hold hdep
              exact wp_stillA (ex_move (.tmp 3) _ rfl (hold 3 (fun j _ => low9 (by decide)))) rfl (by decide) rfl hb
            · intro a u vs hb hold hdep
              have h2 := hdep ⟨2, .data⟩ (by simp) rfl (by decide)
              have h3 := hdep ⟨3, .data⟩ (by simp) rfl (by decide)
              have e2 : a.eval (.tmp 52) = .int .u8 (t : Int) := h2.1.trans (h2.2.plain (by decide) rfl)
              have e3 : a.eval (.tmp 53) = .int .i64 (na : Int) := h3.1.trans (h3.2.plain (by decide) rfl)
              refine wp_call 20 _ _ rfl (enters_of Tryd.func20 (by kernel_rfl) rfl) #[.int .u8 (t : Int), .int .i64 (na : Int)] (by simp only [List.map_toArray, List.map_cons, List.map_nil, e2, e3]) ?_
              refine (HRS.out u).mono ?_
              rintro _ _ ⟨rfl, rfl⟩
              exact ⟨_, rfl, _, rfl, rfl, hb, Below.refl _ _⟩
            · intro a u vs hb hold hdep
              exact wp_stillA (ex_move (.tmp 12) _ rfl (hold 12 (fun j _ => low9 (by decide)))) rfl (by decide) rfl hb
            · intro a u vs hb hold hdep
              exact wp_stillA (ex_move (.tmp 14) _ rfl (hold 14 (fun j _ => low9 (by decide)))) rfl (by decide) rfl hb
            · intro a u vs hb hold hdep
              have h5 := hdep ⟨5, .data⟩ (by simp) rfl (by decide)
              have h6 := hdep ⟨6, .data⟩ (by simp) rfl (by decide)
              exact wp_stillA (ex_high _ _ _ _ _ _ rfl (h5.1.trans (h5.2.plain (by decide) rfl)) (h6.1.trans (h6.2.plain (by decide) rfl)) (hcut u)) rfl (by decide) rfl hb
            · intro a u vs hb hold hdep
              have h0 := hdep ⟨0, .data⟩ (by simp) rfl (by decide)
              have h1 := hdep ⟨1, .data⟩ (by simp) rfl (by decide)
              have h4 := hdep ⟨4, .data⟩ (by simp) rfl (by decide)
              have h7 := hdep ⟨7, .data⟩ (by simp) rfl (by decide)
              have e0 : a.eval (.tmp 50) = .int .u8 (t : Int) := h0.1.trans (h0.2.plain (by decide) rfl)
              have e1 : a.eval (.tmp 51) = .int .u8 (c : Int) := h1.1.trans (h1.2.plain (by decide) rfl)
              have e4 : a.eval (.tmp 54) = .int .u32 (r : Int) := h4.1.trans (h4.2.plain (by decide) rfl)
              have e7 : a.eval (.tmp 57) = .slice a4 FQ c4 := h7.1.trans (h7.2.plain (by decide) rfl)
              refine wp_stillA (ex_build _ _ #[(0, .int .u8 (t : Int)), (1, .int .u8 (c : Int)), (2, .int .u32 (r : Int)), (3, .slice a4 FQ c4)] (.agg ct) rfl (by simp only [List.map_toArray, List.map_cons, List.map_nil, e0, e1, e4, e7]) ?_) rfl (by decide) rfl hb
              rw [HCT.out]
              exact build_ct _ _ _ _ _ _ u
            · intro a u vs hb hold hdep
              have hba : Below u.heap.size u (u.alloc (.cells zeroC 37)) := (Below.refl _ _).alloc (Nat.le_refl _) _
              exact wp_val (ex_alloc _ rfl (alloc_ct u)) ⟨_, rfl, ⟨u.heap.size, rfl, heap_alloc_new u _, hb.size⟩, hb.trans (hba.mono hb.size), hba⟩
          intro vs u hb hF
          have e0 := (hF 0 (by decide)).plain (by decide) rfl
          have e1 := (hF 1 (by decide)).plain (by decide) rfl
          have e2 := (hF 2 (by decide)).plain (by decide) rfl
          have e3 := (hF 3 (by decide)).plain (by decide) rfl
          have e4 := (hF 4 (by decide)).plain (by decide) rfl
          have e5 := (hF 5 (by decide)).plain (by decide) rfl
          have e6 := (hF 6 (by decide)).plain (by decide) rfl
          have e7' := (hF 7 (by decide)).plain (by decide) rfl
          have e8 := (hF 8 (by decide)).plain (by decide) rfl
          obtain ⟨b, e9', hkb, hbb⟩ : ∃ b, vs 9 = .pointer (some ⟨b, 0, none⟩) ∧ u.heap[b]? = some (.cells zeroC 37 (0, 0)) ∧ w5.heap.size ≤ b := by
            have := hF 9 (by decide)
            unfold Va at this
            rwa [if_pos rfl] at this
          simp only [List.drop_succ_cons, List.drop_zero, puts, List.range, List.range.loop, List.foldr, if_true, Act.put, e0, e1, e2, e3, e4, e5, e6, e7', e8, e9', Nat.reduceAdd, Nat.reduceEqDiff, reduceIte, Nat.add_zero, Nat.zero_ne_add_one, List.setIfInBounds_toArray, List.set_cons_succ, List.set_cons_zero]
          clear e0 e1 e2 e3 e4 e5 e6 e7' e8 e9' hF hcut HRS
          obtain ⟨w6, hw6⟩ : ∃ w6, w6 = u.setCells b 0 ct.toList := ⟨_, rfl⟩
          have hr6 : w6.heap[b]? = some (.cells ct 37 (0, 0)) := by
            rw [hw6]
            have := heap_setCells_row (b := b) (T := 37) ct.toList 0 u zeroC hkb
            rwa [show wr zeroC 0 ct.toList = ct by rw [hct]; simp [wr, zeroC]] at this
          have hb56 : Below w5.heap.size w5 w6 := by rw [hw6]; exact below_setCells hbb _ _ _ hb
          have hb16 : Below w1.heap.size w1 w6 := HB15.out.trans (hb56.mono HB15.out.size)
          have HTB : Hid (u.there b 0 ct.size) := by unfold Hid; rw [hct]; exact there_blk (C := zeroC) (t := 37) hkb rfl
          have HOC : Hid (ct.all (·.oneCell') = true) := by unfold Hid; rw [hct]; simp [Value.oneCell']
          have HIC : Hid ((Tryd.prog.info? 37).map (·.size) = some ct.size) := by unfold Hid; rw [hct]; exact size_ct
          have HLC := hid (ct_load (n := b) (by rw [hct]; rfl) hr6)
          obtain ⟨_, g7, _, _⟩ := HPC.out _ hb16
          have HCA : Hid (Calls Tryd.prog 21 #[.agg ct, .agg #[.int .u8 0, .int .u16 0, .bool false, .bool false, .int .i64 0, .int .u8 0, .int .u8 0, .int .u32 (f : Int), .int .u32 (src : Int), .slice none 0 0]] w6 fun e w' => ∃ g k, e = .returned (.agg (pkCells (mdH 0 f src) (.slice none 0 0) (.slice (some ⟨g, 0, none⟩) k k))) ∧ SeesB w' (.slice (some ⟨g, 0, none⟩) k k) (Im.laid FM) ∧ w6.heap.size ≤ g ∧ Below w6.heap.size w6 w') := by
            have hsq : SeesB w6 (.slice a4 FQ c4) (BL.take FQ) := (HSQ.out.below hb5).below hb56
            have h := carry_any FM (.slice a4 FQ c4) 0 f src w6 (by rw [HFM.out]; exact ⟨ht, hc, HRL.out⟩) (by rw [HFM.out]; exact hsq) (by rw [HFM.out]; show (BL.take FQ).length ≤ 65507; rw [List.length_take]; omega)
            have e : ctCells FM (.slice a4 FQ c4) = ct := by rw [HFM.out, HCT.out]; rfl
            rw [e] at h
            exact h
          have HB16 := hid hb16
          have HW6 := hid hw6
          clear hw6 hr6 hb56 hb16 hkb hbb hct e7 e9 e10 HSQ hq4 hq4' hb5 hb
          go_upto_region 10 with (first
            | (refine wpList_store_mid rfl 37 (.tmp 15) (.tmp 58) rfl b 0 ct rfl rfl HTB.out HIC.out HOC.out ?_)
            | fail)
          rw [← HW6.out]
          go_wp2_with (first | (refine wpList_ld 37 ⟨b, 0, none⟩ _ rfl rfl HLC.out rfl ?_) | fail)
          refine HCA.out.mono ?_
          rintro _ w7 ⟨g, k, rfl, hs7, hg7, hb7⟩
          obtain ⟨yy, hyy⟩ : ∃ yy : Array Value, yy = pkCells (mdH 0 f src) (.slice none 0 0) (.slice (some ⟨g, 0, none⟩) k k) := ⟨_, rfl⟩
          have HYC := hid hyy
          have HOY : Hid (yy.all (·.oneCell') = true) := by unfold Hid; rw [hyy]; simp [pkCells, Value.oneCell']
          have HIY : Hid ((Tryd.prog.info? 29).map (·.size) = some yy.size) := by unfold Hid; rw [hyy]; exact size_pk
          have hb17 := HB16.out.trans (hb7.mono HB16.out.size)
          have HTU : Hid (w7.there (w.heap.size + 1) 0 yy.size) := by unfold Hid; rw [hyy]; exact HTH.out _ hb17
          obtain ⟨q1, q2⟩ := res_end (w := w) HTU.out (by omega) (HBW.out _ hb17) Tryd.underlying29 HIY.out
          have HLV := hid q1
          have HBF := hid q2
          have hgs : w.heap.size + 2 ≤ g := by have := HB16.out.size; have := HS1.out; omega
          have HSF := hid (sees_setI (b := w.heap.size + 1) (vs := yy.toList) hs7 (fun a ha => by cases ha; show g ≠ w.heap.size + 1; omega))
          rw [← hyy]
          clear q1 q2 hyy hs7 hb17 hb7 hg7
          go_wp2_with (first
            | (refine wpList_store_mid rfl 29 (.tmp 10) (.tmp 65) rfl (w.heap.size + 1) 0 yy rfl rfl HTU.out HIY.out HOY.out ?_)
            | fail)
          generalize w7.setCells (w.heap.size + 1) 0 yy.toList = wf at HLV HBF HSF ⊢
          refine bodyPost_ret (v := .tuple #[.agg yy, .int .i64 0]) (by simp [results, Tryd.results9, asAddr, HLV.out]) rfl ?_
          rw [HP2.out, HE2.out]
          exact ⟨_, _, _, by rw [HYC.out], HSF.out, (fun a ha => by cases ha; show w.heap.size ≤ g; omega), HBF.out⟩
      · have HE2 : Hid (AE = q) := by unfold Hid; rw [HA2.out, if_pos hq]
        have hqq : (q != 0) = true := by simp [hq]
        have HP2 : Hid (AB = (zeroH, [])) := by unfold Hid; rw [HPP.out, HE2.out, if_neg (by exact hq)]
        have HTU : Hid (w4.there (w.heap.size + 1) 0 zz.size) := by unfold Hid; rw [HZS.out]; exact HTH.out _ hb14
        obtain ⟨q1, q2⟩ := res_end (w := w) HTU.out (by omega) (HBW.out _ hb14) Tryd.underlying29 HINF.out
        have HLV := hid q1
        have HBF := hid q2
        clear q1 q2
        go_wp2_with (first
          | (refine wpList_store_mid rfl 29 (.tmp 10) (.tmp 34) rfl (w.heap.size + 1) 0 zz rfl (by rw [HZ.out]; rfl) HTU.out HINF.out HONE.out ?_)
          | fail)
        generalize w4.setCells (w.heap.size + 1) 0 zz.toList = wf at HLV HBF ⊢
        refine bodyPost_ret (v := .tuple #[.agg zz, .int .i64 q]) (by simp [results, Tryd.results9, asAddr, HLV.out]) rfl ?_
        rw [HP2.out, HE2.out]
        exact ⟨none, 0, 0, by rw [HZC.out], sees_nil _, (fun a ha => by cases ha), HBF.out⟩
end Go.Proofs.YtcboenmmkaochaaDoor.N

namespace Go.Proofs.YtcboenmmkaochaaDoor.N
open Go.ChangeShapes Go.WideShapes Go.ChangeAt Go.RowKit
set_option maxHeartbeats 4000000
set_option maxRecDepth 100000

theorem plainL_any (a : Nat) (w : World) (_ha : a < 4294967296) :
    Calls Tryd.prog 15 #[.int .u32 (a : Int)] w fun e w' => e = .returned (.bool (pln a)) ∧ w' = w := by
  by_cases h0 : 16777216 ≤ a
  · by_cases h1 : a < 2130706432
    · have HR : Hid (pln a = decide ((a : Int) < 3758096384)) := by
        unfold Hid pln
        rw [Bool.eq_iff_iff]
        simp
        omega
      rw [HR.out]
      have b0 : (16777216 : Int) ≤ (a : Int) := by omega
      have b1 : (a : Int) < 2130706432 := by omega
      clear h0 h1
      go_enter Tryd.func15, Tryd.ntmps15
      go_wp2
      go_ret
      exact ⟨rfl, rfl⟩
    · by_cases h2 : 2147483648 ≤ a
      · have HR : Hid (pln a = decide ((a : Int) < 3758096384)) := by
          unfold Hid pln
          rw [Bool.eq_iff_iff]
          simp
          omega
        rw [HR.out]
        have b0 : (16777216 : Int) ≤ (a : Int) := by omega
        have b1 : ¬ (a : Int) < 2130706432 := by omega
        have b2 : (2147483648 : Int) ≤ (a : Int) := by omega
        clear h0 h1 h2
        go_enter Tryd.func15, Tryd.ntmps15
        go_wp2
        go_ret
        exact ⟨rfl, rfl⟩
      · have HR : Hid (pln a = false) := by
          unfold Hid pln
          rw [Bool.eq_false_iff]
          simp
          omega
        rw [HR.out]
        have b0 : (16777216 : Int) ≤ (a : Int) := by omega
        have b1 : ¬ (a : Int) < 2130706432 := by omega
        have b2 : ¬ (2147483648 : Int) ≤ (a : Int) := by omega
        clear h0 h1 h2
        go_enter Tryd.func15, Tryd.ntmps15
        go_wp2
        go_ret
        exact ⟨rfl, rfl⟩
  · have HR : Hid (pln a = false) := by
      unfold Hid pln
      rw [Bool.eq_false_iff]
      simp
      omega
    rw [HR.out]
    have b0 : ¬ (16777216 : Int) ≤ (a : Int) := by omega
    clear h0
    go_enter Tryd.func15, Tryd.ntmps15
    go_wp2
    go_ret
    exact ⟨rfl, rfl⟩

theorem faultL_any (t : Nat) (w : World) :
    Calls Tryd.prog 16 #[.int .u8 (t : Int)] w fun e w' => e = .returned (.bool (kF t)) ∧ w' = w := by
  by_cases h3 : t = 3
  · subst h3
    have HR : Hid (kF 3 = true) := rfl
    rw [HR.out]
    go_enter Tryd.func16, Tryd.ntmps16
    go_wp2
    go_ret
    exact ⟨rfl, rfl⟩
  · by_cases h4 : t = 4
    · subst h4
      have HR : Hid (kF 4 = true) := rfl
      rw [HR.out]
      go_enter Tryd.func16, Tryd.ntmps16
      go_wp2
      go_ret
      exact ⟨rfl, rfl⟩
    · by_cases h5 : t = 5
      · subst h5
        have HR : Hid (kF 5 = true) := rfl
        rw [HR.out]
        go_enter Tryd.func16, Tryd.ntmps16
        go_wp2
        go_ret
        exact ⟨rfl, rfl⟩
      · by_cases h11 : t = 11
        · subst h11
          have HR : Hid (kF 11 = true) := rfl
          rw [HR.out]
          go_enter Tryd.func16, Tryd.ntmps16
          go_wp2
          go_ret
          exact ⟨rfl, rfl⟩
        · have q3 : ((t : Int) == 3) = false := by rw [beq_eq_false_iff_ne]; omega
          have q4 : ((t : Int) == 4) = false := by rw [beq_eq_false_iff_ne]; omega
          have q5 : ((t : Int) == 5) = false := by rw [beq_eq_false_iff_ne]; omega
          have q11 : ((t : Int) == 11) = false := by rw [beq_eq_false_iff_ne]; omega
          have HR : Hid (kF t = ((t : Int) == 12)) := by
            unfold Hid kF
            rw [show (t == 3) = false by simpa using h3, show (t == 4) = false by simpa using h4, show (t == 5) = false by simpa using h5, show (t == 11) = false by simpa using h11]
            rw [Bool.eq_iff_iff]
            simp
            omega
          rw [HR.out]
          clear h3 h4 h5 h11
          go_enter Tryd.func16, Tryd.ntmps16
          go_wp2
          go_ret
          exact ⟨rfl, rfl⟩

theorem zeros_same (w : World) (H : Hd) (BD : List Nat) (hH : (H, BD) = (zeroH, [])) (v : Value) (hv : SeesB w v BD) (pa : Array Value) (hpa : pa = pkCells H (.slice none 0 0) v) :
    Calls Tryd.prog 14 #[.agg pa, .agg #[.int .u8 0, .int .u16 0, .bool false, .bool false, .int .i64 0, .int .u8 0, .int .u8 0, .int .u32 0, .int .u32 0, .slice none 0 0, .slice none 0 0]] w fun e w' => e = .returned (.bool true) ∧ Below w.heap.size w w' := by
  simp only [Prod.mk.injEq] at hH
  obtain ⟨rfl, rfl⟩ := hH
  rw [hpa]
  exact packets_same zeroH [] (.slice none 0 0) (.slice none 0 0) v (.slice none 0 0) w (sees_nil _) (sees_nil _) hv (sees_nil _)

theorem gate_may : mayT 3 1 0 = true ∧ pln 167838209 = true := ⟨by decide, by decide⟩

theorem hush_any (h : Hd) (vo vb : Value) (B : List Nat) (w : World) (hok : h.Ok) (hvo : SeesB w vo h.opts) (hvb : SeesB w vb B) (hlo : h.opts.length ≤ 140737488355328) (hlb : B.length ≤ 140737488355328) (htC : Ad.TabC w) (htK : TabK w) :
    Calls Tryd.prog 7 #[.agg (pkCells h vo vb)] w fun e w' => e = .returned (.bool true) ∧ Below w.heap.size w w' := by
  obtain ⟨w1, hw1⟩ : ∃ w1, w1 = w.alloc (.cells (pkCells h vo vb) 29) := ⟨_, rfl⟩
  have hb1 : Below w.heap.size w w1 := by rw [hw1]; exact (Below.refl _ _).alloc (Nat.le_refl _) _
  have hs1 : w1.heap.size = w.heap.size + 1 := by rw [hw1]; simp
  obtain ⟨ab, nb, capb, rfl, HNB, hnb1, hnb2⟩ := hvb.shape
  unfold maxLen at hnb2
  have HK : Hid (∀ u, Below w1.heap.size w1 u → u.heap[w.heap.size]? = some (.cells (pkCells h vo (.slice ab nb capb)) 29 (0, 0))) := fun u hu => by
    rw [hu.block _ (by omega), hw1]; exact heap_alloc_new w _
  have HLD : Hid (∀ u, Below w1.heap.size w1 u → (Instr.loadAt 29 (.pointer (some ⟨w.heap.size, 0, none⟩))).run Tryd.prog u = .ok (.agg (pkCells h vo (.slice ab nb capb))) u) := fun u hu => pk_load (HK.out u hu)
  have HC : Hid (∀ u, Below w1.heap.size w1 u → u.cell? ⟨w.heap.size, 4, none⟩ = some (.int .i64 h.off) ∧ u.cell? ⟨w.heap.size, 6, none⟩ = some (.int .u8 (h.proto : Int)) ∧ u.cell? ⟨w.heap.size, 7, none⟩ = some (.int .u32 (h.src : Int)) ∧ u.cell? ⟨w.heap.size, 8, none⟩ = some (.int .u32 (h.dst : Int)) ∧ u.cell? ⟨w.heap.size, 10, none⟩ = some (.slice ab nb capb)) := fun u hu =>
    ⟨pk_at (HK.out u hu) 4 (by omega), pk_at (HK.out u hu) 6 (by omega), pk_at (HK.out u hu) 7 (by omega), pk_at (HK.out u hu) 8 (by omega), pk_at (HK.out u hu) 10 (by omega)⟩
  have HBD := hid (build_code h vo (.slice ab nb capb) B w1 hok (hvo.below hb1) (hvb.below hb1) hlo hlb)
  have HFT : Hid (∀ u, Below w1.heap.size w1 u → Calls Tryd.prog 9 #[.agg (pkCells h vo (.slice ab nb capb)), .int .u8 3, .int .u8 1, .int .i64 0, .int .u32 167838209] u fun e w' => ∃ a2 n2 c2, e = .returned (.tuple #[.agg (pkCells (fltP h B 3 1 0 167838209).1 (.slice none 0 0) (.slice a2 n2 c2)), .int .i64 (fltE h B 3 1 0 167838209)]) ∧ SeesB w' (.slice a2 n2 c2) (fltP h B 3 1 0 167838209).2 ∧ (∀ x, a2 = some x → u.heap.size ≤ x.block) ∧ Below u.heap.size u w') := fun u hu =>
    fault_any h vo _ B 3 1 0 167838209 u hok (hvo.below (hb1.trans (hu.mono hb1.size))) (hvb.below (hb1.trans (hu.mono hb1.size))) hlo hlb (by decide) (by decide) (by decide) ((htC.below hb1).below hu) ((htK.below hb1).below hu)
  have HA : Hid (fltE h B 3 1 0 167838209 = if refE h B.length ≠ 0 then refE h B.length else if told h B = true then 0 else 61) := by
    unfold Hid fltE
    rw [gate_may.1, gate_may.2]
    rfl
  have HPP : Hid (fltP h B 3 1 0 167838209 = if fltE h B 3 1 0 167838209 = 0 then (mdH 0 167838209 h.src, Im.laid (fltM h B 3 1 0)) else (zeroH, [])) := rfl
  have HR : Hid (told h B = (!decide (0 < h.off) && ((pln h.src && pln h.dst) && (decide (h.proto ≠ 1) || (decide (B ≠ []) && !kF (byt B 0)))))) := rfl
  have HPL : Hid (∀ (a : Nat), a < 4294967296 → ∀ u, Calls Tryd.prog 15 #[.int .u32 (a : Int)] u fun e w' => e = .returned (.bool (pln a)) ∧ w' = u) := fun a ha u => plainL_any a u ha
  have HFL : Hid (∀ (t : Nat) (u : World), Calls Tryd.prog 16 #[.int .u8 (t : Int)] u fun e w' => e = .returned (.bool (kF t)) ∧ w' = u) := fun t u => faultL_any t u
  have hsrc := hok.src
  have hdst := hok.dst
  have HW1 := hid hw1
  have HB1 := hid hb1
  have HVB := hid hvb
  have HL1 := hid (HLD.out _ (Below.refl _ _))
  clear hw1 hb1 hs1 hvo hvb hok hlo hlb htC htK HK
  generalize fltP h B 3 1 0 167838209 = AB at *
  generalize fltE h B 3 1 0 167838209 = AE at *
  generalize fltM h B 3 1 0 = FM at *
  generalize refE h B.length = q at *
  generalize told h B = td at *
  generalize pkCells h vo (.slice ab nb capb) = pk at *
  generalize h.off = off at *
  generalize h.proto = pr at *
  generalize h.src = src at *
  generalize h.dst = dst at *
  have HPS := hid (HPL.out src hsrc)
  have HPD := hid (HPL.out dst hdst)
  generalize pln src = es at *
  generalize pln dst = ed at *
  clear HPL
  obtain ⟨H, BD⟩ := AB
  simp only at *
  go_enter Tryd.func7, Tryd.ntmps7
  go_upto_region 1 with fail
  rw [← HW1.out]
  go_wp2_with (first | (refine wpList_ld 29 ⟨w.heap.size, 0, none⟩ _ rfl rfl HL1.out rfl ?_) | fail)
  refine HBD.out.mono ?_
  rintro _ w2 ⟨a2, n2, c2, rfl, _, hb2⟩
  have HL2 := hid (HLD.out _ hb2)
  go_wp2_with (first | (refine wpList_ld 29 ⟨w.heap.size, 0, none⟩ _ rfl rfl HL2.out rfl ?_) | fail)
  refine (HFT.out _ hb2).mono ?_
  rintro _ w3 ⟨a3, n3, c3, rfl, hs3, _, hb3⟩
  obtain ⟨pa, hpa⟩ : ∃ pa : Array Value, pa = pkCells H (.slice none 0 0) (.slice a3 n3 c3) := ⟨_, rfl⟩
  obtain ⟨w4, hw4⟩ : ∃ w4, w4 = (w3.alloc (.cells zeroP 29)).setCells w3.heap.size 0 pa.toList := ⟨_, rfl⟩
  have HPA := hid hpa
  have HZA : Hid ((Tryd.prog.info? 29).map (·.size) = some pa.size) := by unfold Hid; rw [hpa]; exact size_pk
  have HOA : Hid (pa.all (·.oneCell') = true) := by unfold Hid; rw [hpa]; exact pk_one _ (sees_nil w3) hs3
  have HTA : Hid ((w3.alloc (.cells zeroP 29)).there w3.heap.size 0 pa.size) := by unfold Hid; rw [hpa]; exact there_blk (C := zeroP) (t := 29) (heap_alloc_new w3 _) rfl
  have hr4 : w4.heap[w3.heap.size]? = some (.cells pa 29 (0, 0)) := by
    rw [hw4]
    have := heap_setCells_row (b := w3.heap.size) (T := 29) pa.toList 0 _ zeroP (heap_alloc_new w3 (.cells zeroP 29))
    rwa [show wr zeroP 0 pa.toList = pa by rw [hpa]; exact wr_pk _ _ _] at this
  have hb34 : Below w3.heap.size w3 w4 := by rw [hw4]; exact below_setCells (Nat.le_refl _) _ _ _ ((Below.refl _ _).alloc (Nat.le_refl _) _)
  have hb13 := hb2.trans (hb3.mono hb2.size)
  have hb14 := hb13.trans (hb34.mono hb13.size)
  have hbw4 := HB1.out.trans (hb14.mono HB1.out.size)
  obtain ⟨c4, c6, c7, c8, c10⟩ := HC.out _ hb14
  have p6 : w4.cell? ⟨w3.heap.size, 6, none⟩ = some (.int .u8 (H.proto : Int)) := pk_at (by rw [hr4, hpa]) 6 (by omega)
  have HLP : Hid ((Instr.loadAt 29 (.pointer (some ⟨w3.heap.size, 0, none⟩))).run Tryd.prog w4 = .ok (.agg pa) w4) := by
    have := pk_load (u := w4) (n := w3.heap.size) (h := H) (vo := .slice none 0 0) (vb := .slice a3 n3 c3) (t := 29) (by rw [hr4, hpa])
    rw [← hpa] at this
    exact this
  have HSAME : Hid ((H, BD) = (zeroH, []) → Calls Tryd.prog 14 #[.agg pa, .agg #[.int .u8 0, .int .u16 0, .bool false, .bool false, .int .i64 0, .int .u8 0, .int .u8 0, .int .u32 0, .int .u32 0, .slice none 0 0, .slice none 0 0]] w4 fun e w' => e = .returned (.bool true) ∧ Below w4.heap.size w4 w') := fun e => zeros_same w4 H BD e _ (hs3.below hb34) pa hpa
  have HW4 : Hid (w4 = (w3.alloc (.cells #[.int .u8 0, .int .u16 0, .bool false, .bool false, .int .i64 0, .int .u8 0, .int .u8 0, .int .u32 0, .int .u32 0, .slice none 0 0, .slice none 0 0] 29)).setCells w3.heap.size 0 pa.toList) := hw4
  have HBW4 := hid hbw4
  have HV4 := hid (HVB.out.below hbw4)
  rw [← hpa]
  clear hpa hw4 hr4 hs3 hb2 hb3 hb34 hb13 hb14 hbw4 HL1 HL2 HBD HFT HLD HC
  go_upto_region 3 with (first
    | (refine wpList_store_mid rfl 29 (.tmp 5) (.tmp 16) rfl w3.heap.size 0 pa rfl rfl HTA.out HZA.out HOA.out ?_)
    | fail)
  rw [← HW4.out]
  by_cases hq : q = 0
  · subst hq
    have HA2 : Hid (AE = if td = true then 0 else 61) := by unfold Hid; rw [HA.out, if_neg (by simp)]
    by_cases ho : 0 < off
    · by_cases hp : pr = 1
      · subst hp
        by_cases hn : nb = 0
        · have HBN : Hid (B = []) := List.eq_nil_of_length_eq_zero (by have := HNB.out; omega)
          subst hn
          have HTD : Hid (td = false) := by unfold Hid; rw [HR.out, HBN.out]; simp
          have HE : Hid (AE = 61) := by unfold Hid; rw [HA2.out, HTD.out]; rfl
          have HP0 := hid (HSAME.out (by rw [HPP.out, HE.out, if_neg (by decide)]))
          have hq2 : (AE == 61) = true := by rw [HE.out]; rfl
          go_upto_region 9 with fail
          go_wp2_with (first | (refine wpList_ld 29 ⟨w3.heap.size, 0, none⟩ (.tmp 5) rfl rfl HLP.out rfl ?_) | fail)
          refine HP0.out.mono ?_
          rintro _ w5 ⟨rfl, hb5⟩
          go_wp2_with fail
          go_ret
          exact ⟨rfl, HBW4.out.trans (hb5.mono HBW4.out.size)⟩
        · have HBN : Hid (B ≠ []) := fun e => hn (by rw [HNB.out, e]; rfl)
          have hpos : 0 < nb := by omega
          have hposi : (0 : Int) < (nb : Int) := by omega
          have hnz : ((nb : Int) == 0) = false := by rw [beq_eq_false_iff_ne]; omega
          obtain ⟨g0, o0, rfl, hg0, hc0⟩ := HV4.out.atB 0 hpos
          rw [Nat.add_zero] at hc0
          have HFX := hid (HFL.out (byt B 0) w4)
          generalize byt B 0 = x0 at *
          generalize kF x0 = kf at *
          cases kf with
          | true =>
            have HTD : Hid (td = false) := by unfold Hid; rw [HR.out]; simp
            have HE : Hid (AE = 61) := by unfold Hid; rw [HA2.out, HTD.out]; rfl
            have HP0 := hid (HSAME.out (by rw [HPP.out, HE.out, if_neg (by decide)]))
            have hq2 : (AE == 61) = true := by rw [HE.out]; rfl
            go_wp2_with fail
            refine (HFX.out).mono ?_
            rintro _ _ ⟨rfl, e⟩
            obtain rfl := e.symm
            go_upto_region 9 with fail
            go_wp2_with (first | (refine wpList_ld 29 ⟨w3.heap.size, 0, none⟩ (.tmp 5) rfl rfl HLP.out rfl ?_) | fail)
            refine HP0.out.mono ?_
            rintro _ w5 ⟨rfl, hb5⟩
            go_wp2_with fail
            go_ret
            exact ⟨rfl, HBW4.out.trans (hb5.mono HBW4.out.size)⟩
          | false =>
            have HTD : Hid (td = false) := by unfold Hid; rw [HR.out]; simp [ho]
            have HE : Hid (AE = 61) := by unfold Hid; rw [HA2.out, HTD.out]; rfl
            have HP0 := hid (HSAME.out (by rw [HPP.out, HE.out, if_neg (by decide)]))
            have hq2 : (AE == 61) = true := by rw [HE.out]; rfl
            go_wp2_with fail
            refine (HFX.out).mono ?_
            rintro _ _ ⟨rfl, e⟩
            obtain rfl := e.symm
            go_upto_region 9 with fail
            go_wp2_with (first | (refine wpList_ld 29 ⟨w3.heap.size, 0, none⟩ (.tmp 5) rfl rfl HLP.out rfl ?_) | fail)
            refine HP0.out.mono ?_
            rintro _ w5 ⟨rfl, hb5⟩
            go_wp2_with fail
            go_ret
            exact ⟨rfl, HBW4.out.trans (hb5.mono HBW4.out.size)⟩
      · have qp : ((pr : Int) == 1) = false := by rw [beq_eq_false_iff_ne]; omega
        have HTD : Hid (td = false) := by unfold Hid; rw [HR.out]; simp [ho]
        have HE : Hid (AE = 61) := by unfold Hid; rw [HA2.out, HTD.out]; rfl
        have HP0 := hid (HSAME.out (by rw [HPP.out, HE.out, if_neg (by decide)]))
        have hq2 : (AE == 61) = true := by rw [HE.out]; rfl
        go_upto_region 9 with fail
        go_wp2_with (first | (refine wpList_ld 29 ⟨w3.heap.size, 0, none⟩ (.tmp 5) rfl rfl HLP.out rfl ?_) | fail)
        refine HP0.out.mono ?_
        rintro _ w5 ⟨rfl, hb5⟩
        go_wp2_with fail
        go_ret
        exact ⟨rfl, HBW4.out.trans (hb5.mono HBW4.out.size)⟩
    · cases es with
      | false =>
        by_cases hp : pr = 1
        · subst hp
          by_cases hn : nb = 0
          · have HBN : Hid (B = []) := List.eq_nil_of_length_eq_zero (by have := HNB.out; omega)
            subst hn
            have HTD : Hid (td = false) := by unfold Hid; rw [HR.out, HBN.out]; simp
            have HE : Hid (AE = 61) := by unfold Hid; rw [HA2.out, HTD.out]; rfl
            have HP0 := hid (HSAME.out (by rw [HPP.out, HE.out, if_neg (by decide)]))
            have hq2 : (AE == 61) = true := by rw [HE.out]; rfl
            go_wp2_with fail
            refine (HPS.out _).mono ?_
            rintro _ _ ⟨rfl, e⟩
            obtain rfl := e.symm
            go_upto_region 9 with fail
            go_wp2_with (first | (refine wpList_ld 29 ⟨w3.heap.size, 0, none⟩ (.tmp 5) rfl rfl HLP.out rfl ?_) | fail)
            refine HP0.out.mono ?_
            rintro _ w5 ⟨rfl, hb5⟩
            go_wp2_with fail
            go_ret
            exact ⟨rfl, HBW4.out.trans (hb5.mono HBW4.out.size)⟩
          · have HBN : Hid (B ≠ []) := fun e => hn (by rw [HNB.out, e]; rfl)
            have hpos : 0 < nb := by omega
            have hposi : (0 : Int) < (nb : Int) := by omega
            have hnz : ((nb : Int) == 0) = false := by rw [beq_eq_false_iff_ne]; omega
            obtain ⟨g0, o0, rfl, hg0, hc0⟩ := HV4.out.atB 0 hpos
            rw [Nat.add_zero] at hc0
            have HFX := hid (HFL.out (byt B 0) w4)
            generalize byt B 0 = x0 at *
            generalize kF x0 = kf at *
            cases kf with
            | true =>
              have HTD : Hid (td = false) := by unfold Hid; rw [HR.out]; simp
              have HE : Hid (AE = 61) := by unfold Hid; rw [HA2.out, HTD.out]; rfl
              have HP0 := hid (HSAME.out (by rw [HPP.out, HE.out, if_neg (by decide)]))
              have hq2 : (AE == 61) = true := by rw [HE.out]; rfl
              go_wp2_with fail
              refine (HPS.out _).mono ?_
              rintro _ _ ⟨rfl, e⟩
              obtain rfl := e.symm
              go_wp2_with fail
              refine (HFX.out).mono ?_
              rintro _ _ ⟨rfl, e⟩
              obtain rfl := e.symm
              go_upto_region 9 with fail
              go_wp2_with (first | (refine wpList_ld 29 ⟨w3.heap.size, 0, none⟩ (.tmp 5) rfl rfl HLP.out rfl ?_) | fail)
              refine HP0.out.mono ?_
              rintro _ w5 ⟨rfl, hb5⟩
              go_wp2_with fail
              go_ret
              exact ⟨rfl, HBW4.out.trans (hb5.mono HBW4.out.size)⟩
            | false =>
              have HTD : Hid (td = false) := by unfold Hid; rw [HR.out]; simp
              have HE : Hid (AE = 61) := by unfold Hid; rw [HA2.out, HTD.out]; rfl
              have HP0 := hid (HSAME.out (by rw [HPP.out, HE.out, if_neg (by decide)]))
              have hq2 : (AE == 61) = true := by rw [HE.out]; rfl
              go_wp2_with fail
              refine (HPS.out _).mono ?_
              rintro _ _ ⟨rfl, e⟩
              obtain rfl := e.symm
              go_wp2_with fail
              refine (HFX.out).mono ?_
              rintro _ _ ⟨rfl, e⟩
              obtain rfl := e.symm
              go_upto_region 9 with fail
              go_wp2_with (first | (refine wpList_ld 29 ⟨w3.heap.size, 0, none⟩ (.tmp 5) rfl rfl HLP.out rfl ?_) | fail)
              refine HP0.out.mono ?_
              rintro _ w5 ⟨rfl, hb5⟩
              go_wp2_with fail
              go_ret
              exact ⟨rfl, HBW4.out.trans (hb5.mono HBW4.out.size)⟩
        · have qp : ((pr : Int) == 1) = false := by rw [beq_eq_false_iff_ne]; omega
          have HTD : Hid (td = false) := by unfold Hid; rw [HR.out]; simp
          have HE : Hid (AE = 61) := by unfold Hid; rw [HA2.out, HTD.out]; rfl
          have HP0 := hid (HSAME.out (by rw [HPP.out, HE.out, if_neg (by decide)]))
          have hq2 : (AE == 61) = true := by rw [HE.out]; rfl
          go_wp2_with fail
          refine (HPS.out _).mono ?_
          rintro _ _ ⟨rfl, e⟩
          obtain rfl := e.symm
          go_upto_region 9 with fail
          go_wp2_with (first | (refine wpList_ld 29 ⟨w3.heap.size, 0, none⟩ (.tmp 5) rfl rfl HLP.out rfl ?_) | fail)
          refine HP0.out.mono ?_
          rintro _ w5 ⟨rfl, hb5⟩
          go_wp2_with fail
          go_ret
          exact ⟨rfl, HBW4.out.trans (hb5.mono HBW4.out.size)⟩
      | true =>
        cases ed with
        | false =>
          by_cases hp : pr = 1
          · subst hp
            by_cases hn : nb = 0
            · have HBN : Hid (B = []) := List.eq_nil_of_length_eq_zero (by have := HNB.out; omega)
              subst hn
              have HTD : Hid (td = false) := by unfold Hid; rw [HR.out, HBN.out]; simp
              have HE : Hid (AE = 61) := by unfold Hid; rw [HA2.out, HTD.out]; rfl
              have HP0 := hid (HSAME.out (by rw [HPP.out, HE.out, if_neg (by decide)]))
              have hq2 : (AE == 61) = true := by rw [HE.out]; rfl
              go_wp2_with fail
              refine (HPS.out _).mono ?_
              rintro _ _ ⟨rfl, e⟩
              obtain rfl := e.symm
              go_wp2_with fail
              refine (HPD.out _).mono ?_
              rintro _ _ ⟨rfl, e⟩
              obtain rfl := e.symm
              go_upto_region 9 with fail
              go_wp2_with (first | (refine wpList_ld 29 ⟨w3.heap.size, 0, none⟩ (.tmp 5) rfl rfl HLP.out rfl ?_) | fail)
              refine HP0.out.mono ?_
              rintro _ w5 ⟨rfl, hb5⟩
              go_wp2_with fail
              go_ret
              exact ⟨rfl, HBW4.out.trans (hb5.mono HBW4.out.size)⟩
            · have HBN : Hid (B ≠ []) := fun e => hn (by rw [HNB.out, e]; rfl)
              have hpos : 0 < nb := by omega
              have hposi : (0 : Int) < (nb : Int) := by omega
              have hnz : ((nb : Int) == 0) = false := by rw [beq_eq_false_iff_ne]; omega
              obtain ⟨g0, o0, rfl, hg0, hc0⟩ := HV4.out.atB 0 hpos
              rw [Nat.add_zero] at hc0
              have HFX := hid (HFL.out (byt B 0) w4)
              generalize byt B 0 = x0 at *
              generalize kF x0 = kf at *
              cases kf with
              | true =>
                have HTD : Hid (td = false) := by unfold Hid; rw [HR.out]; simp
                have HE : Hid (AE = 61) := by unfold Hid; rw [HA2.out, HTD.out]; rfl
                have HP0 := hid (HSAME.out (by rw [HPP.out, HE.out, if_neg (by decide)]))
                have hq2 : (AE == 61) = true := by rw [HE.out]; rfl
                go_wp2_with fail
                refine (HPS.out _).mono ?_
                rintro _ _ ⟨rfl, e⟩
                obtain rfl := e.symm
                go_wp2_with fail
                refine (HPD.out _).mono ?_
                rintro _ _ ⟨rfl, e⟩
                obtain rfl := e.symm
                go_wp2_with fail
                refine (HFX.out).mono ?_
                rintro _ _ ⟨rfl, e⟩
                obtain rfl := e.symm
                go_upto_region 9 with fail
                go_wp2_with (first | (refine wpList_ld 29 ⟨w3.heap.size, 0, none⟩ (.tmp 5) rfl rfl HLP.out rfl ?_) | fail)
                refine HP0.out.mono ?_
                rintro _ w5 ⟨rfl, hb5⟩
                go_wp2_with fail
                go_ret
                exact ⟨rfl, HBW4.out.trans (hb5.mono HBW4.out.size)⟩
              | false =>
                have HTD : Hid (td = false) := by unfold Hid; rw [HR.out]; simp
                have HE : Hid (AE = 61) := by unfold Hid; rw [HA2.out, HTD.out]; rfl
                have HP0 := hid (HSAME.out (by rw [HPP.out, HE.out, if_neg (by decide)]))
                have hq2 : (AE == 61) = true := by rw [HE.out]; rfl
                go_wp2_with fail
                refine (HPS.out _).mono ?_
                rintro _ _ ⟨rfl, e⟩
                obtain rfl := e.symm
                go_wp2_with fail
                refine (HPD.out _).mono ?_
                rintro _ _ ⟨rfl, e⟩
                obtain rfl := e.symm
                go_wp2_with fail
                refine (HFX.out).mono ?_
                rintro _ _ ⟨rfl, e⟩
                obtain rfl := e.symm
                go_upto_region 9 with fail
                go_wp2_with (first | (refine wpList_ld 29 ⟨w3.heap.size, 0, none⟩ (.tmp 5) rfl rfl HLP.out rfl ?_) | fail)
                refine HP0.out.mono ?_
                rintro _ w5 ⟨rfl, hb5⟩
                go_wp2_with fail
                go_ret
                exact ⟨rfl, HBW4.out.trans (hb5.mono HBW4.out.size)⟩
          · have qp : ((pr : Int) == 1) = false := by rw [beq_eq_false_iff_ne]; omega
            have HTD : Hid (td = false) := by unfold Hid; rw [HR.out]; simp
            have HE : Hid (AE = 61) := by unfold Hid; rw [HA2.out, HTD.out]; rfl
            have HP0 := hid (HSAME.out (by rw [HPP.out, HE.out, if_neg (by decide)]))
            have hq2 : (AE == 61) = true := by rw [HE.out]; rfl
            go_wp2_with fail
            refine (HPS.out _).mono ?_
            rintro _ _ ⟨rfl, e⟩
            obtain rfl := e.symm
            go_wp2_with fail
            refine (HPD.out _).mono ?_
            rintro _ _ ⟨rfl, e⟩
            obtain rfl := e.symm
            go_upto_region 9 with fail
            go_wp2_with (first | (refine wpList_ld 29 ⟨w3.heap.size, 0, none⟩ (.tmp 5) rfl rfl HLP.out rfl ?_) | fail)
            refine HP0.out.mono ?_
            rintro _ w5 ⟨rfl, hb5⟩
            go_wp2_with fail
            go_ret
            exact ⟨rfl, HBW4.out.trans (hb5.mono HBW4.out.size)⟩
        | true =>
          by_cases hp : pr = 1
          · subst hp
            by_cases hn : nb = 0
            · have HBN : Hid (B = []) := List.eq_nil_of_length_eq_zero (by have := HNB.out; omega)
              subst hn
              have HTD : Hid (td = false) := by unfold Hid; rw [HR.out, HBN.out]; simp
              have HE : Hid (AE = 61) := by unfold Hid; rw [HA2.out, HTD.out]; rfl
              have HP0 := hid (HSAME.out (by rw [HPP.out, HE.out, if_neg (by decide)]))
              have hq2 : (AE == 61) = true := by rw [HE.out]; rfl
              go_wp2_with fail
              refine (HPS.out _).mono ?_
              rintro _ _ ⟨rfl, e⟩
              obtain rfl := e.symm
              go_wp2_with fail
              refine (HPD.out _).mono ?_
              rintro _ _ ⟨rfl, e⟩
              obtain rfl := e.symm
              go_upto_region 9 with fail
              go_wp2_with (first | (refine wpList_ld 29 ⟨w3.heap.size, 0, none⟩ (.tmp 5) rfl rfl HLP.out rfl ?_) | fail)
              refine HP0.out.mono ?_
              rintro _ w5 ⟨rfl, hb5⟩
              go_wp2_with fail
              go_ret
              exact ⟨rfl, HBW4.out.trans (hb5.mono HBW4.out.size)⟩
            · have HBN : Hid (B ≠ []) := fun e => hn (by rw [HNB.out, e]; rfl)
              have hpos : 0 < nb := by omega
              have hposi : (0 : Int) < (nb : Int) := by omega
              have hnz : ((nb : Int) == 0) = false := by rw [beq_eq_false_iff_ne]; omega
              obtain ⟨g0, o0, rfl, hg0, hc0⟩ := HV4.out.atB 0 hpos
              rw [Nat.add_zero] at hc0
              have HFX := hid (HFL.out (byt B 0) w4)
              generalize byt B 0 = x0 at *
              generalize kF x0 = kf at *
              cases kf with
              | true =>
                have HTD : Hid (td = false) := by unfold Hid; rw [HR.out]; simp
                have HE : Hid (AE = 61) := by unfold Hid; rw [HA2.out, HTD.out]; rfl
                have HP0 := hid (HSAME.out (by rw [HPP.out, HE.out, if_neg (by decide)]))
                have hq2 : (AE == 61) = true := by rw [HE.out]; rfl
                go_wp2_with fail
                refine (HPS.out _).mono ?_
                rintro _ _ ⟨rfl, e⟩
                obtain rfl := e.symm
                go_wp2_with fail
                refine (HPD.out _).mono ?_
                rintro _ _ ⟨rfl, e⟩
                obtain rfl := e.symm
                go_wp2_with fail
                refine (HFX.out).mono ?_
                rintro _ _ ⟨rfl, e⟩
                obtain rfl := e.symm
                go_upto_region 9 with fail
                go_wp2_with (first | (refine wpList_ld 29 ⟨w3.heap.size, 0, none⟩ (.tmp 5) rfl rfl HLP.out rfl ?_) | fail)
                refine HP0.out.mono ?_
                rintro _ w5 ⟨rfl, hb5⟩
                go_wp2_with fail
                go_ret
                exact ⟨rfl, HBW4.out.trans (hb5.mono HBW4.out.size)⟩
              | false =>
                have HTD : Hid (td = true) := by unfold Hid; rw [HR.out]; simp [HBN.out]; omega
                have HE : Hid (AE = 0) := by unfold Hid; rw [HA2.out, HTD.out]; rfl
                have hq2 : (AE == 0) = true := by rw [HE.out]; rfl
                have hH : H.proto = 1 := by
                  have := HPP.out
                  rw [HE.out, if_pos rfl, Prod.mk.injEq] at this
                  rw [this.1]; rfl
                rw [hH] at p6
                go_wp2_with fail
                refine (HPS.out _).mono ?_
                rintro _ _ ⟨rfl, e⟩
                obtain rfl := e.symm
                go_wp2_with fail
                refine (HPD.out _).mono ?_
                rintro _ _ ⟨rfl, e⟩
                obtain rfl := e.symm
                go_wp2_with fail
                refine (HFX.out).mono ?_
                rintro _ _ ⟨rfl, e⟩
                obtain rfl := e.symm
                go_wp2_with fail
                go_ret
                exact ⟨rfl, HBW4.out⟩
          · have qp : ((pr : Int) == 1) = false := by rw [beq_eq_false_iff_ne]; omega
            have HTD : Hid (td = true) := by unfold Hid; rw [HR.out]; simp [hp]; omega
            have HE : Hid (AE = 0) := by unfold Hid; rw [HA2.out, HTD.out]; rfl
            have hq2 : (AE == 0) = true := by rw [HE.out]; rfl
            have hH : H.proto = 1 := by
              have := HPP.out
              rw [HE.out, if_pos rfl, Prod.mk.injEq] at this
              rw [this.1]; rfl
            rw [hH] at p6
            go_wp2_with fail
            refine (HPS.out _).mono ?_
            rintro _ _ ⟨rfl, e⟩
            obtain rfl := e.symm
            go_wp2_with fail
            refine (HPD.out _).mono ?_
            rintro _ _ ⟨rfl, e⟩
            obtain rfl := e.symm
            go_wp2_with fail
            go_ret
            exact ⟨rfl, HBW4.out⟩
  · have HE : Hid (AE = q) := by unfold Hid; rw [HA.out, if_pos hq]
    have HP0 := hid (HSAME.out (by rw [HPP.out, HE.out, if_neg hq]))
    have hqq : (q != 0) = true := by simp [hq]
    have hq2 : (AE == q) = true := by rw [HE.out]; simp
    go_wp2_with (first | (refine wpList_ld 29 ⟨w3.heap.size, 0, none⟩ _ rfl rfl HLP.out rfl ?_) | fail)
    refine HP0.out.mono ?_
    rintro _ w5 ⟨rfl, hb5⟩
    go_wp2_with fail
    go_ret
    exact ⟨rfl, HBW4.out.trans (hb5.mono HBW4.out.size)⟩

theorem icmpHush_walk (h : Hd) (vo vb : Value) (B : List Nat) (w : World) (hok : h.Ok) (hvo : SeesB w vo h.opts) (hvb : SeesB w vb B) (hlo : h.opts.length ≤ 140737488355328) (hlb : B.length ≤ 140737488355328) (htC : Ad.TabC w) (htK : TabK w) :
    Calls Tryd.prog 3 #[.agg (pkCells h vo vb)] w fun e w' => e = .returned (.bool true) ∧ Below w.heap.size w w' := by
  obtain ⟨w1, hw1⟩ : ∃ w1, w1 = w.alloc (.cells (pkCells h vo vb) 29) := ⟨_, rfl⟩
  have hb1 : Below w.heap.size w w1 := by rw [hw1]; exact (Below.refl _ _).alloc (Nat.le_refl _) _
  have hs1 : w1.heap.size = w.heap.size + 1 := by rw [hw1]; simp
  have HLD : Hid (∀ u, Below w1.heap.size w1 u → (Instr.loadAt 29 (.pointer (some ⟨w.heap.size, 0, none⟩))).run Tryd.prog u = .ok (.agg (pkCells h vo vb)) u) := fun u hu => pk_load (t := 29) (by rw [hu.block _ (by omega), hw1]; exact heap_alloc_new w _)
  have HSM := hid (small_any w1)
  have HH1 : Hid (∀ (u : World) (v1 v2 : Value), Below w1.heap.size w1 u → SeesB u v1 small6.opts → SeesB u v2 body6 → Calls Tryd.prog 7 #[.agg (pkCells small6 v1 v2)] u fun e w' => e = .returned (.bool true) ∧ Below u.heap.size u w') := fun u v1 v2 hu h1 h2 =>
    hush_any small6 v1 v2 body6 u small6_ok h1 h2 (by decide) (by decide) ((htC.below hb1).below hu) ((htK.below hb1).below hu)
  have HH2 : Hid (∀ u, Below w1.heap.size w1 u → Calls Tryd.prog 7 #[.agg (pkCells h vo vb)] u fun e w' => e = .returned (.bool true) ∧ Below u.heap.size u w') := fun u hu =>
    hush_any h vo vb B u hok (hvo.below (hb1.trans (hu.mono hb1.size))) (hvb.below (hb1.trans (hu.mono hb1.size))) hlo hlb ((htC.below hb1).below hu) ((htK.below hb1).below hu)
  have HW1 := hid hw1
  have HB1 := hid hb1
  clear hw1 hb1 hs1 hvo hvb hok hlo hlb htC htK
  generalize pkCells h vo vb = pk at *
  go_enter Tryd.func3, Tryd.ntmps3
  go_upto_region 1 with fail
  rw [← HW1.out]
  go_wp2_with fail
  refine HSM.out.mono ?_
  rintro _ w2 ⟨a1, n1, c1, a2, n2, c2, rfl, ho, hbd, _, hb2⟩
  have HX := hid (HH1.out w2 _ _ hb2 ho hbd)
  generalize pkCells small6 (.slice a1 n1 c1) (.slice a2 n2 c2) = sk at *
  clear ho hbd
  go_wp2_with fail
  refine HX.out.mono ?_
  rintro _ w3 ⟨rfl, hb3⟩
  have hb13 := hb2.trans (hb3.mono hb2.size)
  have HL3 := hid (HLD.out _ hb13)
  go_wp2_with (first | (refine wpList_ld 29 ⟨w.heap.size, 0, none⟩ _ rfl rfl HL3.out rfl ?_) | fail)
  refine (HH2.out _ hb13).mono ?_
  rintro _ w4 ⟨rfl, hb4⟩
  go_wp2_with fail
  go_ret
  exact ⟨rfl, HB1.out.trans ((hb13.trans (hb4.mono hb13.size)).mono HB1.out.size)⟩
end Go.Proofs.YtcboenmmkaochaaDoor.N

namespace Go.Proofs.YtcboenmmkaochaaDoor.N
open Go.ChangeShapes Go.WideShapes Go.ChangeAt Go.RowKit
set_option maxHeartbeats 4000000
set_option maxRecDepth 100000

theorem area_nil : M.area [] = true := by unfold M.area; simp [M.okO_nil]

/-- A packet that is made here may be. -/
theorem md_refE (tos src dst n : Nat) (hn : n ≤ 65515) : refE (mdH tos src dst) n = 0 := by
  unfold refE
  rw [show (mdH tos src dst).opts = [] from rfl, if_pos area_nil]
  have hp : M.pieceOk (mdH tos src dst).off n (mdH tos src dst).mf = true := by
    unfold M.pieceOk mdH
    simp
    omega
  rw [if_pos hp, if_pos (by simp; omega)]

theorem may_fault {t c : Nat} {a : Int} (h : mayT t c a = true) : kF t = true ∧ (t = 3 ∨ t = 11 ∨ t = 12) := by
  unfold mayT at h
  simp at h
  have h1 := h.1
  unfold kC at h1
  split at h1
  · subst_vars; exact ⟨rfl, .inl rfl⟩
  · split at h1
    · subst_vars; exact ⟨rfl, .inr (.inl rfl)⟩
    · split at h1
      · subst_vars; exact ⟨rfl, .inr (.inr rfl)⟩
      · omega

theorem laid_head (m : Im.Ct) : byt (Im.laid m) 0 = m.t := rfl
theorem laid_ne (m : Im.Ct) : Im.laid m ≠ [] := by unfold Im.laid Im.msg; simp

/-- What is told of a fault's packet: it is quiet, and no echo. -/
theorem storm_facts (h : Hd) (B : List Nat) (t c : Nat) (a : Int) (f : Nat) (hok : h.Ok) (ht : t < 256) (hc : c < 256) (hbs : ∀ x ∈ builtL h B, x < 256) (he : fltE h B t c a f = 0) :
    (fltP h B t c a f).1 = mdH 0 f h.src ∧ (fltP h B t c a f).2 = Im.laid (fltM h B t c a) ∧ (Im.laid (fltM h B t c a)).length ≤ 65515 ∧
    (∀ x ∈ Im.laid (fltM h B t c a), x < 256) ∧ h.src < 4294967296 ∧
    (∀ k d, mayT k d 0 = true → fltE (mdH 0 f h.src) (Im.laid (fltM h B t c a)) k d 0 167838209 = 61) ∧ ecE (mdH 0 f h.src) (Im.laid (fltM h B t c a)) = 62 := by
  have hmp : (mayT t c a && pln f) = true := by
    unfold fltE at he
    split at he
    · assumption
    · exact absurd he (by decide)
  have hmp' := Bool.and_eq_true_iff.1 hmp
  obtain ⟨hk, h3⟩ := may_fault hmp'.1
  have hra : 0 ≤ a ∧ a ≤ mxA t c := by have := hmp'.1; unfold mayT at this; simp at this; exact this.2
  have hl : (fltM h B t c a).B.length ≤ 65507 := by
    show ((builtL h B).take (fltQ h B)).length ≤ 65507
    have hre : refE h B.length = 0 := by
      unfold fltE at he
      rw [if_pos hmp] at he
      split at he
      · rename_i hne; exact absurd he hne
      · rename_i hne; exact Classical.not_not.1 hne
    obtain ⟨r1, _, _⟩ := refE_ok hre
    obtain ⟨l1, _⟩ := area_len r1
    rw [List.length_take]
    unfold fltQ
    omega
  have hlen : (Im.laid (fltM h B t c a)).length ≤ 65515 := by rw [Im.laid_len]; omega
  have hmok : (fltM h B t c a).Ok := ⟨ht, hc, by
    show rstN t a.toNat < 4294967296
    exact rstN_lt (c := c) (by omega)⟩
  have hP : fltP h B t c a f = (mdH 0 f h.src, Im.laid (fltM h B t c a)) := by unfold fltP; rw [if_pos he]
  have hbm : ∀ x ∈ (fltM h B t c a).B, x < 256 := fun x hx => hbs x (List.mem_of_mem_take hx)
  refine ⟨by rw [hP], by rw [hP], hlen, Im.laid_bytes hmok hbm, hok.src, ?_, ?_⟩
  · intro k d hkd
    unfold fltE
    rw [hkd, gate_may.2]
    have htold : told (mdH 0 f h.src) (Im.laid (fltM h B t c a)) = false := by
      unfold told
      rw [laid_head, show (fltM h B t c a).t = t from rfl, hk]
      simp [mdH]
    rw [md_refE _ _ _ _ hlen, htold]
    rfl
  · obtain ⟨e1, e2⟩ := msg_pr (h := mdH 0 f h.src) (B := Im.laid (fltM h B t c a)) (md_refE _ _ _ _ hlen) (by simp [mdH])
    unfold ecE
    rw [e1, e2, Im.prE_laid _ hl, Im.prC_laid _ hmok hl, if_neg (by simp), if_pos]
    left
    show t ≠ 8
    omega

theorem may_19 (n : Nat) (hn : n < 16) : mayT 3 n 0 = true := by
  have h : n = 0 ∨ n = 1 ∨ n = 2 ∨ n = 3 ∨ n = 4 ∨ n = 5 ∨ n = 6 ∨ n = 7 ∨ n = 8 ∨ n = 9 ∨ n = 10 ∨ n = 11 ∨ n = 12 ∨ n = 13 ∨ n = 14 ∨ n = 15 := by omega
  rcases h with rfl | rfl | rfl | rfl | rfl | rfl | rfl | rfl | rfl | rfl | rfl | rfl | rfl | rfl | rfl | rfl <;> decide
end Go.Proofs.YtcboenmmkaochaaDoor.N

namespace Go.Proofs.YtcboenmmkaochaaDoor.N
open Go.ChangeShapes Go.WideShapes Go.ChangeAt Go.RowKit
set_option maxHeartbeats 8000000
set_option maxRecDepth 100000

theorem storm_any (h : Hd) (vo vb : Value) (B : List Nat) (t c : Nat) (a : Int) (f : Nat) (w : World) (hok : h.Ok) (hvo : SeesB w vo h.opts) (hvb : SeesB w vb B) (hlo : h.opts.length ≤ 140737488355328) (hlb : B.length ≤ 140737488355328) (ht : t < 256) (hc : c < 256) (hf : f < 4294967296) (htC : Ad.TabC w) (htK : TabK w) :
    Calls Tryd.prog 10 #[.agg (pkCells h vo vb), .int .u8 (t : Int), .int .u8 (c : Int), .int .i64 a, .int .u32 (f : Int)] w fun e w' => e = .returned (.bool true) ∧ Below w.heap.size w w' := by
  obtain ⟨w1, hw1⟩ : ∃ w1, w1 = w.alloc (.cells (pkCells h vo vb) 29) := ⟨_, rfl⟩
  have hb1 : Below w.heap.size w w1 := by rw [hw1]; exact (Below.refl _ _).alloc (Nat.le_refl _) _
  have HL1 := hid (pk_load (u := w1) (n := w.heap.size) (h := h) (vo := vo) (vb := vb) (t := 29) (by rw [hw1]; exact heap_alloc_new w _))
  have HFT := hid (fault_any h vo vb B t c a f w1 hok (hvo.below hb1) (hvb.below hb1) hlo hlb ht hc hf (htC.below hb1) (htK.below hb1))
  have HSF : Hid (fltE h B t c a f = 0 → _) := storm_facts h B t c a f hok ht hc (built_bytes hok hvo.bytes hvb.bytes)
  have HPP : Hid (fltP h B t c a f = if fltE h B t c a f = 0 then (mdH 0 f h.src, Im.laid (fltM h B t c a)) else (zeroH, [])) := rfl
  have HTB : Hid (∀ u, Below w1.heap.size w1 u → Ad.TabC u ∧ TabK u) := fun u hu => ⟨(htC.below hb1).below hu, (htK.below hb1).below hu⟩
  have HW1 := hid hw1
  have HB1 := hid hb1
  clear hw1 hb1 hvo hvb hok hlo hlb htC htK
  generalize fltP h B t c a f = AB at *
  generalize fltE h B t c a f = AE at *
  generalize Im.laid (fltM h B t c a) = LD at *
  generalize pkCells h vo vb = pk at *
  generalize h.src = src at *
  obtain ⟨H, BD⟩ := AB
  simp only at *
  go_enter Tryd.func10, Tryd.ntmps10
  go_upto_region 1 with fail
  rw [← HW1.out]
  go_wp2_with (first | (refine wpList_ld 29 ⟨w.heap.size, 0, none⟩ (.tmp 5) rfl rfl HL1.out rfl ?_) | fail)
  refine HFT.out.mono ?_
  rintro _ w3 ⟨a3, n3, c3, rfl, hs3, _, hb3⟩
  obtain ⟨pa, hpa⟩ : ∃ pa : Array Value, pa = pkCells H (.slice none 0 0) (.slice a3 n3 c3) := ⟨_, rfl⟩
  obtain ⟨w4, hw4⟩ : ∃ w4, w4 = (w3.alloc (.cells zeroP 29)).setCells w3.heap.size 0 pa.toList := ⟨_, rfl⟩
  have HZA : Hid ((Tryd.prog.info? 29).map (·.size) = some pa.size) := by unfold Hid; rw [hpa]; exact size_pk
  have HOA : Hid (pa.all (·.oneCell') = true) := by unfold Hid; rw [hpa]; exact pk_one _ (sees_nil w3) hs3
  obtain ⟨hta, hb34, hrg4, hlt3⟩ : (w3.alloc (.cells zeroP 29)).there w3.heap.size 0 pa.size ∧ Below w3.heap.size w3 w4 ∧ w4.rangeAt w3.heap.size 0 pa.toList ∧ w3.heap.size < w4.heap.size := by
    have hn := new_put (u := w3) (T := 29) (Z := zeroP) (pa := pa) (by rw [hpa]; rfl)
    rw [← hw4] at hn
    exact ⟨new_there (by rw [hpa]; rfl), hn.below, hn.range, hn.lt⟩
  have HTA := hid hta
  have hb14 := hb3.trans (hb34.mono hb3.size)
  have HLP : Hid (∀ u, Below w4.heap.size w4 u → (Instr.loadAt 29 (.pointer (some ⟨w3.heap.size, 0, none⟩))).run Tryd.prog u = .ok (.agg pa) u) := fun u hu => load_range (T := 29) (range_grow hrg4 hu hlt3) und29 HZA.out
  have HSAME : Hid ((H, BD) = (zeroH, []) → Calls Tryd.prog 14 #[.agg pa, .agg #[.int .u8 0, .int .u16 0, .bool false, .bool false, .int .i64 0, .int .u8 0, .int .u8 0, .int .u32 0, .int .u32 0, .slice none 0 0, .slice none 0 0]] w4 fun e w' => e = .returned (.bool true) ∧ Below w4.heap.size w4 w') := fun e => zeros_same w4 H BD e _ (hs3.below hb34) pa hpa
  have HS4 := hid (hs3.below hb34)
  have HPA := hid hpa
  have HW4 : Hid (w4 = (w3.alloc (.cells #[.int .u8 0, .int .u16 0, .bool false, .bool false, .int .i64 0, .int .u8 0, .int .u8 0, .int .u32 0, .int .u32 0, .slice none 0 0, .slice none 0 0] 29)).setCells w3.heap.size 0 pa.toList) := hw4
  have HB14 := hid hb14
  have HBW4 := hid (HB1.out.trans (hb14.mono HB1.out.size))
  rw [← hpa]
  clear hpa hw4 hs3 hb3 hb34 hb14 hrg4 hlt3 hta HL1 HFT
  go_upto_region 2 with (first
    | (refine wpList_store_mid rfl 29 (.tmp 11) (.tmp 27) rfl w3.heap.size 0 pa rfl rfl HTA.out HZA.out HOA.out ?_)
    | fail)
  rw [← HW4.out]
  by_cases hq : AE = 0
  · subst hq
    obtain ⟨f1, f2, f3, f4, f5, f6, f7⟩ := HSF.out rfl
    obtain ⟨rfl, rfl⟩ : H = mdH 0 f src ∧ BD = LD := by
      have := HPP.out
      rw [if_pos rfl, Prod.mk.injEq] at this
      exact this
    have hmd : (mdH 0 f src).Ok := ⟨by show 0 < 256; omega, by show 0 < 65536; omega, by show -9223372036854775808 ≤ (0 : Int) ∧ (0 : Int) ≤ 9223372036854775807; omega, by show 64 < 256; omega, by show 1 < 256; omega, hf, f5⟩
    have HFR : Hid (∀ (k d : Nat), mayT k d 0 = true → k < 256 → d < 256 → ∀ u, Below w4.heap.size w4 u → Calls Tryd.prog 9 #[.agg pa, .int .u8 (k : Int), .int .u8 (d : Int), .int .i64 0, .int .u32 167838209] u fun e w' => ∃ a2 n2 c2, e = .returned (.tuple #[.agg (pkCells zeroH (.slice none 0 0) (.slice a2 n2 c2)), .int .i64 61]) ∧ SeesB w' (.slice a2 n2 c2) [] ∧ Below u.heap.size u w') := fun k d hkd hk hd u hu => by
      rw [HPA.out]
      obtain ⟨t1, t2⟩ := HTB.out u (HB14.out.trans (hu.mono HB14.out.size))
      refine (fault_any (mdH 0 f src) (.slice none 0 0) (.slice a3 n3 c3) BD k d 0 167838209 u hmd (sees_nil _) (HS4.out.below hu) (by show 0 ≤ 140737488355328; omega) (by omega) hk hd (by decide) t1 t2).mono ?_
      rintro e w' ⟨a2, n2, c2, rfl, hs, _, hb⟩
      have e61 := f6 k d hkd
      have ep : fltP (mdH 0 f src) BD k d 0 167838209 = (zeroH, []) := by unfold fltP; rw [e61, if_neg (by decide)]
      rw [ep] at hs ⊢
      exact ⟨a2, n2, c2, by rw [e61], hs, hb⟩
    have HEC : Hid (∀ u, Below w4.heap.size w4 u → Calls Tryd.prog 22 #[.agg pa] u fun e w' => ∃ a2 n2 c2, e = .returned (.tuple #[.agg (pkCells (ecP (mdH 0 f src) BD).1 (.slice none 0 0) (.slice a2 n2 c2)), .int .i64 62]) ∧ SeesB w' (.slice a2 n2 c2) (ecP (mdH 0 f src) BD).2 ∧ Below u.heap.size u w') := fun u hu => by
      rw [HPA.out]
      obtain ⟨t1, _⟩ := HTB.out u (HB14.out.trans (hu.mono HB14.out.size))
      refine (echo_any (mdH 0 f src) (.slice none 0 0) (.slice a3 n3 c3) BD u hmd (sees_nil _) (HS4.out.below hu) (by show 0 ≤ 140737488355328; omega) (by omega) t1).mono ?_
      rintro e w' ⟨a2, n2, c2, rfl, hs, _, hb⟩
      exact ⟨a2, n2, c2, by rw [f7], hs, hb⟩
    generalize ecP (mdH 0 f src) BD = EP at *
    clear f1 f2 f3 f4 f6 f7 hmd HSF HPP HSAME
    go_wp2_with fail
    go_loopw [13, 14, 15, 16, 17] (fun i _ _ _ _ wv => ∃ (n : Nat) (wr : World), i = .int .i64 n ∧ n ≤ 19 ∧ wr = wv ∧ Below w4.heap.size w4 wr) (fun i _ _ _ _ _ => 19 - (intOf i).toNat)
    case atStart => exact ⟨0, _, rfl, by omega, rfl, Below.refl _ _⟩
    case round =>
      obtain ⟨n, wr, rfl, hn, rfl, hbr⟩ := hrel
      by_cases hn19 : n < 19
      · have HLR := hid (HLP.out _ hbr)
        by_cases h16 : n < 16
        · have HX : Hid (Calls Tryd.prog 9 #[.agg pa, .int .u8 3, .int .u8 (n : Int), .int .i64 0, .int .u32 167838209] wr fun e w' => ∃ a2 n2 c2, e = .returned (.tuple #[.agg (pkCells zeroH (.slice none 0 0) (.slice a2 n2 c2)), .int .i64 61]) ∧ SeesB w' (.slice a2 n2 c2) [] ∧ Below wr.heap.size wr w') := HFR.out 3 n (may_19 n h16) (by omega) (by omega) _ hbr

          go_upto_region 14 with fail
          go_wp2_with (first | (refine wpList_ld 29 ⟨w3.heap.size, 0, none⟩ (.tmp 11) rfl rfl HLR.out rfl ?_) | fail)
          refine HX.out.mono ?_
          rintro _ w5 ⟨a5, n5, c5, rfl, hs5, hb5⟩
          obtain ⟨pb, hpb⟩ : ∃ pb : Array Value, pb = pkCells zeroH (.slice none 0 0) (.slice a5 n5 c5) := ⟨_, rfl⟩
          obtain ⟨w6, hw6⟩ : ∃ w6, w6 = (w5.alloc (.cells zeroP 29)).setCells w5.heap.size 0 pb.toList := ⟨_, rfl⟩
          have HZB : Hid ((Tryd.prog.info? 29).map (·.size) = some pb.size) := by unfold Hid; rw [hpb]; exact size_pk
          have HOB : Hid (pb.all (·.oneCell') = true) := by unfold Hid; rw [hpb]; exact pk_one _ (sees_nil w5) hs5
          obtain ⟨htb, hb56, hrg6, hlt5⟩ : (w5.alloc (.cells zeroP 29)).there w5.heap.size 0 pb.size ∧ Below w5.heap.size w5 w6 ∧ w6.rangeAt w5.heap.size 0 pb.toList ∧ w5.heap.size < w6.heap.size := by
            have hn := new_put (u := w5) (T := 29) (Z := zeroP) (pa := pb) (by rw [hpb]; rfl)
            rw [← hw6] at hn
            exact ⟨new_there (by rw [hpb]; rfl), hn.below, hn.range, hn.lt⟩
          have HTB6 := hid htb
          have HLB := hid (load_range (T := 29) hrg6 und29 HZB.out)
          have HZS := hid (zeros_same w6 zeroH [] rfl _ (hs5.below hb56) pb hpb)
          have HW6 : Hid (w6 = (w5.alloc (.cells #[.int .u8 0, .int .u16 0, .bool false, .bool false, .int .i64 0, .int .u8 0, .int .u8 0, .int .u32 0, .int .u32 0, .slice none 0 0, .slice none 0 0] 29)).setCells w5.heap.size 0 pb.toList) := hw6
          have HB6 := hid (hbr.trans ((hb5.trans (hb56.mono hb5.size)).mono hbr.size))
          rw [← hpb]
          clear hpb hw6 hs5 hb5 hb56 hrg6 hlt5 htb HX HLR
          go_upto_region 15 with (first
            | (refine wpList_store_mid rfl 29 (.tmp 16) (.tmp 52) rfl w5.heap.size 0 pb rfl rfl HTB6.out HZB.out HOB.out ?_)
            | fail)
          rw [← HW6.out]
          go_wp2_with (first | (refine wpList_ld 29 ⟨w5.heap.size, 0, none⟩ (.tmp 16) rfl rfl HLB.out rfl ?_) | fail)
          refine HZS.out.mono ?_
          rintro _ w7 ⟨rfl, hb7⟩
          have hb47 := HB6.out.trans (hb7.mono HB6.out.size)
          clear hb7
          go_wp2_with fail
          go_roundw
          case rel => exact ⟨n + 1, w7, by go_num, by omega, rfl, hb47⟩
          case measure => simp [intOf]; omega
        · by_cases h18 : n < 18
          · have HX : Hid (Calls Tryd.prog 9 #[.agg pa, .int .u8 11, .int .u8 ((n : Int) - 16), .int .i64 0, .int .u32 167838209] wr fun e w' => ∃ a2 n2 c2, e = .returned (.tuple #[.agg (pkCells zeroH (.slice none 0 0) (.slice a2 n2 c2)), .int .i64 61]) ∧ SeesB w' (.slice a2 n2 c2) [] ∧ Below wr.heap.size wr w') := by
              have hm : mayT 11 (n - 16) 0 = true := by
                have : n - 16 = 0 ∨ n - 16 = 1 := by omega
                rcases this with e | e <;> rw [e] <;> decide
              have := HFR.out 11 (n - 16) hm (by omega) (by omega) _ hbr
              rw [show ((n - 16 : Nat) : Int) = (n : Int) - 16 by omega] at this
              exact this

            go_upto_region 14 with fail
            go_wp2_with (first | (refine wpList_ld 29 ⟨w3.heap.size, 0, none⟩ (.tmp 11) rfl rfl HLR.out rfl ?_) | fail)
            refine HX.out.mono ?_
            rintro _ w5 ⟨a5, n5, c5, rfl, hs5, hb5⟩
            obtain ⟨pb, hpb⟩ : ∃ pb : Array Value, pb = pkCells zeroH (.slice none 0 0) (.slice a5 n5 c5) := ⟨_, rfl⟩
            obtain ⟨w6, hw6⟩ : ∃ w6, w6 = (w5.alloc (.cells zeroP 29)).setCells w5.heap.size 0 pb.toList := ⟨_, rfl⟩
            have HZB : Hid ((Tryd.prog.info? 29).map (·.size) = some pb.size) := by unfold Hid; rw [hpb]; exact size_pk
            have HOB : Hid (pb.all (·.oneCell') = true) := by unfold Hid; rw [hpb]; exact pk_one _ (sees_nil w5) hs5
            obtain ⟨htb, hb56, hrg6, hlt5⟩ : (w5.alloc (.cells zeroP 29)).there w5.heap.size 0 pb.size ∧ Below w5.heap.size w5 w6 ∧ w6.rangeAt w5.heap.size 0 pb.toList ∧ w5.heap.size < w6.heap.size := by
              have hn := new_put (u := w5) (T := 29) (Z := zeroP) (pa := pb) (by rw [hpb]; rfl)
              rw [← hw6] at hn
              exact ⟨new_there (by rw [hpb]; rfl), hn.below, hn.range, hn.lt⟩
            have HTB6 := hid htb
            have HLB := hid (load_range (T := 29) hrg6 und29 HZB.out)
            have HZS := hid (zeros_same w6 zeroH [] rfl _ (hs5.below hb56) pb hpb)
            have HW6 : Hid (w6 = (w5.alloc (.cells #[.int .u8 0, .int .u16 0, .bool false, .bool false, .int .i64 0, .int .u8 0, .int .u8 0, .int .u32 0, .int .u32 0, .slice none 0 0, .slice none 0 0] 29)).setCells w5.heap.size 0 pb.toList) := hw6
            have HB6 := hid (hbr.trans ((hb5.trans (hb56.mono hb5.size)).mono hbr.size))
            rw [← hpb]
            clear hpb hw6 hs5 hb5 hb56 hrg6 hlt5 htb HX HLR
            go_upto_region 15 with (first
              | (refine wpList_store_mid rfl 29 (.tmp 16) (.tmp 52) rfl w5.heap.size 0 pb rfl rfl HTB6.out HZB.out HOB.out ?_)
              | fail)
            rw [← HW6.out]
            go_wp2_with (first | (refine wpList_ld 29 ⟨w5.heap.size, 0, none⟩ (.tmp 16) rfl rfl HLB.out rfl ?_) | fail)
            refine HZS.out.mono ?_
            rintro _ w7 ⟨rfl, hb7⟩
            have hb47 := HB6.out.trans (hb7.mono HB6.out.size)
            clear hb7
            go_wp2_with fail
            go_roundw
            case rel => exact ⟨n + 1, w7, by go_num, by omega, rfl, hb47⟩
            case measure => simp [intOf]; omega
          · have HX : Hid (Calls Tryd.prog 9 #[.agg pa, .int .u8 12, .int .u8 0, .int .i64 0, .int .u32 167838209] wr fun e w' => ∃ a2 n2 c2, e = .returned (.tuple #[.agg (pkCells zeroH (.slice none 0 0) (.slice a2 n2 c2)), .int .i64 61]) ∧ SeesB w' (.slice a2 n2 c2) [] ∧ Below wr.heap.size wr w') := HFR.out 12 0 (by decide) (by omega) (by omega) _ hbr

            go_upto_region 14 with fail
            go_wp2_with (first | (refine wpList_ld 29 ⟨w3.heap.size, 0, none⟩ (.tmp 11) rfl rfl HLR.out rfl ?_) | fail)
            refine HX.out.mono ?_
            rintro _ w5 ⟨a5, n5, c5, rfl, hs5, hb5⟩
            obtain ⟨pb, hpb⟩ : ∃ pb : Array Value, pb = pkCells zeroH (.slice none 0 0) (.slice a5 n5 c5) := ⟨_, rfl⟩
            obtain ⟨w6, hw6⟩ : ∃ w6, w6 = (w5.alloc (.cells zeroP 29)).setCells w5.heap.size 0 pb.toList := ⟨_, rfl⟩
            have HZB : Hid ((Tryd.prog.info? 29).map (·.size) = some pb.size) := by unfold Hid; rw [hpb]; exact size_pk
            have HOB : Hid (pb.all (·.oneCell') = true) := by unfold Hid; rw [hpb]; exact pk_one _ (sees_nil w5) hs5
            obtain ⟨htb, hb56, hrg6, hlt5⟩ : (w5.alloc (.cells zeroP 29)).there w5.heap.size 0 pb.size ∧ Below w5.heap.size w5 w6 ∧ w6.rangeAt w5.heap.size 0 pb.toList ∧ w5.heap.size < w6.heap.size := by
              have hn := new_put (u := w5) (T := 29) (Z := zeroP) (pa := pb) (by rw [hpb]; rfl)
              rw [← hw6] at hn
              exact ⟨new_there (by rw [hpb]; rfl), hn.below, hn.range, hn.lt⟩
            have HTB6 := hid htb
            have HLB := hid (load_range (T := 29) hrg6 und29 HZB.out)
            have HZS := hid (zeros_same w6 zeroH [] rfl _ (hs5.below hb56) pb hpb)
            have HW6 : Hid (w6 = (w5.alloc (.cells #[.int .u8 0, .int .u16 0, .bool false, .bool false, .int .i64 0, .int .u8 0, .int .u8 0, .int .u32 0, .int .u32 0, .slice none 0 0, .slice none 0 0] 29)).setCells w5.heap.size 0 pb.toList) := hw6
            have HB6 := hid (hbr.trans ((hb5.trans (hb56.mono hb5.size)).mono hbr.size))
            rw [← hpb]
            clear hpb hw6 hs5 hb5 hb56 hrg6 hlt5 htb HX HLR
            go_upto_region 15 with (first
              | (refine wpList_store_mid rfl 29 (.tmp 16) (.tmp 52) rfl w5.heap.size 0 pb rfl rfl HTB6.out HZB.out HOB.out ?_)
              | fail)
            rw [← HW6.out]
            go_wp2_with (first | (refine wpList_ld 29 ⟨w5.heap.size, 0, none⟩ (.tmp 16) rfl rfl HLB.out rfl ?_) | fail)
            refine HZS.out.mono ?_
            rintro _ w7 ⟨rfl, hb7⟩
            have hb47 := HB6.out.trans (hb7.mono HB6.out.size)
            clear hb7
            go_wp2_with fail
            go_roundw
            case rel => exact ⟨n + 1, w7, by go_num, by omega, rfl, hb47⟩
            case measure => simp [intOf]; omega
      · obtain rfl : n = 19 := by omega
        have HLR := hid (HLP.out _ hbr)
        have HX := hid (HEC.out _ hbr)
        obtain ⟨EH, EB⟩ := EP
        simp only at *
        go_upto_region 17 with fail
        go_wp2_with (first | (refine wpList_ld 29 ⟨w3.heap.size, 0, none⟩ (.tmp 11) rfl rfl HLR.out rfl ?_) | fail)
        refine HX.out.mono ?_
        rintro _ w5 ⟨a5, n5, c5, rfl, hs5, hb5⟩
        obtain ⟨pb, hpb⟩ : ∃ pb : Array Value, pb = pkCells EH (.slice none 0 0) (.slice a5 n5 c5) := ⟨_, rfl⟩
        have HZB : Hid ((Tryd.prog.info? 29).map (·.size) = some pb.size) := by unfold Hid; rw [hpb]; exact size_pk
        have HOB : Hid (pb.all (·.oneCell') = true) := by unfold Hid; rw [hpb]; exact pk_one _ (sees_nil w5) hs5
        have HTB6 : Hid ((w5.alloc (.cells zeroP 29)).there w5.heap.size 0 pb.size) := new_there (by rw [hpb]; rfl)
        have HB6 : Hid (Below w.heap.size w ((w5.alloc (.cells zeroP 29)).setCells w5.heap.size 0 pb.toList)) := by
          have hb46 := hbr.trans (hb5.mono hbr.size)
          have hbw5 := HBW4.out.trans (hb46.mono HBW4.out.size)
          exact below_setCells hbw5.size _ _ _ (hbw5.alloc hbw5.size _)
        rw [← hpb]
        clear hpb hs5 hb5 HX HLR
        unfold zeroP at HB6 HTB6
        go_wp2_with (first
          | (refine wpList_store_mid rfl 29 (.tmp 18) (.tmp 65) rfl w5.heap.size 0 pb rfl rfl HTB6.out HZB.out HOB.out ?_)
          | fail)
        generalize ((w5.alloc (.cells #[.int .u8 0, .int .u16 0, .bool false, .bool false, .int .i64 0, .int .u8 0, .int .u8 0, .int .u32 0, .int .u32 0, .slice none 0 0, .slice none 0 0] 29)).setCells w5.heap.size 0 pb.toList) = wf at HB6 ⊢
        go_ret
        exact ⟨rfl, HB6.out⟩
  · have HP0 := hid (HSAME.out (by rw [HPP.out, if_neg hq]))
    have hqq : (AE != 0) = true := by simp [hq]
    have HLR := hid (HLP.out _ (Below.refl _ _))
    go_wp2_with (first | (refine wpList_ld 29 ⟨w3.heap.size, 0, none⟩ (.tmp 11) rfl rfl HLR.out rfl ?_) | fail)
    refine HP0.out.mono ?_
    rintro _ w5 ⟨rfl, hb5⟩
    go_wp2_with fail
    go_ret
    exact ⟨rfl, HBW4.out.trans (hb5.mono HBW4.out.size)⟩
end Go.Proofs.YtcboenmmkaochaaDoor.N

namespace Go.Proofs.YtcboenmmkaochaaDoor.N
open Go.ChangeShapes Go.WideShapes Go.ChangeAt Go.RowKit
set_option maxHeartbeats 8000000
set_option maxRecDepth 100000

theorem small6_refE : refE small6 body6.length = 0 := by
  have h1 : M.area small6.opts = true := by decide +kernel
  unfold refE
  rw [if_pos h1, if_pos (by decide), if_pos (by decide)]

theorem small6_told : told small6 body6 = true := by decide +kernel

theorem small6_flt {t c : Nat} {a : Int} (h : mayT t c a = true) : fltE small6 body6 t c a 167838209 = 0 := by
  unfold fltE
  rw [h, gate_may.2, small6_refE, small6_told]
  rfl

theorem icmpNoStorm_walk (h : Hd) (vo vb : Value) (B : List Nat) (t c : Nat) (a : Int) (f : Nat) (w : World) (hok : h.Ok) (hvo : SeesB w vo h.opts) (hvb : SeesB w vb B) (hlo : h.opts.length ≤ 140737488355328) (hlb : B.length ≤ 140737488355328) (ht : t < 256) (hc : c < 256) (hf : f < 4294967296) (htC : Ad.TabC w) (htK : TabK w) :
    Calls Tryd.prog 4 #[.agg (pkCells h vo vb), .int .u8 (t : Int), .int .u8 (c : Int), .int .i64 a, .int .u32 (f : Int)] w fun e w' => e = .returned (.bool true) ∧ Below w.heap.size w w' := by
  obtain ⟨w1, hw1⟩ : ∃ w1, w1 = w.alloc (.cells (pkCells h vo vb) 29) := ⟨_, rfl⟩
  have hb1 : Below w.heap.size w w1 := by rw [hw1]; exact (Below.refl _ _).alloc (Nat.le_refl _) _
  have hs1 : w1.heap.size = w.heap.size + 1 := by rw [hw1]; simp
  have HLD : Hid (∀ u, Below w1.heap.size w1 u → (Instr.loadAt 29 (.pointer (some ⟨w.heap.size, 0, none⟩))).run Tryd.prog u = .ok (.agg (pkCells h vo vb)) u) := fun u hu => pk_load (t := 29) (by rw [hu.block _ (by omega), hw1]; exact heap_alloc_new w _)
  have HSM : Hid (∀ u, Calls Tryd.prog 8 #[] u fun e w' => ∃ v1 v2, e = .returned (.agg (pkCells small6 v1 v2)) ∧ SeesB w' v1 small6.opts ∧ SeesB w' v2 body6 ∧ Below u.heap.size u w') := fun u => (small_any u).mono fun e w' ⟨a1, n1, c1, a2, n2, c2, he, h1, h2, _, hb⟩ => ⟨_, _, he, h1, h2, hb⟩
  have HFT : Hid (∀ (u : World) (v1 v2 : Value), Below w1.heap.size w1 u → SeesB u v1 small6.opts → SeesB u v2 body6 → Calls Tryd.prog 9 #[.agg (pkCells small6 v1 v2), .int .u8 11, .int .u8 1, .int .i64 0, .int .u32 167838209] u fun e w' => ∃ a2 n2 c2, e = .returned (.tuple #[.agg (pkCells (fltP small6 body6 11 1 0 167838209).1 (.slice none 0 0) (.slice a2 n2 c2)), .int .i64 0]) ∧ SeesB w' (.slice a2 n2 c2) (fltP small6 body6 11 1 0 167838209).2 ∧ Below u.heap.size u w') := fun u v1 v2 hu h1 h2 =>
    (fault_any small6 v1 v2 body6 11 1 0 167838209 u small6_ok h1 h2 (by decide) (by decide) (by decide) (by decide) (by decide) ((htC.below hb1).below hu) ((htK.below hb1).below hu)).mono fun e w' ⟨a2, n2, c2, he, hs, _, hb⟩ => ⟨a2, n2, c2, by rw [he, small6_flt (by decide)], hs, hb⟩
  have HS1 : Hid (∀ (u : World) (v1 v2 : Value), Below w1.heap.size w1 u → SeesB u v1 small6.opts → SeesB u v2 body6 → Calls Tryd.prog 10 #[.agg (pkCells small6 v1 v2), .int .u8 11, .int .u8 1, .int .i64 0, .int .u32 167838209] u fun e w' => e = .returned (.bool true) ∧ Below u.heap.size u w') := fun u v1 v2 hu h1 h2 =>
    storm_any small6 v1 v2 body6 11 1 0 167838209 u small6_ok h1 h2 (by decide) (by decide) (by decide) (by decide) (by decide) ((htC.below hb1).below hu) ((htK.below hb1).below hu)
  have HS2 : Hid (∀ u, Below w1.heap.size w1 u → Calls Tryd.prog 10 #[.agg (pkCells h vo vb), .int .u8 (t : Int), .int .u8 (c : Int), .int .i64 a, .int .u32 (f : Int)] u fun e w' => e = .returned (.bool true) ∧ Below u.heap.size u w') := fun u hu =>
    storm_any h vo vb B t c a f u hok (hvo.below (hb1.trans (hu.mono hb1.size))) (hvb.below (hb1.trans (hu.mono hb1.size))) hlo hlb ht hc hf ((htC.below hb1).below hu) ((htK.below hb1).below hu)
  have HW1 := hid hw1
  have HB1 := hid hb1
  clear hw1 hb1 hs1 hvo hvb hok hlo hlb htC htK
  generalize fltP small6 body6 11 1 0 167838209 = AB at *
  obtain ⟨H, BD⟩ := AB
  simp only at *
  generalize pkCells h vo vb = pk at *
  go_enter Tryd.func4, Tryd.ntmps4
  go_upto_region 1 with fail
  rw [← HW1.out]
  go_wp2_with fail
  refine (HSM.out _).mono ?_
  rintro _ w2 ⟨v1, v2, rfl, ho, hbd, hb2⟩
  have HX := hid (HFT.out w2 _ _ hb2 ho hbd)
  generalize pkCells small6 v1 v2 = sk at *
  clear ho hbd
  go_wp2_with fail
  refine HX.out.mono ?_
  rintro _ w3 ⟨a3, n3, c3, rfl, hs3, hb3⟩
  obtain ⟨pb, hpb⟩ : ∃ pb : Array Value, pb = pkCells H (.slice none 0 0) (.slice a3 n3 c3) := ⟨_, rfl⟩
  have HZB : Hid ((Tryd.prog.info? 29).map (·.size) = some pb.size) := by unfold Hid; rw [hpb]; exact size_pk
  have HOB : Hid (pb.all (·.oneCell') = true) := by unfold Hid; rw [hpb]; exact pk_one _ (sees_nil w3) hs3
  have HTB6 : Hid ((w3.alloc (.cells zeroP 29)).there w3.heap.size 0 pb.size) := new_there (by rw [hpb]; rfl)
  obtain ⟨w4, hw4⟩ : ∃ w4, w4 = (w3.alloc (.cells zeroP 29)).setCells w3.heap.size 0 pb.toList := ⟨_, rfl⟩
  have hb13 := hb2.trans (hb3.mono hb2.size)
  have hb14 : Below w1.heap.size w1 w4 := by rw [hw4]; exact below_setCells hb13.size _ _ _ (hb13.alloc hb13.size _)
  have HB14 := hid hb14
  have HW4 : Hid (w4 = (w3.alloc (.cells #[.int .u8 0, .int .u16 0, .bool false, .bool false, .int .i64 0, .int .u8 0, .int .u8 0, .int .u32 0, .int .u32 0, .slice none 0 0, .slice none 0 0] 29)).setCells w3.heap.size 0 pb.toList) := hw4
  rw [← hpb]
  clear hpb hs3 hb3 hb2 hb13 hb14 hw4 HX HFT
  go_upto_region 2 with (first
    | (refine wpList_store_mid rfl 29 (.tmp 11) (.tmp 16) rfl w3.heap.size 0 pb rfl rfl HTB6.out HZB.out HOB.out ?_)
    | fail)
  rw [← HW4.out]
  go_wp2_with fail
  refine (HSM.out _).mono ?_
  rintro _ w5 ⟨v1', v2', rfl, ho, hbd, hb5⟩
  have hb15 := HB14.out.trans (hb5.mono HB14.out.size)
  have HX := hid (HS1.out w5 _ _ hb15 ho hbd)
  generalize pkCells small6 v1' v2' = sk2 at *
  clear ho hbd
  go_wp2_with fail
  refine HX.out.mono ?_
  rintro _ w6 ⟨rfl, hb6⟩
  have hb16 := hb15.trans (hb6.mono hb15.size)
  have HL6 := hid (HLD.out _ hb16)
  have HX2 := hid (HS2.out _ hb16)
  have HB16 := hid hb16
  clear hb5 hb6 hb15 hb16 HX HS1 HS2
  go_wp2_with (first | (refine wpList_ld 29 ⟨w.heap.size, 0, none⟩ (.tmp 5) rfl rfl HL6.out rfl ?_) | fail)
  refine HX2.out.mono ?_
  rintro _ w7 ⟨rfl, hb7⟩
  go_wp2_with fail
  go_ret
  exact ⟨rfl, HB1.out.trans ((HB16.out.trans (hb7.mono HB16.out.size)).mono HB1.out.size)⟩
end Go.Proofs.YtcboenmmkaochaaDoor.N
