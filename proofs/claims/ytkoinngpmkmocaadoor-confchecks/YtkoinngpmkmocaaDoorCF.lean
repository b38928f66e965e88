import Derived.Test.YtkoinngpmkmocaaDoorCE
namespace Go.Proofs.YtkoinngpmkmocaaDoor
open Go.ChangeShapes Go.WideShapes Go.ChangeAt Go.RowKit Go.Maps
set_option maxHeartbeats 400000
set_option maxRecDepth 100000

theorem Beh.three {w : World} {b : Nat} {x y z : Value} {T : TypeId} (h : w.heap[b]? = some (.cells #[x, y, z] T (0, 0))) :
    (∀ u : Beh w, u.wd.cell? ⟨b, 0, none⟩ = some x) ∧ (∀ u : Beh w, u.wd.cell? ⟨b, 1, none⟩ = some y) ∧ (∀ u : Beh w, u.wd.cell? ⟨b, 2, none⟩ = some z) := by
  have hlt : b < w.heap.size := (Array.getElem?_eq_some_iff.1 h).1
  refine ⟨fun u => ?_, fun u => ?_, fun u => ?_⟩ <;> (rw [cell_of_row _ _ _ _ _ _ ((u.ok.block b hlt).trans h)]; rfl)

set_option maxHeartbeats 8000000 in
theorem reservedFit_any (c : Cfg) (R : List Rsv) (w : World) (hs : SeesV w c.rv R) (hh : 1 ≤ c.hosts ∧ c.hosts ≤ 64) :
    Calls Tryd.prog 26 #[.agg c.cells] w fun e w' => e = .returned (.bool (resv c R)) ∧ Below w.heap.size w w' := by
  have hmm := @run_makeMap Tryd.prog
  obtain ⟨wc, hwc⟩ : ∃ wc, wc = w.alloc (.cells c.cells 29) := ⟨_, rfl⟩
  have hsc : wc.heap.size = w.heap.size + 1 := by rw [hwc]; simp
  have hb0 : Below w.heap.size w wc := by rw [hwc]; exact (Below.refl _ _).alloc (Nat.le_refl _) _
  have q := Cfg.at (w := w) c
  rw [← hwc] at q
  obtain ⟨ro, n, rc, hrv, HN, hn1, hn2⟩ := hs.shape
  have HSV := hid hs
  have s17 : wc.cell? ⟨w.heap.size, 17, none⟩ = some (.slice ro n rc) := by have := q ⟨wc, Below.refl _ _⟩ 17 (by omega); rw [← hrv]; exact this
  have HRV := hid hrv
  have HRS : Hid (resv c R = (List.range n).all (okAt c R)) := by unfold Hid resv; rw [HN.out]
  unfold maxLen at hn2
  have HWC := hid hwc
  have HSC := hid hsc
  have HB0 := hid hb0
  have h17 : (wc.alloc (.map #[] 0)).cell? ⟨w.heap.size, 17, none⟩ = some (.slice ro n rc) := by
    have hb : Below wc.heap.size wc (wc.alloc (.map #[] 0)) := (Below.refl _ _).alloc (Nat.le_refl _) _
    exact (hb.cell (p := ⟨w.heap.size, 17, none⟩) (by show w.heap.size < _; omega)).trans s17
  have h11 : ∀ u : Beh wc, u.wd.cell? ⟨w.heap.size, 11, none⟩ = some (.int .i64 c.hosts) := fun u => q u 11 (by omega)
  have h2 : ∀ u : Beh wc, u.wd.cell? ⟨w.heap.size, 2, none⟩ = some (.int .i64 c.slen) := fun u => q u 2 (by omega)
  have hql : ∀ u : Beh wc, (Instr.loadAt 29 (.pointer (some ⟨w.heap.size, 0, none⟩))).run Tryd.prog u.wd = .ok (.agg c.cells) u.wd := fun u => Cfg.load c (q u)
  have HQL := hid hql
  have H2 := hid h2
  have H11 := hid h11
  have HSUB : Hid (∀ (v : World) (a : Nat), a < 4294967296 → Calls Tryd.prog 50 #[.agg c.cells, .int .u32 (a : Int)] v fun e w' => e = .returned (.bool (sub c a)) ∧ Below v.heap.size v w') := fun v a ha => isSubnet_any c a v ha
  clear hwc hsc hb0 q hs hrv s17 h11 h2 hql
  generalize c.cells = cc at HWC HQL HSUB ⊢
  obtain ⟨u0, hu0⟩ : ∃ u0 : Beh wc, u0.wd = wc.alloc (.map #[] 0) := ⟨⟨_, (Below.refl _ _).alloc (Nat.le_refl _) _⟩, rfl⟩
  go_enter Tryd.func26, Tryd.ntmps26
  go_upto_region 1 with fail
  rw [← HWC.out]
  go_wp2_with fail
  have hm0 : (wc.alloc (.map #[] 0)).ownsMap Tryd.prog 24 (unitElem (H := Unit)) wc.heap.size 0 (.map []) := World.ownsMap_made _ _ _ _
  rw [← hu0] at hm0 ⊢
  have HU0 := hid hu0
  have HH := hid hh
  clear hu0 h17 hh
  obtain ⟨mb, hmb⟩ : ∃ mb, mb = wc.heap.size := ⟨_, rfl⟩
  rw [← hmb] at hm0
  have HMB := hid hmb
  obtain ⟨la, hla⟩ : ∃ la : Int, la = -1 := ⟨_, rfl⟩
  rw [show wc.heap.size = mb from hmb.symm]
  clear hmb hla la
  go_loopw [3, 13] (fun l i wr => ∃ (k : Nat) (u : Beh wc), l = .int .i64 (lastH R k) ∧ i = .int .i64 k ∧ k ≤ n ∧ wr = u.wd ∧ Hid (∀ j, j < k → okAt c R j = true) ∧ Hid (u.wd.ownsMap Tryd.prog 24 (unitElem (H := Unit)) mb k (seenOf R k))) (fun _ i _ => n - (intOf i).toNat)
  case atStart => exact ⟨0, u0, rfl, rfl, by omega, rfl, fun j hj => by omega, hm0⟩
  case round =>
    obtain ⟨k, u, rfl, rfl, hk, rfl, HJ, HM⟩ := hrel
    have HBU : Hid (Below w.heap.size w u.wd) := HB0.out.trans (u.ok.mono HB0.out.size)
    by_cases hkn : k < n
    case neg =>
      have HP : Hid (resv c R = true) := by unfold Hid; rw [HRS.out]; exact all_true fun h hh => HJ.out h (by omega)
      go_wp2_with fail
      go_ret
      exact ⟨ret_bool HP.out.symm, HBU.out⟩
    have hsv := HSV.out.below HBU.out
    rw [HRV.out] at hsv
    obtain ⟨g, off, ⟨host, ad, len⟩, rfl, hg, c0, c1, c2, had, HR⟩ := hsv.at k hkn
    simp only at c0 c1 c2 had
    have HRG : Hid (rg R k = (host, ad, len)) := rg_of HR.out
    have HOK : Hid (okAt c R k = (decide (lastH R k < host) && (decide (host < c.hosts) && (decide (len = c.slen) && (sub c ad && !((R.take k).map fun r => r.2.1).contains ad))))) := by
      have := okAt_iff HJ.out
      rw [HRG.out] at this; exact this
    have hle : -1 ≤ lastH R k := lastH_ge HJ.out
    have HAD := hid had
    obtain ⟨br, hbr⟩ : ∃ br, br = u.wd.heap.size := ⟨_, rfl⟩
    obtain ⟨w1, hw1⟩ : ∃ w1, w1 = u.wd.alloc (.cells #[.int .i64 host, .int .u32 (ad : Int), .int .i64 len] 63) := ⟨_, rfl⟩
    have hb1 : Below u.wd.heap.size u.wd w1 := by rw [hw1]; exact (Below.refl _ _).alloc (Nat.le_refl _) _
    have hlt1 : br < w1.heap.size := by rw [hw1, hbr]; simp
    have hbu1 : Below wc.heap.size wc w1 := u.ok.trans (hb1.mono u.ok.size)
    obtain ⟨t0, t1, t2⟩ := Beh.three (w := w1) (b := br) (x := .int .i64 host) (y := .int .u32 (ad : Int)) (z := .int .i64 len) (T := 63) (by rw [hw1, hbr]; exact heap_alloc_new u.wd _)
    have f11 : ∀ v : Beh w1, v.wd.cell? ⟨w.heap.size, 11, none⟩ = some (.int .i64 c.hosts) := fun v => H11.out ⟨v.wd, hbu1.trans (v.ok.mono hbu1.size)⟩
    have f2 : ∀ v : Beh w1, v.wd.cell? ⟨w.heap.size, 2, none⟩ = some (.int .i64 c.slen) := fun v => H2.out ⟨v.wd, hbu1.trans (v.ok.mono hbu1.size)⟩
    have fl : ∀ v : Beh w1, (Instr.loadAt 29 (.pointer (some ⟨w.heap.size, 0, none⟩))).run Tryd.prog v.wd = .ok (.agg cc) v.wd := fun v => HQL.out ⟨v.wd, hbu1.trans (v.ok.mono hbu1.size)⟩
    have HSB : Hid (∀ v : Beh w1, Calls Tryd.prog 50 #[.agg cc, .int .u32 (ad : Int)] v.wd fun e w' => e = .returned (.bool (sub c ad)) ∧ ∃ v' : Beh w1, w' = v'.wd) := fun v => Calls.beh (HSUB.out v.wd ad had)
    have hm1 : w1.ownsMap Tryd.prog 24 (unitElem (H := Unit)) mb k (seenOf R k) := by rw [hw1]; exact HM.out.alloc _
    have HMV : Hid (∀ v : Beh w1, v.wd.ownsMap Tryd.prog 24 (unitElem (H := Unit)) mb k (seenOf R k)) := fun v => hm1.kept (grown_of v.ok) (by simp)
    have HLT : Hid (∀ v : Beh w1, br < v.wd.heap.size) := fun v => Nat.lt_of_lt_of_le hlt1 v.ok.size
    have HBV : Hid (∀ v : Beh w1, Below w.heap.size w v.wd) := fun v => (HB0.out.trans (hbu1.mono HB0.out.size)).trans (v.ok.mono (HB0.out.trans (hbu1.mono HB0.out.size)).size)
    have HCV : Hid (∀ v : Beh w1, Below wc.heap.size wc v.wd) := fun v => hbu1.trans (v.ok.mono hbu1.size)
    have hkey : keyOf Tryd.prog 24 (.int .u32 (ad : Int)) = some (.int .u32 (ad : Int)) := keyOf_int_mk Tryd.underlying24 (u32_lit had)
    obtain ⟨v0, hv0⟩ : ∃ v0 : Beh w1, v0.wd = w1 := ⟨⟨w1, Below.refl _ _⟩, rfl⟩
    have HW1 := hid hw1
    have HV0 := hid hv0
    have HBR := hid hbr
    have HKEY := hid hkey
    have HLA : Hid (lastH R (k + 1) = host) := by unfold Hid lastH; rw [if_neg (by omega), Nat.add_sub_cancel, HRG.out]
    have HNO : Hid (okAt c R k = false → resv c R = false) := fun e => by rw [HRS.out]; exact all_false hkn e
    clear hw1 hv0 hbr hb1 hbu1 hm1 hlt1 hkey hsv had
    generalize lastH R k = la at HOK hle ⊢
    generalize sub c ad = bs at HSB HOK
    have HHAS : Hid (Maps.has (seenOf R k) (.int .u32 (ad : Int)) = ((R.take k).map fun r => r.2.1).contains ad) := has_seen R k ad
    generalize ((R.take k).map fun r => r.2.1).contains ad = bh at HOK HHAS
    go_upto_region 6 with fail
    rw [← HBR.out, ← HW1.out, ← HV0.out]
    by_cases g1 : host ≤ la
    · have HE : Hid (resv c R = false) := HNO.out (by rw [HOK.out, decide_eq_false (by omega)]; rfl)
      go_wp2_with fail
      go_ret
      exact ⟨ret_bool HE.out.symm, HBV.out v0⟩
    by_cases g2 : c.hosts ≤ host
    · have HE : Hid (resv c R = false) := HNO.out (by rw [HOK.out, decide_eq_false (p := host < c.hosts) (by omega)]; simp)
      go_wp2_with fail
      go_ret
      exact ⟨ret_bool HE.out.symm, HBV.out v0⟩
    by_cases g3 : len = c.slen
    case neg =>
      have HE : Hid (resv c R = false) := HNO.out (by rw [HOK.out, decide_eq_false (p := len = c.slen) g3]; simp)
      have g3' : (len != c.slen) = true := by simp [g3]
      go_wp2_with fail
      go_ret
      exact ⟨ret_bool HE.out.symm, HBV.out v0⟩
    have g3' : (len != c.slen) = false := by simp [g3]
    have HOK2 : Hid (okAt c R k = (bs && !bh)) := by unfold Hid; rw [HOK.out, decide_eq_true (p := la < host) (by omega), decide_eq_true (p := host < c.hosts) (by omega), decide_eq_true (p := len = c.slen) g3]; simp
    clear g3 HOK
    go_wp2_with (first | (refine wpList_cfg w.heap.size (.tmp 1) rfl rfl (fl _) rfl ?_) | fail)
    refine (HSB.out v0).mono ?_
    rintro _ _ ⟨rfl, v1, rfl⟩
    have l1 := HLT.out v1
    cases bs
    · have HE : Hid (resv c R = false) := HNO.out (by rw [HOK2.out]; rfl)
      go_wp2_with fail
      go_ret
      exact ⟨ret_bool HE.out.symm, HBV.out v1⟩
    have hmv := HMV.out v1
    have HL1 : Hid (k < maxLen) := by unfold Hid maxLen; omega
    cases bh
    · have hhas : Maps.has (seenOf R k) (.int .u32 (ad : Int)) = false := HHAS.out
      go_wp2_with (first
        | (at_lookup; refine wpList_lookup_own_unit _ rfl _ _ 103 rfl 24 104 law24 Tryd.underlying103 (zero104 _) mb k _ rfl hmv _ _ rfl HKEY.out ?_; rw [hhas])
        | (at_mapUpdate; refine wpList_mapUpdate_own _ rfl _ _ _ 103 rfl 24 104 law24 Tryd.underlying103 (unitElem (H := Unit)) mb k _ rfl (hmv.alloc _) HL1.out _ _ _ rfl rfl HKEY.out _ [] unitElem_mk ?_; intro w5 hown5 hgrow5)
        | fail)
      have hcv := HCV.out v1
      have hca : Below wc.heap.size wc (v1.wd.alloc (.cells #[] 104)) := hcv.alloc hcv.size _
      have hc5 : Below wc.heap.size wc w5 := hca.grown hgrow5 hca.size fun j hj => by cases hj; exact Nat.le_of_eq HMB.out.symm
      have HOKK : Hid (∀ j, j < k + 1 → okAt c R j = true) := fun j hj => if e : j = k then by rw [e, HOK2.out]; rfl else HJ.out j (by omega)
      have HM5 : Hid (w5.ownsMap Tryd.prog 24 (unitElem (H := Unit)) mb (k + 1) (seenOf R (k + 1))) := by unfold Hid; rw [seen_snoc HR.out]; exact hown5
      clear hown5 hgrow5 hmv hca hcv
      go_roundw
      case rel => exact ⟨k + 1, ⟨w5, hc5⟩, by rw [HLA.out], by go_num, by omega, rfl, HOKK, HM5⟩
      case measure => simp [intOf]; omega
    · have hhas : Maps.has (seenOf R k) (.int .u32 (ad : Int)) = true := HHAS.out
      have HE : Hid (resv c R = false) := HNO.out (by rw [HOK2.out]; rfl)
      go_wp2_with (first
        | (at_lookup; refine wpList_lookup_own_unit _ rfl _ _ 103 rfl 24 104 law24 Tryd.underlying103 (zero104 _) mb k _ rfl hmv _ _ rfl HKEY.out ?_; rw [hhas])
        | fail)
      go_ret
      have hb9 := HBV.out v1
      exact ⟨ret_bool HE.out.symm, hb9.alloc hb9.size _⟩
end Go.Proofs.YtkoinngpmkmocaaDoor
