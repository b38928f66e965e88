import Derived.Test.YthpokoiclfbddaaDoorYNqN
namespace Go.Proofs.YthpokoiclfbddaaDoor.Nq
open Go.Proofs.YthpokoiclfbddaaDoor Go.ChangeShapes Go.WideShapes Go.ChangeAt Go.RowKit Go.Maps Fl
open Go.Proofs.YthpokoiclfbddaaDoor.N hiding But But.set But.of_below But.refl But.trans But.below But.drew wpList_ld
open Go.Shelf
set_option maxHeartbeats 2000000
set_option maxRecDepth 100000

theorem kp_below {S : Nat → Prop} {a b : World} (h : Me.Keeps S a b) {B : Nat} {a0 : World} (h0 : Below B a0 a) (hs : ∀ k, S k → B ≤ k) (hB : B ≤ a0.heap.size) : Below B a0 b :=
  ⟨h.os.trans h0.os, h.tape.trans h0.tape, h.output.trans h0.output, Nat.le_trans h0.size h.size, fun k hk => (h.block k (Nat.lt_of_lt_of_le hk (Nat.le_trans hB h0.size)) fun e => by have := hs k e; omega).trans (h0.block k hk)⟩
theorem ex_bslice {P : Program} {o : Oper} {a : Act} {w w' : World} {v : Value} (T : TypeId) (n : Nat) (xs : Array (Nat × Operand)) (vs : Array (Nat × Value)) (hxs : o.op = .buildSlice T n xs) (hv : xs.map (fun p => (p.1, a.eval p.2)) = vs) (hr : (Instr.buildSlice T n vs).run P w = .ok v w') : (execOp a.eval o).run P w = .ok (.value v) w' := by
  unfold execOp
  simp only [hxs, hv, Sem.run_bind, hr, Result.andThen_ok, Sem.run_pure]
theorem wpList_valw {ops : Array Oper} {Q : Exit → Act → World → Prop} {a : Act} {w w1 : World} {rest : List Oper} {o : Oper} {v : Value} (hr : (execOp a.eval o).run Tryd.prog w = .ok (.value v) w1)
    (hw : Region.wanted o (yielded ops a.tmps) = true) (h : wpList Tryd.prog ops Q rest (a.put o.dst v) w1) : wpList Tryd.prog ops Q (o :: rest) a w := by
  refine wpList_step fun K hK => ?_
  rw [if_pos hw]
  unfold Oper.wp
  rw [hr]
  exact hK _ _ h

def lkL : List Bd := [⟨168100354, 8080⟩, ⟨168100355, 8080⟩, ⟨168100610, 8080⟩]
def lkC : Array Value := #[.int .u32 168100354, .int .u16 8080, .int .u32 168100355, .int .u16 8080, .int .u32 168100610, .int .u16 8080]
def pkT : Tu := ⟨168100098, 174063617, 17, 4000, 80⟩
theorem build_pt (u : World) : (Instr.build 38 #[(0, .int .u32 168100098), (1, .int .u32 174063617), (2, .int .u8 17), (3, .int .u16 4000), (4, .int .u16 80)]).run Tryd.prog u = .ok (.agg pkT.cells) u := by kernel_rfl
theorem build3K (u : World) : (Instr.buildSlice 39 3 #[(0, .agg #[.int .u32 168100354, .int .u16 8080]), (1, .agg #[.int .u32 168100355, .int .u16 8080]), (2, .agg #[.int .u32 168100610, .int .u16 8080])]).run Tryd.prog u = .ok (.slice (some ⟨u.heap.size, 0, none⟩) 3 3) (u.alloc (.cells lkC 53)) := by kernel_rfl
theorem build10 (u : World) : (Instr.buildSlice 32 10 #[(0, .int .u8 15), (1, .int .u8 160), (2, .int .u8 31), (3, .int .u8 144), (4, .int .u8 0), (5, .int .u8 10), (6, .int .u8 81), (7, .int .u8 51), (8, .int .u8 104), (9, .int .u8 105)]).run Tryd.prog u = .ok (.slice (some ⟨u.heap.size, 0, none⟩) 10 10) (u.alloc (.cells (bs tgB).toArray 5)) := by kernel_rfl
theorem lk_sees {u : World} {g : Nat} (h : u.heap[g]? = some (.cells lkC 53 (0, 0))) : SeesK u (.slice (some ⟨g, 0, none⟩) 3 3) lkL := by
  refine ⟨_, 3, rfl, by decide, by decide, fun j hj => ⟨g, 0, rfl, (Array.getElem?_eq_some_iff.1 h).1, ?_⟩⟩
  rw [cell_of_row _ _ _ _ _ _ h, cell_of_row _ _ _ _ _ _ h]
  have hj3 : j < 3 := hj
  match j, hj3 with
  | 0, _ => exact ⟨rfl, rfl, (show Bd.Ok ⟨168100354, 8080⟩ from ⟨by decide, by decide⟩)⟩
  | 1, _ => exact ⟨rfl, rfl, (show Bd.Ok ⟨168100355, 8080⟩ from ⟨by decide, by decide⟩)⟩
  | 2, _ => exact ⟨rfl, rfl, (show Bd.Ok ⟨168100610, 8080⟩ from ⟨by decide, by decide⟩)⟩
theorem dgH_ok : dgH.Ok := by constructor <;> decide
theorem svT_ok : svT.Ok := by constructor <;> decide
theorem pkT_ok : pkT.Ok := by constructor <;> decide
theorem pick_first : pickN pkT lkL = 2 ∧ pickE lkL = 0 := by decide +kernel
theorem tr_first : trE dgH dgB svT = 0 := by decide +kernel
theorem tr_firstB : trB dgH dgB svT = tgB := by decide +kernel
theorem tr_firstH : trH dgH dgB svT = hdU dgH 168100098 168100354 := by unfold trH; rw [if_pos tr_first]; rfl

def T0 : Nat → List Nat := fun _ => []
def T1 : Nat → List Nat := updT T0 17 [6]
def T2 : Nat → List Nat := updT T1 17 [6, 5]
/-- A take, as the example asks it. -/
theorem tak_1 {w w' : World} {b : Nat} {F : Nat → Prop} {e : Ending} (h : TakR w b 5 6 T0 F 17 6 e w') : e = .returned (.tuple #[.int .u16 6, .int .i64 0]) ∧ StPD w w' b 5 6 T1 F := by
  rcases h with ⟨q, he, h1, h2, h3, h4, h5⟩ | ⟨-, h1, -⟩
  · have hq : q = 6 := by
      rcases h4 with ⟨a, -⟩ | ⟨-, a, -⟩
      · have : stt 5 6 6 = 6 := by decide
        omega
      · have := a 6 (by decide) (by decide)
        cases this
    subst hq
    exact ⟨he, h5⟩
  · have := h1 5 (by decide) (by decide)
    cases this
theorem tak_2 {w w' : World} {b : Nat} {F : Nat → Prop} {e : Ending} (h : TakR w b 5 6 T1 F 17 6 e w') : e = .returned (.tuple #[.int .u16 5, .int .i64 0]) ∧ StPD w w' b 5 6 T2 F := by
  have e1 : T1 17 = [6] := rfl
  rcases h with ⟨q, he, h1, h2, h3, h4, h5⟩ | ⟨-, h1, -⟩
  · have hq : q = 5 := by
      rw [e1] at h1
      simp at h1
      omega
    subst hq
    refine ⟨he, ?_⟩
    have e2 : updT T1 17 (T1 17 ++ [5]) = T2 := rfl
    rw [← e2]; exact h5
  · have := h1 5 (by decide) (by decide)
    rw [e1] at this
    simp at this
theorem tak_3 {w w' : World} {b : Nat} {F : Nat → Prop} {e : Ending} (h : TakR w b 5 6 T2 F 17 6 e w') : e = .returned (.tuple #[.int .u16 0, .int .i64 231]) ∧ StPD w w' b 5 6 T2 F := by
  have e1 : T2 17 = [6, 5] := rfl
  rcases h with ⟨q, he, h1, h2, h3, h4, h5⟩ | ⟨he, h1, h2⟩
  · rw [e1] at h1
    simp at h1
    omega
  · exact ⟨he, h2⟩

theorem first_any (w : World) (hT : TabAt 0 Lib.deBruijn64tab w) (hl : 0 < w.heap.size) :
    Calls Tryd.prog 7 #[] w fun e w' => e = .returned (.bool true) ∧ Below w.heap.size w w' := by
  have HT := hid (And.intro hT hl)
  have HZC : Hid (#[.int .u8 0, .int .u16 0, .bool false, .bool false, .int .i64 0, .int .u8 0, .int .u8 0, .int .u32 0, .int .u32 0, .slice none 0 0, .slice none 0 0] = pkCells nzH (.slice none 0 0) (.slice none 0 0)) := rfl
  clear hT hl
  go_enter Tryd.func7, Tryd.ntmps7
  go_upto_region 1 with fail
  go_wp2_with fail
  refine (datagram_any w).mono ?_
  rintro _ wa ⟨vb, rfl, hv, hba⟩
  obtain ⟨ao, cap, hvs, hvr⟩ := hv
  subst hvs
  have HV : Hid (SeesB wa (.slice ao dgB.length cap) dgB) := ⟨ao, cap, rfl, hvr⟩
  have HBA := hid hba
  clear hvr hba
  rw [show dgB.length = 10 from rfl] at HV ⊢
  go_wp2_with fail
  refine (service_any wa).mono ?_
  rintro _ wb ⟨rfl, hbb⟩
  have HTR := hid (turn_any dgH (.slice none 0 0) (.slice ao 10 cap) dgB svT wb dgH_ok svT_ok ⟨none, 0, rfl, ⟨by decide, fun _ => rfl⟩, by decide, fun j hj => absurd hj (by simp [dgH])⟩ (HV.out.below hbb) (by decide) (by decide))
  rw [tr_first, tr_firstB, tr_firstH] at HTR
  have HBB := hid (HBA.out.trans (hbb.mono HBA.out.size))
  clear hbb
  go_wp2_with fail
  refine HTR.out.mono ?_
  rintro _ wc ⟨vo', vb', rfl, ⟨ao1, cap1, hvs1, hvr1⟩, ⟨ao2, cap2, hvs2, hvr2⟩, hbc⟩
  subst hvs1 hvs2
  have HV2 : Hid (SeesB wc (.slice ao2 tgB.length cap2) tgB) := ⟨ao2, cap2, rfl, hvr2⟩
  have HBC := hid (HBB.out.trans (hbc.mono HBB.out.size))
  clear hvr1 hvr2 hbc HTR HBB HBA HV
  rw [show tgB.length = 10 from rfl, show (hdU dgH 168100098 168100354).opts.length = 0 from rfl] at *
  obtain ⟨g1, HG1⟩ : ∃ g, Hid (g = wc.heap.size) := ⟨_, rfl⟩
  have HN1 : Hid ((wc.alloc (.cells #[.int .u8 0, .int .u16 0, .bool false, .bool false, .int .i64 0, .int .u8 0, .int .u8 0, .int .u32 0, .int .u32 0, .slice none 0 0, .slice none 0 0] 36)).heap[wc.heap.size]? = some (.cells (pkCells nzH (.slice none 0 0) (.slice none 0 0)) 36 (0, 0))) := heap_alloc_new _ _
  have hbal : Below wc.heap.size wc (wc.alloc (.cells #[.int .u8 0, .int .u16 0, .bool false, .bool false, .int .i64 0, .int .u8 0, .int .u8 0, .int .u32 0, .int .u32 0, .slice none 0 0, .slice none 0 0] 36)) := (Below.refl _ _).alloc (Nat.le_refl _) _
  have HBAL := hid hbal
  clear hbal
  go_upto_region 2 with (first | (refine wpList_st rfl 36 (.tmp 1) (.tmp 18) rfl wc.heap.size (pkCells (hdU dgH 168100098 168100354) (.slice ao1 0 cap1) (.slice ao2 10 cap2)) rfl rfl _ (pkCells nzH (.slice none 0 0) (.slice none 0 0)) HN1.out (by kernel_rfl) rfl (pk_oneq _ _ _ _ _ _ _) ?_; intro wd hwd hbutd) | fail)
  have hbd : Below wc.heap.size wc wd := hbutd.below HBAL.out HBAL.out.size (Nat.le_refl _)
  have HVD := hid (HV2.out.below hbd)
  have HBD := hid (HBC.out.trans (hbd.mono HBC.out.size))
  have d8 : wd.cell? ⟨wc.heap.size, 8, none⟩ = some (.int .u32 168100354) := by rw [cell_of_row _ _ _ _ _ _ hwd]; rfl
  have d10 : wd.cell? ⟨wc.heap.size, 10, none⟩ = some (.slice ao2 10 cap2) := by rw [cell_of_row _ _ _ _ _ _ hwd]; rfl
  obtain ⟨we, HWE⟩ : ∃ we, Hid (we = wd.alloc (.cells (bs tgB).toArray 5)) := ⟨_, rfl⟩
  have hbe : Below wd.heap.size wd we := by rw [HWE.out]; exact (Below.refl _ _).alloc (Nat.le_refl _) _
  have ho : OwnB we wd.heap.size (.slice (some ⟨wd.heap.size, 0, none⟩) 10 10) tgB := by rw [HWE.out]; exact own_made wd _ tgB (Nat.le_refl _) (by decide)
  have HSM := hid (same_any (.slice ao2 10 cap2) (.slice (some ⟨wd.heap.size, 0, none⟩) 10 10) tgB we (HVD.out.below hbe) (ho.sees (by decide)) (by decide))
  have HBE := hid (HBD.out.trans (hbe.mono HBD.out.size))
  have HCT : Hid ((#[.int .u8 15, .int .u8 160, .int .u8 31, .int .u8 144, .int .u8 0, .int .u8 10, .int .u8 81, .int .u8 51, .int .u8 104, .int .u8 105] : Array Value) = (bs tgB).toArray) := rfl
  clear hbe ho hwd hbutd hbd HV2 HBC HBAL HN1 HVD HBD HG1
  generalize wc.heap.size = gp at *
  go_wp2_with fail
  rw [HCT.out, ← HWE.out]
  refine HSM.out.mono ?_
  rintro _ wf ⟨rfl, hbf⟩
  have HBF := hid (HBE.out.trans (hbf.mono HBE.out.size))
  clear hbf HSM HWE HBE d8 d10
  go_upto_region 5 with (first | (refine wpList_valw (ex_bslice 39 3 _ #[(0, .agg #[.int .u32 168100354, .int .u16 8080]), (1, .agg #[.int .u32 168100355, .int .u16 8080]), (2, .agg #[.int .u32 168100610, .int .u16 8080])] rfl (by simp only [List.map_toArray, List.map_cons, List.map_nil]; rfl) (build3K _)) rfl ?_) | fail)
  obtain ⟨wg', HWG⟩ : ∃ x, Hid (x = wf.alloc (.cells lkC 53)) := ⟨_, rfl⟩
  rw [← HWG.out]
  have hbg : Below wf.heap.size wf wg' := by rw [HWG.out]; exact (Below.refl _ _).alloc (Nat.le_refl _) _
  have HBG := hid (HBF.out.trans (hbg.mono HBF.out.size))
  have HPK := hid (pick_any pkT (.slice (some ⟨wf.heap.size, 0, none⟩) 3 3) lkL wg' pkT_ok (lk_sees (by rw [HWG.out]; exact heap_alloc_new _ _)))
  rw [pick_first.1, pick_first.2] at HPK
  clear hbg HBF HWG
  go_wp2_with (first | (refine wpList_val (ex_build 38 _ #[(0, .int .u32 168100098), (1, .int .u32 174063617), (2, .int .u8 17), (3, .int .u16 4000), (4, .int .u16 80)] _ rfl rfl (build_pt _)) rfl ?_) | fail)
  refine HPK.out.mono ?_
  rintro _ wh ⟨rfl, hbh⟩
  have HBH := hid (HBG.out.trans (hbh.mono HBG.out.size))
  have HNW := hid (new_any 5 6 wh (by decide) (by decide))
  clear hbh HPK HBG
  go_wp2_with fail
  refine HNW.out.mono ?_
  rintro e wi ⟨hnew, hbi⟩
  rw [if_neg (by decide)] at hnew
  obtain ⟨pb, F, rfl, hst, hF⟩ := hnew
  have HBI := hid (HBH.out.trans (hbi.mono HBH.out.size))
  have hlow : ∀ k, F k → w.heap.size ≤ k := fun k hk => Nat.le_trans HBH.out.size (hF k hk)
  have HTI : Hid (∀ (u : World) (F' : Nat → Prop), Below w.heap.size w u → (∀ k, F' k → w.heap.size ≤ k) → TabAt 0 Lib.deBruijn64tab u ∧ 0 < u.heap.size ∧ ¬ F' 0) := fun u F' hu hf => ⟨tab_at HT.out.1 (hu.block _ HT.out.2), Nat.lt_of_lt_of_le HT.out.2 hu.size, fun e => by have := hf _ e; have := HT.out.2; omega⟩
  obtain ⟨t1, t2, t3⟩ := HTI.out wi F HBI.out hlow
  have HK1 := hid (take_any pb 5 6 17 6 T0 F wi hst (by decide) (by decide) t1 t2 t3)
  have HLOW := hid hlow
  clear hst hF hbi HNW t1 t2 t3 hlow HBH
  go_wp2_with fail
  refine HK1.out.mono ?_
  rintro e wj htk
  obtain ⟨rfl, F1, hs1, hf1, hk1⟩ := tak_1 htk
  have HBJ := hid (kp_below hk1 HBI.out HLOW.out (Nat.le_refl _))
  have hlow1 : ∀ k, F1 k → w.heap.size ≤ k := fun k hk => by
    rcases hf1 k hk with e | e
    · exact HLOW.out k e
    · exact Nat.le_trans HBI.out.size e
  obtain ⟨t1, t2, t3⟩ := HTI.out wj F1 HBJ.out hlow1
  have HK2 := hid (take_any pb 5 6 17 6 T1 F1 wj hs1 (by decide) (by decide) t1 t2 t3)
  have HLOW1 := hid hlow1
  clear htk hs1 hf1 hk1 t1 t2 t3 hlow1 HK1
  go_wp2_with fail
  refine HK2.out.mono ?_
  rintro e wk htk
  obtain ⟨rfl, F2, hs2, hf2, hk2⟩ := tak_2 htk
  have HBK := hid (kp_below hk2 HBJ.out HLOW1.out (Nat.le_refl _))
  have hlow2 : ∀ k, F2 k → w.heap.size ≤ k := fun k hk => by
    rcases hf2 k hk with e | e
    · exact HLOW1.out k e
    · exact Nat.le_trans HBJ.out.size e
  obtain ⟨t1, t2, t3⟩ := HTI.out wk F2 HBK.out hlow2
  have HK3 := hid (take_any pb 5 6 17 6 T2 F2 wk hs2 (by decide) (by decide) t1 t2 t3)
  have HLOW2 := hid hlow2
  clear htk hs2 hf2 hk2 t1 t2 t3 hlow2 HK2
  go_wp2_with fail
  refine HK3.out.mono ?_
  rintro e wl htk
  obtain ⟨rfl, F3, hs3, hf3, hk3⟩ := tak_3 htk
  have HBL := hid (kp_below hk3 HBK.out HLOW2.out (Nat.le_refl _))
  have HN1 := hid (taken_any pb 5 6 17 T2 F3 wl hs3 (by decide))
  have HN2 := hid (taken_any pb 5 6 6 T2 F3 wl hs3 (by decide))
  rw [show (T2 17).length = 2 from rfl] at HN1
  rw [show (T2 6).length = 0 from rfl] at HN2
  clear htk hs3 hf3 hk3 HK3
  go_wp2_with fail
  refine HN1.out.mono ?_
  rintro _ wm ⟨rfl, rfl⟩
  go_wp2_with fail
  refine HN2.out.mono ?_
  rintro _ wn ⟨rfl, rfl⟩
  go_wp2_with fail
  go_ret
  exact ⟨rfl, HBL.out⟩
end Go.Proofs.YthpokoiclfbddaaDoor.Nq
