import Derived.Test.YtkoinngpmkmocaaDoorCL
import Derived.Deep.RegionHeld3
import Derived.Deep.DrawnRows
namespace Go.Proofs.YtkoinngpmkmocaaDoor
open Go.ChangeShapes Go.WideShapes Go.ChangeAt Go.RowKit Go.Maps
set_option maxHeartbeats 400000
set_option maxRecDepth 100000
attribute [local go_sem ↓] Go.wp_at_zero Go.wp_at_succ

/-- The slice value v shows, in the world w, the configurations L. -/
def SeesC (w : World) (v : Value) (L : List (Cfg × List Rsv)) : Prop :=
  ∃ ao cap, v = .slice ao L.length cap ∧ L.length ≤ cap ∧ cap ≤ maxLen ∧
    ∀ j (h : j < L.length), (SeesV w L[j].1.rv L[j].2 ∧ (L[j].2.length + 2) * 24 ≤ 140737488355328) ∧ ∃ g off, ao = some ⟨g, off, none⟩ ∧ g < w.heap.size ∧ ∀ i (hi : i < 18), w.cell? ⟨g, off + j * 18 + i, none⟩ = some (L[j].1.cells[i]'hi)

theorem range_load {w : World} {b o : Nat} {cs : List Value} (h : w.rangeAt b o cs) (hl : cs.length = 18) : (Instr.loadAt 29 (.pointer (some ⟨b, o, none⟩))).run Tryd.prog w = .ok (.agg cs.toArray) w := by
  obtain ⟨fs, hu⟩ := und29
  exact run_loadAt_mid w b o 29 cs (.struct fs) h hu rfl (by rw [show (Tryd.prog.info? 29).map (·.size) = some 18 from by kernel_rfl, hl])

theorem wpList_cfg' {P : Program} {ops : Array Oper} {Q : Exit → Act → World → Prop} {a : Act} {w : World} {rest : List Oper} {o : Oper} {v : Value} (p : Addr) (x : Operand) (ho : o.op = .load 29 x) (hx : a.eval x = .pointer (some p))
    (hr : (Instr.loadAt 29 (.pointer (some p))).run P w = .ok v w) (hw : Region.wanted o (yielded ops a.tmps) = true) (h : wpList P ops Q rest (a.put o.dst v) w) : wpList P ops Q (o :: rest) a w := by
  refine wpList_step fun K hK => ?_
  rw [if_pos hw]
  unfold Oper.wp execOp
  simp only [ho, hx, Sem.run_bind, hr, Result.andThen_ok, Sem.run_pure]
  exact hK _ _ h

theorem range_below {w w' : World} {b o : Nat} {cs : List Value} (h : w.rangeAt b o cs) (hb : Below w.heap.size w w') : w'.rangeAt b o cs := fun j v hv => by
  have := h j v hv
  exact (hb.cell (p := ⟨b, o + j, none⟩) (World.block_lt_of_cell? w _ this)).trans this

theorem cells_len (c : Cfg) : c.cells.toList.length = 18 := rfl
theorem cells_one (c : Cfg) (g n cap : Nat) (h : c.rv = .slice (some ⟨g, 0, none⟩) n cap) : c.cells.all (·.oneCell') = true := by
  unfold Cfg.cells; rw [h]; simp [Value.oneCell']
theorem cells_one' (c : Cfg) (a : Option Addr) (n cap : Nat) (h : c.rv = .slice a n cap) : ∀ v ∈ c.cells.toList, v.oneCell' = true := by
  unfold Cfg.cells; rw [h]; simp [Value.oneCell']

theorem ans_rv (c : Cfg) (v : Value) (R : List Rsv) : ans { c with rv := v } R = ans c R := rfl

theorem quiet_cfg {P : Program} {C : World → Prop} {a : Act} {o : Oper} {K : Act → Prop} {v : Value} (p : Addr) (x : Operand) (ho : o.op = .load 29 x) (hx : a.eval x = .pointer (some p))
    (hr : ∀ w, C w → (Instr.loadAt 29 (.pointer (some p))).run P w = .ok v w) (hk : K (a.put o.dst v)) : o.quiet P a C K := by
  refine ⟨v, fun w hw => ?_, hk⟩
  unfold Oper.quietAt execOp
  simp only [ho, hx, Sem.run_bind, hr w hw, Result.andThen_ok, Sem.run_pure]
  exact ⟨rfl, rfl⟩

theorem wpQuiet_cfg {P : Program} {ops : Array Oper} {C : World → Prop} {Q : Act → Prop} {a : Act} {o : Oper} {rest : List Oper} {v : Value} (p : Addr) (x : Operand) (ho : o.op = .load 29 x) (hx : a.eval x = .pointer (some p))
    (hr : ∀ w, C w → (Instr.loadAt 29 (.pointer (some p))).run P w = .ok v w) (hw : Region.wanted o (yielded ops a.tmps) = true) (h : wpQuiet P ops C Q rest (a.put o.dst v)) : wpQuiet P ops C Q (o :: rest) a :=
  wpQuiet_step fun K hK => by rw [if_pos hw]; exact quiet_cfg p x ho hx hr (hK _ h)

set_option maxHeartbeats 8000000 in
theorem confChecks_walk (v : Value) (L : List (Cfg × List Rsv)) (w : World) (hs : SeesC w v L) (ht : TabC w) :
    Calls Tryd.prog 3 #[v] w fun e w' => e = .returned (.bool true) ∧ Below w.heap.size w w' := by
  obtain ⟨ao, cap, rfl, hnc, hcap, hcell⟩ := hs
  have HC := hid hcell
  have HTB := hid ht
  obtain ⟨n, hn⟩ : ∃ n, n = L.length := ⟨_, rfl⟩
  rw [← hn] at hnc ⊢
  have HN := hid hn
  unfold maxLen at hcap
  clear hcell ht hn
  go_enter Tryd.func3, Tryd.ntmps3
  go_wp2_with fail
  go_loopw [3] (fun i wv => ∃ (j : Nat) (wr : World), i = .int .i64 j ∧ j ≤ n ∧ wr = wv ∧ Below w.heap.size w wr) (fun i _ => n - (intOf i).toNat)
  case atStart => exact ⟨0, _, rfl, by omega, rfl, Below.refl _ _⟩
  case round =>
    obtain ⟨j, wr, rfl, hj, rfl, hbr⟩ := hrel
    by_cases hjn : j < n
    case neg =>
      go_wp2_with fail
      go_ret
      exact ⟨rfl, hbr⟩
    obtain ⟨⟨hsv0, hbig⟩, g, off, rfl, hg, hc⟩ := HC.out j (by have := HN.out; omega)
    generalize L[j]'(by have := HN.out; omega) = cR at hsv0 hbig hc
    obtain ⟨c, R⟩ := cR
    simp only at hsv0 hbig hc
    have hsv := hsv0.below hbr
    have hrange : w.rangeAt g (off + j * 18) c.cells.toList := fun i u hu => by
      have hi : i < 18 := (List.getElem?_eq_some_iff.1 hu).1
      rw [hc i hi]
      rw [List.getElem?_eq_getElem hi] at hu
      exact hu
    have hr0 := range_below hrange hbr
    have HR0 : Hid (∀ u, Below wr.heap.size wr u → u.rangeAt g (off + j * 18) c.cells.toList) := fun u hb => range_below hr0 hb
    have HLD0 : Hid (∀ u, Below wr.heap.size wr u → (Instr.loadAt 29 (.pointer (some ⟨g, off + j * 18, none⟩))).run Tryd.prog u = .ok (.agg c.cells) u) := fun u hb => range_load (HR0.out u hb) (cells_len c)
    have HSV := hid hsv
    have HT0 := hid (HTB.out.below hbr)
    have HBIG := hid hbig
    have HBR := hid hbr
    clear hsv0 hbig hc hrange hr0 hsv hbr
    have hj0 : (0 : Int) ≤ (j : Int) := by omega
    have hj1 : (j : Int) < (n : Int) := by omega
    go_wp2_with (first | (refine wpList_cfg' ⟨g, off + j * 18, none⟩ (.tmp 17) rfl rfl (HLD0.out _ (Below.refl _ _)) rfl ?_) | fail)
    refine (roomy_any c R wr HSV.out HBIG.out).mono ?_
    rintro e w1 ⟨gf, capf, rfl, hcf1, hcf2, hsf, hmk, hb1⟩
    obtain ⟨c', hc'⟩ : ∃ c' : Cfg, c' = { c with rv := .slice (some ⟨gf, 0, none⟩) R.length capf } := ⟨_, rfl⟩
    rw [← hc']
    have hrv' : c'.rv = .slice (some ⟨gf, 0, none⟩) R.length capf := by rw [hc']
    have hans : ans c' R = ans c R := by rw [hc']; exact ans_rv c _ R
    obtain ⟨wz, hwz⟩ : ∃ wz, wz = w1.alloc (.cells Zc 29) := ⟨_, rfl⟩
    have hrow : wz.heap[w1.heap.size]? = some (.cells Zc 29 (0, 0)) := by rw [hwz]; exact heap_alloc_new w1 _
    have hth : wz.there w1.heap.size 0 c'.cells.size := fun i hi => by
      have hi' : i < 18 := hi
      refine ⟨?_, by rw [Nat.zero_add]; exact frozen_of_row _ _ _ _ _ hrow⟩
      rw [Nat.zero_add, cell_of_row _ _ _ _ _ _ hrow, Array.getElem?_eq_getElem (by exact hi' : i < Zc.size)]; rfl
    have hinf : (Tryd.prog.info? 29).map (·.size) = some c'.cells.size := by rw [show (Tryd.prog.info? 29).map (·.size) = some 18 from by kernel_rfl]; rfl
    have hone := cells_one c' gf _ _ hrv'
    obtain ⟨w2, hw2⟩ : ∃ w2, w2 = wz.setCells w1.heap.size 0 c'.cells.toList := ⟨_, rfl⟩
    have hrg2 : w2.rangeAt w1.heap.size 0 c'.cells.toList := by rw [hw2]; exact World.rangeAt_setCells_same wz _ 0 _ hth
    have hb12 : Below w1.heap.size w1 w2 := by
      rw [hw2]; refine below_setCells (Nat.le_refl _) _ _ _ ?_
      rw [hwz]; exact (Below.refl _ _).alloc (Nat.le_refl _) _
    have hbr2 : Below wr.heap.size wr w2 := hb1.trans (hb12.mono hb1.size)
    have HLD2 : Hid (∀ u, Below w2.heap.size w2 u → (Instr.loadAt 29 (.pointer (some ⟨w1.heap.size, 0, none⟩))).run Tryd.prog u = .ok (.agg c'.cells) u) := fun u hb => range_load (range_below hrg2 hb) (cells_len c')
    have HCH : Hid (Calls Tryd.prog 10 #[.agg c'.cells] w2 fun e w' => e = .returned (.int .i64 (ans c R)) ∧ Below w2.heap.size w2 w') := by
      have := check_any' c' R w2 (by rw [hrv']; exact hsf.below hb12) (HT0.out.below hbr2)
      rw [hans] at this; exact this
    have HRF : Hid (∀ u, Below wr.heap.size wr u → Calls Tryd.prog 11 #[.agg c.cells] u fun e w' => e = .returned (.int .i64 (ans c R)) ∧ Below u.heap.size u w') := fun u hb => refCheck_any c R u (HSV.out.below hb)
    have HUT : Hid (∀ u, Below w2.heap.size w2 u → Calls Tryd.prog 12 #[.agg c'.cells, .slice (some ⟨gf, 0, none⟩) (R.length + 2) capf, .agg c.cells] u fun e w' => e = .returned (.bool true) ∧ Below u.heap.size u w') := fun u hb => by
      have hb' := hb12.trans (hb.mono hb12.size)
      exact untouched_any c' c R R.length gf capf u rfl (by rw [hrv']; exact hsf.below hb') (HSV.out.below (hbr2.trans (hb.mono hbr2.size))) (hmk.below hb') ⟨hcf1, hcf2⟩
    have HRG2 : Hid (∀ u, Below w2.heap.size w2 u → u.rangeAt w1.heap.size 0 c'.cells.toList) := fun u hb => range_below hrg2 hb
    have HB2 := hid hbr2
    have HTH := hid hth
    have HINF := hid hinf
    have HONE := hid hone
    have HW2 := hid hw2
    have HWZ := hid hwz
    have HL1 := hid (cells_len c')
    have HL2 := hid (cells_len c)
    have HO1 := hid (cells_one' c' _ _ _ hrv')
    obtain ⟨ro, rn, rc, hrv, _, _, _⟩ := HSV.out.shape
    have HO2 := hid (cells_one' c _ _ _ hrv)
    clear hc' hrv' hans hwz hrow hth hinf hone hw2 hrg2 hb12 hbr2 hsf hmk hb1 hrv
    unfold Zc at HWZ
    generalize R.length = rl at *
    generalize ans c R = z at HCH HRF
    generalize hl1 : c'.cells.toList = l1 at HW2 HRG2 HL1 HO1
    generalize hl2 : c.cells.toList = l2 at HR0 HL2 HO2
    have hl1' : c'.cells = l1.toArray := by rw [← hl1]
    have hl2' : c.cells = l2.toArray := by rw [← hl2]
    rw [hl1'] at HLD2 HCH HUT HTH HINF HONE ⊢
    rw [hl2'] at HLD0 HRF HUT ⊢
    clear hl1 hl2 hl1' hl2'
    go_upto_region 5 with (first
      | (refine wpList_store_mid rfl 29 (.tmp 4) (.tmp 20) rfl w1.heap.size 0 l1.toArray rfl rfl (by rw [← HWZ.out]; exact HTH.out) HINF.out HONE.out ?_)
      | fail)
    rw [← HWZ.out, ← HW2.out]
    go_wp2_with (first | (refine wpList_cfg' ⟨w1.heap.size, 0, none⟩ (.tmp 4) rfl rfl (HLD2.out _ (Below.refl _ _)) rfl ?_) | fail)
    refine HCH.out.mono ?_
    rintro _ w3 ⟨rfl, hb3⟩
    have HB3 := hid hb3
    have hbr3 : Below wr.heap.size wr w3 := HB2.out.trans (hb3.mono HB2.out.size)
    have HBR3 := hid hbr3
    clear hb3 hbr3
    go_wp2_with (first | (refine wpList_cfg' ⟨g, off + j * 18, none⟩ (.tmp 26) rfl rfl (HLD0.out _ HBR3.out) rfl ?_) | fail)
    refine (HRF.out w3 HBR3.out).mono ?_
    rintro _ w4 ⟨rfl, hb4⟩
    have hbr4 : Below wr.heap.size wr w4 := HBR3.out.trans (hb4.mono HBR3.out.size)
    have hb24 : Below w2.heap.size w2 w4 := HB3.out.trans (hb4.mono HB3.out.size)
    have HBR4 := hid hbr4
    have HB24 := hid hb24
    have rr1 := HRG2.out w4 hb24
    have rr2 := HR0.out w4 hbr4
    have hu29 := Tryd.underlying29
    have hi1 : (Tryd.prog.info? 29).map (·.size) = some l1.length := by rw [show (Tryd.prog.info? 29).map (·.size) = some 18 from by kernel_rfl, HL1.out]
    have hi2 : (Tryd.prog.info? 29).map (·.size) = some l2.length := by rw [show (Tryd.prog.info? 29).map (·.size) = some 18 from by kernel_rfl, HL2.out]
    clear hb4 hbr4 hb24
    have HUTB : Hid (∀ u : Beh w4, Calls Tryd.prog 12 #[.agg l1.toArray, .slice (some ⟨gf, 0, none⟩) (rl + 2) capf, .agg l2.toArray] u.wd fun e w' => e = .returned (.bool true) ∧ ∃ u' : Beh w4, w' = u'.wd) := fun u => Calls.beh (HUT.out u.wd (HB24.out.trans (u.ok.mono HB24.out.size)))
    have HQ1 : Hid (∀ w', (∃ u : Beh w4, w' = u.wd) → (Instr.loadAt 29 (.pointer (some ⟨w1.heap.size, 0, none⟩))).run Tryd.prog w' = .ok (.agg l1.toArray) w') := fun w' ⟨u, hu⟩ => by rw [hu]; exact range_load (range_below rr1 u.ok) HL1.out
    have HQ2 : Hid (∀ w', (∃ u : Beh w4, w' = u.wd) → (Instr.loadAt 29 (.pointer (some ⟨g, off + j * 18, none⟩))).run Tryd.prog w' = .ok (.agg l2.toArray) w') := fun w' ⟨u, hu⟩ => by rw [hu]; exact range_load (range_below rr2 u.ok) HL2.out
    clear rr1 rr2 hu29 hi1 hi2
    go_upto_region 7 with fail
    refine wp_region_beh (by kernel_rfl) (by kernel_rfl) ?_
    repeat (first
      | (refine wpQuiet_cfg ⟨w1.heap.size, 0, none⟩ (.tmp 4) (by rfl) (by rfl) HQ1.out (by rfl) ?_; simp only [Act.put, List.setIfInBounds_toArray, List.set_cons_zero, List.set_cons_succ])
      | (refine wpQuiet_cfg ⟨g, off + j * 18, none⟩ (.tmp 37) (by rfl) (by rfl) HQ2.out (by rfl) ?_; simp only [Act.put, List.setIfInBounds_toArray, List.set_cons_zero, List.set_cons_succ])
      | (go_big_quiet_step (first | (go_at_call 12; exact HUTB.out _) | fail)))
    refine wpQuiet_nil ?_
    rintro _ ⟨u5, rfl⟩
    go_wp2_with fail
    go_roundw
    case rel => exact ⟨j + 1, u5.wd, by go_num, by omega, rfl, HBR.out.trans ((HBR4.out.trans (u5.ok.mono HBR4.out.size)).mono HBR.out.size)⟩
    case measure => simp [intOf]; omega
end Go.Proofs.YtkoinngpmkmocaaDoor
