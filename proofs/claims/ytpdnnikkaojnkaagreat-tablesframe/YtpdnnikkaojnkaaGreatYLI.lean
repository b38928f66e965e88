import Derived.Test.YtpdnnikkaojnkaaGreatYLH
namespace Go.Proofs.YtpdnnikkaojnkaaGreat.Rt
open Go.Proofs.YtpdnnikkaojnkaaGreat Go.ChangeShapes Go.WideShapes Go.ChangeAt Go.RowKit Go.Maps Tri N
set_option maxHeartbeats 16000000
set_option maxRecDepth 100000
theorem alloc_tb (u : World) : (Instr.alloc 51 true (.tuple #[])).run Tryz.prog u = .ok (.pointer (some ⟨u.heap.size, 0, none⟩)) (u.alloc (.cells tbZ 51)) := by kernel_rfl
theorem dumpR_any {s : Ks} (w : World) {m : Nat} {v : Vs} (h : Rf w m v s) :
  Calls Tryz.prog 46 #[.pointer (some ⟨m, 0, none⟩)] w fun e w' => ∃ x, e = .returned x /\ Dmp w w' s x := by
 obtain ⟨vr, vn, vf⟩ := v
 obtain ⟨av, nv, cv, hv, HN, hnc, -⟩ := h.r.shape
 obtain rfl : vr = .slice av nv cv := hv
 obtain ⟨an, nn, cn, hv, HNN, hnn, -⟩ := h.n.shape
 obtain rfl : vn = .slice an nn cn := hv
 obtain ⟨af, nf, cf, hv, HNF, hnf, -⟩ := h.f.shape
 obtain rfl : vf = .slice af nf cf := hv
 have hle : nv <= 256 := by have := h.ok.rl; have := HN.out; omega
 have hlen : nn <= 256 := by have := h.ok.nl; have := HNN.out; omega
 have hlef : nf <= 256 := by have := h.ok.fl; have := HNF.out; omega
 have HR := hid h
 clear h hnc hnn hnf
 go_enter Tryz.func46, Tryz.ntmps46
 go_upto_region 1 with (first | (refine wpList_alB rfl 51 tbZ rfl alloc_tb ?_; intro w1 hb1 hs1 hr1) | fail)
 go_upto_region 2 with (first | (refine wpList_alB rfl 51 tbZ rfl alloc_tb ?_; intro w2 hb2 hs2 hr2) | fail)
 have HT0 : Hid (Tb w w2 (.slice none 0 0) (.slice none 0 0) (.slice none 0 0) [] [] []) := ⟨hb1.trans (hb2.mono hb1.size), below_keeps hb2 hr1 (by omega), by rw [<- hs1]; exact hr2, Own.nil _ _, Own.nil _ _, Own.nil _ _⟩
 rw [hs1]
 clear hb1 hs1 hr1 hb2 hs2 hr2
 go_upto_region 3 with fail
 go_loopw [4] (fun i wr => ∃ (j : Nat) (x : Value) (A : List Vt), i = .int .i64 (j : Int) /\ j <= nv /\ Hid (Tb w wr x (.slice none 0 0) (.slice none 0 0) A [] []) /\ Hid (SrtK Tri.Vt.num A (s.R.take j))) (fun i _ => nv - (intOf i).toNat)
 case atStart => exact ⟨0, .slice none 0 0, [], rfl, Nat.zero_le _, HT0.out, by unfold Hid SrtK; exact ⟨List.Pairwise.nil, fun e => by simp⟩⟩
 case round =>
 obtain ⟨j, x, A, rfl, hj, HT, HS⟩ := hrel
 have HRR := hid (HR.out.below HT.out.bel)
 have c0 : wr.cell? ⟨m, 0, none⟩ = some (.slice av nv cv) := HRR.out.cells.1
 by_cases hlt : j < nv
 ·have hlt' : (j : Int) < (nv : Int) := int_lt hlt
  have hj0 : (0 : Int) <= (j : Int) := by omega
  obtain ⟨p, HX⟩ : ∃ p, Hid (s.R[j]? = some p) := ⟨_, hid (List.getElem?_eq_getElem (by have := HN.out; omega))⟩
  have HAL : Hid (A.length = j) := srt_len HRR.out.ok.rn HS.out (by have := HN.out; omega)
  have HPA : Hid (∀ q ∈ A, q.num ≠ p.num) := fun q hq => numR HRR.out.ok HX.out q ((HS.out.2 q).1 hq)
  obtain ⟨a1, n1, c1, rfl, HN1, -, -⟩ := HT.out.r.shape
  obtain ⟨g, rfl, hg, hcl⟩ := atR HRR.out.r HX.out
  have HLD := hid fun (u : World) (hu : u.heap[g]? = wr.heap[g]?) => (hcl u hu).2.2.2.2
  have HG := hid hg
  clear hcl hg
  go_upto_region 5 with fail
  refine wp_region_mono' 10 (fun i => ([22, 23, 24, 25, 26, 27, 28, 29, 30, 31] : List Tmp).getD i 0) (FB9 [.pointer (some ⟨w.heap.size + 1, 0, none⟩), .slice a1 n1 c1, .pointer (some ⟨m, 0, none⟩), .pointer (some ⟨m, 0, none⟩), .pointer (some ⟨m, 0, none⟩), .slice (some ⟨g, 0, none⟩) nv cv, .int .i64 (j : Int), .pointer (some ⟨g, j * 4, none⟩), .agg p.cells] p.cells 38 wr.heap.size) (by kernel_rfl) (by kernel_rfl) (FB9.keeps _ _ _ _) ?_ ?_
  ·simp only [List.take_succ_cons, List.take_zero, stepsOk]
   refine ⟨?_, ?_, ?_, ?_, ?_, ?_, ?_, ?_, ?_, ?_, trivial⟩
   ·intro a y vs hb hold hdep
    exact fb9_still (.pointer (some ⟨w.heap.size + 1, 0, none⟩)) (ex_field _ ⟨w.heap.size + 1, 0, none⟩ (.tmp 3) 0 _ rfl (hold 3 (dlM (L := [22, 23, 24, 25, 26, 27, 28, 29, 30, 31]) (by decide))) (by kernel_rfl)) rfl (by decide) rfl hb
   ·intro a y vs hb hold hdep
    have hc := (HT.out.more hb).cells.1
    exact fb9_still (.slice a1 n1 c1) (ex_load _ ⟨w.heap.size + 1, 0, none⟩ (.tmp 22) _ rfl (FB9.dep (hdep ⟨0, .data⟩ (by simp) rfl (by decide)) (by decide) rfl) (by simp [go_sem, hc])) rfl (by decide) rfl hb
   ·intro a y vs hb hold hdep
    exact fb9_still (.pointer (some ⟨m, 0, none⟩)) (ex_move (.tmp 0) _ rfl (hold 0 (dlM (L := [22, 23, 24, 25, 26, 27, 28, 29, 30, 31]) (by decide)))) rfl (by decide) rfl hb
   ·intro a y vs hb hold hdep
    exact fb9_still (.pointer (some ⟨m, 0, none⟩)) (ex_nil ⟨m, 0, none⟩ (.tmp 24) rfl (FB9.dep (hdep ⟨2, .data⟩ (by simp) rfl (by decide)) (by decide) rfl)) rfl (by decide) rfl hb
   ·intro a y vs hb hold hdep
    exact fb9_still (.pointer (some ⟨m, 0, none⟩)) (ex_field _ ⟨m, 0, none⟩ (.tmp 25) 0 _ rfl (FB9.dep (hdep ⟨3, .data⟩ (by simp) rfl (by decide)) (by decide) rfl) (by kernel_rfl)) rfl (by decide) rfl hb
   ·intro a y vs hb hold hdep
    have hc := (HRR.out.below hb).cells.1
    exact fb9_still (.slice (some ⟨g, 0, none⟩) nv cv) (ex_load _ ⟨m, 0, none⟩ (.tmp 26) _ rfl (FB9.dep (hdep ⟨4, .data⟩ (by simp) rfl (by decide)) (by decide) rfl) (by simp [go_sem, hc])) rfl (by decide) rfl hb
   ·intro a y vs hb hold hdep
    exact fb9_still (.int .i64 (j : Int)) (ex_move (.tmp 4) _ rfl (hold 4 (dlM (L := [22, 23, 24, 25, 26, 27, 28, 29, 30, 31]) (by decide)))) rfl (by decide) rfl hb
   ·intro a y vs hb hold hdep
    exact fb9_still (.pointer (some ⟨g, j * 4, none⟩)) (ex_index _ (.tmp 27) (.tmp 28) _ _ _ rfl (FB9.dep (hdep ⟨5, .data⟩ (by simp) rfl (by decide)) (by decide) rfl) (FB9.dep (hdep ⟨6, .data⟩ (by simp) rfl (by decide)) (by decide) rfl) (idxR hlt y)) rfl (by decide) rfl hb
   ·intro a y vs hb hold hdep
    exact fb9_still (.agg p.cells) (ex_load _ ⟨g, j * 4, none⟩ (.tmp 29) _ rfl (FB9.dep (hdep ⟨7, .data⟩ (by simp) rfl (by decide)) (by decide) rfl) (HLD.out y (hb.block g HG.out))) rfl (by decide) rfl hb
   ·intro a y vs hb hold hdep
    have e8 : a.eval (.tmp 30) = .agg p.cells := (FB9.dep (hdep ⟨8, .data⟩ (by simp) rfl (by decide)) (by decide) rfl)
    have hb' : Below y.heap.size y (y.alloc (.cells p.cells 38)) := bR.alloc nL _
    exact wp_val (ex_bsE 47 1 #[(0, .tmp 30)] #[(0, .agg p.cells)] _ rfl (by simp only [List.map_toArray, List.map_cons, List.map_nil, e8]) (build1R p y)) ⟨_, rfl, ⟨fun _ => ⟨y.heap.size, rfl, hb.size, heap_alloc_new y _⟩, fun h => absurd rfl h⟩, hb.trans (hb'.mono hb.size), hb'⟩
  intro vs y hb hF
  have e0 : vs 0 = .pointer (some ⟨w.heap.size + 1, 0, none⟩) := (hF 0 (by decide)).is (by decide) rfl
  have e1 : vs 1 = .slice a1 n1 c1 := (hF 1 (by decide)).is (by decide) rfl
  have e2 : vs 2 = .pointer (some ⟨m, 0, none⟩) := (hF 2 (by decide)).is (by decide) rfl
  have e3 : vs 3 = .pointer (some ⟨m, 0, none⟩) := (hF 3 (by decide)).is (by decide) rfl
  have e4 : vs 4 = .pointer (some ⟨m, 0, none⟩) := (hF 4 (by decide)).is (by decide) rfl
  have e5 : vs 5 = .slice (some ⟨g, 0, none⟩) nv cv := (hF 5 (by decide)).is (by decide) rfl
  have e6 : vs 6 = .int .i64 (j : Int) := (hF 6 (by decide)).is (by decide) rfl
  have e7 : vs 7 = .pointer (some ⟨g, j * 4, none⟩) := (hF 7 (by decide)).is (by decide) rfl
  have e8 : vs 8 = .agg p.cells := (hF 8 (by decide)).is (by decide) rfl
  obtain ⟨b9, e9, -, hr9⟩ := (hF 9 (by decide)).1 rfl
  clear hF
  simp only [List.drop_succ_cons, List.drop_zero, puts, List.range, List.range.loop, List.foldr, if_true, List.getD_cons_zero, List.getD_cons_succ, e0, e1, e2, e3, e4, e5, e6, e7, e8, e9, Act.put, List.setIfInBounds_toArray, List.set_cons_zero, List.set_cons_succ]
  clear e0 e1 e2 e3 e4 e5 e6 e7 e8 e9
  have HTY := hid (HT.out.more hb)
  obtain ⟨v', w5, hap, ho5, hg5, -⟩ := append_one (K := kR) 47 p b9 HTY.out.r hr9 HTY.out.bel.size (by have := HAL.out; omega)
  obtain ⟨g', n', c', rfl, hn'⟩ := own_some ho5
  have hk5 : Me.Keeps (fun k => Value.ownBlock (.slice a1 n1 c1) = some k) y w5 := Me.Keeps.grown hg5 fun k e => e
  have HAP : Hid ((Builtin.append_ #[47, 47] 47 #[.slice a1 n1 c1, .slice (some ⟨b9, 0, none⟩) 1 1]).run Tryz.prog y = .ok (.slice (some ⟨g', 0, none⟩) n' c') w5) := hap
  obtain ⟨w6, HW6⟩ : ∃ w6, Hid (w6 = w5.setCell ⟨w.heap.size + 1, 0, none⟩ (.slice (some ⟨g', 0, none⟩) n' c')) := ⟨_, rfl⟩
  have HT6 : Hid (Tb w w6 (.slice (some ⟨g', 0, none⟩) n' c') (.slice none 0 0) (.slice none 0 0) (insA A A.length p) [] []) := by
   unfold Hid
   rw [HW6.out, insA_end]
   exact HTY.out.setR hk5 ho5
  have r5 : w5.heap[w.heap.size + 1]? = _ := (hk5.block _ HTY.out.lt fun e => (HTY.out.apart.1 _ e).2.1 rfl).trans HTY.out.row
  obtain ⟨v5, m5⟩ : ∃ v, w5.cell? ⟨w.heap.size + 1, 0, none⟩ = some v := ⟨_, crw r5 rfl⟩
  have m6 : w5.frozen? ⟨w.heap.size + 1, 0, none⟩ = false := frozen_of_row _ _ _ _ _ r5
  have hn3 : n' <= 257 := by have := HAL.out; omega
  have HNJ : Hid (n' = j + 1) := by have := HAL.out; unfold Hid; omega
  have HBY := hid hb
  clear hap ho5 hg5 hk5 r5 hn' HT hb hr9 HTY HLD HG
  go_upto_region 6 with (first | (at_builtin; refine wpList_append_run _ rfl (.tmp 23) (.tmp 31) 47 47 rfl _ _ rfl rfl HAP.out ?_) | fail)
  rw [<- HW6.out]
  clear m5 m6 c0 HAP HW6
  go_upto_region 7 with fail
  go_loopw [5] (fun i wx => ∃ k : Nat, i = .int .i64 (k : Int) /\ k <= j /\ Hid (Tb w wx (.slice (some ⟨g', 0, none⟩) n' c') (.slice none 0 0) (.slice none 0 0) (insA A k p) [] []) /\ Hid (∀ q ∈ A.drop k, p.num < q.num)) (fun i _ => (intOf i).toNat)
  case atStart => exact ⟨j, rfl, nL, by have := HT6; rw [HAL.out] at this; exact this, fun q hq => absurd hq (by rw [<- HAL.out]; simp)⟩
  case round =>
   obtain ⟨k, rfl, hk, HTk, HHI⟩ := hrel
   have HFIN : (∀ m q, k = m + 1 -> A[m]? = some q -> q.num < p.num) -> Hid (SrtK Tri.Vt.num (insA A k p) (s.R.take (j + 1))) := fun hlo => srt_ins HS.out HX.out (by have := HAL.out; omega) hlo HHI.out
   cases k with
   | zero =>
    have HF := HFIN (fun m q e => absurd e (by omega))
    clear HFIN
    go_upto_region 7 with fail
    refine wp_region_beh (by kernel_rfl) (by kernel_rfl) ?_
    repeat (go_big_quiet_step (fail))
    refine wpQuiet_nil ?_
    rintro _ ⟨t, rfl⟩
    have HTt := hid (HTk.out.more t.ok)
    go_wp2_with fail
    go_roundw
    case rel => exact ⟨j + 1, _, _, by go_num, hlt, HTt, HF⟩
    case measure => simp [intOf]; omega
   | succ mm =>
    obtain ⟨q, HQ⟩ : ∃ q, Hid (A[mm]? = some q) := ⟨_, hid (List.getElem?_eq_getElem (by have := HAL.out; omega))⟩
    have HI0 : Hid ((insA A (mm + 1) p)[mm + 1]? = some p) := insA_at (by have := HAL.out; omega)
    have HI1 : Hid ((insA A (mm + 1) p)[mm]? = some q) := by unfold Hid; rw [insA_ahead (by have := HAL.out; omega)]; exact HQ.out
    obtain ⟨g1, e1, hg1, hcl1⟩ := cellsR HTk.out.r HI0.out
    obtain ⟨g2, e2, hg2, hcl2⟩ := cellsR HTk.out.r HI1.out
    simp only [Option.some.injEq, Addr.mk.injEq, and_true] at e1 e2
    subst e1
    subst e2
    have ku : ∀ t : Beh wr, t.wd.heap[g']? = wr.heap[g']? := fun t => t.ok.block g' hg1
    have kh : ∀ t : Beh wr, t.wd.cell? ⟨w.heap.size + 1, 0, none⟩ = some (.slice (some ⟨g', 0, none⟩) n' c') := fun t => (HTk.out.more t.ok).cells.1
    have km1 : (((mm + 1 : Nat) : Int) - 1) = (mm : Int) := by omega
    have km2 : IntKind.i64.wrap (((mm + 1 : Nat) : Int) - 1) = (mm : Int) := by rw [IntKind.wrap_i64]; omega
    have km3 : (0 : Int) < ((mm + 1 : Nat) : Int) := by omega
    have km4 : ((mm + 1 : Nat) : Int) < (n' : Int) := by have := HNJ.out; omega
    have km5 : (mm : Int) < (n' : Int) := by have := HNJ.out; omega
    have km6 : ¬ ((mm + 1 : Nat) : Int) < 0 := by omega
    have km8 : (0 : Int) <= ((mm + 1 : Nat) : Int) := by omega
    have km9 : (0 : Int) <= (mm : Int) := by omega
    have km10 : IntKind.i64.wrap (mm : Int) = (mm : Int) := by rw [IntKind.wrap_i64]; omega
    have HNEQ : Hid (q.num ≠ p.num) := HPA.out q (List.mem_of_getElem? HQ.out)
    obtain ⟨k1n, HK1N⟩ : ∃ k1n, Hid (k1n = mm + 1) := ⟨_, rfl⟩
    rw [<- HK1N.out] at hk HTk HHI HFIN HI0 HI1 hcl1 km1 km2 km3 km4 km6 km8 ⊢
    have km7 : 0 < k1n := by have := HK1N.out; omega
    have hkn : k1n <= n' := by have := HNJ.out; omega
    have k1 : ∀ t : Beh wr, t.wd.cell? ⟨g', k1n * 4, none⟩ = some (.int .u32 (p.x : Int)) := fun t => (hcl1 t.wd (ku t)).1
    have k2 : ∀ t : Beh wr, t.wd.cell? ⟨g', k1n * 4 + 1, none⟩ = some (.int .i64 p.n) := fun t => (hcl1 t.wd (ku t)).2.1
    have k3 : ∀ t : Beh wr, t.wd.cell? ⟨g', k1n * 4 + 2, none⟩ = some (.int .u32 (p.via : Int)) := fun t => (hcl1 t.wd (ku t)).2.2.1
    have k4 : ∀ t : Beh wr, t.wd.cell? ⟨g', k1n * 4 + 3, none⟩ = some (.bool p.loc) := fun t => (hcl1 t.wd (ku t)).2.2.2
    have l1 : ∀ t : Beh wr, t.wd.cell? ⟨g', mm * 4, none⟩ = some (.int .u32 (q.x : Int)) := fun t => (hcl2 t.wd (ku t)).1
    have l2 : ∀ t : Beh wr, t.wd.cell? ⟨g', mm * 4 + 1, none⟩ = some (.int .i64 q.n) := fun t => (hcl2 t.wd (ku t)).2.1
    have l3 : ∀ t : Beh wr, t.wd.cell? ⟨g', mm * 4 + 2, none⟩ = some (.int .u32 (q.via : Int)) := fun t => (hcl2 t.wd (ku t)).2.2.1
    have l4 : ∀ t : Beh wr, t.wd.cell? ⟨g', mm * 4 + 3, none⟩ = some (.bool q.loc) := fun t => (hcl2 t.wd (ku t)).2.2.2
    obtain ⟨bb, HBB⟩ : ∃ bb, Hid (bb = ahB p q) := ⟨_, rfl⟩
    have HBN : Hid (bb = decide (p.num < q.num)) := by
     unfold Hid; rw [HBB.out]
     exact ahB_num (HRR.out.ok.rk p (List.mem_of_getElem? HX.out)) (HRR.out.ok.rk q (List.mem_of_mem_take ((HS.out.2 q).1 (List.mem_of_getElem? HQ.out))))
    have HCM : ∀ t : Beh wr, Hid (Calls Tryz.prog 68 #[.agg #[.int .u32 (p.x : Int), .int .i64 p.n, .int .u32 (p.via : Int), .bool p.loc], .agg #[.int .u32 (q.x : Int), .int .i64 q.n, .int .u32 (q.via : Int), .bool q.loc]] t.wd fun e w'' => e = .returned (.bool bb) /\ ∃ t' : Beh wr, w'' = t'.wd) := fun t => by
     rw [HBB.out]
     exact Calls.beh (ahead9 p q t.wd)
    cases hb : bb with
    | true =>
     have hpq : p.num < q.num := by have := HBN.out; rw [hb] at this; simpa using this.symm
     subst hb
     have HHI2 : Hid (∀ q2 ∈ A.drop mm, p.num < q2.num) := fun q2 hq2 => by
      rw [List.drop_eq_getElem_cons (List.getElem?_eq_some_iff.1 HQ.out).1, (List.getElem?_eq_some_iff.1 HQ.out).2] at hq2
      rcases List.mem_cons.1 hq2 with rfl | hq2
      ·exact hpq
      ·rw [HK1N.out] at HHI; exact HHI.out q2 hq2
     have HMJ : Hid (mm <= j) := by have := HK1N.out; unfold Hid; omega
     clear HFIN hpq hcl1 hcl2 hg1 hg2
     go_upto_region 7 with fail
     refine wp_region_beh (by kernel_rfl) (by kernel_rfl) ?_
     repeat (go_big_quiet_step (first | (go_at_call 68; exact (HCM _).out) | fail))
     refine wpQuiet_nil ?_
     rintro _ ⟨t, rfl⟩
     have HTt := hid (HTk.out.more t.ok)
     clear k1 k2 k3 k4 l1 l2 l3 l4 ku kh HCM HTk
     generalize t.wd = u at *
     clear t
     obtain ⟨_, e1, hg1, hcl1⟩ := atR HTt.out.r HI0.out
     simp only [Option.some.injEq, Addr.mk.injEq, and_true] at e1
     subst e1
     have HLD := hid (hcl1 u rfl).2.2.2.2
     have h0 : u.cell? ⟨w.heap.size + 1, 0, none⟩ = some (.slice (some ⟨g', 0, none⟩) n' c') := HTt.out.cells.1
     have HZC : Hid (p.cells.all (·.oneCell') = true) := one_cells p
     clear hcl1 hg1
     go_upto_region 10 with (first | (refine wpList_ld 38 ⟨g', k1n * 4, none⟩ (.tmp 56) rfl rfl HLD.out rfl ?_) | (refine wpList_alB rfl 38 zR4 rfl alloc_rt ?_; intro u1 hb1 hs1 hr1) | (refine wpList_stB rfl 38 (.tmp 6) (.tmp 57) rfl u.heap.size p.cells rfl rfl zR4 hr1 (by kernel_rfl) rfl HZC.out ?_; intro u2 hbt hr2) | fail)
     have hb2 : Below u.heap.size u u2 := ⟨hbt.os.trans hb1.os, hbt.tape.trans hb1.tape, hbt.output.trans hb1.output, Nat.le_trans hb1.size hbt.size, fun k hk => (hbt.block k (by omega) (by omega)).trans (hb1.block k hk)⟩
     have HT2 := hid (HTt.out.more hb2)
     have HR2 : Hid (u2.heap[u.heap.size]? = some (.cells p.cells 38)) := hr2
     obtain ⟨_, e1, hg1, hcl1⟩ := cellsR HT2.out.r HI1.out
     simp only [Option.some.injEq, Addr.mk.injEq, and_true] at e1
     subst e1
     have hclq := hcl1 u2 rfl
     have d0 : u2.cell? ⟨g', mm * 4, none⟩ = some (.int .u32 (q.x : Int)) := hclq.1
     have d1 : u2.cell? ⟨g', mm * 4 + 1, none⟩ = some (.int .i64 q.n) := hclq.2.1
     have d2 : u2.cell? ⟨g', mm * 4 + 2, none⟩ = some (.int .u32 (q.via : Int)) := hclq.2.2.1
     have d3 : u2.cell? ⟨g', mm * 4 + 3, none⟩ = some (.bool q.loc) := hclq.2.2.2
     have h2 : u2.cell? ⟨w.heap.size + 1, 0, none⟩ = some (.slice (some ⟨g', 0, none⟩) n' c') := HT2.out.cells.1
     have HKL : Hid (k1n < (insA A k1n p).length) := (List.getElem?_eq_some_iff.1 HI0.out).1
     obtain ⟨zq, HZQ⟩ : ∃ zq : Array Value, Hid (zq = q.cells) := ⟨_, rfl⟩
     have HZS : Hid (zq.size = 4) := by unfold Hid; rw [HZQ.out]; rfl
     have HTZ : Hid (World.there { heap := u2.heap, tape := u2.tape, drawn := u2.drawn + 1, os := u2.os, output := u2.output } g' (k1n * 4) zq.size) := by unfold Hid; rw [HZS.out]; exact (HT2.out.r.below (below_drewN bR 1)).there HKL.out
     have HINF : Hid ((Tryz.prog.info? 38).map (·.size) = some zq.size) := by unfold Hid; rw [HZS.out]; kernel_rfl
     have HONE : Hid (zq.all (·.oneCell') = true) := by unfold Hid; rw [HZQ.out]; exact one_cells q
     obtain ⟨u3, HU3⟩ : ∃ u3, Hid (u3 = World.setCells { heap := u2.heap, tape := u2.tape, drawn := u2.drawn + 1, os := u2.os, output := u2.output } g' (k1n * 4) zq.toList) := ⟨_, rfl⟩
     have hd2 : Below u2.heap.size u2 u2.drew := below_drewN bR 1
     have HK3 : Hid (Me.Keeps (fun k => k = g') u2.drew u3) := by unfold Hid; rw [HU3.out]; exact (setCells_heap _ _ _).2
     have HT3 : Hid (Tb w u3 (.slice (some ⟨g', 0, none⟩) n' c') (.slice none 0 0) (.slice none 0 0) ((insA A k1n p).set k1n q) [] []) := (HT2.out.more hd2).putR HK3.out (by rw [HU3.out, HZQ.out]; exact (HT2.out.r.below hd2).put HKL.out q)
     have HG' : Hid (w.heap.size <= g' /\ g' < u.heap.size) := ⟨(HTt.out.r.lt rfl).1, (HTt.out.r.lt rfl).2⟩
     have HR3 : Hid (u3.heap[u.heap.size]? = some (.cells p.cells 38)) := by
      have h1 : u2.drew.heap[u.heap.size]? = some (.cells p.cells 38) := HR2.out
      exact (HK3.out.block _ (gsl h1) (by have := HG'.out; omega)).trans h1
     have HI2 : Hid (((insA A k1n p).set k1n q)[mm]? = some q) := by
      unfold Hid; rw [List.getElem?_set_ne (by have := HK1N.out; omega)]; exact HI1.out
     have HML : Hid (mm < ((insA A k1n p).set k1n q).length) := (List.getElem?_eq_some_iff.1 HI2.out).1
     have h3 : u3.cell? ⟨w.heap.size + 1, 0, none⟩ = some (.slice (some ⟨g', 0, none⟩) n' c') := HT3.out.cells.1
     have HLX : Hid ((Instr.loadAt 38 (.pointer (some ⟨u.heap.size, 0, none⟩))).run Tryz.prog u3 = .ok (.agg p.cells) u3) := box_load HR3.out Tryz.underlying38 rfl (by kernel_rfl)
     obtain ⟨zp, HZP⟩ : ∃ zp : Array Value, Hid (zp = p.cells) := ⟨_, rfl⟩
     have HZPS : Hid (zp.size = 4) := by unfold Hid; rw [HZP.out]; rfl
     have HTY : Hid (u3.there g' (mm * 4) zp.size) := by unfold Hid; rw [HZPS.out]; exact HT3.out.r.there HML.out
     have HINP : Hid ((Tryz.prog.info? 38).map (·.size) = some zp.size) := by unfold Hid; rw [HZPS.out]; kernel_rfl
     have HONP : Hid (zp.all (·.oneCell') = true) := by unfold Hid; rw [HZP.out]; exact one_cells p
     obtain ⟨u4, HU4⟩ : ∃ u4, Hid (u4 = u3.setCells g' (mm * 4) zp.toList) := ⟨_, rfl⟩
     have HT4 : Hid (Tb w u4 (.slice (some ⟨g', 0, none⟩) n' c') (.slice none 0 0) (.slice none 0 0) (insA A mm p) [] []) := by
      have h1 := HT3.out.putR (u1 := u4) (by rw [HU4.out]; exact (setCells_heap _ _ _).2) (by rw [HU4.out, HZP.out]; exact HT3.out.r.put HML.out p)
      rw [HK1N.out, insA_swap HQ.out] at h1
      exact h1
     clear hb2 hbt hr2 hb1 hs1 hr1 HLD h0 HZC HTt hcl1 hclq hg1 hd2 HT2 HR2 HKL HK3 HT3 HR3 HI0 HI1 HI2 HML
     go_upto_region 10 with fail
     refine wp_region_still_tail 10 (by kernel_rfl) (by kernel_rfl) ?_
     simp only [List.take_succ_cons, List.take_zero, List.drop_succ_cons, List.drop_zero]
     iterate 10 still_step
     refine wpStill_nil ?_
     refine wpList_store_mid rfl 38 (.tmp 67) (.tmp 66) rfl g' (k1n * 4) zq rfl (by rw [HZQ.out]; rfl) HTZ.out HINF.out HONE.out ?_
     rw [<- HU3.out]
     clear d0 d1 d2 d3 h2 HTZ HINF HONE HZS HU3
     go_upto_region 8 with (first | (refine wpList_ld 38 ⟨u.heap.size, 0, none⟩ (.tmp 6) rfl rfl HLX.out rfl ?_) | (refine wpList_store_mid rfl 38 (.tmp 73) (.tmp 72) rfl g' (mm * 4) zp rfl (by rw [HZP.out]; rfl) HTY.out HINP.out HONP.out ?_) | fail)
     rw [<- HU4.out]
     clear h3 HLX HTY HINP HONP HZPS HU4
     go_wp2_with fail
     go_roundw
     case rel => exact ⟨mm, rfl, HMJ.out, HT4, HHI2⟩
     case measure => simp [intOf]; have := HK1N.out; omega
    | false =>
     have hpq : ¬ p.num < q.num := by have := HBN.out; rw [hb] at this; simpa using this.symm
     subst hb
     have HF := HFIN (fun m2 q2 e hq2 => by
      have : m2 = mm := by have := HK1N.out; omega
      subst this
      rw [HQ.out] at hq2
      cases hq2
      have := HNEQ.out
      omega)
     clear HFIN hcl1 hcl2
     go_upto_region 7 with fail
     refine wp_region_beh (by kernel_rfl) (by kernel_rfl) ?_
     repeat (go_big_quiet_step (first | (go_at_call 68; exact (HCM _).out) | fail))
     refine wpQuiet_nil ?_
     rintro _ ⟨t, rfl⟩
     have HTt := hid (HTk.out.more t.ok)
     clear k1 k2 k3 k4 l1 l2 l3 l4 ku kh HCM
     go_wp2_with fail
     go_roundw
     case rel => exact ⟨j + 1, _, _, by go_num, hlt, HTt, HF⟩
     case measure => simp [intOf]; omega
 ·have hlt' : ¬ (j : Int) < (nv : Int) := int_nlt hlt
  have HS1 : Hid (SrtK Tri.Vt.num A s.R) := by
   have := HS.out
   rw [List.take_of_length_le (by have := HN.out; omega)] at this
   exact this
  obtain ⟨xr, AR, HTN, HSR⟩ : ∃ (xr : Value) (AR : List Vt), Hid (Tb w wr xr (.slice none 0 0) (.slice none 0 0) AR [] []) /\ Hid (SrtK Tri.Vt.num AR s.R) := ⟨x, A, HT, HS1⟩
  clear HT HS HS1 hlt hj HRR HT0
  go_upto_region 13 with fail
  go_loopw [7] (fun i wr => ∃ (j : Nat) (x : Value) (A : List Nb), i = .int .i64 (j : Int) /\ j <= nn /\ Hid (Tb w wr xr x (.slice none 0 0) AR A []) /\ Hid (SrtK (fun e : Nb => e.ip) A (s.N.take j))) (fun i _ => nn - (intOf i).toNat)
  case atStart => exact ⟨0, .slice none 0 0, [], rfl, Nat.zero_le _, HTN.out, by unfold Hid SrtK; exact ⟨List.Pairwise.nil, fun e => by simp⟩⟩
  case round =>
  obtain ⟨j, x, A, rfl, hj, HT, HS⟩ := hrel
  have HRR := hid (HR.out.below HT.out.bel)
  have c0 : wr.cell? ⟨m, 1, none⟩ = some (.slice an nn cn) := HRR.out.cells.2.1
  by_cases hlt : j < nn
  ·have hlt' : (j : Int) < (nn : Int) := int_lt hlt
   have hj0 : (0 : Int) <= (j : Int) := by omega
   obtain ⟨p, HX⟩ : ∃ p, Hid (s.N[j]? = some p) := ⟨_, hid (List.getElem?_eq_getElem (by have := HNN.out; omega))⟩
   have HAL : Hid (A.length = j) := srt_len HRR.out.ok.nn HS.out (by have := HNN.out; omega)
   have HPA : Hid (∀ q ∈ A, q.ip ≠ p.ip) := fun q hq => numN HRR.out.ok HX.out q ((HS.out.2 q).1 hq)
   obtain ⟨a1, n1, c1, rfl, HN1, -, -⟩ := HT.out.n.shape
   obtain ⟨g, rfl, hg, hcl⟩ := atN HRR.out.n HX.out
   have HLD := hid fun (u : World) (hu : u.heap[g]? = wr.heap[g]?) => (hcl u hu).2.2
   have HG := hid hg
   clear hcl hg
   go_upto_region 15 with fail
   refine wp_region_mono' 10 (fun i => ([83, 84, 85, 86, 87, 88, 89, 90, 91, 92] : List Tmp).getD i 0) (FB9 [.pointer (some ⟨w.heap.size + 1, 1, none⟩), .slice a1 n1 c1, .pointer (some ⟨m, 0, none⟩), .pointer (some ⟨m, 0, none⟩), .pointer (some ⟨m, 1, none⟩), .slice (some ⟨g, 0, none⟩) nn cn, .int .i64 (j : Int), .pointer (some ⟨g, j * 7, none⟩), .agg p.cells] p.cells 42 wr.heap.size) (by kernel_rfl) (by kernel_rfl) (FB9.keeps _ _ _ _) ?_ ?_
   ·simp only [List.take_succ_cons, List.take_zero, stepsOk]
    refine ⟨?_, ?_, ?_, ?_, ?_, ?_, ?_, ?_, ?_, ?_, trivial⟩
    ·intro a y vs hb hold hdep
     exact fb9_still (.pointer (some ⟨w.heap.size + 1, 1, none⟩)) (ex_field _ ⟨w.heap.size + 1, 0, none⟩ (.tmp 3) 1 _ rfl (hold 3 (dlM (L := [83, 84, 85, 86, 87, 88, 89, 90, 91, 92]) (by decide))) (by kernel_rfl)) rfl (by decide) rfl hb
    ·intro a y vs hb hold hdep
     have hc := (HT.out.more hb).cells.2.1
     exact fb9_still (.slice a1 n1 c1) (ex_load _ ⟨w.heap.size + 1, 1, none⟩ (.tmp 83) _ rfl (FB9.dep (hdep ⟨0, .data⟩ (by simp) rfl (by decide)) (by decide) rfl) (by simp [go_sem, hc])) rfl (by decide) rfl hb
    ·intro a y vs hb hold hdep
     exact fb9_still (.pointer (some ⟨m, 0, none⟩)) (ex_move (.tmp 0) _ rfl (hold 0 (dlM (L := [83, 84, 85, 86, 87, 88, 89, 90, 91, 92]) (by decide)))) rfl (by decide) rfl hb
    ·intro a y vs hb hold hdep
     exact fb9_still (.pointer (some ⟨m, 0, none⟩)) (ex_nil ⟨m, 0, none⟩ (.tmp 85) rfl (FB9.dep (hdep ⟨2, .data⟩ (by simp) rfl (by decide)) (by decide) rfl)) rfl (by decide) rfl hb
    ·intro a y vs hb hold hdep
     exact fb9_still (.pointer (some ⟨m, 1, none⟩)) (ex_field _ ⟨m, 0, none⟩ (.tmp 86) 1 _ rfl (FB9.dep (hdep ⟨3, .data⟩ (by simp) rfl (by decide)) (by decide) rfl) (by kernel_rfl)) rfl (by decide) rfl hb
    ·intro a y vs hb hold hdep
     have hc := (HRR.out.below hb).cells.2.1
     exact fb9_still (.slice (some ⟨g, 0, none⟩) nn cn) (ex_load _ ⟨m, 1, none⟩ (.tmp 87) _ rfl (FB9.dep (hdep ⟨4, .data⟩ (by simp) rfl (by decide)) (by decide) rfl) (by simp [go_sem, hc])) rfl (by decide) rfl hb
    ·intro a y vs hb hold hdep
     exact fb9_still (.int .i64 (j : Int)) (ex_move (.tmp 7) _ rfl (hold 7 (dlM (L := [83, 84, 85, 86, 87, 88, 89, 90, 91, 92]) (by decide)))) rfl (by decide) rfl hb
    ·intro a y vs hb hold hdep
     exact fb9_still (.pointer (some ⟨g, j * 7, none⟩)) (ex_index _ (.tmp 88) (.tmp 89) _ _ _ rfl (FB9.dep (hdep ⟨5, .data⟩ (by simp) rfl (by decide)) (by decide) rfl) (FB9.dep (hdep ⟨6, .data⟩ (by simp) rfl (by decide)) (by decide) rfl) (idxN hlt y)) rfl (by decide) rfl hb
    ·intro a y vs hb hold hdep
     exact fb9_still (.agg p.cells) (ex_load _ ⟨g, j * 7, none⟩ (.tmp 90) _ rfl (FB9.dep (hdep ⟨7, .data⟩ (by simp) rfl (by decide)) (by decide) rfl) (HLD.out y (hb.block g HG.out))) rfl (by decide) rfl hb
    ·intro a y vs hb hold hdep
     have e8 : a.eval (.tmp 91) = .agg p.cells := (FB9.dep (hdep ⟨8, .data⟩ (by simp) rfl (by decide)) (by decide) rfl)
     have hb' : Below y.heap.size y (y.alloc (.cells p.cells 42)) := bR.alloc nL _
     exact wp_val (ex_bsE 48 1 #[(0, .tmp 91)] #[(0, .agg p.cells)] _ rfl (by simp only [List.map_toArray, List.map_cons, List.map_nil, e8]) (build1N p y)) ⟨_, rfl, ⟨fun _ => ⟨y.heap.size, rfl, hb.size, heap_alloc_new y _⟩, fun h => absurd rfl h⟩, hb.trans (hb'.mono hb.size), hb'⟩
   intro vs y hb hF
   have e0 : vs 0 = .pointer (some ⟨w.heap.size + 1, 1, none⟩) := (hF 0 (by decide)).is (by decide) rfl
   have e1 : vs 1 = .slice a1 n1 c1 := (hF 1 (by decide)).is (by decide) rfl
   have e2 : vs 2 = .pointer (some ⟨m, 0, none⟩) := (hF 2 (by decide)).is (by decide) rfl
   have e3 : vs 3 = .pointer (some ⟨m, 0, none⟩) := (hF 3 (by decide)).is (by decide) rfl
   have e4 : vs 4 = .pointer (some ⟨m, 1, none⟩) := (hF 4 (by decide)).is (by decide) rfl
   have e5 : vs 5 = .slice (some ⟨g, 0, none⟩) nn cn := (hF 5 (by decide)).is (by decide) rfl
   have e6 : vs 6 = .int .i64 (j : Int) := (hF 6 (by decide)).is (by decide) rfl
   have e7 : vs 7 = .pointer (some ⟨g, j * 7, none⟩) := (hF 7 (by decide)).is (by decide) rfl
   have e8 : vs 8 = .agg p.cells := (hF 8 (by decide)).is (by decide) rfl
   obtain ⟨b9, e9, -, hr9⟩ := (hF 9 (by decide)).1 rfl
   clear hF
   simp only [List.drop_succ_cons, List.drop_zero, puts, List.range, List.range.loop, List.foldr, if_true, List.getD_cons_zero, List.getD_cons_succ, e0, e1, e2, e3, e4, e5, e6, e7, e8, e9, Act.put, List.setIfInBounds_toArray, List.set_cons_zero, List.set_cons_succ]
   clear e0 e1 e2 e3 e4 e5 e6 e7 e8 e9
   have HTY := hid (HT.out.more hb)
   obtain ⟨v', w5, hap, ho5, hg5, -⟩ := append_one (K := kN) 48 p b9 HTY.out.n hr9 HTY.out.bel.size (by have := HAL.out; omega)
   obtain ⟨g', n', c', rfl, hn'⟩ := own_some ho5
   have hk5 : Me.Keeps (fun k => Value.ownBlock (.slice a1 n1 c1) = some k) y w5 := Me.Keeps.grown hg5 fun k e => e
   have HAP : Hid ((Builtin.append_ #[48, 48] 48 #[.slice a1 n1 c1, .slice (some ⟨b9, 0, none⟩) 1 1]).run Tryz.prog y = .ok (.slice (some ⟨g', 0, none⟩) n' c') w5) := hap
   obtain ⟨w6, HW6⟩ : ∃ w6, Hid (w6 = w5.setCell ⟨w.heap.size + 1, 1, none⟩ (.slice (some ⟨g', 0, none⟩) n' c')) := ⟨_, rfl⟩
   have HT6 : Hid (Tb w w6 xr (.slice (some ⟨g', 0, none⟩) n' c') (.slice none 0 0) AR (insA A A.length p) []) := by
    unfold Hid
    rw [HW6.out, insA_end]
    exact HTY.out.setN hk5 ho5
   have r5 : w5.heap[w.heap.size + 1]? = _ := (hk5.block _ HTY.out.lt fun e => (HTY.out.apart.2.1 _ e).2.1 rfl).trans HTY.out.row
   obtain ⟨v5, m5⟩ : ∃ v, w5.cell? ⟨w.heap.size + 1, 1, none⟩ = some v := ⟨_, crw r5 rfl⟩
   have m6 : w5.frozen? ⟨w.heap.size + 1, 1, none⟩ = false := frozen_of_row _ _ _ _ _ r5
   have hn3 : n' <= 257 := by have := HAL.out; omega
   have HNJ : Hid (n' = j + 1) := by have := HAL.out; unfold Hid; omega
   have HBY := hid hb
   clear hap ho5 hg5 hk5 r5 hn' HT hb hr9 HTY HLD HG
   go_upto_region 16 with (first | (at_builtin; refine wpList_append_run _ rfl (.tmp 84) (.tmp 92) 48 48 rfl _ _ rfl rfl HAP.out ?_) | fail)
   rw [<- HW6.out]
   clear m5 m6 c0 HAP HW6
   go_upto_region 17 with fail
   go_loopw [8] (fun i wx => ∃ k : Nat, i = .int .i64 (k : Int) /\ k <= j /\ Hid (Tb w wx xr (.slice (some ⟨g', 0, none⟩) n' c') (.slice none 0 0) AR (insA A k p) []) /\ Hid (∀ q ∈ A.drop k, p.ip < q.ip)) (fun i _ => (intOf i).toNat)
   case atStart => exact ⟨j, rfl, nL, by have := HT6; rw [HAL.out] at this; exact this, fun q hq => absurd hq (by rw [<- HAL.out]; simp)⟩
   case round =>
    obtain ⟨k, rfl, hk, HTk, HHI⟩ := hrel
    have HFIN : (∀ m q, k = m + 1 -> A[m]? = some q -> q.ip < p.ip) -> Hid (SrtK (fun e : Nb => e.ip) (insA A k p) (s.N.take (j + 1))) := fun hlo => srt_ins HS.out HX.out (by have := HAL.out; omega) hlo HHI.out
    cases k with
    | zero =>
     have HF := HFIN (fun m q e => absurd e (by omega))
     clear HFIN
     go_upto_region 17 with fail
     refine wp_region_beh (by kernel_rfl) (by kernel_rfl) ?_
     repeat (go_big_quiet_step (fail))
     refine wpQuiet_nil ?_
     rintro _ ⟨t, rfl⟩
     have HTt := hid (HTk.out.more t.ok)
     go_wp2_with fail
     go_roundw
     case rel => exact ⟨j + 1, _, _, by go_num, hlt, HTt, HF⟩
     case measure => simp [intOf]; omega
    | succ mm =>
     obtain ⟨q, HQ⟩ : ∃ q, Hid (A[mm]? = some q) := ⟨_, hid (List.getElem?_eq_getElem (by have := HAL.out; omega))⟩
     have HI0 : Hid ((insA A (mm + 1) p)[mm + 1]? = some p) := insA_at (by have := HAL.out; omega)
     have HI1 : Hid ((insA A (mm + 1) p)[mm]? = some q) := by unfold Hid; rw [insA_ahead (by have := HAL.out; omega)]; exact HQ.out
     obtain ⟨g1, e1, hg1, hcl1⟩ := cellsN HTk.out.n HI0.out
     obtain ⟨g2, e2, hg2, hcl2⟩ := cellsN HTk.out.n HI1.out
     simp only [Option.some.injEq, Addr.mk.injEq, and_true] at e1 e2
     subst e1
     subst e2
     have ku : ∀ t : Beh wr, t.wd.heap[g']? = wr.heap[g']? := fun t => t.ok.block g' hg1
     have kh : ∀ t : Beh wr, t.wd.cell? ⟨w.heap.size + 1, 1, none⟩ = some (.slice (some ⟨g', 0, none⟩) n' c') := fun t => (HTk.out.more t.ok).cells.2.1
     have km1 : (((mm + 1 : Nat) : Int) - 1) = (mm : Int) := by omega
     have km2 : IntKind.i64.wrap (((mm + 1 : Nat) : Int) - 1) = (mm : Int) := by rw [IntKind.wrap_i64]; omega
     have km3 : (0 : Int) < ((mm + 1 : Nat) : Int) := by omega
     have km4 : ((mm + 1 : Nat) : Int) < (n' : Int) := by have := HNJ.out; omega
     have km5 : (mm : Int) < (n' : Int) := by have := HNJ.out; omega
     have km6 : ¬ ((mm + 1 : Nat) : Int) < 0 := by omega
     have km8 : (0 : Int) <= ((mm + 1 : Nat) : Int) := by omega
     have km9 : (0 : Int) <= (mm : Int) := by omega
     have km10 : IntKind.i64.wrap (mm : Int) = (mm : Int) := by rw [IntKind.wrap_i64]; omega
     have HNEQ : Hid (q.ip ≠ p.ip) := HPA.out q (List.mem_of_getElem? HQ.out)
     obtain ⟨k1n, HK1N⟩ : ∃ k1n, Hid (k1n = mm + 1) := ⟨_, rfl⟩
     rw [<- HK1N.out] at hk HTk HHI HFIN HI0 HI1 hcl1 km1 km2 km3 km4 km6 km8 ⊢
     have km7 : 0 < k1n := by have := HK1N.out; omega
     have hkn : k1n <= n' := by have := HNJ.out; omega
     have k1 : ∀ t : Beh wr, t.wd.cell? ⟨g', k1n * 7, none⟩ = some (.int .u32 (p.ip : Int)) := fun t => (hcl1 t.wd (ku t)).2.2.2.2.2.2
     have l1 : ∀ t : Beh wr, t.wd.cell? ⟨g', mm * 7, none⟩ = some (.int .u32 (q.ip : Int)) := fun t => (hcl2 t.wd (ku t)).2.2.2.2.2.2
     by_cases hpq : p.ip < q.ip
     ·have hpq' : (p.ip : Int) < (q.ip : Int) := int_lt hpq
      have HHI2 : Hid (∀ q2 ∈ A.drop mm, p.ip < q2.ip) := fun q2 hq2 => by
       rw [List.drop_eq_getElem_cons (List.getElem?_eq_some_iff.1 HQ.out).1, (List.getElem?_eq_some_iff.1 HQ.out).2] at hq2
       rcases List.mem_cons.1 hq2 with rfl | hq2
       ·exact hpq
       ·rw [HK1N.out] at HHI; exact HHI.out q2 hq2
      have HMJ : Hid (mm <= j) := by have := HK1N.out; unfold Hid; omega
      clear HFIN hpq hcl1 hcl2 hg1 hg2
      go_upto_region 17 with fail
      refine wp_region_beh (by kernel_rfl) (by kernel_rfl) ?_
      repeat (go_big_quiet_step (fail))
      refine wpQuiet_nil ?_
      rintro _ ⟨t, rfl⟩
      have HTt := hid (HTk.out.more t.ok)
      clear k1 l1 ku kh  HTk
      generalize t.wd = u at *
      clear t
      obtain ⟨_, e1, hg1, hcl1⟩ := atN HTt.out.n HI0.out
      simp only [Option.some.injEq, Addr.mk.injEq, and_true] at e1
      subst e1
      have HLD := hid (hcl1 u rfl).2.2
      have h0 : u.cell? ⟨w.heap.size + 1, 1, none⟩ = some (.slice (some ⟨g', 0, none⟩) n' c') := HTt.out.cells.2.1
      have HZC : Hid (p.cells.all (·.oneCell') = true) := one_cells p
      clear hcl1 hg1
      go_upto_region 20 with (first | (refine wpList_ld 42 ⟨g', k1n * 7, none⟩ (.tmp 119) rfl rfl HLD.out rfl ?_) | (refine wpList_alB rfl 42 zN7 rfl alloc_nb ?_; intro u1 hb1 hs1 hr1) | (refine wpList_stB rfl 42 (.tmp 9) (.tmp 120) rfl u.heap.size p.cells rfl rfl zN7 hr1 (by kernel_rfl) rfl HZC.out ?_; intro u2 hbt hr2) | fail)
      have hb2 : Below u.heap.size u u2 := ⟨hbt.os.trans hb1.os, hbt.tape.trans hb1.tape, hbt.output.trans hb1.output, Nat.le_trans hb1.size hbt.size, fun k hk => (hbt.block k (by omega) (by omega)).trans (hb1.block k hk)⟩
      have HT2 := hid (HTt.out.more hb2)
      have HR2 : Hid (u2.heap[u.heap.size]? = some (.cells p.cells 42)) := hr2
      obtain ⟨_, e1, hg1, hcl1⟩ := cellsN HT2.out.n HI1.out
      simp only [Option.some.injEq, Addr.mk.injEq, and_true] at e1
      subst e1
      have hclq := hcl1 u2 rfl
      have d0 : u2.cell? ⟨g', mm * 7, none⟩ = some (.int .u32 (q.ip : Int)) := hclq.2.2.2.2.2.2
      have d1 : u2.cell? ⟨g', mm * 7 + 1, none⟩ = some (.int .u8 (q.mac.b0 : Int)) := hclq.1
      have d2 : u2.cell? ⟨g', mm * 7 + 2, none⟩ = some (.int .u8 (q.mac.b1 : Int)) := hclq.2.1
      have d3 : u2.cell? ⟨g', mm * 7 + 3, none⟩ = some (.int .u8 (q.mac.b2 : Int)) := hclq.2.2.1
      have d4 : u2.cell? ⟨g', mm * 7 + 4, none⟩ = some (.int .u8 (q.mac.b3 : Int)) := hclq.2.2.2.1
      have d5 : u2.cell? ⟨g', mm * 7 + 5, none⟩ = some (.int .u8 (q.mac.b4 : Int)) := hclq.2.2.2.2.1
      have d6 : u2.cell? ⟨g', mm * 7 + 6, none⟩ = some (.int .u8 (q.mac.b5 : Int)) := hclq.2.2.2.2.2.1
      have h2 : u2.cell? ⟨w.heap.size + 1, 1, none⟩ = some (.slice (some ⟨g', 0, none⟩) n' c') := HT2.out.cells.2.1
      have HKL : Hid (k1n < (insA A k1n p).length) := (List.getElem?_eq_some_iff.1 HI0.out).1
      obtain ⟨zq, HZQ⟩ : ∃ zq : Array Value, Hid (zq = q.cells) := ⟨_, rfl⟩
      have HZS : Hid (zq.size = 7) := by unfold Hid; rw [HZQ.out]; rfl
      have HTZ : Hid (World.there { heap := u2.heap, tape := u2.tape, drawn := u2.drawn + 1, os := u2.os, output := u2.output } g' (k1n * 7) zq.size) := by unfold Hid; rw [HZS.out]; exact (HT2.out.n.below (below_drewN bR 1)).there HKL.out
      have HINF : Hid ((Tryz.prog.info? 42).map (·.size) = some zq.size) := by unfold Hid; rw [HZS.out]; kernel_rfl
      have HONE : Hid (zq.all (·.oneCell') = true) := by unfold Hid; rw [HZQ.out]; exact one_cells q
      obtain ⟨u3, HU3⟩ : ∃ u3, Hid (u3 = World.setCells { heap := u2.heap, tape := u2.tape, drawn := u2.drawn + 1, os := u2.os, output := u2.output } g' (k1n * 7) zq.toList) := ⟨_, rfl⟩
      have hd2 : Below u2.heap.size u2 u2.drew := below_drewN bR 1
      have HK3 : Hid (Me.Keeps (fun k => k = g') u2.drew u3) := by unfold Hid; rw [HU3.out]; exact (setCells_heap _ _ _).2
      have HT3 : Hid (Tb w u3 xr (.slice (some ⟨g', 0, none⟩) n' c') (.slice none 0 0) AR ((insA A k1n p).set k1n q) []) := (HT2.out.more hd2).putN HK3.out (by rw [HU3.out, HZQ.out]; exact (HT2.out.n.below hd2).put HKL.out q)
      have HG' : Hid (w.heap.size <= g' /\ g' < u.heap.size) := ⟨(HTt.out.n.lt rfl).1, (HTt.out.n.lt rfl).2⟩
      have HR3 : Hid (u3.heap[u.heap.size]? = some (.cells p.cells 42)) := by
       have h1 : u2.drew.heap[u.heap.size]? = some (.cells p.cells 42) := HR2.out
       exact (HK3.out.block _ (gsl h1) (by have := HG'.out; omega)).trans h1
      have HI2 : Hid (((insA A k1n p).set k1n q)[mm]? = some q) := by
       unfold Hid; rw [List.getElem?_set_ne (by have := HK1N.out; omega)]; exact HI1.out
      have HML : Hid (mm < ((insA A k1n p).set k1n q).length) := (List.getElem?_eq_some_iff.1 HI2.out).1
      have h3 : u3.cell? ⟨w.heap.size + 1, 1, none⟩ = some (.slice (some ⟨g', 0, none⟩) n' c') := HT3.out.cells.2.1
      have HLX : Hid ((Instr.loadAt 42 (.pointer (some ⟨u.heap.size, 0, none⟩))).run Tryz.prog u3 = .ok (.agg p.cells) u3) := box_load HR3.out Tryz.underlying42 rfl (by kernel_rfl)
      obtain ⟨zp, HZP⟩ : ∃ zp : Array Value, Hid (zp = p.cells) := ⟨_, rfl⟩
      have HZPS : Hid (zp.size = 7) := by unfold Hid; rw [HZP.out]; rfl
      have HTY : Hid (u3.there g' (mm * 7) zp.size) := by unfold Hid; rw [HZPS.out]; exact HT3.out.n.there HML.out
      have HINP : Hid ((Tryz.prog.info? 42).map (·.size) = some zp.size) := by unfold Hid; rw [HZPS.out]; kernel_rfl
      have HONP : Hid (zp.all (·.oneCell') = true) := by unfold Hid; rw [HZP.out]; exact one_cells p
      obtain ⟨u4, HU4⟩ : ∃ u4, Hid (u4 = u3.setCells g' (mm * 7) zp.toList) := ⟨_, rfl⟩
      have HT4 : Hid (Tb w u4 xr (.slice (some ⟨g', 0, none⟩) n' c') (.slice none 0 0) AR (insA A mm p) []) := by
       have h1 := HT3.out.putN (u1 := u4) (by rw [HU4.out]; exact (setCells_heap _ _ _).2) (by rw [HU4.out, HZP.out]; exact HT3.out.n.put HML.out p)
       rw [HK1N.out, insA_swap HQ.out] at h1
       exact h1
      clear hb2 hbt hr2 hb1 hs1 hr1 HLD h0 HZC HTt hcl1 hclq hg1 hd2 HT2 HR2 HKL HK3 HT3 HR3 HI0 HI1 HI2 HML
      go_upto_region 20 with fail
      refine wp_region_still_tail 10 (by kernel_rfl) (by kernel_rfl) ?_
      simp only [List.take_succ_cons, List.take_zero, List.drop_succ_cons, List.drop_zero]
      iterate 10 still_step
      refine wpStill_nil ?_
      refine wpList_store_mid rfl 42 (.tmp 130) (.tmp 129) rfl g' (k1n * 7) zq rfl (by rw [HZQ.out]; rfl) HTZ.out HINF.out HONE.out ?_
      rw [<- HU3.out]
      clear d0 d1 d2 d3 d4 d5 d6 h2 HTZ HINF HONE HZS HU3
      go_upto_region 18 with (first | (refine wpList_ld 42 ⟨u.heap.size, 0, none⟩ (.tmp 9) rfl rfl HLX.out rfl ?_) | (refine wpList_store_mid rfl 42 (.tmp 136) (.tmp 135) rfl g' (mm * 7) zp rfl (by rw [HZP.out]; rfl) HTY.out HINP.out HONP.out ?_) | fail)
      rw [<- HU4.out]
      clear h3 HLX HTY HINP HONP HZPS HU4
      go_wp2_with fail
      go_roundw
      case rel => exact ⟨mm, rfl, HMJ.out, HT4, HHI2⟩
      case measure => simp [intOf]; have := HK1N.out; omega
     ·have hpq' : decide ((p.ip : Int) < (q.ip : Int)) = false := by rw [decide_eq_false_iff_not]; omega
      have HF := HFIN (fun m2 q2 e hq2 => by
       have : m2 = mm := by have := HK1N.out; omega
       subst this
       rw [HQ.out] at hq2
       cases hq2
       have := HNEQ.out
       omega)
      clear HFIN hcl1 hcl2
      go_upto_region 17 with fail
      refine wp_region_beh (by kernel_rfl) (by kernel_rfl) ?_
      repeat (go_big_quiet_step (fail))
      refine wpQuiet_nil ?_
      rintro _ ⟨t, rfl⟩
      have HTt := hid (HTk.out.more t.ok)
      clear k1 l1 ku kh
      go_wp2_with fail
      go_roundw
      case rel => exact ⟨j + 1, _, _, by go_num, hlt, HTt, HF⟩
      case measure => simp [intOf]; omega
  ·have hlt' : ¬ (j : Int) < (nn : Int) := int_nlt hlt
   have HS1 : Hid (SrtK (fun e : Nb => e.ip) A s.N) := by
    have := HS.out
    rw [List.take_of_length_le (by have := HNN.out; omega)] at this
    exact this
   obtain ⟨xn, AN, HTF, HSN⟩ : ∃ (xn : Value) (AN : List Nb), Hid (Tb w wr xr xn (.slice none 0 0) AR AN []) /\ Hid (SrtK (fun e : Nb => e.ip) AN s.N) := ⟨x, A, HT, HS1⟩
   clear HT HS HS1 hlt hj HRR HTN
   go_upto_region 23 with fail
   go_loopw [10] (fun i wr => ∃ (j : Nat) (x : Value) (A : List Fd), i = .int .i64 (j : Int) /\ j <= nf /\ Hid (Tb w wr xr xn x AR AN A) /\ Hid (SrtK (fun e : Fd => e.mac.num) A ((s.F).take j))) (fun i _ => nf - (intOf i).toNat)
   case atStart => exact ⟨0, .slice none 0 0, [], rfl, Nat.zero_le _, HTF.out, by unfold Hid SrtK; exact ⟨List.Pairwise.nil, fun e => by simp⟩⟩
   case round =>
   obtain ⟨j, x, A, rfl, hj, HT, HS⟩ := hrel
   have HRR := hid (HR.out.below HT.out.bel)
   have c0 : wr.cell? ⟨m, 2, none⟩ = some (.slice af nf cf) := HRR.out.cells.2.2.1
   by_cases hlt : j < nf
   ·have hlt' : (j : Int) < (nf : Int) := int_lt hlt
    have hj0 : (0 : Int) <= (j : Int) := by omega
    obtain ⟨p, HX⟩ : ∃ p, Hid ((s.F)[j]? = some p) := ⟨_, hid (List.getElem?_eq_getElem (by have := HNF.out; omega))⟩
    have HAL : Hid (A.length = j) := srt_len HRR.out.ok.fn HS.out (by have := HNF.out; omega)
    have HPA : Hid (∀ q ∈ A, q.mac.num ≠ p.mac.num) := fun q hq => numF HRR.out.ok HX.out q ((HS.out.2 q).1 hq)
    obtain ⟨a1, n1, c1, rfl, HN1, -, -⟩ := HT.out.f.shape
    obtain ⟨g, rfl, hg, hcl⟩ := atF HRR.out.f HX.out
    have HLD := hid fun (u : World) (hu : u.heap[g]? = wr.heap[g]?) => (hcl u hu).2.2
    have HG := hid hg
    clear hcl hg
    go_upto_region 25 with fail
    refine wp_region_mono' 10 (fun i => ([146, 147, 148, 149, 150, 151, 152, 153, 154, 155] : List Tmp).getD i 0) (FB9 [.pointer (some ⟨w.heap.size + 1, 2, none⟩), .slice a1 n1 c1, .pointer (some ⟨m, 0, none⟩), .pointer (some ⟨m, 0, none⟩), .pointer (some ⟨m, 2, none⟩), .slice (some ⟨g, 0, none⟩) nf cf, .int .i64 (j : Int), .pointer (some ⟨g, j * 7, none⟩), .agg p.cells] p.cells 44 wr.heap.size) (by kernel_rfl) (by kernel_rfl) (FB9.keeps _ _ _ _) ?_ ?_
    ·simp only [List.take_succ_cons, List.take_zero, stepsOk]
     refine ⟨?_, ?_, ?_, ?_, ?_, ?_, ?_, ?_, ?_, ?_, trivial⟩
     ·intro a y vs hb hold hdep
      exact fb9_still (.pointer (some ⟨w.heap.size + 1, 2, none⟩)) (ex_field _ ⟨w.heap.size + 1, 0, none⟩ (.tmp 3) 2 _ rfl (hold 3 (dlM (L := [146, 147, 148, 149, 150, 151, 152, 153, 154, 155]) (by decide))) (by kernel_rfl)) rfl (by decide) rfl hb
     ·intro a y vs hb hold hdep
      have hc := (HT.out.more hb).cells.2.2
      exact fb9_still (.slice a1 n1 c1) (ex_load _ ⟨w.heap.size + 1, 2, none⟩ (.tmp 146) _ rfl (FB9.dep (hdep ⟨0, .data⟩ (by simp) rfl (by decide)) (by decide) rfl) (by simp [go_sem, hc])) rfl (by decide) rfl hb
     ·intro a y vs hb hold hdep
      exact fb9_still (.pointer (some ⟨m, 0, none⟩)) (ex_move (.tmp 0) _ rfl (hold 0 (dlM (L := [146, 147, 148, 149, 150, 151, 152, 153, 154, 155]) (by decide)))) rfl (by decide) rfl hb
     ·intro a y vs hb hold hdep
      exact fb9_still (.pointer (some ⟨m, 0, none⟩)) (ex_nil ⟨m, 0, none⟩ (.tmp 148) rfl (FB9.dep (hdep ⟨2, .data⟩ (by simp) rfl (by decide)) (by decide) rfl)) rfl (by decide) rfl hb
     ·intro a y vs hb hold hdep
      exact fb9_still (.pointer (some ⟨m, 2, none⟩)) (ex_field _ ⟨m, 0, none⟩ (.tmp 149) 2 _ rfl (FB9.dep (hdep ⟨3, .data⟩ (by simp) rfl (by decide)) (by decide) rfl) (by kernel_rfl)) rfl (by decide) rfl hb
     ·intro a y vs hb hold hdep
      have hc := (HRR.out.below hb).cells.2.2.1
      exact fb9_still (.slice (some ⟨g, 0, none⟩) nf cf) (ex_load _ ⟨m, 2, none⟩ (.tmp 150) _ rfl (FB9.dep (hdep ⟨4, .data⟩ (by simp) rfl (by decide)) (by decide) rfl) (by simp [go_sem, hc])) rfl (by decide) rfl hb
     ·intro a y vs hb hold hdep
      exact fb9_still (.int .i64 (j : Int)) (ex_move (.tmp 10) _ rfl (hold 10 (dlM (L := [146, 147, 148, 149, 150, 151, 152, 153, 154, 155]) (by decide)))) rfl (by decide) rfl hb
     ·intro a y vs hb hold hdep
      exact fb9_still (.pointer (some ⟨g, j * 7, none⟩)) (ex_index _ (.tmp 151) (.tmp 152) _ _ _ rfl (FB9.dep (hdep ⟨5, .data⟩ (by simp) rfl (by decide)) (by decide) rfl) (FB9.dep (hdep ⟨6, .data⟩ (by simp) rfl (by decide)) (by decide) rfl) (idxF hlt y)) rfl (by decide) rfl hb
     ·intro a y vs hb hold hdep
      exact fb9_still (.agg p.cells) (ex_load _ ⟨g, j * 7, none⟩ (.tmp 153) _ rfl (FB9.dep (hdep ⟨7, .data⟩ (by simp) rfl (by decide)) (by decide) rfl) (HLD.out y (hb.block g HG.out))) rfl (by decide) rfl hb
     ·intro a y vs hb hold hdep
      have e8 : a.eval (.tmp 154) = .agg p.cells := (FB9.dep (hdep ⟨8, .data⟩ (by simp) rfl (by decide)) (by decide) rfl)
      have hb' : Below y.heap.size y (y.alloc (.cells p.cells 44)) := bR.alloc nL _
      exact wp_val (ex_bsE 49 1 #[(0, .tmp 154)] #[(0, .agg p.cells)] _ rfl (by simp only [List.map_toArray, List.map_cons, List.map_nil, e8]) (build1F p y)) ⟨_, rfl, ⟨fun _ => ⟨y.heap.size, rfl, hb.size, heap_alloc_new y _⟩, fun h => absurd rfl h⟩, hb.trans (hb'.mono hb.size), hb'⟩
    intro vs y hb hF
    have e0 : vs 0 = .pointer (some ⟨w.heap.size + 1, 2, none⟩) := (hF 0 (by decide)).is (by decide) rfl
    have e1 : vs 1 = .slice a1 n1 c1 := (hF 1 (by decide)).is (by decide) rfl
    have e2 : vs 2 = .pointer (some ⟨m, 0, none⟩) := (hF 2 (by decide)).is (by decide) rfl
    have e3 : vs 3 = .pointer (some ⟨m, 0, none⟩) := (hF 3 (by decide)).is (by decide) rfl
    have e4 : vs 4 = .pointer (some ⟨m, 2, none⟩) := (hF 4 (by decide)).is (by decide) rfl
    have e5 : vs 5 = .slice (some ⟨g, 0, none⟩) nf cf := (hF 5 (by decide)).is (by decide) rfl
    have e6 : vs 6 = .int .i64 (j : Int) := (hF 6 (by decide)).is (by decide) rfl
    have e7 : vs 7 = .pointer (some ⟨g, j * 7, none⟩) := (hF 7 (by decide)).is (by decide) rfl
    have e8 : vs 8 = .agg p.cells := (hF 8 (by decide)).is (by decide) rfl
    obtain ⟨b9, e9, -, hr9⟩ := (hF 9 (by decide)).1 rfl
    clear hF
    simp only [List.drop_succ_cons, List.drop_zero, puts, List.range, List.range.loop, List.foldr, if_true, List.getD_cons_zero, List.getD_cons_succ, e0, e1, e2, e3, e4, e5, e6, e7, e8, e9, Act.put, List.setIfInBounds_toArray, List.set_cons_zero, List.set_cons_succ]
    clear e0 e1 e2 e3 e4 e5 e6 e7 e8 e9
    have HTY := hid (HT.out.more hb)
    obtain ⟨v', w5, hap, ho5, hg5, -⟩ := append_one (K := kF) 49 p b9 HTY.out.f hr9 HTY.out.bel.size (by have := HAL.out; omega)
    obtain ⟨g', n', c', rfl, hn'⟩ := own_some ho5
    have hk5 : Me.Keeps (fun k => Value.ownBlock (.slice a1 n1 c1) = some k) y w5 := Me.Keeps.grown hg5 fun k e => e
    have HAP : Hid ((Builtin.append_ #[49, 49] 49 #[.slice a1 n1 c1, .slice (some ⟨b9, 0, none⟩) 1 1]).run Tryz.prog y = .ok (.slice (some ⟨g', 0, none⟩) n' c') w5) := hap
    obtain ⟨w6, HW6⟩ : ∃ w6, Hid (w6 = w5.setCell ⟨w.heap.size + 1, 2, none⟩ (.slice (some ⟨g', 0, none⟩) n' c')) := ⟨_, rfl⟩
    have HT6 : Hid (Tb w w6 xr xn (.slice (some ⟨g', 0, none⟩) n' c') AR AN (insA A A.length p)) := by
     unfold Hid
     rw [HW6.out, insA_end]
     exact HTY.out.setF hk5 ho5
    have r5 : w5.heap[w.heap.size + 1]? = _ := (hk5.block _ HTY.out.lt fun e => (HTY.out.apart.2.2 _ e).2.1 rfl).trans HTY.out.row
    obtain ⟨v5, m5⟩ : ∃ v, w5.cell? ⟨w.heap.size + 1, 2, none⟩ = some v := ⟨_, crw r5 rfl⟩
    have m6 : w5.frozen? ⟨w.heap.size + 1, 2, none⟩ = false := frozen_of_row _ _ _ _ _ r5
    have hn3 : n' <= 257 := by have := HAL.out; omega
    have HNJ : Hid (n' = j + 1) := by have := HAL.out; unfold Hid; omega
    have HBY := hid hb
    clear hap ho5 hg5 hk5 r5 hn' HT hb hr9 HTY HLD HG
    go_upto_region 26 with (first | (at_builtin; refine wpList_append_run _ rfl (.tmp 147) (.tmp 155) 49 49 rfl _ _ rfl rfl HAP.out ?_) | fail)
    rw [<- HW6.out]
    clear m5 m6 c0 HAP HW6
    go_upto_region 27 with fail
    go_loopw [11] (fun i wx => ∃ k : Nat, i = .int .i64 (k : Int) /\ k <= j /\ Hid (Tb w wx xr xn (.slice (some ⟨g', 0, none⟩) n' c') AR AN (insA A k p)) /\ Hid (∀ q ∈ A.drop k, p.mac.num < q.mac.num)) (fun i _ => (intOf i).toNat)
    case atStart => exact ⟨j, rfl, nL, by have := HT6; rw [HAL.out] at this; exact this, fun q hq => absurd hq (by rw [<- HAL.out]; simp)⟩
    case round =>
     obtain ⟨k, rfl, hk, HTk, HHI⟩ := hrel
     have HFIN : (∀ m q, k = m + 1 -> A[m]? = some q -> q.mac.num < p.mac.num) -> Hid (SrtK (fun e : Fd => e.mac.num) (insA A k p) ((s.F).take (j + 1))) := fun hlo => srt_ins HS.out HX.out (by have := HAL.out; omega) hlo HHI.out
     cases k with
     | zero =>
      have HF := HFIN (fun m q e => absurd e (by omega))
      clear HFIN
      go_upto_region 27 with fail
      refine wp_region_beh (by kernel_rfl) (by kernel_rfl) ?_
      repeat (go_big_quiet_step (fail))
      refine wpQuiet_nil ?_
      rintro _ ⟨t, rfl⟩
      have HTt := hid (HTk.out.more t.ok)
      go_wp2_with fail
      go_roundw
      case rel => exact ⟨j + 1, _, _, by go_num, hlt, HTt, HF⟩
      case measure => simp [intOf]; omega
     | succ mm =>
      obtain ⟨q, HQ⟩ : ∃ q, Hid (A[mm]? = some q) := ⟨_, hid (List.getElem?_eq_getElem (by have := HAL.out; omega))⟩
      have HI0 : Hid ((insA A (mm + 1) p)[mm + 1]? = some p) := insA_at (by have := HAL.out; omega)
      have HI1 : Hid ((insA A (mm + 1) p)[mm]? = some q) := by unfold Hid; rw [insA_ahead (by have := HAL.out; omega)]; exact HQ.out
      obtain ⟨g1, e1, hg1, hcl1⟩ := cellsF HTk.out.f HI0.out
      obtain ⟨g2, e2, hg2, hcl2⟩ := cellsF HTk.out.f HI1.out
      simp only [Option.some.injEq, Addr.mk.injEq, and_true] at e1 e2
      subst e1
      subst e2
      have ku : ∀ t : Beh wr, t.wd.heap[g']? = wr.heap[g']? := fun t => t.ok.block g' hg1
      have kh : ∀ t : Beh wr, t.wd.cell? ⟨w.heap.size + 1, 2, none⟩ = some (.slice (some ⟨g', 0, none⟩) n' c') := fun t => (HTk.out.more t.ok).cells.2.2
      have km1 : (((mm + 1 : Nat) : Int) - 1) = (mm : Int) := by omega
      have km2 : IntKind.i64.wrap (((mm + 1 : Nat) : Int) - 1) = (mm : Int) := by rw [IntKind.wrap_i64]; omega
      have km3 : (0 : Int) < ((mm + 1 : Nat) : Int) := by omega
      have km4 : ((mm + 1 : Nat) : Int) < (n' : Int) := by have := HNJ.out; omega
      have km5 : (mm : Int) < (n' : Int) := by have := HNJ.out; omega
      have km6 : ¬ ((mm + 1 : Nat) : Int) < 0 := by omega
      have km8 : (0 : Int) <= ((mm + 1 : Nat) : Int) := by omega
      have km9 : (0 : Int) <= (mm : Int) := by omega
      have km10 : IntKind.i64.wrap (mm : Int) = (mm : Int) := by rw [IntKind.wrap_i64]; omega
      have HNEQ : Hid (q.mac.num ≠ p.mac.num) := HPA.out q (List.mem_of_getElem? HQ.out)
      obtain ⟨k1n, HK1N⟩ : ∃ k1n, Hid (k1n = mm + 1) := ⟨_, rfl⟩
      rw [<- HK1N.out] at hk HTk HHI HFIN HI0 HI1 hcl1 km1 km2 km3 km4 km6 km8 ⊢
      have km7 : 0 < k1n := by have := HK1N.out; omega
      have hkn : k1n <= n' := by have := HNJ.out; omega
      have k0 : ∀ t : Beh wr, t.wd.cell? ⟨g', k1n * 7, none⟩ = some (.int .u8 (p.mac.b0 : Int)) := fun t => (hcl1 t.wd (ku t)).1
      have k1 : ∀ t : Beh wr, t.wd.cell? ⟨g', k1n * 7 + 1, none⟩ = some (.int .u8 (p.mac.b1 : Int)) := fun t => (hcl1 t.wd (ku t)).2.1
      have k2 : ∀ t : Beh wr, t.wd.cell? ⟨g', k1n * 7 + 2, none⟩ = some (.int .u8 (p.mac.b2 : Int)) := fun t => (hcl1 t.wd (ku t)).2.2.1
      have k3 : ∀ t : Beh wr, t.wd.cell? ⟨g', k1n * 7 + 3, none⟩ = some (.int .u8 (p.mac.b3 : Int)) := fun t => (hcl1 t.wd (ku t)).2.2.2.1
      have k4 : ∀ t : Beh wr, t.wd.cell? ⟨g', k1n * 7 + 4, none⟩ = some (.int .u8 (p.mac.b4 : Int)) := fun t => (hcl1 t.wd (ku t)).2.2.2.2.1
      have k5 : ∀ t : Beh wr, t.wd.cell? ⟨g', k1n * 7 + 5, none⟩ = some (.int .u8 (p.mac.b5 : Int)) := fun t => (hcl1 t.wd (ku t)).2.2.2.2.2.1
      have l0 : ∀ t : Beh wr, t.wd.cell? ⟨g', mm * 7, none⟩ = some (.int .u8 (q.mac.b0 : Int)) := fun t => (hcl2 t.wd (ku t)).1
      have l1 : ∀ t : Beh wr, t.wd.cell? ⟨g', mm * 7 + 1, none⟩ = some (.int .u8 (q.mac.b1 : Int)) := fun t => (hcl2 t.wd (ku t)).2.1
      have l2 : ∀ t : Beh wr, t.wd.cell? ⟨g', mm * 7 + 2, none⟩ = some (.int .u8 (q.mac.b2 : Int)) := fun t => (hcl2 t.wd (ku t)).2.2.1
      have l3 : ∀ t : Beh wr, t.wd.cell? ⟨g', mm * 7 + 3, none⟩ = some (.int .u8 (q.mac.b3 : Int)) := fun t => (hcl2 t.wd (ku t)).2.2.2.1
      have l4 : ∀ t : Beh wr, t.wd.cell? ⟨g', mm * 7 + 4, none⟩ = some (.int .u8 (q.mac.b4 : Int)) := fun t => (hcl2 t.wd (ku t)).2.2.2.2.1
      have l5 : ∀ t : Beh wr, t.wd.cell? ⟨g', mm * 7 + 5, none⟩ = some (.int .u8 (q.mac.b5 : Int)) := fun t => (hcl2 t.wd (ku t)).2.2.2.2.2.1
      obtain ⟨CC, HC⟩ : ∃ CC, Hid (CC = cpM p.mac q.mac) := ⟨_, rfl⟩
      have HMP : Hid (p.mac.Ok) := (HRR.out.ok.fk p (List.mem_of_getElem? HX.out)).1
      have HMQ : Hid (q.mac.Ok) := (HRR.out.ok.fk q (List.mem_of_mem_take ((HS.out.2 q).1 (List.mem_of_getElem? HQ.out)))).1
      have HCM : ∀ t : Beh wr, Hid (Calls Tryz.prog 69 #[.agg #[.int .u8 (p.mac.b0 : Int), .int .u8 (p.mac.b1 : Int), .int .u8 (p.mac.b2 : Int), .int .u8 (p.mac.b3 : Int), .int .u8 (p.mac.b4 : Int), .int .u8 (p.mac.b5 : Int)], .agg #[.int .u8 (q.mac.b0 : Int), .int .u8 (q.mac.b1 : Int), .int .u8 (q.mac.b2 : Int), .int .u8 (q.mac.b3 : Int), .int .u8 (q.mac.b4 : Int), .int .u8 (q.mac.b5 : Int)]] t.wd fun e w'' => e = .returned (.int .i64 CC) /\ ∃ t' : Beh wr, w'' = t'.wd) := fun t => by
       rw [HC.out]
       exact Calls.beh (compare9 p.mac q.mac t.wd HMP.out HMQ.out)
      by_cases hb : CC < 0
      ·have hpq : p.mac.num < q.mac.num := (cpM_neg HMP.out HMQ.out).1 (by rw [<- HC.out]; exact hb)
       have HHI2 : Hid (∀ q2 ∈ A.drop mm, p.mac.num < q2.mac.num) := fun q2 hq2 => by
        rw [List.drop_eq_getElem_cons (List.getElem?_eq_some_iff.1 HQ.out).1, (List.getElem?_eq_some_iff.1 HQ.out).2] at hq2
        rcases List.mem_cons.1 hq2 with rfl | hq2
        ·exact hpq
        ·rw [HK1N.out] at HHI; exact HHI.out q2 hq2
       have HMJ : Hid (mm <= j) := by have := HK1N.out; unfold Hid; omega
       clear HFIN hpq hcl1 hcl2 hg1 hg2
       go_upto_region 27 with fail
       refine wp_region_beh (by kernel_rfl) (by kernel_rfl) ?_
       repeat (go_big_quiet_step (first | (go_at_call 69; exact (HCM _).out) | fail))
       refine wpQuiet_nil ?_
       rintro _ ⟨t, rfl⟩
       have HTt := hid (HTk.out.more t.ok)
       clear k0 k1 k2 k3 k4 k5 l0 l1 l2 l3 l4 l5 ku kh HCM HTk
       generalize t.wd = u at *
       clear t
       obtain ⟨_, e1, hg1, hcl1⟩ := atF HTt.out.f HI0.out
       simp only [Option.some.injEq, Addr.mk.injEq, and_true] at e1
       subst e1
       have HLD := hid (hcl1 u rfl).2.2
       have h0 : u.cell? ⟨w.heap.size + 1, 2, none⟩ = some (.slice (some ⟨g', 0, none⟩) n' c') := HTt.out.cells.2.2
       have HZC : Hid (p.cells.all (·.oneCell') = true) := one_cells p
       clear hcl1 hg1
       go_upto_region 30 with (first | (refine wpList_ld 44 ⟨g', k1n * 7, none⟩ (.tmp 183) rfl rfl HLD.out rfl ?_) | (refine wpList_alB rfl 44 zF7 rfl alloc_fd ?_; intro u1 hb1 hs1 hr1) | (refine wpList_stB rfl 44 (.tmp 12) (.tmp 184) rfl u.heap.size p.cells rfl rfl zF7 hr1 (by kernel_rfl) rfl HZC.out ?_; intro u2 hbt hr2) | fail)
       have hb2 : Below u.heap.size u u2 := ⟨hbt.os.trans hb1.os, hbt.tape.trans hb1.tape, hbt.output.trans hb1.output, Nat.le_trans hb1.size hbt.size, fun k hk => (hbt.block k (by omega) (by omega)).trans (hb1.block k hk)⟩
       have HT2 := hid (HTt.out.more hb2)
       have HR2 : Hid (u2.heap[u.heap.size]? = some (.cells p.cells 44)) := hr2
       obtain ⟨_, e1, hg1, hcl1⟩ := cellsF HT2.out.f HI1.out
       simp only [Option.some.injEq, Addr.mk.injEq, and_true] at e1
       subst e1
       have hclq := hcl1 u2 rfl
       have d0 : u2.cell? ⟨g', mm * 7, none⟩ = some (.int .u8 (q.mac.b0 : Int)) := hclq.1
       have d1 : u2.cell? ⟨g', mm * 7 + 1, none⟩ = some (.int .u8 (q.mac.b1 : Int)) := hclq.2.1
       have d2 : u2.cell? ⟨g', mm * 7 + 2, none⟩ = some (.int .u8 (q.mac.b2 : Int)) := hclq.2.2.1
       have d3 : u2.cell? ⟨g', mm * 7 + 3, none⟩ = some (.int .u8 (q.mac.b3 : Int)) := hclq.2.2.2.1
       have d4 : u2.cell? ⟨g', mm * 7 + 4, none⟩ = some (.int .u8 (q.mac.b4 : Int)) := hclq.2.2.2.2.1
       have d5 : u2.cell? ⟨g', mm * 7 + 5, none⟩ = some (.int .u8 (q.mac.b5 : Int)) := hclq.2.2.2.2.2.1
       have d6 : u2.cell? ⟨g', mm * 7 + 6, none⟩ = some (.int .u32 (q.dest : Int)) := hclq.2.2.2.2.2.2
       have h2 : u2.cell? ⟨w.heap.size + 1, 2, none⟩ = some (.slice (some ⟨g', 0, none⟩) n' c') := HT2.out.cells.2.2
       have HKL : Hid (k1n < (insA A k1n p).length) := (List.getElem?_eq_some_iff.1 HI0.out).1
       obtain ⟨zq, HZQ⟩ : ∃ zq : Array Value, Hid (zq = q.cells) := ⟨_, rfl⟩
       have HZS : Hid (zq.size = 7) := by unfold Hid; rw [HZQ.out]; rfl
       have HTZ : Hid (World.there { heap := u2.heap, tape := u2.tape, drawn := u2.drawn + 1, os := u2.os, output := u2.output } g' (k1n * 7) zq.size) := by unfold Hid; rw [HZS.out]; exact (HT2.out.f.below (below_drewN bR 1)).there HKL.out
       have HINF : Hid ((Tryz.prog.info? 44).map (·.size) = some zq.size) := by unfold Hid; rw [HZS.out]; kernel_rfl
       have HONE : Hid (zq.all (·.oneCell') = true) := by unfold Hid; rw [HZQ.out]; exact one_cells q
       obtain ⟨u3, HU3⟩ : ∃ u3, Hid (u3 = World.setCells { heap := u2.heap, tape := u2.tape, drawn := u2.drawn + 1, os := u2.os, output := u2.output } g' (k1n * 7) zq.toList) := ⟨_, rfl⟩
       have hd2 : Below u2.heap.size u2 u2.drew := below_drewN bR 1
       have HK3 : Hid (Me.Keeps (fun k => k = g') u2.drew u3) := by unfold Hid; rw [HU3.out]; exact (setCells_heap _ _ _).2
       have HT3 : Hid (Tb w u3 xr xn (.slice (some ⟨g', 0, none⟩) n' c') AR AN ((insA A k1n p).set k1n q)) := (HT2.out.more hd2).putF HK3.out (by rw [HU3.out, HZQ.out]; exact (HT2.out.f.below hd2).put HKL.out q)
       have HG' : Hid (w.heap.size <= g' /\ g' < u.heap.size) := ⟨(HTt.out.f.lt rfl).1, (HTt.out.f.lt rfl).2⟩
       have HR3 : Hid (u3.heap[u.heap.size]? = some (.cells p.cells 44)) := by
        have h1 : u2.drew.heap[u.heap.size]? = some (.cells p.cells 44) := HR2.out
        exact (HK3.out.block _ (gsl h1) (by have := HG'.out; omega)).trans h1
       have HI2 : Hid (((insA A k1n p).set k1n q)[mm]? = some q) := by
        unfold Hid; rw [List.getElem?_set_ne (by have := HK1N.out; omega)]; exact HI1.out
       have HML : Hid (mm < ((insA A k1n p).set k1n q).length) := (List.getElem?_eq_some_iff.1 HI2.out).1
       have h3 : u3.cell? ⟨w.heap.size + 1, 2, none⟩ = some (.slice (some ⟨g', 0, none⟩) n' c') := HT3.out.cells.2.2
       have HLX : Hid ((Instr.loadAt 44 (.pointer (some ⟨u.heap.size, 0, none⟩))).run Tryz.prog u3 = .ok (.agg p.cells) u3) := box_load HR3.out Tryz.underlying44 rfl (by kernel_rfl)
       obtain ⟨zp, HZP⟩ : ∃ zp : Array Value, Hid (zp = p.cells) := ⟨_, rfl⟩
       have HZPS : Hid (zp.size = 7) := by unfold Hid; rw [HZP.out]; rfl
       have HTY : Hid (u3.there g' (mm * 7) zp.size) := by unfold Hid; rw [HZPS.out]; exact HT3.out.f.there HML.out
       have HINP : Hid ((Tryz.prog.info? 44).map (·.size) = some zp.size) := by unfold Hid; rw [HZPS.out]; kernel_rfl
       have HONP : Hid (zp.all (·.oneCell') = true) := by unfold Hid; rw [HZP.out]; exact one_cells p
       obtain ⟨u4, HU4⟩ : ∃ u4, Hid (u4 = u3.setCells g' (mm * 7) zp.toList) := ⟨_, rfl⟩
       have HT4 : Hid (Tb w u4 xr xn (.slice (some ⟨g', 0, none⟩) n' c') AR AN (insA A mm p)) := by
        have h1 := HT3.out.putF (u1 := u4) (by rw [HU4.out]; exact (setCells_heap _ _ _).2) (by rw [HU4.out, HZP.out]; exact HT3.out.f.put HML.out p)
        rw [HK1N.out, insA_swap HQ.out] at h1
        exact h1
       clear hb2 hbt hr2 hb1 hs1 hr1 HLD h0 HZC HTt hcl1 hclq hg1 hd2 HT2 HR2 HKL HK3 HT3 HR3 HI0 HI1 HI2 HML
       go_upto_region 30 with fail
       refine wp_region_still_tail 10 (by kernel_rfl) (by kernel_rfl) ?_
       simp only [List.take_succ_cons, List.take_zero, List.drop_succ_cons, List.drop_zero]
       iterate 10 still_step
       refine wpStill_nil ?_
       refine wpList_store_mid rfl 44 (.tmp 194) (.tmp 193) rfl g' (k1n * 7) zq rfl (by rw [HZQ.out]; rfl) HTZ.out HINF.out HONE.out ?_
       rw [<- HU3.out]
       clear d0 d1 d2 d3 d4 d5 d6 h2 HTZ HINF HONE HZS HU3
       go_upto_region 28 with (first | (refine wpList_ld 44 ⟨u.heap.size, 0, none⟩ (.tmp 12) rfl rfl HLX.out rfl ?_) | (refine wpList_store_mid rfl 44 (.tmp 200) (.tmp 199) rfl g' (mm * 7) zp rfl (by rw [HZP.out]; rfl) HTY.out HINP.out HONP.out ?_) | fail)
       rw [<- HU4.out]
       clear h3 HLX HTY HINP HONP HZPS HU4
       go_wp2_with fail
       go_roundw
       case rel => exact ⟨mm, rfl, HMJ.out, HT4, HHI2⟩
       case measure => simp [intOf]; have := HK1N.out; omega
      ·have hpq : ¬ p.mac.num < q.mac.num := fun h => hb (by rw [HC.out]; exact (cpM_neg HMP.out HMQ.out).2 h)
       have hb' : decide (CC < 0) = false := by rw [decide_eq_false_iff_not]; exact hb
       have HF := HFIN (fun m2 q2 e hq2 => by
        have : m2 = mm := by have := HK1N.out; omega
        subst this
        rw [HQ.out] at hq2
        cases hq2
        have := HNEQ.out
        omega)
       clear HFIN hcl1 hcl2
       go_upto_region 27 with fail
       refine wp_region_beh (by kernel_rfl) (by kernel_rfl) ?_
       repeat (go_big_quiet_step (first | (go_at_call 69; exact (HCM _).out) | fail))
       refine wpQuiet_nil ?_
       rintro _ ⟨t, rfl⟩
       have HTt := hid (HTk.out.more t.ok)
       clear k0 k1 k2 k3 k4 k5 l0 l1 l2 l3 l4 l5 ku kh HCM
       go_wp2_with fail
       go_roundw
       case rel => exact ⟨j + 1, _, _, by go_num, hlt, HTt, HF⟩
       case measure => simp [intOf]; omega
   ·have hlt' : ¬ (j : Int) < (nf : Int) := int_nlt hlt
    have HS1 : Hid (SrtK (fun e : Fd => e.mac.num) A (s.F)) := by
     have := HS.out
     rw [List.take_of_length_le (by have := HNF.out; omega)] at this
     exact this
    obtain ⟨a1, n1, c1, hx1, -, -, -⟩ := HT.out.r.shape
    obtain ⟨a2, n2, c2, hx2, -, -, -⟩ := HT.out.n.shape
    obtain ⟨a3, n3, c3, hx3, -, -, -⟩ := HT.out.f.shape
    subst hx1 hx2 hx3
    have e0 := HT.out.cells.1
    have e1 := HT.out.cells.2.1
    have e2 := HT.out.cells.2.2
    have HZC : Hid ((#[Value.slice a1 n1 c1, .slice a2 n2 c2, .slice a3 n3 c3] : Array Value).all (·.oneCell') = true) := by unfold Hid; simp [Value.oneCell']
    clear hlt hj HRR HTF HS
    go_wp2_with (first | (refine wpList_stB rfl 51 (.tmp 2) (.tmp 201) rfl w.heap.size #[.slice a1 n1 c1, .slice a2 n2 c2, .slice a3 n3 c3] rfl rfl tbZ HT.out.res (by kernel_rfl) rfl HZC.out ?_; intro w9 hbt hr9) | fail)
    have u0 : w9.cell? ⟨w.heap.size, 0, none⟩ = some (.slice a1 n1 c1) := crw hr9 rfl
    have u1 : w9.cell? ⟨w.heap.size, 1, none⟩ = some (.slice a2 n2 c2) := crw hr9 rfl
    have u2 : w9.cell? ⟨w.heap.size, 2, none⟩ = some (.slice a3 n3 c3) := crw hr9 rfl
    have hk9 : Me.Keeps (fun k => k = w.heap.size) wr w9 := ⟨hbt.os, hbt.tape, hbt.output, hbt.size, fun k hk hn => hbt.block k hk hn⟩
    have hb9 : Below w.heap.size w w9 := keeps_below HT.out.bel hk9 fun k e => by omega
    obtain ⟨p1, p2, p3⟩ := HT.out.apart
    refine bodyPost_ret (v := .agg #[.slice a1 n1 c1, .slice a2 n2 c2, .slice a3 n3 c3]) (by simp [results, Tryz.results46, go_sem, u0, u1, u2]) rfl ⟨_, rfl, _, _, _, rfl, ⟨AR, HT.out.r.keeps hk9 fun k e => (p1 k e).1, HSR.out⟩, ⟨AN, HT.out.n.keeps hk9 fun k e => (p2 k e).1, HSN.out⟩, ⟨A, HT.out.f.keeps hk9 fun k e => (p3 k e).1, HS1.out⟩, hb9⟩
end Go.Proofs.YtpdnnikkaojnkaaGreat.Rt
