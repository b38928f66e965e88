import Derived.Test.YtkkfioebpppffaaGreatDoorYFlR
namespace Go.Proofs.YtkkfioebpppffaaGreatDoor.Fl
open Go.Proofs.YtkkfioebpppffaaGreatDoor Go.ChangeShapes Go.WideShapes Go.ChangeAt Go.RowKit Go.Maps N
set_option maxHeartbeats 8000000
set_option maxRecDepth 100000

theorem build_zfw (u : World) : (Instr.build 45 #[]).run Tryz.prog u = .ok (.agg zFw.cells) u := by kernel_rfl
theorem nxt_lt (st : Nat) (hst : st < 10) (c : Ct) (back : Bool) : (nxt st c back).1 < 10 := by
  cases c with
  | dg s d => show (if back then 2 else st) < 10; split <;> omega
  | ec n r => show (if back then 2 else st) < 10; split <;> omega
  | sg s d f =>
    show (tuN st f back).1 < 10
    unfold tuN
    split
    · show 8 < 10; omega
    · exact tN_lt _ _ _
def stw (f : Fw) (s : Nat) : Fw := { f with st := s }
theorem stw_cells (f : Fw) (s : Nat) : f.cells.setIfInBounds 10 (.int .i64 (s : Int)) = (stw f s).cells := rfl

/-- What Move answers, and what it leaves. -/
def movP (lim : Int) (q : Raw) (h : Hd) (B : List Nat) (now : Int) : Fw × Int × Raw :=
  match rdC h B with
  | none => (zFw, 211, q)
  | some c =>
    match q.f (tupC h c) with
    | none => (zFw, 211, q)
    | some k =>
      let fl := (q.g k).getD zFw
      let nx := nxt fl.st c (decide (tupC h c = fl.bk))
      if nx.2 then (kpF (stw fl nx.1) now, 0, keepQ lim q k (kpF (stw fl nx.1) now)) else (fl, 0, q)

theorem move_any (w : World) (b : Nat) (lim : Int) (q : Raw) (F : Nat → Prop) (h : Hd) (vo vb : Value) (B : List Nat) (now : Int) (hs : St w b lim q F) (hok : h.Ok) (hvo : SeesB w vo h.opts) (hvb : SeesB w vb B) (hlo : h.opts.length ≤ 140737488355328) (hlb : B.length ≤ 140737488355328) (hnow : Tm.In64 now) (hcg : q.cg < 999990)
    (hfk : ∀ t k, q.f t = some k → Tm.In64 k) (hgs : ∀ k f, q.g k = some f → f.st < 10) :
    Calls Tryz.prog 13 #[.pointer (some ⟨b, 0, none⟩), .agg (pkCells h vo vb), .int .i64 now] w fun e w' => e = .returned (.tuple #[.agg (movP lim q h B now).1.cells, .int .i64 (movP lim q h B now).2.1]) ∧ StD w w' b lim (movP lim q h B now).2.2 F := by
  obtain ⟨wa, HWA⟩ : ∃ wa, Hid (wa = w.alloc (.cells (pkCells h vo vb) 35)) := ⟨_, rfl⟩
  obtain ⟨w0, HW0⟩ : ∃ w0, Hid (w0 = wa.alloc (.cells #[.int .u32 0, .int .u32 0, .int .u8 0, .int .u16 0, .int .u16 0, .int .u32 0, .int .u32 0, .int .u8 0, .int .u16 0, .int .u16 0, .int .i64 0, .int .i64 0] 45)) := ⟨_, rfl⟩
  obtain ⟨g0, HG0⟩ : ∃ g, Hid (g = w.heap.size) := ⟨_, rfl⟩
  have sa : wa.heap.size = g0 + 1 := by rw [HWA.out, HG0.out]; simp
  have s0 : w0.heap.size = g0 + 2 := by rw [HW0.out, World.size_alloc, sa]
  have ba : Below w.heap.size w wa := by rw [HWA.out]; exact (Below.refl _ _).alloc (Nat.le_refl _) _
  have bb : Below wa.heap.size wa w0 := by rw [HW0.out]; exact (Below.refl _ _).alloc (Nat.le_refl _) _
  have ra : wa.heap[g0]? = some (.cells (pkCells h vo vb) 35 (0, 0)) := by rw [HWA.out, HG0.out]; exact heap_alloc_new w _
  have r1 : w0.heap[g0 + 1]? = some (.cells zFw.cells 45 (0, 0)) := by
    have := heap_alloc_new wa (.cells zFw.cells 45); rw [sa] at this; rw [HW0.out]; exact this
  have r0 := below_keeps bb ra (by omega)
  have hb0 : Below w.heap.size w w0 := ba.trans (bb.mono ba.size)
  have HB0 := hid hb0
  have HGW : Hid (w.heap.size ≤ g0) := by unfold Hid; rw [HG0.out]; exact Nat.le_refl _
  have HGG : Hid (g0 = w.heap.size) := HG0.out
  have HS0 := hid s0
  have HRD := hid (read_any h vo vb B w0 hok (hvo.below hb0) (hvb.below hb0) hlo hlb)
  have HPL := hid (pk_load r0)
  have HCB : Hid (∀ c, rdC h B = some c → c.Ok) := fun c hc => rdC_ok hvb.bytes hc
  have HE0 : Hid (∀ c, rdC h B = some c → rdE h B = 0) := fun c hc => (rdC_some hc).1
  have HEN : Hid (rdC h B = none → rdE h B ≠ 0) := fun hn e => by
    obtain ⟨c, hc⟩ := rdE_zero e
    unfold rdC at hn
    rw [if_pos e, hc] at hn
    cases hn
  have HS := hid hs
  have HNOW := hid hnow
  have HCG := hid hcg
  have HFK := hid hfk
  have HGS := hid hgs
  have HHO := hid hok
  have HBW : Hid (∀ u : World, Below w0.heap.size w0 u → u.heap[g0]? = some (.cells (pkCells h vo vb) 35 (0, 0)) ∧ u.heap[g0 + 1]? = some (.cells zFw.cells 45 (0, 0))) := fun u hu => ⟨below_keeps hu r0 (by omega), below_keeps hu r1 (by omega)⟩
  have HALLOC : Hid ((w.alloc (.cells (pkCells h vo vb) 35)).alloc (.cells #[.int .u32 0, .int .u32 0, .int .u8 0, .int .u16 0, .int .u16 0, .int .u32 0, .int .u32 0, .int .u8 0, .int .u16 0, .int .u16 0, .int .i64 0, .int .i64 0] 45) = w0) := by unfold Hid; rw [HW0.out, HWA.out]
  generalize hpkE : pkCells h vo vb = pk at HALLOC HRD HPL
  have HPK := hid hpkE
  clear hs hok hvo hvb hlo hlb hnow hcg hfk hgs sa s0 ba bb ra r0 r1 hb0 hpkE HWA HW0
  go_enter Tryz.func13, Tryz.ntmps13
  go_upto_region 1 with fail
  rw [HALLOC.out, ← HG0.out]
  go_wp2_with (first | (refine wpList_ld 35 ⟨g0, 0, none⟩ (.tmp 4) rfl rfl HPL.out rfl ?_) | fail)
  refine HRD.out.mono ?_
  rintro _ w1 ⟨rfl, hb1⟩
  have HB1 := hid hb1
  clear hb1
  cases hC : rdC h B with
  | none =>
    have HV : Hid (movP lim q h B now = (zFw, 211, q)) := by unfold Hid movP; rw [hC]
    have HNZ := hid (HEN.out hC)
    have HZ1 := hid (HBW.out w1 HB1.out).2
    generalize rdE h B = E at *
    have qE : (E != 0) = true := by have := HNZ.out; simp [this]
    clear hC
    go_wp2_with (first | (refine wpList_val (ex_build 45 _ #[] _ rfl rfl (build_zfw _)) rfl ?_) | (refine wpList_st rfl 45 (.tmp 6) (.tmp 23) rfl (g0 + 1) zFw.cells rfl rfl _ zFw.cells HZ1.out (by kernel_rfl) rfl zFw.one ?_; intro w6 hw6 hbut6) | fail)
    have hlv := lv_fw hw6
    refine bodyPost_ret (v := .tuple #[.agg zFw.cells, .int .i64 211]) (by simp [results, Tryz.results13, asAddr, hlv]) rfl ?_
    rw [HV.out]
    have hbb := HB0.out.trans (HB1.out.mono HB0.out.size)
    exact ⟨rfl, HS.out.same (hbut6.below hbb hbb.size (by have := HGW.out; omega))⟩
  | some c =>
    have hE0 := HE0.out c hC
    have HC := hid hC
    have HCO := hid (HCB.out c hC)
    rw [hE0]
    have HLH := hid (pk_loadH (HBW.out w1 HB1.out).1)
    have HTP := hid (tupleOf_any h vo c w1)
    obtain ⟨t, HTT⟩ : ∃ t, Hid (t = tupC h c) := ⟨_, rfl⟩
    have HTOK : Hid t.Ok := by unfold Hid; rw [HTT.out]; exact tupC_ok HHO.out HCO.out
    rw [← HTT.out] at HTP
    clear hE0 hC
    go_upto_region 4 with fail
    go_wp2_with (first | (refine wpList_ld 33 ⟨g0, 0, none⟩ (.tmp 24) rfl rfl HLH.out rfl ?_) | fail)
    refine HTP.out.mono ?_
    rintro _ w2 ⟨rfl, hb2⟩
    have HB2 := hid (HB1.out.trans (hb2.mono HB1.out.size))
    clear hb2
    have HN2 : Hid ((w2.alloc (.cells #[.int .u32 0, .int .u32 0, .int .u8 0, .int .u16 0, .int .u16 0] 37)).heap[w2.heap.size]? = some (.cells zTu.cells 37 (0, 0))) := heap_alloc_new _ _
    go_upto_region 5 with (first | (refine wpList_st rfl 37 (.tmp 10) (.tmp 27) rfl w2.heap.size t.cells rfl rfl _ zTu.cells HN2.out (by kernel_rfl) rfl t.one ?_; intro w3 hw3 hbut3) | fail)
    obtain ⟨gx, HGX⟩ : ∃ g, Hid (g = w2.heap.size) := ⟨_, rfl⟩
    rw [← HGX.out] at hw3 hbut3 ⊢
    have hb2a : Below w0.heap.size w0 (w2.alloc (.cells #[.int .u32 0, .int .u32 0, .int .u8 0, .int .u16 0, .int .u16 0] 37)) := HB2.out.trans ((Below.refl _ _).alloc HB2.out.size _)
    have hX0 : w0.heap.size ≤ gx := by rw [HGX.out]; exact HB2.out.size
    have HB3 := hid (hbut3.below hb2a hb2a.size hX0)
    have HX0 := hid hX0
    have HX3 := hid hw3
    have HBW3 := hid (HB0.out.trans (HB3.out.mono HB0.out.size))
    clear hw3 hbut3 hb2a hX0 HN2 HTP HLH HB2
    obtain ⟨p3, t3⟩ : ∃ p, TAt w3 b lim q p := by
      obtain ⟨p, hp, -⟩ := HS.out.below HBW3.out
      exact ⟨p, hp⟩
    obtain ⟨has, HHS⟩ : ∃ r, Hid (r = (q.f t).isSome) := ⟨_, rfl⟩
    obtain ⟨k, HK⟩ : ∃ r, Hid (r = (q.f t).getD 0) := ⟨_, rfl⟩
    have HTA : Hid (∀ u : World, Below w3.heap.size w3 u → u.cell? ⟨b, 2, none⟩ = some (.map (some p3.nb)) ∧ (Instr.loadAt 37 (.pointer (some ⟨gx, 0, none⟩))).run Tryz.prog u = .ok (.agg t.cells) u ∧ (Instr.lookup 58 (.map (some p3.nb)) (.agg t.cells) true).run Tryz.prog u = .ok (.tuple #[.int .i64 k, .bool has]) u) := fun u hu =>
      ⟨(t3.below hu).cells rfl, load_tu (below_keeps hu HX3.out (Array.getElem?_eq_some_iff.1 HX3.out).1), by rw [HK.out, HHS.out]; exact (t3.below hu).look HTOK.out⟩
    clear t3
    refine wp_region_guarded' 10 (fun i => ([29, 30, 31, 32, 33, 34, 28, 35, 36, 11] : List Tmp).getD i 0) (Vs [.pointer (some ⟨b, 0, none⟩), .pointer (some ⟨b, 0, none⟩), .pointer (some ⟨b, 2, none⟩), .map (some p3.nb), .agg t.cells, .tuple #[.int .i64 k, .bool has], .tuple #[.int .i64 k, .bool has], .int .i64 k, .bool has, .int .i64 k]) (fun u => Below w3.heap.size w3 u) (fun _ u u' => Below u.heap.size u u') (by kernel_rfl) (by kernel_rfl) ⟨rfl, rfl, rfl, Nat.le_refl _, fun _ _ => rfl⟩ (fun _ _ _ _ _ _ h _ _ => h) ?_ ?_
    · simp only [List.take_succ_cons, List.take_zero, stepsG]
      refine ⟨?_, ?_, ?_, ?_, ?_, ?_, ?_, ?_, ?_, ?_, trivial⟩
      · intro a u vs hI hold hdep
        exact opAt_plain rfl (wp_still (ex_move (.tmp 0) _ rfl (hold 0 (dlM (L := [29, 30, 31, 32, 33, 34, 28, 35, 36, 11]) (by decide)))) rfl rfl hI)
      · intro a u vs hI hold hdep
        exact opAt_plain rfl (wp_still (ex_nil ⟨b, 0, none⟩ (.tmp 29) rfl (Vs.dep (hdep ⟨0, .data⟩ (by simp) rfl (by decide)) rfl)) rfl rfl hI)
      · intro a u vs hI hold hdep
        exact opAt_plain rfl (wp_still (ex_field _ ⟨b, 0, none⟩ (.tmp 30) 2 _ rfl (Vs.dep (hdep ⟨1, .data⟩ (by simp) rfl (by decide)) rfl) (fld_t2 b u)) rfl rfl hI)
      · intro a u vs hI hold hdep
        exact opAt_plain rfl (wp_still (ex_load _ ⟨b, 2, none⟩ (.tmp 31) _ rfl (Vs.dep (hdep ⟨2, .data⟩ (by simp) rfl (by decide)) rfl) (ld_mapT (HTA.out u hI).1)) rfl rfl hI)
      · intro a u vs hI hold hdep
        exact opAt_plain rfl (wp_still (ex_load _ ⟨gx, 0, none⟩ (.tmp 10) _ rfl (hold 10 (dlM (L := [29, 30, 31, 32, 33, 34, 28, 35, 36, 11]) (by decide))) ((HTA.out u hI).2.1)) rfl rfl hI)
      · intro a u vs hI hold hdep
        exact opAt_plain rfl (wp_still (ex_lookup _ (.tmp 32) (.tmp 33) true _ _ _ rfl (Vs.dep (hdep ⟨3, .data⟩ (by simp) rfl (by decide)) rfl) (Vs.dep (hdep ⟨4, .data⟩ (by simp) rfl (by decide)) rfl) ((HTA.out u hI).2.2)) rfl rfl hI)
      · intro a u vs hI hold hdep
        exact opAt_plain rfl (wp_still (ex_move (.tmp 34) _ rfl (Vs.dep (hdep ⟨5, .data⟩ (by simp) rfl (by decide)) rfl)) rfl rfl hI)
      · intro a u vs hI hold hdep
        exact opAt_plain rfl (wp_still (ex_extract (.tmp 28) 0 _ _ rfl (Vs.dep (hdep ⟨6, .data⟩ (by simp) rfl (by decide)) rfl) rfl) rfl rfl hI)
      · intro a u vs hI hold hdep
        exact opAt_plain rfl (wp_still (ex_extract (.tmp 28) 1 _ _ rfl (Vs.dep (hdep ⟨6, .data⟩ (by simp) rfl (by decide)) rfl) rfl) rfl rfl hI)
      · intro a u vs hI hold hdep
        exact opAt_plain rfl (wp_still (ex_assign (.tmp 35) _ rfl (Vs.dep (hdep ⟨7, .data⟩ (by simp) rfl (by decide)) rfl)) rfl rfl hI)
    intro vs u4 hI hF
    have e0 : vs 0 = .pointer (some ⟨b, 0, none⟩) := (Option.some.inj (hF 0 (by decide))).symm
    have e1 : vs 1 = .pointer (some ⟨b, 0, none⟩) := (Option.some.inj (hF 1 (by decide))).symm
    have e2 : vs 2 = .pointer (some ⟨b, 2, none⟩) := (Option.some.inj (hF 2 (by decide))).symm
    have e3 : vs 3 = .map (some p3.nb) := (Option.some.inj (hF 3 (by decide))).symm
    have e4 : vs 4 = .agg t.cells := (Option.some.inj (hF 4 (by decide))).symm
    have e5 : vs 5 = .tuple #[.int .i64 k, .bool has] := (Option.some.inj (hF 5 (by decide))).symm
    have e6 : vs 6 = .tuple #[.int .i64 k, .bool has] := (Option.some.inj (hF 6 (by decide))).symm
    have e7 : vs 7 = .int .i64 k := (Option.some.inj (hF 7 (by decide))).symm
    have e8 : vs 8 = .bool has := (Option.some.inj (hF 8 (by decide))).symm
    have e9 : vs 9 = .int .i64 k := (Option.some.inj (hF 9 (by decide))).symm
    clear hF
    simp only [List.drop_succ_cons, List.drop_zero, puts, List.range, List.range.loop, List.foldr, if_true, List.getD_cons_zero, List.getD_cons_succ, e0, e1, e2, e3, e4, e5, e6, e7, e8, e9, Act.put, List.setIfInBounds_toArray, List.set_cons_zero, List.set_cons_succ]
    clear e0 e1 e2 e3 e4 e5 e6 e7 e8 e9
    have HB4 := hid (HB3.out.trans (hI.mono HB3.out.size))
    have HBW4 := hid (HBW3.out.trans (hI.mono HBW3.out.size))
    have HX4 := hid (below_keeps hI HX3.out (Array.getElem?_eq_some_iff.1 HX3.out).1)
    have HZ4 := hid (HBW.out u4 HB4.out).2
    clear hI HTA HX3 HB3
    cases has
    · have HV : Hid (movP lim q h B now = (zFw, 211, q)) := by
        unfold Hid movP; rw [HC.out]; simp only
        have := HHS.out
        rw [← HTT.out]
        cases hf : q.f t with
        | none => rfl
        | some x => rw [hf] at this; cases this
      go_wp2_with (first | (refine wpList_val (ex_build 45 _ #[] _ rfl rfl (build_zfw _)) rfl ?_) | (refine wpList_st rfl 45 (.tmp 6) (.tmp 39) rfl (g0 + 1) zFw.cells rfl rfl _ zFw.cells HZ4.out (by kernel_rfl) rfl zFw.one ?_; intro w6 hw6 hbut6) | fail)
      have hlv := lv_fw hw6
      refine bodyPost_ret (v := .tuple #[.agg zFw.cells, .int .i64 211]) (by simp [results, Tryz.results13, asAddr, hlv]) rfl ?_
      rw [HV.out]
      exact ⟨rfl, HS.out.same (hbut6.below HBW4.out HBW4.out.size (by have := HGW.out; omega))⟩
    · have HFS : Hid (q.f t = some k) := by
        have h1 := HHS.out
        have h2 := HK.out
        cases hf : q.f t with
        | none => rw [hf] at h1; cases h1
        | some x => rw [hf] at h2; unfold Hid; rw [h2]; rfl
      have HK64 := hid (HFK.out t k HFS.out)
      obtain ⟨fl, HFL⟩ : ∃ fl, Hid (fl = (q.g k).getD zFw) := ⟨_, rfl⟩
      have HST : Hid (fl.st < 10) := by
        unfold Hid; rw [HFL.out]
        cases hg : q.g k with
        | none => show 0 < 10; omega
        | some x => exact HGS.out k x hg
      obtain ⟨p4, t4⟩ : ∃ p, TAt u4 b lim q p := by
        obtain ⟨p, hp, -⟩ := HS.out.below HBW4.out
        exact ⟨p, hp⟩
      have k3 : u4.cell? ⟨b, 3, none⟩ = some (.map (some p4.fb)) := t4.cells rfl
      have HLK : Hid ((Instr.lookup 59 (.map (some p4.fb)) (.int .i64 k) false).run Tryz.prog u4 = .ok (.agg fl.cells) u4) := by unfold Hid; rw [HFL.out]; exact t4.flow HK64.out
      have HN4 : Hid ((u4.alloc (.cells #[.int .u32 0, .int .u32 0, .int .u8 0, .int .u16 0, .int .u16 0, .int .u32 0, .int .u32 0, .int .u8 0, .int .u16 0, .int .u16 0, .int .i64 0, .int .i64 0] 45)).heap[u4.heap.size]? = some (.cells zFw.cells 45 (0, 0))) := heap_alloc_new _ _
      clear t4
      go_upto_region 9 with (first | (at_lookup; refine wpList_lookup_run _ rfl _ _ _ _ rfl _ _ _ rfl rfl HLK.out ?_) | (refine wpList_st rfl 45 (.tmp 13) (.tmp 45) rfl u4.heap.size fl.cells rfl rfl _ zFw.cells HN4.out (by kernel_rfl) rfl fl.one ?_; intro w5 hw5 hbut5) | fail)
      obtain ⟨gy, HGY⟩ : ∃ g, Hid (g = u4.heap.size) := ⟨_, rfl⟩
      rw [← HGY.out] at hw5 hbut5 ⊢
      have hb4a : Below w0.heap.size w0 (u4.alloc (.cells #[.int .u32 0, .int .u32 0, .int .u8 0, .int .u16 0, .int .u16 0, .int .u32 0, .int .u32 0, .int .u8 0, .int .u16 0, .int .u16 0, .int .i64 0, .int .i64 0] 45)) := HB4.out.trans ((Below.refl _ _).alloc HB4.out.size _)
      have hY0 : w0.heap.size ≤ gy := by rw [HGY.out]; exact HB4.out.size
      have HB5 := hid (hbut5.below hb4a hb4a.size hY0)
      have HBW5 := hid (HB0.out.trans (HB5.out.mono HB0.out.size))
      have hxy : gx < gy := by rw [HGY.out]; exact (Array.getElem?_eq_some_iff.1 HX4.out).1
      have HX5 : Hid (w5.heap[gx]? = some (.cells t.cells 37 (0, 0))) := (hbut5.block gx (by rw [World.size_alloc, ← HGY.out]; omega) (by omega)).trans (below_keeps (B := u4.heap.size) ((Below.refl _ _).alloc (Nat.le_refl _) _) HX4.out (by rw [← HGY.out]; exact hxy))
      have HY5 := hid hw5
      have HY0 := hid hY0
      have HXY := hid hxy
      clear hw5 hbut5 hb4a hY0 hxy HN4 HLK k3 HB4 HX4 HZ4
      obtain ⟨bb, HBB⟩ : ∃ r, Hid (r = decide (t = fl.bk)) := ⟨_, rfl⟩
      obtain ⟨nx, HNX⟩ : ∃ r, Hid (r = nxt fl.st c bb) := ⟨_, rfl⟩
      obtain ⟨ns, nm⟩ := nx
      obtain ⟨p5, t5⟩ : ∃ p, TAt w5 b lim q p := by
        obtain ⟨p, hp, -⟩ := HS.out.below HBW5.out
        exact ⟨p, hp⟩
      have HTA5 : Hid (∀ u : World, Below w5.heap.size w5 u → u.cell? ⟨gy, 10, none⟩ = some (.int .i64 (fl.st : Int)) ∧ (Instr.loadAt 37 (.pointer (some ⟨gx, 0, none⟩))).run Tryz.prog u = .ok (.agg t.cells) u ∧ (Instr.loadAt 37 (.pointer (some ⟨gy, 5, none⟩))).run Tryz.prog u = .ok (.agg fl.bk.cells) u ∧ Calls Tryz.prog 26 #[.int .i64 (fl.st : Int), c.v, .bool bb] u fun e w' => e = .returned (.tuple #[.int .i64 (ns : Int), .bool nm]) ∧ Below u.heap.size u w') := fun u hu => by
        have hy := below_keeps hu HY5.out (Array.getElem?_eq_some_iff.1 HY5.out).1
        refine ⟨(ce_fw hy).2.1, load_tu (below_keeps hu HX5.out (Array.getElem?_eq_some_iff.1 HX5.out).1), load_bk hy, ?_⟩
        have h1 : ns = (nxt fl.st c bb).1 := by rw [← HNX.out]
        have h2 : nm = (nxt fl.st c bb).2 := by rw [← HNX.out]
        rw [h1, h2]
        exact stateBehind_any fl.st c bb u HCO.out HST.out (t5.below hu).tab
      clear t5
      refine wp_region_guarded' 12 (fun i => ([47, 48, 49, 50, 51, 52, 53, 54, 46, 55, 56, 14] : List Tmp).getD i 0) (Vs [.pointer (some ⟨gy, 10, none⟩), .int .i64 (fl.st : Int), c.v, .agg t.cells, .pointer (some ⟨gy, 5, none⟩), .agg fl.bk.cells, .bool bb, .tuple #[.int .i64 (ns : Int), .bool nm], .tuple #[.int .i64 (ns : Int), .bool nm], .int .i64 (ns : Int), .bool nm, .int .i64 (ns : Int)]) (fun u => Below w5.heap.size w5 u) (fun _ u u' => Below u.heap.size u u') (by kernel_rfl) (by kernel_rfl) ⟨rfl, rfl, rfl, Nat.le_refl _, fun _ _ => rfl⟩ (fun _ _ _ _ _ _ h _ _ => h) ?_ ?_
      · simp only [List.take_succ_cons, List.take_zero, stepsG]
        refine ⟨?_, ?_, ?_, ?_, ?_, ?_, ?_, ?_, ?_, ?_, ?_, ?_, trivial⟩
        · intro a u vs hI hold hdep
          exact opAt_plain rfl (wp_still (ex_field _ ⟨gy, 0, none⟩ (.tmp 13) 2 _ rfl (hold 13 (dlM (L := [47, 48, 49, 50, 51, 52, 53, 54, 46, 55, 56, 14]) (by decide))) (fld_f2 gy u)) rfl rfl hI)
        · intro a u vs hI hold hdep
          exact opAt_plain rfl (wp_still (ex_load _ ⟨gy, 10, none⟩ (.tmp 47) _ rfl (Vs.dep (hdep ⟨0, .data⟩ (by simp) rfl (by decide)) rfl) (ld_int (HTA5.out u hI).1)) rfl rfl hI)
        · intro a u vs hI hold hdep
          exact opAt_plain rfl (wp_still (ex_move (.tmp 8) _ rfl (hold 8 (dlM (L := [47, 48, 49, 50, 51, 52, 53, 54, 46, 55, 56, 14]) (by decide)))) rfl rfl hI)
        · intro a u vs hI hold hdep
          exact opAt_plain rfl (wp_still (ex_load _ ⟨gx, 0, none⟩ (.tmp 10) _ rfl (hold 10 (dlM (L := [47, 48, 49, 50, 51, 52, 53, 54, 46, 55, 56, 14]) (by decide))) ((HTA5.out u hI).2.1)) rfl rfl hI)
        · intro a u vs hI hold hdep
          exact opAt_plain rfl (wp_still (ex_field _ ⟨gy, 0, none⟩ (.tmp 13) 1 _ rfl (hold 13 (dlM (L := [47, 48, 49, 50, 51, 52, 53, 54, 46, 55, 56, 14]) (by decide))) (fld_f1 gy u)) rfl rfl hI)
        · intro a u vs hI hold hdep
          exact opAt_plain rfl (wp_still (ex_load _ ⟨gy, 5, none⟩ (.tmp 51) _ rfl (Vs.dep (hdep ⟨4, .data⟩ (by simp) rfl (by decide)) rfl) ((HTA5.out u hI).2.2.1)) rfl rfl hI)
        · intro a u vs hI hold hdep
          exact opAt_plain rfl (wp_still (ex_eqTb (.tmp 50) (.tmp 52) _ t fl.bk bb rfl (Vs.dep (hdep ⟨3, .data⟩ (by simp) rfl (by decide)) rfl) (Vs.dep (hdep ⟨5, .data⟩ (by simp) rfl (by decide)) rfl) HBB.out.symm) rfl rfl hI)
        · intro a u vs hI hold hdep
          have e0 : a.eval (.tmp 48) = .int .i64 (fl.st : Int) := (Vs.dep (hdep ⟨1, .data⟩ (by simp) rfl (by decide)) rfl)
          have e1 : a.eval (.tmp 49) = c.v := (Vs.dep (hdep ⟨2, .data⟩ (by simp) rfl (by decide)) rfl)
          have e2 : a.eval (.tmp 53) = .bool bb := (Vs.dep (hdep ⟨6, .data⟩ (by simp) rfl (by decide)) rfl)
          refine opAt_plain rfl ?_
          refine wp_call 26 _ _ rfl (enters_of Tryz.func26 (by kernel_rfl) rfl) #[.int .i64 (fl.st : Int), c.v, .bool bb] (by simp only [List.map_toArray, List.map_cons, List.map_nil, e0, e1, e2]) ?_
          refine ((HTA5.out u hI).2.2.2).mono ?_
          rintro _ u' ⟨rfl, hb'⟩
          exact ⟨_, rfl, _, rfl, rfl, hI.trans (hb'.mono hI.size), hb'⟩
        · intro a u vs hI hold hdep
          exact opAt_plain rfl (wp_still (ex_move (.tmp 54) _ rfl (Vs.dep (hdep ⟨7, .data⟩ (by simp) rfl (by decide)) rfl)) rfl rfl hI)
        · intro a u vs hI hold hdep
          exact opAt_plain rfl (wp_still (ex_extract (.tmp 46) 0 _ _ rfl (Vs.dep (hdep ⟨8, .data⟩ (by simp) rfl (by decide)) rfl) rfl) rfl rfl hI)
        · intro a u vs hI hold hdep
          exact opAt_plain rfl (wp_still (ex_extract (.tmp 46) 1 _ _ rfl (Vs.dep (hdep ⟨8, .data⟩ (by simp) rfl (by decide)) rfl) rfl) rfl rfl hI)
        · intro a u vs hI hold hdep
          exact opAt_plain rfl (wp_still (ex_assign (.tmp 55) _ rfl (Vs.dep (hdep ⟨9, .data⟩ (by simp) rfl (by decide)) rfl)) rfl rfl hI)
      intro vs u6 hI hF
      have e0 : vs 0 = .pointer (some ⟨gy, 10, none⟩) := (Option.some.inj (hF 0 (by decide))).symm
      have e1 : vs 1 = .int .i64 (fl.st : Int) := (Option.some.inj (hF 1 (by decide))).symm
      have e2 : vs 2 = c.v := (Option.some.inj (hF 2 (by decide))).symm
      have e3 : vs 3 = .agg t.cells := (Option.some.inj (hF 3 (by decide))).symm
      have e4 : vs 4 = .pointer (some ⟨gy, 5, none⟩) := (Option.some.inj (hF 4 (by decide))).symm
      have e5 : vs 5 = .agg fl.bk.cells := (Option.some.inj (hF 5 (by decide))).symm
      have e6 : vs 6 = .bool bb := (Option.some.inj (hF 6 (by decide))).symm
      have e7 : vs 7 = .tuple #[.int .i64 (ns : Int), .bool nm] := (Option.some.inj (hF 7 (by decide))).symm
      have e8 : vs 8 = .tuple #[.int .i64 (ns : Int), .bool nm] := (Option.some.inj (hF 8 (by decide))).symm
      have e9 : vs 9 = .int .i64 (ns : Int) := (Option.some.inj (hF 9 (by decide))).symm
      have e10 : vs 10 = .bool nm := (Option.some.inj (hF 10 (by decide))).symm
      have e11 : vs 11 = .int .i64 (ns : Int) := (Option.some.inj (hF 11 (by decide))).symm
      clear hF
      simp only [List.drop_succ_cons, List.drop_zero, puts, List.range, List.range.loop, List.foldr, if_true, List.getD_cons_zero, List.getD_cons_succ, e0, e1, e2, e3, e4, e5, e6, e7, e8, e9, e10, e11, Act.put, List.setIfInBounds_toArray, List.set_cons_zero, List.set_cons_succ]
      clear e0 e1 e2 e3 e4 e5 e6 e7 e8 e9 e10 e11
      have HB6 := hid (HB5.out.trans (hI.mono HB5.out.size))
      have HBW6 := hid (HBW5.out.trans (hI.mono HBW5.out.size))
      have HY6 := hid (below_keeps hI HY5.out (Array.getElem?_eq_some_iff.1 HY5.out).1)
      have HZ6 := hid (HBW.out u6 HB6.out).2
      have HVV : Hid (movP lim q h B now = if nm then (kpF (stw fl ns) now, 0, keepQ lim q k (kpF (stw fl ns) now)) else (fl, 0, q)) := by
        have h1 : ns = (nxt fl.st c bb).1 := by rw [← HNX.out]
        have h2 : nm = (nxt fl.st c bb).2 := by rw [← HNX.out]
        unfold Hid movP; rw [HC.out]; simp only
        rw [← HTT.out, HFS.out]
        simp only
        rw [← HFL.out, ← HBB.out, ← h1, ← h2]
      clear hI HTA5 HB5
      cases nm
      · have HL6 := hid (load_fw HY6.out)
        go_wp2_with (first | (refine wpList_ld 45 ⟨gy, 0, none⟩ (.tmp 13) rfl rfl HL6.out rfl ?_) | (refine wpList_st rfl 45 (.tmp 6) (.tmp 59) rfl (g0 + 1) fl.cells rfl rfl _ zFw.cells HZ6.out (by kernel_rfl) rfl fl.one ?_; intro w7 hw7 hbut7) | fail)
        have hlv := lv_fw hw7
        refine bodyPost_ret (v := .tuple #[.agg fl.cells, .int .i64 0]) (by simp [results, Tryz.results13, asAddr, hlv]) rfl ?_
        rw [HVV.out]
        exact ⟨rfl, HS.out.same (hbut7.below HBW6.out HBW6.out.size (by have := HGW.out; omega))⟩
      · have k10 : u6.cell? ⟨gy, 10, none⟩ = some (.int .i64 (fl.st : Int)) := (ce_fw HY6.out).2.1
        have f10 : u6.frozen? ⟨gy, 10, none⟩ = false := frozen_of_row _ _ _ _ _ HY6.out
        obtain ⟨w7, HW7⟩ : ∃ w7, Hid (w7 = u6.setCell ⟨gy, 10, none⟩ (.int .i64 (ns : Int))) := ⟨_, rfl⟩
        obtain ⟨fn, HFN⟩ : ∃ f, Hid (f = stw fl ns) := ⟨_, rfl⟩
        have hk7 : Me.Keeps (fun k => k = gy) u6 w7 := by rw [HW7.out]; exact Me.Keeps.set (S := fun k => k = gy) (Me.Keeps.refl _ _) ⟨gy, 10, none⟩ rfl _
        have HBW7 : Hid (Below w.heap.size w w7) := kp_below hk7 HBW6.out (fun k e => by rw [e]; have := HY0.out; have := HS0.out; have := HGW.out; omega) (Nat.le_refl _)
        have HY7 : Hid (w7.heap[gy]? = some (.cells fn.cells 45 (0, 0))) := by unfold Hid; rw [HW7.out, Me.set_cells HY6.out, stw_cells, HFN.out]
        have HZ7 : Hid (w7.heap[g0 + 1]? = some (.cells zFw.cells 45 (0, 0))) := (hk7.block _ (Array.getElem?_eq_some_iff.1 HZ6.out).1 (by have := HY0.out; have := HS0.out; omega)).trans HZ6.out
        have HNS : Hid (ns < 10) := by
          have h1 : ns = (nxt fl.st c bb).1 := by rw [← HNX.out]
          unfold Hid; rw [h1]; exact nxt_lt _ HST.out _ _
        have HM7 := hid (Mid.start HS.out HBW7.out)
        have HL7 := hid (load_fw HY7.out)
        have HKP : Hid (Calls Tryz.prog 25 #[.pointer (some ⟨b, 0, none⟩), .int .i64 k, .agg fn.cells, .int .i64 now] w7 fun e w' => e = .returned (.agg (kpF fn now).cells) ∧ Mid w w' b lim (keepQ lim q k (kpF fn now)) F w7.heap.size ∧ ∀ g, w.heap.size ≤ g → g < w7.heap.size → w'.heap[g]? = w7.heap[g]?) := by
          refine Mid.call (P := fun e => e = .returned (.agg (kpF fn now).cells)) HM7.out fun F' hF' => ?_
          exact keep_any w7 b lim q F' k fn now hF' HK64.out HNOW.out (by rw [HFN.out]; exact HNS.out) (by have := HCG.out; omega)
        obtain ⟨fr, HFR⟩ : ∃ f, Hid (f = kpF fn now) := ⟨_, rfl⟩
        rw [← HFR.out] at HKP
        have HGZ : Hid (w.heap.size ≤ g0 + 1 ∧ g0 + 1 < w7.heap.size) := ⟨by have := HGW.out; omega, (Array.getElem?_eq_some_iff.1 HZ7.out).1⟩
        clear hk7
        go_upto_region 13 with fail
        rw [show (u6.setCell ⟨gy, 10, none⟩ (.int .i64 (ns : Int))) = w7 from HW7.out.symm]
        clear k10 f10
        go_wp2_with (first | (refine wpList_ld 45 ⟨gy, 0, none⟩ (.tmp 13) rfl rfl HL7.out rfl ?_) | fail)
        refine HKP.out.mono ?_
        rintro _ w8 ⟨rfl, m8, row8⟩
        have HM8 := hid m8
        have HZ8 := hid ((row8 (g0 + 1) HGZ.out.1 HGZ.out.2).trans HZ7.out)
        clear m8 row8
        go_wp2_with (first | (refine wpList_st rfl 45 (.tmp 6) (.tmp 66) rfl (g0 + 1) fr.cells rfl rfl _ zFw.cells HZ8.out (by kernel_rfl) rfl fr.one ?_; intro w9 hw9 hbut9) | fail)
        have hlv := lv_fw hw9
        refine bodyPost_ret (v := .tuple #[.agg fr.cells, .int .i64 0]) (by simp [results, Tryz.results13, asAddr, hlv]) rfl ?_
        rw [show movP lim q h B now = (fr, 0, keepQ lim q k fr) from by rw [HVV.out, HFR.out, HFN.out]; rfl]
        exact ⟨rfl, (HM8.out.own HGZ.out.1 HGZ.out.2 (But.kp hbut9)).end⟩
end Go.Proofs.YtkkfioebpppffaaGreatDoor.Fl
