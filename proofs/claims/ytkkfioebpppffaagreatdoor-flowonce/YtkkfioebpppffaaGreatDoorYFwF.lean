import Derived.Test.YtkkfioebpppffaaGreatDoorEK
namespace Go.Proofs.YtkkfioebpppffaaGreatDoor.Fl
open Go.Proofs.YtkkfioebpppffaaGreatDoor Go.ChangeShapes Go.WideShapes Go.ChangeAt Go.RowKit Go.Maps N
set_option maxHeartbeats 4000000
set_option maxRecDepth 100000

theorem build_ztu (u : World) : (Instr.build 37 #[]).run Tryz.prog u = .ok (.agg zTu.cells) u := by kernel_rfl

/-- What Of tells. -/
def ofT (h : Hd) (B : List Nat) : Tu := match rdC h B with | some c => tupC h c | none => zTu
theorem of_any (h : Hd) (vo vb : Value) (B : List Nat) (w : World) (hok : h.Ok) (hvo : SeesB w vo h.opts) (hvb : SeesB w vb B) (hlo : h.opts.length ≤ 140737488355328) (hlb : B.length ≤ 140737488355328) :
    Calls Tryz.prog 19 #[.agg (pkCells h vo vb)] w fun e w' => e = .returned (.tuple #[.agg (ofT h B).cells, .int .i64 (rdE h B)]) ∧ Below w.heap.size w w' := by
  obtain ⟨wa, HWA⟩ : ∃ wa, Hid (wa = w.alloc (.cells (pkCells h vo vb) 35)) := ⟨_, rfl⟩
  obtain ⟨w0, HW0⟩ : ∃ w0, Hid (w0 = wa.alloc (.cells #[.int .u32 0, .int .u32 0, .int .u8 0, .int .u16 0, .int .u16 0] 37)) := ⟨_, rfl⟩
  obtain ⟨g0, HG0⟩ : ∃ g, Hid (g = w.heap.size) := ⟨_, rfl⟩
  have sa : wa.heap.size = g0 + 1 := by rw [HWA.out, HG0.out]; simp
  have s0 : w0.heap.size = g0 + 2 := by rw [HW0.out, World.size_alloc, sa]
  have ba : Below w.heap.size w wa := by rw [HWA.out]; exact (Below.refl _ _).alloc (Nat.le_refl _) _
  have bb : Below wa.heap.size wa w0 := by rw [HW0.out]; exact (Below.refl _ _).alloc (Nat.le_refl _) _
  have ra : wa.heap[g0]? = some (.cells (pkCells h vo vb) 35 (0, 0)) := by rw [HWA.out, HG0.out]; exact heap_alloc_new w _
  have r1 : w0.heap[g0 + 1]? = some (.cells zTu.cells 37 (0, 0)) := by
    have := heap_alloc_new wa (.cells zTu.cells 37); rw [sa] at this; rw [HW0.out]; exact this
  have r0 := below_keeps bb ra (by omega)
  have hb0 : Below w.heap.size w w0 := ba.trans (bb.mono ba.size)
  have HB0 := hid hb0
  have HGW : Hid (w.heap.size ≤ g0) := by unfold Hid; rw [HG0.out]; exact Nat.le_refl _
  have HPL := hid (pk_load r0)
  have HBW : Hid (∀ u : World, Below w0.heap.size w0 u → u.heap[g0]? = some (.cells (pkCells h vo vb) 35 (0, 0)) ∧ u.heap[g0 + 1]? = some (.cells zTu.cells 37 (0, 0))) := fun u hu => ⟨below_keeps hu r0 (by omega), below_keeps hu r1 (by omega)⟩
  have HALLOC : Hid ((w.alloc (.cells (pkCells h vo vb) 35)).alloc (.cells #[.int .u32 0, .int .u32 0, .int .u8 0, .int .u16 0, .int .u16 0] 37) = w0) := by unfold Hid; rw [HW0.out, HWA.out]
  have HRD := hid (read_any h vo vb B w0 hok (hvo.below hb0) (hvb.below hb0) hlo hlb)
  have HE0 : Hid (∀ c, rdC h B = some c → rdE h B = 0) := fun c hc => (rdC_some hc).1
  have HEN : Hid (rdC h B = none → rdE h B ≠ 0) := fun hn e => by
    obtain ⟨c, hc⟩ := rdE_zero e
    unfold rdC at hn
    rw [if_pos e, hc] at hn
    cases hn
  generalize hpkE : pkCells h vo vb = pk at HALLOC HRD HPL
  have HPK := hid hpkE
  clear hok hvo hvb hlo hlb sa s0 ba bb ra r0 r1 hb0 hpkE HWA HW0
  go_enter Tryz.func19, Tryz.ntmps19
  go_upto_region 1 with fail
  rw [HALLOC.out, ← HG0.out]
  go_wp2_with (first | (refine wpList_ld 35 ⟨g0, 0, none⟩ (.tmp 1) rfl rfl HPL.out rfl ?_) | fail)
  refine HRD.out.mono ?_
  rintro _ w1 ⟨rfl, hb1⟩
  have HB1 := hid hb1
  have HBB := hid (HB0.out.trans (hb1.mono HB0.out.size))
  clear hb1
  have HZ1 := hid (HBW.out w1 HB1.out).2
  cases hC : rdC h B with
  | none =>
    have HV : Hid (ofT h B = zTu) := by unfold Hid ofT; rw [hC]
    have HNZ := hid (HEN.out hC)
    obtain ⟨E, HE⟩ : ∃ E, Hid (E = rdE h B) := ⟨_, rfl⟩
    rw [← HE.out] at HNZ ⊢
    have qE : (E != 0) = true := by have := HNZ.out; simp [this]
    clear hC
    go_wp2_with (first | (refine wpList_val (ex_build 37 _ #[] _ rfl rfl (build_ztu _)) rfl ?_) | (refine wpList_st rfl 37 (.tmp 2) (.tmp 13) rfl (g0 + 1) zTu.cells rfl rfl _ zTu.cells HZ1.out (by kernel_rfl) rfl zTu.one ?_; intro w6 hw6 hbut6) | fail)
    have hlv := lv_tu hw6
    refine bodyPost_ret (v := .tuple #[.agg zTu.cells, .int .i64 E]) (by simp [results, Tryz.results19, asAddr, hlv]) rfl ?_
    rw [HV.out, ← HE.out]
    exact ⟨rfl, hbut6.below HBB.out HBB.out.size (by have := HGW.out; omega)⟩
  | some c =>
    have hE0 := HE0.out c hC
    have HEZ := hid hE0
    have HV : Hid (ofT h B = tupC h c) := by unfold Hid ofT; rw [hC]
    rw [hE0]
    have HLH := hid (pk_loadH (HBW.out w1 HB1.out).1)
    have HTP := hid (tupleOf_any h vo c w1)
    obtain ⟨t, HTT⟩ : ∃ t, Hid (t = tupC h c) := ⟨_, rfl⟩
    rw [← HTT.out] at HTP
    clear hE0 hC
    go_wp2_with (first | (refine wpList_ld 33 ⟨g0, 0, none⟩ (.tmp 15) rfl rfl HLH.out rfl ?_) | fail)
    refine HTP.out.mono ?_
    rintro _ w2 ⟨rfl, hb2⟩
    have HB2 := hid (HB1.out.trans (hb2.mono HB1.out.size))
    have HBB2 := hid (HB0.out.trans (HB2.out.mono HB0.out.size))
    have HZ2 := hid (HBW.out w2 HB2.out).2
    clear hb2
    go_wp2_with (first | (refine wpList_st rfl 37 (.tmp 2) (.tmp 18) rfl (g0 + 1) t.cells rfl rfl _ zTu.cells HZ2.out (by kernel_rfl) rfl t.one ?_; intro w6 hw6 hbut6) | fail)
    have hlv := lv_tu hw6
    refine bodyPost_ret (v := .tuple #[.agg t.cells, .int .i64 0]) (by simp [results, Tryz.results19, asAddr, hlv]) rfl ?_
    rw [HV.out, ← HTT.out, HEZ.out]
    exact ⟨rfl, hbut6.below HBB2.out HBB2.out.size (by have := HGW.out; omega)⟩

/-! ### Look -/
def trC (k : Int) (f : Fw) (th : Bool) : Array Value := #[.int .i64 k, .int .u32 (f.th.s : Int), .int .u32 (f.th.d : Int), .int .u8 (f.th.p : Int), .int .u16 (f.th.sp : Int), .int .u16 (f.th.dp : Int), .int .u32 (f.bk.s : Int), .int .u32 (f.bk.d : Int), .int .u8 (f.bk.p : Int), .int .u16 (f.bk.sp : Int), .int .u16 (f.bk.dp : Int), .int .i64 (f.st : Int), .int .i64 f.til, .bool th]
def zTr : Array Value := trC 0 zFw false
theorem trC_one (k : Int) (f : Fw) (th : Bool) : (trC k f th).all (·.oneCell') = true := by simp [trC, Value.oneCell']
theorem build_tr1 (k : Int) (u : World) : (Instr.build 47 #[(0, .int .i64 k)]).run Tryz.prog u = .ok (.agg (trC k zFw false)) u := by kernel_rfl
theorem build_tr2 (k : Int) (f : Fw) (u : World) : (Instr.build 47 #[(0, .int .i64 k), (1, .agg f.cells)]).run Tryz.prog u = .ok (.agg (trC k f false)) u := by kernel_rfl
theorem build_tr3 (k : Int) (f : Fw) (th : Bool) (u : World) : (Instr.build 47 #[(0, .int .i64 k), (1, .agg f.cells), (2, .bool th)]).run Tryz.prog u = .ok (.agg (trC k f th)) u := by kernel_rfl
theorem isTr : ∃ d, Tryz.prog.underlying 47 = some d ∧ d.isRow = true := ⟨_, Tryz.underlying47, rfl⟩
theorem lv_tr {u : World} {b : Nat} {k : Int} {f : Fw} {th : Bool} {r : Nat × Nat} (h : u.heap[b]? = some (.cells (trC k f th) 47 r)) : (loadVar 47 ⟨b, 0, none⟩).run Tryz.prog u = .ok (.agg (trC k f th)) u := by
  obtain ⟨d, h1, h2⟩ := isTr
  exact lv_at (cs := (trC k f th).toList) h rfl h1 h2 (by kernel_rfl)

/-- What Look tells of a packet with a tuple: its kind, its flow. -/
def lookP (q : Raw) (t : Tu) : Int × Fw :=
  match q.f t with
  | none => (1, zFw)
  | some k => (if t = ((q.g k).getD zFw).th then 2 else 3, (q.g k).getD zFw)

theorem look_any (w : World) (b : Nat) (lim : Int) (q : Raw) (F : Nat → Prop) (h : Hd) (vo vb : Value) (B : List Nat) (c : Ct) (hs : St w b lim q F) (hok : h.Ok) (hvo : SeesB w vo h.opts) (hvb : SeesB w vb B) (hlo : h.opts.length ≤ 140737488355328) (hlb : B.length ≤ 140737488355328) (hc : rdC h B = some c)
    (hfk : ∀ t k, q.f t = some k → Tm.In64 k) :
    Calls Tryz.prog 9 #[.pointer (some ⟨b, 0, none⟩), .agg (pkCells h vo vb)] w fun e w' => e = .returned (.agg (trC (lookP q (tupC h c)).1 (lookP q (tupC h c)).2 false)) ∧ Below w.heap.size w w' := by
  obtain ⟨wa, HWA⟩ : ∃ wa, Hid (wa = w.alloc (.cells (pkCells h vo vb) 35)) := ⟨_, rfl⟩
  obtain ⟨w0, HW0⟩ : ∃ w0, Hid (w0 = wa.alloc (.cells #[.int .i64 0, .int .u32 0, .int .u32 0, .int .u8 0, .int .u16 0, .int .u16 0, .int .u32 0, .int .u32 0, .int .u8 0, .int .u16 0, .int .u16 0, .int .i64 0, .int .i64 0, .bool false] 47)) := ⟨_, rfl⟩
  obtain ⟨g0, HG0⟩ : ∃ g, Hid (g = w.heap.size) := ⟨_, rfl⟩
  have sa : wa.heap.size = g0 + 1 := by rw [HWA.out, HG0.out]; simp
  have s0 : w0.heap.size = g0 + 2 := by rw [HW0.out, World.size_alloc, sa]
  have ba : Below w.heap.size w wa := by rw [HWA.out]; exact (Below.refl _ _).alloc (Nat.le_refl _) _
  have bb : Below wa.heap.size wa w0 := by rw [HW0.out]; exact (Below.refl _ _).alloc (Nat.le_refl _) _
  have ra : wa.heap[g0]? = some (.cells (pkCells h vo vb) 35 (0, 0)) := by rw [HWA.out, HG0.out]; exact heap_alloc_new w _
  have r1 : w0.heap[g0 + 1]? = some (.cells zTr 47 (0, 0)) := by
    have := heap_alloc_new wa (.cells zTr 47); rw [sa] at this; rw [HW0.out]; exact this
  have r0 := below_keeps bb ra (by omega)
  have hb0 : Below w.heap.size w w0 := ba.trans (bb.mono ba.size)
  have HB0 := hid hb0
  have HGW : Hid (w.heap.size ≤ g0) := by unfold Hid; rw [HG0.out]; exact Nat.le_refl _
  have HPL := hid (pk_load r0)
  have HBW : Hid (∀ u : World, Below w0.heap.size w0 u → u.heap[g0]? = some (.cells (pkCells h vo vb) 35 (0, 0)) ∧ u.heap[g0 + 1]? = some (.cells zTr 47 (0, 0))) := fun u hu => ⟨below_keeps hu r0 (by omega), below_keeps hu r1 (by omega)⟩
  have HALLOC : Hid ((w.alloc (.cells (pkCells h vo vb) 35)).alloc (.cells #[.int .i64 0, .int .u32 0, .int .u32 0, .int .u8 0, .int .u16 0, .int .u16 0, .int .u32 0, .int .u32 0, .int .u8 0, .int .u16 0, .int .u16 0, .int .i64 0, .int .i64 0, .bool false] 47) = w0) := by unfold Hid; rw [HW0.out, HWA.out]
  have HOF := hid (of_any h vo vb B w0 hok (hvo.below hb0) (hvb.below hb0) hlo hlb)
  have hE0 := (rdC_some hc).1
  have hV : ofT h B = tupC h c := by unfold ofT; rw [hc]
  rw [hE0, hV] at HOF
  have HCO : c.Ok := rdC_ok hvb.bytes hc
  obtain ⟨t, HTT⟩ : ∃ t, Hid (t = tupC h c) := ⟨_, rfl⟩
  have HTOK : Hid t.Ok := by unfold Hid; rw [HTT.out]; exact tupC_ok hok HCO
  rw [← HTT.out] at HOF ⊢
  have HS := hid hs
  have HFK := hid hfk
  generalize hpkE : pkCells h vo vb = pk at HALLOC HOF HPL
  have HPK := hid hpkE
  clear hs hok hvo hvb hlo hlb hfk hc hE0 hV HCO sa s0 ba bb ra r0 r1 hb0 hpkE HWA HW0
  go_enter Tryz.func9, Tryz.ntmps9
  go_upto_region 1 with fail
  rw [HALLOC.out, ← HG0.out]
  go_wp2_with (first | (refine wpList_ld 35 ⟨g0, 0, none⟩ (.tmp 3) rfl rfl HPL.out rfl ?_) | fail)
  refine HOF.out.mono ?_
  rintro _ w2 ⟨rfl, hb2⟩
  have HB2 := hid hb2
  clear hb2
  have HN2 : Hid ((w2.alloc (.cells #[.int .u32 0, .int .u32 0, .int .u8 0, .int .u16 0, .int .u16 0] 37)).heap[w2.heap.size]? = some (.cells zTu.cells 37 (0, 0))) := heap_alloc_new _ _
  go_upto_region 4 with (first | (refine wpList_st rfl 37 (.tmp 5) (.tmp 13) rfl w2.heap.size t.cells rfl rfl _ zTu.cells HN2.out (by kernel_rfl) rfl t.one ?_; intro w3 hw3 hbut3) | fail)
  obtain ⟨gx, HGX⟩ : ∃ g, Hid (g = w2.heap.size) := ⟨_, rfl⟩
  rw [← HGX.out] at hw3 hbut3 ⊢
  have hb2a : Below w0.heap.size w0 (w2.alloc (.cells #[.int .u32 0, .int .u32 0, .int .u8 0, .int .u16 0, .int .u16 0] 37)) := HB2.out.trans ((Below.refl _ _).alloc HB2.out.size _)
  have hX0 : w0.heap.size ≤ gx := by rw [HGX.out]; exact HB2.out.size
  have HB3 := hid (hbut3.below hb2a hb2a.size hX0)
  have HX0 := hid hX0
  have HX3 := hid hw3
  have HBW3 := hid (HB0.out.trans (HB3.out.mono HB0.out.size))
  clear hw3 hbut3 hb2a hX0 HN2 HB2
  obtain ⟨p3, t3⟩ : ∃ p, TAt w3 b lim q p := by
    obtain ⟨p, hp, -⟩ := HS.out.below HBW3.out
    exact ⟨p, hp⟩
  obtain ⟨has, HHS⟩ : ∃ r, Hid (r = (q.f t).isSome) := ⟨_, rfl⟩
  obtain ⟨k, HK⟩ : ∃ r, Hid (r = (q.f t).getD 0) := ⟨_, rfl⟩
  have HT3 := hid t3
  have HTA : Hid (∀ u : World, Below w3.heap.size w3 u → u.cell? ⟨b, 2, none⟩ = some (.map (some p3.nb)) ∧ (Instr.loadAt 37 (.pointer (some ⟨gx, 0, none⟩))).run Tryz.prog u = .ok (.agg t.cells) u ∧ (Instr.lookup 58 (.map (some p3.nb)) (.agg t.cells) true).run Tryz.prog u = .ok (.tuple #[.int .i64 k, .bool has]) u) := fun u hu =>
    ⟨(t3.below hu).cells rfl, load_tu (below_keeps hu HX3.out (Array.getElem?_eq_some_iff.1 HX3.out).1), by rw [HK.out, HHS.out]; exact (t3.below hu).look HTOK.out⟩
  clear t3
  refine wp_region_guarded' 10 (fun i => ([21, 22, 23, 24, 25, 26, 20, 27, 28, 7] : List Tmp).getD i 0) (Vs [.pointer (some ⟨b, 0, none⟩), .pointer (some ⟨b, 0, none⟩), .pointer (some ⟨b, 2, none⟩), .map (some p3.nb), .agg t.cells, .tuple #[.int .i64 k, .bool has], .tuple #[.int .i64 k, .bool has], .int .i64 k, .bool has, .int .i64 k]) (fun u => Below w3.heap.size w3 u) (fun _ u u' => Below u.heap.size u u') (by kernel_rfl) (by kernel_rfl) ⟨rfl, rfl, rfl, Nat.le_refl _, fun _ _ => rfl⟩ (fun _ _ _ _ _ _ h _ _ => h) ?_ ?_
  · simp only [List.take_succ_cons, List.take_zero, stepsG]
    refine ⟨?_, ?_, ?_, ?_, ?_, ?_, ?_, ?_, ?_, ?_, trivial⟩
    · intro a u vs hI hold hdep
      exact opAt_plain rfl (wp_still (ex_move (.tmp 0) _ rfl (hold 0 (dlM (L := [21, 22, 23, 24, 25, 26, 20, 27, 28, 7]) (by decide)))) rfl rfl hI)
    · intro a u vs hI hold hdep
      exact opAt_plain rfl (wp_still (ex_nil ⟨b, 0, none⟩ (.tmp 21) rfl (Vs.dep (hdep ⟨0, .data⟩ (by simp) rfl (by decide)) rfl)) rfl rfl hI)
    · intro a u vs hI hold hdep
      exact opAt_plain rfl (wp_still (ex_field _ ⟨b, 0, none⟩ (.tmp 22) 2 _ rfl (Vs.dep (hdep ⟨1, .data⟩ (by simp) rfl (by decide)) rfl) (fld_t2 b u)) rfl rfl hI)
    · intro a u vs hI hold hdep
      exact opAt_plain rfl (wp_still (ex_load _ ⟨b, 2, none⟩ (.tmp 23) _ rfl (Vs.dep (hdep ⟨2, .data⟩ (by simp) rfl (by decide)) rfl) (ld_mapT (HTA.out u hI).1)) rfl rfl hI)
    · intro a u vs hI hold hdep
      exact opAt_plain rfl (wp_still (ex_load _ ⟨gx, 0, none⟩ (.tmp 5) _ rfl (hold 5 (dlM (L := [21, 22, 23, 24, 25, 26, 20, 27, 28, 7]) (by decide))) ((HTA.out u hI).2.1)) rfl rfl hI)
    · intro a u vs hI hold hdep
      exact opAt_plain rfl (wp_still (ex_lookup _ (.tmp 24) (.tmp 25) true _ _ _ rfl (Vs.dep (hdep ⟨3, .data⟩ (by simp) rfl (by decide)) rfl) (Vs.dep (hdep ⟨4, .data⟩ (by simp) rfl (by decide)) rfl) ((HTA.out u hI).2.2)) rfl rfl hI)
    · intro a u vs hI hold hdep
      exact opAt_plain rfl (wp_still (ex_move (.tmp 26) _ rfl (Vs.dep (hdep ⟨5, .data⟩ (by simp) rfl (by decide)) rfl)) rfl rfl hI)
    · intro a u vs hI hold hdep
      exact opAt_plain rfl (wp_still (ex_extract (.tmp 20) 0 _ _ rfl (Vs.dep (hdep ⟨6, .data⟩ (by simp) rfl (by decide)) rfl) rfl) rfl rfl hI)
    · intro a u vs hI hold hdep
      exact opAt_plain rfl (wp_still (ex_extract (.tmp 20) 1 _ _ rfl (Vs.dep (hdep ⟨6, .data⟩ (by simp) rfl (by decide)) rfl) rfl) rfl rfl hI)
    · intro a u vs hI hold hdep
      exact opAt_plain rfl (wp_still (ex_assign (.tmp 27) _ rfl (Vs.dep (hdep ⟨7, .data⟩ (by simp) rfl (by decide)) rfl)) rfl rfl hI)
  intro vs u hI hF
  have e0 : vs 0 = .pointer (some ⟨b, 0, none⟩) := (Option.some.inj (hF 0 (by decide))).symm
  have e1 : vs 1 = .pointer (some ⟨b, 0, none⟩) := (Option.some.inj (hF 1 (by decide))).symm
  have e2 : vs 2 = .pointer (some ⟨b, 2, none⟩) := (Option.some.inj (hF 2 (by decide))).symm
  have e3 : vs 3 = .map (some p3.nb) := (Option.some.inj (hF 3 (by decide))).symm
  have e4 : vs 4 = .agg t.cells := (Option.some.inj (hF 4 (by decide))).symm
  have e5 : vs 5 = .tuple #[.int .i64 k, .bool has] := (Option.some.inj (hF 5 (by decide))).symm
  have e6 : vs 6 = .tuple #[.int .i64 k, .bool has] := (Option.some.inj (hF 6 (by decide))).symm
  have e7 : vs 7 = .int .i64 k := (Option.some.inj (hF 7 (by decide))).symm
  have e8 : vs 8 = .bool has := (Option.some.inj (hF 8 (by decide))).symm
  have e9 : vs 9 = .int .i64 k := (Option.some.inj (hF 9 (by decide))).symm
  clear hF
  simp only [List.drop_succ_cons, List.drop_zero, puts, List.range, List.range.loop, List.foldr, if_true, List.getD_cons_zero, List.getD_cons_succ, e0, e1, e2, e3, e4, e5, e6, e7, e8, e9, Act.put, List.setIfInBounds_toArray, List.set_cons_zero, List.set_cons_succ]
  clear e0 e1 e2 e3 e4 e5 e6 e7 e8 e9
  have HBU := hid hI
  clear hI
  have HZU := hid (HBW.out u (HB3.out.trans (HBU.out.mono HB3.out.size))).2
  have HBF := hid (HBW3.out.trans (HBU.out.mono HBW3.out.size))
  cases hq : q.f t with
  | none =>
    have hh : has = false := by rw [HHS.out, hq]; rfl
    have HV : Hid (lookP q t = (1, zFw)) := by unfold Hid lookP; rw [hq]
    subst hh
    clear hq
    go_wp2_with (first | (refine wpList_val (ex_build 47 _ #[(0, .int .i64 1)] _ rfl rfl (build_tr1 1 _)) rfl ?_) | (refine wpList_st rfl 47 (.tmp 4) (.tmp 31) rfl (g0 + 1) (trC 1 zFw false) rfl rfl _ zTr HZU.out (by kernel_rfl) rfl (trC_one _ _ _) ?_; intro w6 hw6 hbut6) | fail)
    have hlv := lv_tr hw6
    refine bodyPost_ret (v := .agg (trC 1 zFw false)) (by simp [results, Tryz.results9, asAddr, Act.put, hlv]) rfl ?_
    rw [HV.out]
    exact ⟨rfl, hbut6.below HBF.out HBF.out.size (by have := HGW.out; omega)⟩
  | some k0 =>
    have hh : has = true := by rw [HHS.out, hq]; rfl
    have hk : k = k0 := by rw [HK.out, hq]; rfl
    subst hh hk
    have H64 := hid (HFK.out t k hq)
    obtain ⟨f, HF⟩ : ∃ f, Hid (f = (q.g k).getD zFw) := ⟨_, rfl⟩
    have HV : Hid (lookP q t = (if t = f.th then 2 else 3, f)) := by unfold Hid lookP; rw [hq, HF.out]
    have hTU := HT3.out.below HBU.out
    have k3 : u.cell? ⟨b, 3, none⟩ = some (.map (some p3.fb)) := hTU.cells (j := 3) rfl
    have hlk : (Instr.lookup 59 (.map (some p3.fb)) (.int .i64 k) false).run Tryz.prog u = .ok (.agg f.cells) u := by rw [HF.out]; exact hTU.flow H64.out
    have HN4 : Hid ((u.alloc (.cells #[.int .u32 0, .int .u32 0, .int .u8 0, .int .u16 0, .int .u16 0, .int .u32 0, .int .u32 0, .int .u8 0, .int .u16 0, .int .u16 0, .int .i64 0, .int .i64 0] 45)).heap[u.heap.size]? = some (.cells zFw.cells 45 (0, 0))) := heap_alloc_new _ _
    clear hq hTU
    go_upto_region 8 with (first | (refine wpList_st rfl 45 (.tmp 9) (.tmp 37) rfl u.heap.size f.cells rfl rfl _ zFw.cells HN4.out (by kernel_rfl) rfl f.one ?_; intro w4 hw4 hbut4) | fail)
    obtain ⟨gy, HGY⟩ : ∃ g, Hid (g = u.heap.size) := ⟨_, rfl⟩
    rw [← HGY.out] at hw4 hbut4 ⊢
    have hb4 : Below u.heap.size u w4 := hbut4.below ((Below.refl _ _).alloc (Nat.le_refl _) _) (by simp) (by rw [HGY.out]; exact Nat.le_refl _)
    have hb3u : Below w3.heap.size w3 w4 := HBU.out.trans (hb4.mono HBU.out.size)
    have HZ4 := hid (HBW.out w4 (HB3.out.trans (hb3u.mono HB3.out.size))).2
    have HBF4 := hid (HBF.out.trans (hb4.mono HBF.out.size))
    have HLT := hid (HTA.out w4 hb3u).2.1
    have HLTH := hid (load_th hw4)
    have HLF := hid (load_fw hw4)
    clear hw4 hbut4 hb4 hb3u k3 hlk HN4
    by_cases hte : t = f.th
    · have HV2 : Hid (lookP q t = (2, f)) := by unfold Hid; rw [HV.out, if_pos hte]
      have HD : Hid (decide (t = f.th) = true) := decide_eq_true hte
      clear hte
      go_wp2_with (first | (refine wpList_ld 37 ⟨gx, 0, none⟩ (.tmp 5) rfl rfl HLT.out rfl ?_) | (refine wpList_ld 37 ⟨gy, 0, none⟩ (.tmp 39) rfl rfl HLTH.out rfl ?_) | (refine wpList_val (ex_eqTb (.tmp 38) (.tmp 40) _ t f.th true rfl rfl rfl HD.out) rfl ?_) | (refine wpList_ld 45 ⟨gy, 0, none⟩ (.tmp 9) rfl rfl HLF.out rfl ?_) | (refine wpList_val (ex_build 47 _ #[(0, .int .i64 2), (1, .agg f.cells)] _ rfl (by simp only [List.map_toArray, List.map_cons, List.map_nil]; rfl) (build_tr2 2 f _)) rfl ?_) | (refine wpList_st rfl 47 (.tmp 4) (.tmp 43) rfl (g0 + 1) (trC 2 f false) rfl rfl _ zTr HZ4.out (by kernel_rfl) rfl (trC_one _ _ _) ?_; intro w6 hw6 hbut6) | fail)
      have hlv := lv_tr hw6
      refine bodyPost_ret (v := .agg (trC 2 f false)) (by simp [results, Tryz.results9, asAddr, Act.put, hlv]) rfl ?_
      rw [HV2.out]
      exact ⟨rfl, hbut6.below HBF4.out HBF4.out.size (by have := HGW.out; omega)⟩
    · have HV2 : Hid (lookP q t = (3, f)) := by unfold Hid; rw [HV.out, if_neg hte]
      have HD : Hid (decide (t = f.th) = false) := decide_eq_false hte
      clear hte
      go_wp2_with (first | (refine wpList_ld 37 ⟨gx, 0, none⟩ (.tmp 5) rfl rfl HLT.out rfl ?_) | (refine wpList_ld 37 ⟨gy, 0, none⟩ (.tmp 39) rfl rfl HLTH.out rfl ?_) | (refine wpList_val (ex_eqTb (.tmp 38) (.tmp 40) _ t f.th false rfl rfl rfl HD.out) rfl ?_) | (refine wpList_ld 45 ⟨gy, 0, none⟩ (.tmp 9) rfl rfl HLF.out rfl ?_) | (refine wpList_val (ex_build 47 _ #[(0, .int .i64 3), (1, .agg f.cells)] _ rfl (by simp only [List.map_toArray, List.map_cons, List.map_nil]; rfl) (build_tr2 3 f _)) rfl ?_) | (refine wpList_st rfl 47 (.tmp 4) (.tmp 45) rfl (g0 + 1) (trC 3 f false) rfl rfl _ zTr HZ4.out (by kernel_rfl) rfl (trC_one _ _ _) ?_; intro w6 hw6 hbut6) | fail)
      have hlv := lv_tr hw6
      refine bodyPost_ret (v := .agg (trC 3 f false)) (by simp [results, Tryz.results9, asAddr, Act.put, hlv]) rfl ?_
      rw [HV2.out]
      exact ⟨rfl, hbut6.below HBF4.out HBF4.out.size (by have := HGW.out; omega)⟩
end Go.Proofs.YtkkfioebpppffaaGreatDoor.Fl
