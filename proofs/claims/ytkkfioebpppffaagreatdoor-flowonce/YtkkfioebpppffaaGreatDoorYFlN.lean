import Derived.Test.YtkkfioebpppffaaGreatDoorYFlL
namespace Go.Proofs.YtkkfioebpppffaaGreatDoor.Fl
open Go.Proofs.YtkkfioebpppffaaGreatDoor Go.ChangeShapes Go.WideShapes Go.ChangeAt Go.RowKit Go.Maps N
set_option maxHeartbeats 4000000
set_option maxRecDepth 100000

theorem wpList_update_run {P : Program} (w : World) {ops : Array Oper} {rest : List Oper} {o : Oper} {a : Act} {Q : Exit → Act → World → Prop} (hgd : o.guard = none) (t : TypeId) (x y z : Operand) (ho : o.op = .mapUpdate t x y z) (vx vy vz : Value) (hx : a.eval x = vx) (hy : a.eval y = vy) (hz : a.eval z = vz) {w' : World}
    (hr : (Instr.mapUpdate t vx vy vz).run P w = .ok () w') (h : wpList P ops Q rest (a.put o.dst undef) w') : wpList P ops Q (o :: rest) a w :=
  wpList_plain hgd fun _ hK => by
    unfold Oper.wp
    simp [execOp, ho, hx, hy, hz, hr, Result.andThen]
    exact hK _ _ h
theorem wpList_lookup_run {P : Program} (w : World) {ops : Array Oper} {rest : List Oper} {o : Oper} {a : Act} {Q : Exit → Act → World → Prop} (hgd : o.guard = none) (t : TypeId) (x y : Operand) (c : Bool) (ho : o.op = .lookup t x y c) (vx vy v : Value) (hx : a.eval x = vx) (hy : a.eval y = vy)
    (hr : (Instr.lookup t vx vy c).run P w = .ok v w) (h : wpList P ops Q rest (a.put o.dst v) w) : wpList P ops Q (o :: rest) a w :=
  wpList_plain hgd fun _ hK => by
    unfold Oper.wp
    simp only [execOp, ho, hx, hy, hr, Sem.run_bind, Result.andThen_ok, Sem.run_pure]
    exact hK _ _ h
theorem wpList_delete_run {P : Program} (w : World) {ops : Array Oper} {rest : List Oper} {o : Oper} {a : Act} {Q : Exit → Act → World → Prop} (hgd : o.guard = none) (d s : Operand) (t t' : TypeId)
    (ho : o.op = .call { callee := .builtin .delete, args := #[d, s], argTypes := #[t, t'] }) (v u : Value) (hd : a.eval d = v) (hs : a.eval s = u) {v' : Value} {w' : World}
    (hr : (Builtin.delete_ #[t, t'] o.type #[v, u]).run P w = .ok v' w') (h : wpList P ops Q rest (a.put o.dst v') w') : wpList P ops Q (o :: rest) a w :=
  wpList_plain hgd fun _ hK => by
    unfold Oper.wp execOp
    simp only [ho, resolve, invoke, builtin, Sem.run_bind, Sem.run_pure, Result.andThen_ok, List.map_toArray, List.map_cons, List.map_nil, hd, hs, hr]
    exact hK _ _ h

theorem wf64 {a : Int} (h : Tm.In64 a) : (Lit.int .i64 a).wf = true := WalkArith.wf_i64 ⟨h.lo, h.hi⟩
section
variable {w w' : World} {b : Nat} {lim : Int} {q : Raw} {p : Pl} {F : Nat → Prop}
theorem std_put (h : TAt w b lim q p) (hF : ∀ k, F k ↔ fpT b p k) (x : Int) : StD w (w.setCell ⟨b, 1, none⟩ (.int .i64 x)) b lim { q with last := x } F :=
  ⟨F, ⟨p, h.put x, hF⟩, fun _ e => .inl e, Me.Keeps.set (Me.Keeps.refl _ _) ⟨b, 1, none⟩ ((hF b).2 fp_b) _⟩
theorem std_nmap {f' : Tu → Option Int} {c' : Nat} (h : TAt w b lim q p) (hF : ∀ k, F k ↔ fpT b p k) (ht : w.mapTurned w' p.nb) (hm : Mq.MapG gT w' p.nb f' c') : StD w w' b lim { q with f := f', cf := c' } F :=
  ⟨F, ⟨p, h.nmap ht hm, hF⟩, fun _ e => .inl e, (turned_to ht).mono fun k _ e => (hF k).2 (by rw [e]; exact fp_n)⟩
theorem std_fmap {g' : Int → Option Fw} {c' : Nat} (h : TAt w b lim q p) (hF : ∀ k, F k ↔ fpT b p k) (ht : w.mapTurned w' p.fb) (hm : Mq.MapG gF w' p.fb g' c') : StD w w' b lim { q with g := g', cg := c' } F :=
  ⟨F, ⟨p, h.fmap ht hm, hF⟩, fun _ e => .inl e, (turned_to ht).mono fun k _ e => (hF k).2 (by rw [e]; exact fp_f)⟩
theorem std_tms {go' : Option Nat} {S' : List Tm.H.Dl} (h : TAt w b lim q p) (hF : ∀ k, F k ↔ fpT b p k) (hf : Tm.Fr (Tm.fp p.tb p.tbm p.tgo) w w') (hm : Tm.Tm w' p.tb p.tbm go' lim S') (hn : ∀ x ∈ go'.toList, x ∈ p.tgo.toList ∨ w.heap.size ≤ x) : StD w w' b lim { q with S := S' } F := by
  refine ⟨fpT b { p with tgo := go' }, ⟨_, h.tms hf hm hn, fun k => Iff.rfl⟩, fun k e => ?_, (fto hf).mono fun k _ e => (hF k).2 (fp_t e)⟩
  rcases e with e | e | e | e
  · exact .inl ((hF k).2 (.inl e))
  · exact .inl ((hF k).2 (.inr (.inl e)))
  · exact .inl ((hF k).2 (.inr (.inr (.inl e))))
  · have e' : k = p.tb ∨ k = p.tbm ∨ k ∈ go'.toList := by simpa [pT, Tm.fp] using e
    rcases e' with e | e | e
    · exact .inl ((hF k).2 (fp_t (by simp [pT, Tm.fp, e])))
    · exact .inl ((hF k).2 (fp_t (by simp [pT, Tm.fp, e])))
    · rcases hn k e with e | e
      · exact .inl ((hF k).2 (fp_t (by unfold pT Tm.fp; simp only [List.mem_cons]; exact .inr (.inr e))))
      · exact .inr e
end

/-- The table amid a call: the call's own blocks lie below n. -/
def Mid (w wx : World) (b : Nat) (lim : Int) (q : Raw) (F : Nat → Prop) (n : Nat) : Prop :=
  ∃ F', St wx b lim q F' ∧ (∀ k, F' k → F k ∨ n ≤ k) ∧ Me.Keeps F w wx ∧ n ≤ wx.heap.size ∧ (∀ k, F k → k < w.heap.size) ∧ w.heap.size ≤ n ∧ ∀ k, isTab k → k < w.heap.size
theorem tab_lt {w : World} (h : TabF w) : ∀ k, isTab k → k < w.heap.size := fun k e => by
  rcases e with rfl | rfl
  · exact h.lt.1
  · exact h.lt.2
section
variable {w wx wy : World} {b : Nat} {lim : Int} {q q' : Raw} {F : Nat → Prop} {n : Nat}
theorem Mid.start (h : St w b lim q F) (hb : Below w.heap.size w wx) : Mid w wx b lim q F wx.heap.size :=
  ⟨F, h.below hb, fun _ e => .inl e, Me.Keeps.of hb, Nat.le_refl _, fun _ e => h.lt e, hb.size, tab_lt h.tab⟩
theorem Mid.not (h : Mid w wx b lim q F n) {F' : Nat → Prop} (h2 : ∀ k, F' k → F k ∨ n ≤ k) {g : Nat} (hg : w.heap.size ≤ g) (hn : g < n) : ¬ F' g := fun e => by
  obtain ⟨_, _, _, _, _, h5, _⟩ := h
  rcases h2 g e with e | e
  · have := h5 g e; omega
  · omega
theorem Mid.own (h : Mid w wx b lim q F n) {g : Nat} (hg : w.heap.size ≤ g) (hn : g < n) (hk : Me.Keeps (fun k => k = g) wx wy) : Mid w wy b lim q F n := by
  have hh := h
  obtain ⟨F', h1, h2, h3, h4, h5, h6, h7⟩ := h
  exact ⟨F', h1.keeps hk (fun k e e2 => hh.not h2 hg hn (e2 ▸ e)) (fun k e e2 => by have := h7 k e; omega), h2, kp_then h3 hk fun k e => .inr (by omega), Nat.le_trans h4 hk.size, h5, h6, h7⟩
theorem Mid.below (h : Mid w wx b lim q F n) (hb : Below wx.heap.size wx wy) : Mid w wy b lim q F n := by
  obtain ⟨F', h1, h2, h3, h4, h5, h6, h7⟩ := h
  exact ⟨F', h1.below hb, h2, h3.trans (Me.Keeps.of hb), Nat.le_trans h4 hb.size, h5, h6, h7⟩
theorem Mid.step (h : Mid w wx b lim q F n) {F' : Nat → Prop} (h2 : ∀ k, F' k → F k ∨ n ≤ k) (hs : StD wx wy b lim q' F') : Mid w wy b lim q' F n ∧ ∀ g, w.heap.size ≤ g → g < n → wy.heap[g]? = wx.heap[g]? := by
  have hh := h
  obtain ⟨_, _, _, h3, h4, h5, h6, h7⟩ := h
  obtain ⟨F2, k1, k2, k3⟩ := hs
  refine ⟨⟨F2, k1, fun k e => ?_, ?_, Nat.le_trans h4 k3.size, h5, h6, h7⟩, fun g hg hn => k3.block g (by omega) (hh.not h2 hg hn)⟩
  · rcases k2 k e with e | e
    · exact h2 k e
    · exact .inr (Nat.le_trans h4 e)
  · exact kp_then h3 k3 fun k e => (h2 k e).imp id fun e => Nat.le_trans h6 e
/-- It lies somewhere. -/
theorem Mid.open (h : Mid w wx b lim q F n) : ∃ F' p, TAt wx b lim q p ∧ (∀ k, F' k ↔ fpT b p k) ∧ ∀ wy q', StD wx wy b lim q' F' → Mid w wy b lim q' F n ∧ ∀ g, w.heap.size ≤ g → g < n → wy.heap[g]? = wx.heap[g]? := by
  have hh := h
  obtain ⟨F', ⟨p, h1, hF⟩, h2, -⟩ := h
  exact ⟨F', p, h1, hF, fun wy q' hd => hh.step h2 hd⟩
/-- A call on the table: what it gives, and that the call's own blocks stay. -/
theorem Mid.call {f : FuncId} {args : Array Value} {P : Ending → Prop} (h : Mid w wx b lim q F n) (hc : ∀ F', St wx b lim q F' → Calls Tryz.prog f args wx fun e w' => P e ∧ StD wx w' b lim q' F') :
    Calls Tryz.prog f args wx fun e w' => P e ∧ Mid w w' b lim q' F n ∧ ∀ g, w.heap.size ≤ g → g < n → w'.heap[g]? = wx.heap[g]? := by
  have hh := h
  obtain ⟨F', h1, h2, -⟩ := h
  exact (hc F' h1).mono fun e w' ⟨hp, hd⟩ => ⟨hp, hh.step h2 hd⟩
theorem Mid.end (h : Mid w wx b lim q F n) : StD w wx b lim q F := by
  obtain ⟨F', h1, h2, h3, h4, h5, h6, h7⟩ := h
  exact ⟨F', h1, fun k e => (h2 k e).imp id fun e => Nat.le_trans h6 e, h3⟩
theorem Mid.at (h : Mid w wx b lim q F n) : ∃ p, TAt wx b lim q p := by
  obtain ⟨F', ⟨p, h1, -⟩, -⟩ := h
  exact ⟨p, h1⟩
theorem Mid.size (h : Mid w wx b lim q F n) : n ≤ wx.heap.size ∧ w.heap.size ≤ n := by
  obtain ⟨F', h1, h2, h3, h4, h5, h6, h7⟩ := h
  exact ⟨h4, h6⟩
end
theorem But.kp {g : Nat} {w w' : World} (h : But g w w') : Me.Keeps (fun k => k = g) w w' := ⟨h.os, h.tape, h.output, h.size, h.block⟩

theorem spanF_in (st p : Nat) : 0 ≤ spanF st p ∧ spanF st p ≤ 432000 := by
  unfold spanF
  split
  · omega
  · exact spN_mem st
theorem aft_in {a b : Int} (ha : Tm.In64 a) (hb : Tm.In64 b) : Tm.In64 (Tm.aft a b) := by
  have h1 := ha.lo; have h2 := ha.hi; have h3 := hb.lo; have h4 := hb.hi
  unfold Tm.aft
  split
  · exact ⟨by omega, by omega⟩
  · split
    · exact ⟨by omega, by omega⟩
    · exact ⟨by omega, by omega⟩

/-- The flow as it is kept. -/
def kpF (f : Fw) (now : Int) : Fw := { f with til := Tm.aft now (spanF f.st f.th.p) }
theorem kp_cells (f : Fw) (now : Int) : f.cells.setIfInBounds 11 (.int .i64 (Tm.aft now (spanF f.st f.th.p))) = (kpF f now).cells := rfl
def upG (g : Int → Option Fw) (k : Int) (f : Fw) : Int → Option Fw := fun y => if y = k then some f else g y
def keepQ (lim : Int) (q : Raw) (k : Int) (f : Fw) : Raw := { q with g := upG q.g k f, cg := if (q.g k).isSome then q.cg else q.cg + 1, S := Tm.setR q.S lim (k, f.til) }

theorem keep_any (w : World) (b : Nat) (lim : Int) (q : Raw) (F : Nat → Prop) (k : Int) (f : Fw) (now : Int) (h : St w b lim q F) (hk : Tm.In64 k) (hnow : Tm.In64 now) (hst : f.st < 10) (hcg : q.cg < 1000000) :
    Calls Tryz.prog 25 #[.pointer (some ⟨b, 0, none⟩), .int .i64 k, .agg f.cells, .int .i64 now] w fun e w' => e = .returned (.agg (kpF f now).cells) ∧ StD w w' b lim (keepQ lim q k (kpF f now)) F := by
  obtain ⟨w0, HW0⟩ : ∃ w0, Hid (w0 = (w.alloc (.cells f.cells 45)).alloc (.cells #[.int .u32 0, .int .u32 0, .int .u8 0, .int .u16 0, .int .u16 0, .int .u32 0, .int .u32 0, .int .u8 0, .int .u16 0, .int .u16 0, .int .i64 0, .int .i64 0] 45)) := ⟨_, rfl⟩
  have hba : Below w.heap.size w (w.alloc (.cells f.cells 45)) := (Below.refl _ _).alloc (Nat.le_refl _) _
  have hb0 : Below w.heap.size w w0 := by rw [HW0.out]; exact hba.trans ((Below.refl _ _).alloc (by simp) _)
  obtain ⟨g0, HG0⟩ : ∃ g, Hid (g = w.heap.size) := ⟨_, rfl⟩
  have hsz : w0.heap.size = g0 + 2 := by rw [HW0.out, HG0.out]; simp
  have r3 : w0.heap[g0]? = some (.cells f.cells 45 (0, 0)) := by
    rw [HW0.out, HG0.out]
    exact below_keeps (B := (w.alloc (.cells f.cells 45)).heap.size) ((Below.refl _ _).alloc (Nat.le_refl _) _) (heap_alloc_new w _) (by simp)
  have r4 : w0.heap[g0 + 1]? = some (.cells zFw.cells 45 (0, 0)) := by
    have := heap_alloc_new (w.alloc (.cells f.cells 45)) (.cells #[.int .u32 0, .int .u32 0, .int .u8 0, .int .u16 0, .int .u16 0, .int .u32 0, .int .u32 0, .int .u8 0, .int .u16 0, .int .u16 0, .int .i64 0, .int .i64 0] 45)
    rw [World.size_alloc] at this
    rw [HW0.out, HG0.out]; exact this
  have M0 := Mid.start h hb0
  rw [hsz] at M0
  obtain ⟨T, HT⟩ : ∃ T, Hid (T = Tm.aft now (spanF f.st f.th.p)) := ⟨_, rfl⟩
  obtain ⟨f2, HF2⟩ : ∃ f2, Hid (f2 = kpF f now) := ⟨_, rfl⟩
  have hT64 : Tm.In64 T := by
    rw [HT.out]
    obtain ⟨s1, s2⟩ := spanF_in f.st f.th.p
    exact aft_in hnow ⟨by omega, by omega⟩
  have hft : f2.til = T := by rw [HF2.out, HT.out]; rfl
  have HGW : Hid (w.heap.size ≤ g0) := by unfold Hid; rw [HG0.out]; exact Nat.le_refl _
  have HSP := hid (spanOf_any f w0 hst (h.below hb0).tab)
  have HL0 := hid (load_fw r3)
  have HAF : Hid (∀ u, Calls Tryz.prog 40 #[.int .i64 now, .int .i64 (spanF f.st f.th.p)] u fun e w' => e = .returned (.int .i64 T) ∧ w' = u) := fun u => by
    obtain ⟨s1, s2⟩ := spanF_in f.st f.th.p
    rw [HT.out]; exact Tm.after_code now _ u hnow ⟨by omega, by omega⟩
  have HM0 := hid M0
  have R3 := hid r3
  have R4 := hid r4
  have HSZ := hid hsz
  -- behind the span
  have HST : Hid (∀ w1, Below w0.heap.size w0 w1 → w1.frozen? ⟨g0, 11, none⟩ = false ∧ ∃ old, w1.cell? ⟨g0, 11, none⟩ = some (.int .i64 old)) := fun w1 hb1 => by
    have hr := below_keeps hb1 R3.out (by rw [HSZ.out]; omega)
    exact ⟨frozen_of_row _ _ _ _ _ hr, f.til, (ce_fw hr).2.2⟩
  have HS2 : Hid (∀ w1, Below w0.heap.size w0 w1 → ∀ w2, w2 = w1.setCell ⟨g0, 11, none⟩ (.int .i64 T) → Mid w w2 b lim q F (g0 + 2) ∧ w2.heap[g0]? = some (.cells f2.cells 45 (0, 0)) ∧ w2.heap[g0 + 1]? = some (.cells zFw.cells 45 (0, 0))) := fun w1 hb1 w2 hw2 => by
    have hr := below_keeps hb1 R3.out (by rw [HSZ.out]; omega)
    have hr4 := below_keeps hb1 R4.out (by rw [HSZ.out]; omega)
    have hk2 : Me.Keeps (fun k => k = g0) w1 w2 := by rw [hw2]; exact Me.Keeps.set (S := fun k => k = g0) (Me.Keeps.refl _ _) ⟨g0, 11, none⟩ rfl _
    refine ⟨(HM0.out.below hb1).own HGW.out (by omega) hk2, ?_, (hk2.block _ (Array.getElem?_eq_some_iff.1 hr4).1 (by omega)).trans hr4⟩
    rw [hw2, Me.set_cells hr, HT.out, kp_cells, HF2.out]
  rw [← HF2.out]
  have HK := hid (wf64 hk)
  have HK64 := hid hk
  have HCG := hid hcg
  have HFT := hid hft
  have HT64 := hid hT64
  generalize spanF f.st f.th.p = sp at *
  generalize f.cells = fc at *
  clear h hba hb0 hsz r3 r4 M0 hT64 hft hk hnow hst hcg
  go_enter Tryz.func25, Tryz.ntmps25
  go_upto_region 1 with fail
  rw [← HW0.out, ← HG0.out]
  go_wp2_with (first | (refine wpList_ld 45 ⟨g0, 0, none⟩ (.tmp 6) rfl rfl HL0.out rfl ?_) | fail)
  refine HSP.out.mono ?_
  rintro _ w1 ⟨rfl, hb1⟩
  obtain ⟨f11, old, k11⟩ := HST.out w1 hb1
  have HB1 := hid hb1
  clear hb1
  go_wp2_with fail
  refine (HAF.out _).mono ?_
  rintro _ _ ⟨rfl, e⟩
  obtain rfl := e.symm
  go_upto_region 2 with fail
  obtain ⟨w2, HW2⟩ : ∃ w2, Hid (w2 = w1.setCell ⟨g0, 11, none⟩ (.int .i64 T)) := ⟨_, rfl⟩
  rw [← HW2.out]
  obtain ⟨hm2, hr2, hz2⟩ := HS2.out w1 HB1.out w2 HW2.out
  clear f11 k11
  have hdr : Below w2.heap.size w2 w2.drew := below_drew (Below.refl _ _)
  obtain ⟨F', p, hs, hF, hstep⟩ := (hm2.below hdr).open
  obtain ⟨w3, hup, hm3, ht3⟩ := hs.fm.store HCG.out (k := k) HK.out f2
  obtain ⟨M3, hrow3⟩ := hstep w3 _ (std_fmap hs hF ht3 hm3)
  have k3 : w2.cell? ⟨b, 3, none⟩ = some (.map (some p.fb)) := hs.cells rfl
  have HL2 : Hid ((Instr.loadAt 45 (.pointer (some ⟨g0, 0, none⟩))).run Tryz.prog w2.drew = .ok (.agg f2.cells) w2.drew) := load_fw (u := w2.drew) hr2
  have HUP : Hid ((Instr.mapUpdate 59 (.map (some p.fb)) (.int .i64 k) (.agg f2.cells)).run Tryz.prog w2.drew = .ok () w3) := hup
  have HR3 : Hid (w3.heap[g0]? = some (.cells f2.cells 45 (0, 0))) := (hrow3 g0 HGW.out (by omega)).trans hr2
  have HZ3 : Hid (w3.heap[g0 + 1]? = some (.cells zFw.cells 45 (0, 0))) := (hrow3 (g0 + 1) (by have := HGW.out; omega) (by omega)).trans hz2
  have HM3 := hid M3
  clear hm2 hr2 hz2 hs hF hstep hup hm3 ht3 M3 hrow3 hdr
  refine wp_region_still_tail 6 (by kernel_rfl) (by kernel_rfl) ?_
  simp only [List.take_succ_cons, List.take_zero, List.drop_succ_cons, List.drop_zero]
  iterate 5 still_step
  refine wpStill_ld 45 ⟨g0, 0, none⟩ (.tmp 6) rfl rfl rfl HL2.out ?_
  refine wpStill_nil ?_
  go_upto_region 3 with (first | (at_mapUpdate; refine wpList_update_run _ rfl _ _ _ _ rfl _ _ _ rfl rfl rfl HUP.out ?_) | fail)
  have hdr3 : Below w3.heap.size w3 w3.drew := below_drew (Below.refl _ _)
  obtain ⟨F3, p3, hs3, hF3, hstep3⟩ := (HM3.out.below hdr3).open
  have k4 : w3.cell? ⟨b, 4, none⟩ = some (.pointer (some ⟨p3.tb, 0, none⟩)) := hs3.cells rfl
  have k11 : w3.cell? ⟨g0, 11, none⟩ = some (.int .i64 T) := by rw [(ce_fw HR3.out).2.2, HFT.out]
  have HSET : Hid (Calls Tryz.prog 42 #[.pointer (some ⟨p3.tb, 0, none⟩), .int .i64 k, .int .i64 T] w3.drew fun e w' => ∃ x, e = .returned (.int .i64 x) ∧ Mid w w' b lim (keepQ lim q k f2) F (g0 + 2) ∧ ∀ g, w.heap.size ≤ g → g < g0 + 2 → w'.heap[g]? = w3.heap[g]?) := by
    refine (Tm.set_any p3.tb p3.tbm p3.tgo lim q.S k T w3.drew hs3.tm HK64.out HT64.out).mono ?_
    rintro e w' ⟨go', rfl, t1, t2, t3⟩
    obtain ⟨m1, m2⟩ := hstep3 w' _ (std_tms hs3 hF3 t3 t1 t2)
    refine ⟨_, rfl, ?_, m2⟩
    unfold keepQ
    rw [HFT.out]
    exact m1
  clear k3 hs3 hF3 hstep3 hdr3
  refine wp_region_still_tail 7 (by kernel_rfl) (by kernel_rfl) ?_
  simp only [List.take_succ_cons, List.take_zero, List.drop_succ_cons, List.drop_zero]
  iterate 7 still_step
  refine wpStill_nil ?_
  go_wp2_with fail
  refine HSET.out.mono ?_
  rintro _ w4 ⟨x, rfl, M4, hrow4⟩
  have HR4 := hid ((hrow4 g0 HGW.out (by omega)).trans HR3.out)
  have HZ4 := hid ((hrow4 (g0 + 1) (by have := HGW.out; omega) (by omega)).trans HZ3.out)
  have HL4 := hid (load_fw HR4.out)
  have HM4 := hid M4
  clear M4 hrow4 k4 k11
  go_wp2_with (first | (refine wpList_ld 45 ⟨g0, 0, none⟩ (.tmp 6) rfl rfl HL4.out rfl ?_) | (refine wpList_st rfl 45 (.tmp 8) (.tmp 28) rfl (g0 + 1) f2.cells rfl rfl _ zFw.cells HZ4.out (by kernel_rfl) rfl f2.one ?_; intro w5 hw5 hbut5) | fail)
  have hlv := lv_fw hw5
  refine bodyPost_ret (v := .agg f2.cells) (by simp [results, Tryz.results25, asAddr, Act.put, hlv]) rfl ⟨rfl, (HM4.out.own (by have := HGW.out; omega) (by omega) (But.kp hbut5)).end⟩
end Go.Proofs.YtkkfioebpppffaaGreatDoor.Fl
