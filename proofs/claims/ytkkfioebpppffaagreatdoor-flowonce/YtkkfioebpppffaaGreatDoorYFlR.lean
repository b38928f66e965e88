import Derived.Test.YtkkfioebpppffaaGreatDoorYFlO
namespace Go.Proofs.YtkkfioebpppffaaGreatDoor.Fl
open Go.Proofs.YtkkfioebpppffaaGreatDoor Go.ChangeShapes Go.WideShapes Go.ChangeAt Go.RowKit Go.Maps N
set_option maxHeartbeats 8000000
set_option maxRecDepth 100000

theorem ex_len {o : Oper} {a : Act} {w : World} (x : Operand) (T : TypeId) (v : Value) (n : Int) (ho : o.op = .call { callee := .builtin .len, args := #[x], argTypes := #[T] }) (hx : a.eval x = v) (hr : (Builtin.len_ #[T] o.type #[v]).run Tryz.prog w = .ok (.int .i64 n) w) : (execOp a.eval o).run Tryz.prog w = .ok (.value (.int .i64 n)) w := by
  unfold execOp
  simp only [ho, resolve, invoke, builtin, Sem.run_bind, Sem.run_pure, Result.andThen_ok, List.map_toArray, List.map_cons, List.map_nil, hx, hr]
theorem ex_eqN {o : Oper} {a : Act} {w : World} (x y : Operand) (T : TypeId) (i j : Int) (ho : o.op = .binOp .eql 3 x y T) (hx : a.eval x = .int .i64 i) (hy : a.eval y = .int .i64 j) : (execOp a.eval o).run Tryz.prog w = .ok (.value (.bool (decide (i = j)))) w := by
  unfold execOp
  simp only [ho, hx, hy]
  simp [eqGuard, binOp, go_sem]
  by_cases e : i = j <;> simp [e]
theorem ex_eqTb {o : Oper} {a : Act} {w : World} (x y : Operand) (T : TypeId) (c d : Tu) (r : Bool) (ho : o.op = .binOp .eql 37 x y T) (hx : a.eval x = .agg c.cells) (hy : a.eval y = .agg d.cells) (hr : decide (c = d) = r) : (execOp a.eval o).run Tryz.prog w = .ok (.value (.bool r)) w := by rw [← hr]; exact ex_eqT x y T c d ho hx hy
theorem ex_neTb {o : Oper} {a : Act} {w : World} (x y : Operand) (T : TypeId) (c d : Tu) (r : Bool) (ho : o.op = .binOp .neq 37 x y T) (hx : a.eval x = .agg c.cells) (hy : a.eval y = .agg d.cells) (hr : (!decide (c = d)) = r) : (execOp a.eval o).run Tryz.prog w = .ok (.value (.bool r)) w := by rw [← hr]; exact ex_neT x y T c d ho hx hy
theorem ex_eqNb {o : Oper} {a : Act} {w : World} (x y : Operand) (T : TypeId) (i j : Int) (r : Bool) (ho : o.op = .binOp .eql 3 x y T) (hx : a.eval x = .int .i64 i) (hy : a.eval y = .int .i64 j) (hr : decide (i = j) = r) : (execOp a.eval o).run Tryz.prog w = .ok (.value (.bool r)) w := by rw [← hr]; exact ex_eqN x y T i j ho hx hy
theorem wpList_val {ops : Array Oper} {Q : Exit → Act → World → Prop} {a : Act} {w : World} {rest : List Oper} {o : Oper} {v : Value} (hr : (execOp a.eval o).run Tryz.prog w = .ok (.value v) w)
    (hw : Region.wanted o (yielded ops a.tmps) = true) (h : wpList Tryz.prog ops Q rest (a.put o.dst v) w) : wpList Tryz.prog ops Q (o :: rest) a w := by
  refine wpList_step fun K hK => ?_
  rw [if_pos hw]
  unfold Oper.wp
  rw [hr]
  exact hK _ _ h
theorem ce_tu {w : World} {b : Nat} {t : Tu} {T : TypeId} {r : Nat × Nat} (hr : w.heap[b]? = some (.cells t.cells T r)) : w.cell? ⟨b, 2, none⟩ = some (.int .u8 (t.p : Int)) := by rw [cell_of_row _ _ _ _ _ _ hr]; rfl

theorem build_fw (th bk : Tu) (st : Nat) (u : World) : (Instr.build 45 #[(0, .agg th.cells), (1, .agg bk.cells), (2, .int .i64 (st : Int))]).run Tryz.prog u = .ok (.agg (Fw.cells ⟨th, bk, st, 0⟩)) u := by
  obtain ⟨a, b, c, d, e⟩ := th
  obtain ⟨a', b', c', d', e'⟩ := bk
  simp [Instr.build, run_underlying Tryz.underlying45, go_sem, Tu.cells, Fw.cells]

/-- A packet as it is read: what is in it, or why nothing is. -/
def opnE (lim : Int) (q : Raw) (th bk : Tu) (h : Hd) (B : List Nat) : Int :=
  match rdC h B with
  | none => 210
  | some c => if tupC h c ≠ th then 210 else if (fst0 c).2 = false ∨ bk.p ≠ th.p ∨ bk = th then 210 else if (q.f th).isSome ∨ (q.f bk).isSome then 5 else if (q.cg : Int) = lim then 4 else 0
def upN (f : Tu → Option Int) (t : Tu) (k : Int) : Tu → Option Int := fun y => if y = t then some k else f y
def numQ (q : Raw) (t : Tu) : Raw := { q with f := upN q.f t q.last, cf := if (q.f t).isSome then q.cf else q.cf + 1 }
def opnQ (lim : Int) (q : Raw) (th bk : Tu) (h : Hd) (B : List Nat) (now : Int) : Raw :=
  match rdC h B with
  | none => q
  | some c => keepQ lim (numQ (numQ { q with last := q.last + 1 } th) bk) (q.last + 1) (kpF ⟨th, bk, (fst0 c).1, 0⟩ now)
def opnR (lim : Int) (q : Raw) (th bk : Tu) (h : Hd) (B : List Nat) (now : Int) : Raw := if opnE lim q th bk h B = 0 then opnQ lim q th bk h B now else q

theorem fst0_lt (c : Ct) : (fst0 c).1 < 10 := by
  cases c <;> simp [fst0]

theorem open_any (w : World) (b : Nat) (lim : Int) (q : Raw) (F : Nat → Prop) (th bk : Tu) (h : Hd) (vo vb : Value) (B : List Nat) (now : Int) (hs : St w b lim q F) (hth : th.Ok) (hbk : bk.Ok) (hok : h.Ok) (hvo : SeesB w vo h.opts) (hvb : SeesB w vb B) (hlo : h.opts.length ≤ 140737488355328) (hlb : B.length ≤ 140737488355328) (hnow : Tm.In64 now) (hl0 : 0 ≤ q.last) (hl1 : q.last < 4611686018427387904) (hcf : q.cf < 999990) (hcg : q.cg < 999990) :
    Calls Tryz.prog 12 #[.pointer (some ⟨b, 0, none⟩), .agg th.cells, .agg bk.cells, .agg (pkCells h vo vb), .int .i64 now] w fun e w' => e = .returned (.int .i64 (opnE lim q th bk h B)) ∧ StD w w' b lim (opnR lim q th bk h B now) F := by
  obtain ⟨wa, HWA⟩ : ∃ wa, Hid (wa = w.alloc (.cells th.cells 37)) := ⟨_, rfl⟩
  obtain ⟨wb, HWB⟩ : ∃ wb, Hid (wb = wa.alloc (.cells bk.cells 37)) := ⟨_, rfl⟩
  obtain ⟨w0, HW0⟩ : ∃ w0, Hid (w0 = wb.alloc (.cells (pkCells h vo vb) 35)) := ⟨_, rfl⟩
  obtain ⟨g0, HG0⟩ : ∃ g, Hid (g = w.heap.size) := ⟨_, rfl⟩
  have sa : wa.heap.size = g0 + 1 := by rw [HWA.out, HG0.out]; simp
  have sb : wb.heap.size = g0 + 2 := by rw [HWB.out, World.size_alloc, sa]
  have s0 : w0.heap.size = g0 + 3 := by rw [HW0.out, World.size_alloc, sb]
  have ba : Below w.heap.size w wa := by rw [HWA.out]; exact (Below.refl _ _).alloc (Nat.le_refl _) _
  have bb : Below wa.heap.size wa wb := by rw [HWB.out]; exact (Below.refl _ _).alloc (Nat.le_refl _) _
  have bc : Below wb.heap.size wb w0 := by rw [HW0.out]; exact (Below.refl _ _).alloc (Nat.le_refl _) _
  have ra : wa.heap[g0]? = some (.cells th.cells 37 (0, 0)) := by rw [HWA.out, HG0.out]; exact heap_alloc_new w _
  have rb : wb.heap[g0 + 1]? = some (.cells bk.cells 37 (0, 0)) := by
    have := heap_alloc_new wa (.cells bk.cells 37); rw [sa] at this; rw [HWB.out]; exact this
  have rc : w0.heap[g0 + 2]? = some (.cells (pkCells h vo vb) 35 (0, 0)) := by
    have := heap_alloc_new wb (.cells (pkCells h vo vb) 35); rw [sb] at this; rw [HW0.out]; exact this
  have r0 := below_keeps bc (below_keeps bb ra (by omega)) (by omega)
  have r1 := below_keeps bc rb (by omega)
  have hb0 : Below w.heap.size w w0 := (ba.trans (bb.mono ba.size)).trans (bc.mono (ba.trans (bb.mono ba.size)).size)
  have HROW : Hid (∀ u : World, u.heap[g0]? = w0.heap[g0]? → u.heap[g0 + 1]? = w0.heap[g0 + 1]? → u.heap[g0 + 2]? = w0.heap[g0 + 2]? → u.heap[g0]? = some (.cells th.cells 37 (0, 0)) ∧ u.heap[g0 + 1]? = some (.cells bk.cells 37 (0, 0)) ∧ u.heap[g0 + 2]? = some (.cells (pkCells h vo vb) 35 (0, 0))) := fun u e0 e1 e2 => ⟨e0.trans r0, e1.trans r1, e2.trans rc⟩
  have HBW : Hid (∀ u : World, Below w0.heap.size w0 u → u.heap[g0]? = some (.cells th.cells 37 (0, 0)) ∧ u.heap[g0 + 1]? = some (.cells bk.cells 37 (0, 0)) ∧ u.heap[g0 + 2]? = some (.cells (pkCells h vo vb) 35 (0, 0))) := fun u hu => HROW.out u (hu.block _ (by omega)) (hu.block _ (by omega)) (hu.block _ (by omega))
  have M0 := Mid.start hs hb0
  rw [s0] at M0
  have HGW : Hid (w.heap.size ≤ g0) := by unfold Hid; rw [HG0.out]; exact Nat.le_refl _
  have HRD := hid (read_any h vo vb B w0 hok (hvo.below hb0) (hvb.below hb0) hlo hlb)
  have HPL := hid (pk_load rc)
  have HCB : Hid (∀ c, rdC h B = some c → c.Ok) := fun c hc => rdC_ok hvb.bytes hc
  have HE0 : Hid (∀ c, rdC h B = some c → rdE h B = 0) := fun c hc => (rdC_some hc).1
  have HEN : Hid (rdC h B = none → rdE h B ≠ 0) := fun hn e => by
    obtain ⟨c, hc⟩ := rdE_zero e
    unfold rdC at hn
    rw [if_pos e, hc] at hn
    cases hn
  have HM0 := hid M0
  have HTH := hid hth
  have HBK := hid hbk
  have HNOW := hid hnow
  have HL0 := hid hl0
  have HL1 := hid hl1
  have HCF := hid hcf
  have HCG := hid hcg
  have HSAME : Hid (opnE lim q th bk h B ≠ 0 → opnR lim q th bk h B now = q) := fun e => by unfold opnR; rw [if_neg e]
  have HALLOC : Hid (((w.alloc (.cells th.cells 37)).alloc (.cells bk.cells 37)).alloc (.cells (pkCells h vo vb) 35) = w0) := by unfold Hid; rw [HW0.out, HWB.out, HWA.out]
  have HSZA : Hid ((w.alloc (.cells th.cells 37)).heap.size = g0 + 1 ∧ ((w.alloc (.cells th.cells 37)).alloc (.cells bk.cells 37)).heap.size = g0 + 2) := by
    unfold Hid; rw [World.size_alloc, World.size_alloc, World.size_alloc, ← HG0.out]; exact ⟨rfl, rfl⟩
  generalize hpkE : pkCells h vo vb = pk at HALLOC HSZA HRD HPL
  have HPK := hid hpkE
  clear hs hth hbk hok hvo hvb hlo hlb hnow hl0 hl1 hcf hcg sa sb s0 ba bb bc ra rb rc r0 r1 hb0 M0 hpkE HWA HWB HW0
  go_enter Tryz.func12, Tryz.ntmps12
  go_upto_region 1 with fail
  rw [HALLOC.out, ← HG0.out]
  go_wp2_with (first | (refine wpList_ld 35 ⟨g0 + 2, 0, none⟩ (.tmp 8) rfl rfl HPL.out rfl ?_) | fail)
  refine HRD.out.mono ?_
  rintro _ w1 ⟨rfl, hb1⟩
  have HB1 := hid hb1
  have HM1 := hid (HM0.out.below hb1)
  clear hb1
  cases hC : rdC h B with
  | none =>
    have HV : Hid (opnE lim q th bk h B = 210) := by unfold Hid opnE; rw [hC]
    have HQ := hid (HSAME.out (by rw [HV.out]; decide))
    have HNZ := hid (HEN.out hC)
    generalize rdE h B = E at *
    have qE : (!decide (E = 0)) = true := by have := HNZ.out; simp [this]
    clear hC
    go_upto_region 2 with fail
    refine wp_region_guarded' 9 (fun i => ([20, 21, 22, 23, 24, 25, 26, 27, 28] : List Tmp).getD i 0) (Vs [.int .i64 E, .bool true, .bool true, undef, undef, undef, undef, undef, undef]) (fun u => Below w1.heap.size w1 u) (fun _ u u' => Below u.heap.size u u') (by kernel_rfl) (by kernel_rfl) ⟨rfl, rfl, rfl, Nat.le_refl _, fun _ _ => rfl⟩ (fun _ _ _ _ _ _ h _ _ => h) ?_ ?_
    · simp only [List.take_succ_cons, List.take_zero, stepsG]
      refine ⟨?_, ?_, ?_, ?_, ?_, ?_, ?_, ?_, ?_, trivial⟩
      · intro a u vs hI hold hdep
        exact opAt_plain rfl (wp_still (ex_move (.tmp 12) _ rfl (hold 12 (dlM (L := [20, 21, 22, 23, 24, 25, 26, 27, 28]) (by decide)))) rfl rfl hI)
      · intro a u vs hI hold hdep
        exact opAt_plain rfl (wp_still (ex_neE (.tmp 20) E true _ rfl (Vs.dep (hdep ⟨0, .data⟩ (by simp) rfl (by decide)) rfl) qE) rfl rfl hI)
      · intro a u vs hI hold hdep
        exact opAt_plain rfl (wp_still (ex_move (.tmp 21) _ rfl (Vs.dep (hdep ⟨1, .data⟩ (by simp) rfl (by decide)) rfl)) rfl rfl hI)
      · intro a u vs hI hold hdep
        exact opAt_skip (j := 2) (t := 22) (b := false) rfl rfl (Vs.dep (hdep ⟨2, .guard⟩ (by simp) rfl (by decide)) rfl) ⟨_, rfl, rfl, hI, Below.refl _ _⟩
      · intro a u vs hI hold hdep
        exact opAt_skip (j := 2) (t := 22) (b := false) rfl rfl (Vs.dep (hdep ⟨2, .guard⟩ (by simp) rfl (by decide)) rfl) ⟨_, rfl, rfl, hI, Below.refl _ _⟩
      · intro a u vs hI hold hdep
        exact opAt_skip (j := 2) (t := 22) (b := false) rfl rfl (Vs.dep (hdep ⟨2, .guard⟩ (by simp) rfl (by decide)) rfl) ⟨_, rfl, rfl, hI, Below.refl _ _⟩
      · intro a u vs hI hold hdep
        exact opAt_skip (j := 2) (t := 22) (b := false) rfl rfl (Vs.dep (hdep ⟨2, .guard⟩ (by simp) rfl (by decide)) rfl) ⟨_, rfl, rfl, hI, Below.refl _ _⟩
      · intro a u vs hI hold hdep
        exact opAt_skip (j := 2) (t := 22) (b := false) rfl rfl (Vs.dep (hdep ⟨2, .guard⟩ (by simp) rfl (by decide)) rfl) ⟨_, rfl, rfl, hI, Below.refl _ _⟩
      · intro a u vs hI hold hdep
        exact opAt_skip (j := 2) (t := 22) (b := false) rfl rfl (Vs.dep (hdep ⟨2, .guard⟩ (by simp) rfl (by decide)) rfl) ⟨_, rfl, rfl, hI, Below.refl _ _⟩
    intro vs u hI hF
    have e0 : vs 0 = .int .i64 E := (Option.some.inj (hF 0 (by decide))).symm
    have e1 : vs 1 = .bool true := (Option.some.inj (hF 1 (by decide))).symm
    have e2 : vs 2 = .bool true := (Option.some.inj (hF 2 (by decide))).symm
    have e3 : vs 3 = undef := (Option.some.inj (hF 3 (by decide))).symm
    have e4 : vs 4 = undef := (Option.some.inj (hF 4 (by decide))).symm
    have e5 : vs 5 = undef := (Option.some.inj (hF 5 (by decide))).symm
    have e6 : vs 6 = undef := (Option.some.inj (hF 6 (by decide))).symm
    have e7 : vs 7 = undef := (Option.some.inj (hF 7 (by decide))).symm
    have e8 : vs 8 = undef := (Option.some.inj (hF 8 (by decide))).symm
    clear hF
    simp only [List.drop_succ_cons, List.drop_zero, puts, List.range, List.range.loop, List.foldr, if_true, List.getD_cons_zero, List.getD_cons_succ, e0, e1, e2, e3, e4, e5, e6, e7, e8, Act.put, List.setIfInBounds_toArray, List.set_cons_zero, List.set_cons_succ]
    clear e0 e1 e2 e3 e4 e5 e6 e7 e8
    have HM2 := hid (HM1.out.below hI)
    clear hI
    go_wp2_with fail
    go_ret
    exact ⟨by rw [HV.out]; rfl, by rw [HQ.out]; exact HM2.out.end⟩
  | some c =>
    have hE0 := HE0.out c hC
    have HC := hid hC
    have HCO := hid (HCB.out c hC)
    rw [hE0]
    have H1 : Hid (∀ u : World, Below w1.heap.size w1 u → (Instr.loadAt 33 (.pointer (some ⟨g0 + 2, 0, none⟩))).run Tryz.prog u = .ok (.agg (hdCells h vo)) u ∧ (Instr.loadAt 37 (.pointer (some ⟨g0, 0, none⟩))).run Tryz.prog u = .ok (.agg th.cells) u ∧ (Instr.loadAt 37 (.pointer (some ⟨g0 + 1, 0, none⟩))).run Tryz.prog u = .ok (.agg bk.cells) u ∧ u.cell? ⟨g0, 2, none⟩ = some (.int .u8 (th.p : Int)) ∧ u.cell? ⟨g0 + 1, 2, none⟩ = some (.int .u8 (bk.p : Int))) := fun u hu => by
      obtain ⟨x0, x1, x2⟩ := HBW.out u (HB1.out.trans (hu.mono HB1.out.size))
      exact ⟨pk_loadH x2, load_tu x0, load_tu x1, ce_tu x0, ce_tu x1⟩
    clear hE0 hC
    by_cases hT : tupC h c = th
    · have HTT := hid hT
      have qT : (!decide (tupC h c = th)) = false := by simp [hT]
      clear hT
      go_upto_region 2 with fail
      refine wp_region_guarded' 9 (fun i => ([20, 21, 22, 23, 24, 25, 26, 27, 28] : List Tmp).getD i 0) (Vs [.int .i64 0, .bool false, .bool false, .pointer (some ⟨g0 + 2, 0, none⟩), .agg (hdCells h vo), c.v, .agg (tupC h c).cells, .agg th.cells, .bool false]) (fun u => Below w1.heap.size w1 u) (fun _ u u' => Below u.heap.size u u') (by kernel_rfl) (by kernel_rfl) ⟨rfl, rfl, rfl, Nat.le_refl _, fun _ _ => rfl⟩ (fun _ _ _ _ _ _ h _ _ => h) ?_ ?_
      · simp only [List.take_succ_cons, List.take_zero, stepsG]
        refine ⟨?_, ?_, ?_, ?_, ?_, ?_, ?_, ?_, ?_, trivial⟩
        · intro a u vs hI hold hdep
          exact opAt_plain rfl (wp_still (ex_move (.tmp 12) _ rfl (hold 12 (dlM (L := [20, 21, 22, 23, 24, 25, 26, 27, 28]) (by decide)))) rfl rfl hI)
        · intro a u vs hI hold hdep
          exact opAt_plain rfl (wp_still (ex_neE (.tmp 20) 0 false _ rfl (Vs.dep (hdep ⟨0, .data⟩ (by simp) rfl (by decide)) rfl) rfl) rfl rfl hI)
        · intro a u vs hI hold hdep
          exact opAt_plain rfl (wp_still (ex_move (.tmp 21) _ rfl (Vs.dep (hdep ⟨1, .data⟩ (by simp) rfl (by decide)) rfl)) rfl rfl hI)
        · intro a u vs hI hold hdep
          exact opAt_go (j := 2) (t := 22) (b := false) rfl rfl (Vs.dep (hdep ⟨2, .guard⟩ (by simp) rfl (by decide)) rfl) (wp_still (ex_field _ ⟨g0 + 2, 0, none⟩ (.tmp 8) 0 _ rfl (hold 8 (dlM (L := [20, 21, 22, 23, 24, 25, 26, 27, 28]) (by decide))) (fld_p0 _ u)) rfl rfl hI)
        · intro a u vs hI hold hdep
          exact opAt_go (j := 2) (t := 22) (b := false) rfl rfl (Vs.dep (hdep ⟨2, .guard⟩ (by simp) rfl (by decide)) rfl) (wp_still (ex_load _ ⟨g0 + 2, 0, none⟩ (.tmp 23) _ rfl (Vs.dep (hdep ⟨3, .data⟩ (by simp) rfl (by decide)) rfl) ((H1.out u hI).1)) rfl rfl hI)
        · intro a u vs hI hold hdep
          exact opAt_go (j := 2) (t := 22) (b := false) rfl rfl (Vs.dep (hdep ⟨2, .guard⟩ (by simp) rfl (by decide)) rfl) (wp_still (ex_move (.tmp 11) _ rfl (hold 11 (dlM (L := [20, 21, 22, 23, 24, 25, 26, 27, 28]) (by decide)))) rfl rfl hI)
        · intro a u vs hI hold hdep
          have e0 : a.eval (.tmp 24) = .agg (hdCells h vo) := (Vs.dep (hdep ⟨4, .data⟩ (by simp) rfl (by decide)) rfl)
          have e1 : a.eval (.tmp 25) = c.v := (Vs.dep (hdep ⟨5, .data⟩ (by simp) rfl (by decide)) rfl)
          refine opAt_go (j := 2) (t := 22) (b := false) rfl rfl (Vs.dep (hdep ⟨2, .guard⟩ (by simp) rfl (by decide)) rfl) ?_
          refine wp_call 22 _ _ rfl (enters_of Tryz.func22 (by kernel_rfl) rfl) #[.agg (hdCells h vo), c.v] (by simp only [List.map_toArray, List.map_cons, List.map_nil, e0, e1]) ?_
          refine (tupleOf_any h vo c u).mono ?_
          rintro _ u' ⟨rfl, hb'⟩
          exact ⟨_, rfl, _, rfl, rfl, hI.trans (hb'.mono hI.size), hb'⟩
        · intro a u vs hI hold hdep
          exact opAt_go (j := 2) (t := 22) (b := false) rfl rfl (Vs.dep (hdep ⟨2, .guard⟩ (by simp) rfl (by decide)) rfl) (wp_still (ex_load _ ⟨g0, 0, none⟩ (.tmp 6) _ rfl (hold 6 (dlM (L := [20, 21, 22, 23, 24, 25, 26, 27, 28]) (by decide))) ((H1.out u hI).2.1)) rfl rfl hI)
        · intro a u vs hI hold hdep
          exact opAt_go (j := 2) (t := 22) (b := false) rfl rfl (Vs.dep (hdep ⟨2, .guard⟩ (by simp) rfl (by decide)) rfl) (wp_still (ex_neTb (.tmp 26) (.tmp 27) _ (tupC h c) th false rfl (Vs.dep (hdep ⟨6, .data⟩ (by simp) rfl (by decide)) rfl) (Vs.dep (hdep ⟨7, .data⟩ (by simp) rfl (by decide)) rfl) qT) rfl rfl hI)
      intro vs u hI hF
      have e0 : vs 0 = .int .i64 0 := (Option.some.inj (hF 0 (by decide))).symm
      have e1 : vs 1 = .bool false := (Option.some.inj (hF 1 (by decide))).symm
      have e2 : vs 2 = .bool false := (Option.some.inj (hF 2 (by decide))).symm
      have e3 : vs 3 = .pointer (some ⟨g0 + 2, 0, none⟩) := (Option.some.inj (hF 3 (by decide))).symm
      have e4 : vs 4 = .agg (hdCells h vo) := (Option.some.inj (hF 4 (by decide))).symm
      have e5 : vs 5 = c.v := (Option.some.inj (hF 5 (by decide))).symm
      have e6 : vs 6 = .agg (tupC h c).cells := (Option.some.inj (hF 6 (by decide))).symm
      have e7 : vs 7 = .agg th.cells := (Option.some.inj (hF 7 (by decide))).symm
      have e8 : vs 8 = .bool false := (Option.some.inj (hF 8 (by decide))).symm
      clear hF
      simp only [List.drop_succ_cons, List.drop_zero, puts, List.range, List.range.loop, List.foldr, if_true, List.getD_cons_zero, List.getD_cons_succ, e0, e1, e2, e3, e4, e5, e6, e7, e8, Act.put, List.setIfInBounds_toArray, List.set_cons_zero, List.set_cons_succ]
      clear e0 e1 e2 e3 e4 e5 e6 e7 e8
      have HU := hid hI
      have HM2 := hid (HM1.out.below hI)
      have HFS := hid (firstState_any c u HCO.out)
      obtain ⟨os, HOS⟩ : ∃ os, Hid (os = (fst0 c).2) := ⟨_, rfl⟩
      obtain ⟨st, HSTT⟩ : ∃ st, Hid (st = (fst0 c).1) := ⟨_, rfl⟩
      rw [← HOS.out, ← HSTT.out] at HFS
      clear hI
      go_wp2_with fail
      refine HFS.out.mono ?_
      rintro _ w3 ⟨rfl, hb3⟩
      have HU3 := hid (HU.out.trans (hb3.mono HU.out.size))
      have HM3 := hid (HM2.out.below hb3)
      obtain ⟨-, l6, l7, c6, c7⟩ := H1.out w3 HU3.out
      have L6 := hid l6
      have L7 := hid l7
      clear hb3 HM2 HFS l6 l7
      cases os
      · have HV : Hid (opnE lim q th bk h B = 210) := by
          unfold Hid opnE; rw [HC.out]; simp only
          rw [if_neg (by simp [HTT.out]), if_pos (.inl HOS.out.symm)]
        have HQ := hid (HSAME.out (by rw [HV.out]; decide))
        go_wp2_with fail
        go_ret
        exact ⟨by rw [HV.out]; rfl, by rw [HQ.out]; exact HM3.out.end⟩
      · by_cases hp : bk.p = th.p
        · have qp : ((bk.p : Int) != (th.p : Int)) = false := by simp [hp]
          by_cases he : bk = th
          · have HV : Hid (opnE lim q th bk h B = 210) := by
              unfold Hid opnE; rw [HC.out]; simp only
              rw [if_neg (by simp [HTT.out]), if_pos (.inr (.inr he))]
            have HQ := hid (HSAME.out (by rw [HV.out]; decide))
            have qe := hid (show decide (bk = th) = true by simp [he])
            clear hp he
            go_wp2_with (first | (refine wpList_ld 37 ⟨g0 + 1, 0, none⟩ (.tmp 7) rfl rfl L7.out rfl ?_) | (refine wpList_ld 37 ⟨g0, 0, none⟩ (.tmp 6) rfl rfl L6.out rfl ?_) | (refine wpList_val (ex_eqTb (.tmp 46) (.tmp 47) _ bk th true rfl rfl rfl qe.out) rfl ?_) | fail)
            go_ret
            exact ⟨by rw [HV.out]; rfl, by rw [HQ.out]; exact HM3.out.end⟩
          · have HNE := hid he
            have HPP := hid hp
            have qe := hid (show decide (bk = th) = false by simp [he])
            obtain ⟨p3, t3⟩ := HM3.out.at
            have HH6 := hid (holds_any w3 b lim q p3 th t3 HTH.out)
            obtain ⟨x6, HX6⟩ : ∃ x, Hid (x = (q.f th).isSome) := ⟨_, rfl⟩
            obtain ⟨x7, HX7⟩ : ∃ x, Hid (x = (q.f bk).isSome) := ⟨_, rfl⟩
            rw [← HX6.out] at HH6
            clear hp he t3
            go_wp2_with (first | (refine wpList_ld 37 ⟨g0 + 1, 0, none⟩ (.tmp 7) rfl rfl L7.out rfl ?_) | (refine wpList_ld 37 ⟨g0, 0, none⟩ (.tmp 6) rfl rfl L6.out rfl ?_) | (refine wpList_val (ex_eqTb (.tmp 46) (.tmp 47) _ bk th false rfl rfl rfl qe.out) rfl ?_) | fail)
            refine HH6.out.mono ?_
            rintro _ w4 ⟨rfl, hb4⟩
            have HU4 := hid (HU3.out.trans (hb4.mono HU3.out.size))
            have HM4 := hid (HM3.out.below hb4)
            clear hb4 HM3 HH6 c6 c7
            cases x6
            · obtain ⟨p4, t4⟩ := HM4.out.at
              have HH7 := hid (holds_any w4 b lim q p4 bk t4 HBK.out)
              rw [← HX7.out] at HH7
              have L74 := hid (H1.out w4 HU4.out).2.2.1
              clear t4
              go_wp2_with (first | (refine wpList_ld 37 ⟨g0 + 1, 0, none⟩ (.tmp 7) rfl rfl L74.out rfl ?_) | fail)
              refine HH7.out.mono ?_
              rintro _ w5 ⟨rfl, hb5⟩
              have HU5 := hid (HU4.out.trans (hb5.mono HU4.out.size))
              have HM5 := hid (HM4.out.below hb5)
              clear hb5 HM4 HH7
              cases x7
              · go_upto_region 9 with fail
                obtain ⟨p5, t5⟩ := HM5.out.at
                obtain ⟨fl, HFL⟩ : ∃ r, Hid (r = decide ((q.cg : Int) = lim)) := ⟨_, rfl⟩
                have HTA : Hid (∀ u : World, Below w5.heap.size w5 u → u.cell? ⟨b, 0, none⟩ = some (.int .i64 lim) ∧ u.cell? ⟨b, 3, none⟩ = some (.map (some p5.fb)) ∧ ∀ ty, (Builtin.len_ #[59] ty #[.map (some p5.fb)]).run Tryz.prog u = .ok (.int .i64 (q.cg : Int)) u) := fun u hu =>
                  ⟨(t5.below hu).cells rfl, (t5.below hu).cells rfl, fun ty => (t5.below hu).fm.len ty⟩
                clear t5
                refine wp_region_guarded' 10 (fun i => ([60, 61, 62, 63, 64, 65, 66, 67, 68, 69] : List Tmp).getD i 0) (Vs [.pointer (some ⟨b, 0, none⟩), .pointer (some ⟨b, 0, none⟩), .pointer (some ⟨b, 3, none⟩), .map (some p5.fb), .int .i64 (q.cg : Int), .pointer (some ⟨b, 0, none⟩), .pointer (some ⟨b, 0, none⟩), .pointer (some ⟨b, 0, none⟩), .int .i64 lim, .bool fl]) (fun u => Below w5.heap.size w5 u) (fun _ u u' => Below u.heap.size u u') (by kernel_rfl) (by kernel_rfl) ⟨rfl, rfl, rfl, Nat.le_refl _, fun _ _ => rfl⟩ (fun _ _ _ _ _ _ h _ _ => h) ?_ ?_
                · simp only [List.take_succ_cons, List.take_zero, stepsG]
                  refine ⟨?_, ?_, ?_, ?_, ?_, ?_, ?_, ?_, ?_, ?_, trivial⟩
                  · intro a u vs hI hold hdep
                    exact opAt_plain rfl (wp_still (ex_move (.tmp 0) _ rfl (hold 0 (dlM (L := [60, 61, 62, 63, 64, 65, 66, 67, 68, 69]) (by decide)))) rfl rfl hI)
                  · intro a u vs hI hold hdep
                    exact opAt_plain rfl (wp_still (ex_nil ⟨b, 0, none⟩ (.tmp 60) rfl (Vs.dep (hdep ⟨0, .data⟩ (by simp) rfl (by decide)) rfl)) rfl rfl hI)
                  · intro a u vs hI hold hdep
                    exact opAt_plain rfl (wp_still (ex_field _ ⟨b, 0, none⟩ (.tmp 61) 3 _ rfl (Vs.dep (hdep ⟨1, .data⟩ (by simp) rfl (by decide)) rfl) (fld_t3 b u)) rfl rfl hI)
                  · intro a u vs hI hold hdep
                    exact opAt_plain rfl (wp_still (ex_load _ ⟨b, 3, none⟩ (.tmp 62) _ rfl (Vs.dep (hdep ⟨2, .data⟩ (by simp) rfl (by decide)) rfl) (ld_mapF (HTA.out u hI).2.1)) rfl rfl hI)
                  · intro a u vs hI hold hdep
                    exact opAt_plain rfl (wp_still (ex_len (.tmp 63) _ _ _ rfl (Vs.dep (hdep ⟨3, .data⟩ (by simp) rfl (by decide)) rfl) ((HTA.out u hI).2.2 _)) rfl rfl hI)
                  · intro a u vs hI hold hdep
                    exact opAt_plain rfl (wp_still (ex_move (.tmp 0) _ rfl (hold 0 (dlM (L := [60, 61, 62, 63, 64, 65, 66, 67, 68, 69]) (by decide)))) rfl rfl hI)
                  · intro a u vs hI hold hdep
                    exact opAt_plain rfl (wp_still (ex_nil ⟨b, 0, none⟩ (.tmp 65) rfl (Vs.dep (hdep ⟨5, .data⟩ (by simp) rfl (by decide)) rfl)) rfl rfl hI)
                  · intro a u vs hI hold hdep
                    exact opAt_plain rfl (wp_still (ex_field _ ⟨b, 0, none⟩ (.tmp 66) 0 _ rfl (Vs.dep (hdep ⟨6, .data⟩ (by simp) rfl (by decide)) rfl) (fld_t0 b u)) rfl rfl hI)
                  · intro a u vs hI hold hdep
                    exact opAt_plain rfl (wp_still (ex_load _ ⟨b, 0, none⟩ (.tmp 67) _ rfl (Vs.dep (hdep ⟨7, .data⟩ (by simp) rfl (by decide)) rfl) (ld_int (HTA.out u hI).1)) rfl rfl hI)
                  · intro a u vs hI hold hdep
                    exact opAt_plain rfl (wp_still (ex_eqNb (.tmp 64) (.tmp 68) _ _ _ fl rfl (Vs.dep (hdep ⟨4, .data⟩ (by simp) rfl (by decide)) rfl) (Vs.dep (hdep ⟨8, .data⟩ (by simp) rfl (by decide)) rfl) HFL.out.symm) rfl rfl hI)
                intro vs u6 hI hF
                have e0 : vs 0 = .pointer (some ⟨b, 0, none⟩) := (Option.some.inj (hF 0 (by decide))).symm
                have e1 : vs 1 = .pointer (some ⟨b, 0, none⟩) := (Option.some.inj (hF 1 (by decide))).symm
                have e2 : vs 2 = .pointer (some ⟨b, 3, none⟩) := (Option.some.inj (hF 2 (by decide))).symm
                have e3 : vs 3 = .map (some p5.fb) := (Option.some.inj (hF 3 (by decide))).symm
                have e4 : vs 4 = .int .i64 (q.cg : Int) := (Option.some.inj (hF 4 (by decide))).symm
                have e5 : vs 5 = .pointer (some ⟨b, 0, none⟩) := (Option.some.inj (hF 5 (by decide))).symm
                have e6 : vs 6 = .pointer (some ⟨b, 0, none⟩) := (Option.some.inj (hF 6 (by decide))).symm
                have e7 : vs 7 = .pointer (some ⟨b, 0, none⟩) := (Option.some.inj (hF 7 (by decide))).symm
                have e8 : vs 8 = .int .i64 lim := (Option.some.inj (hF 8 (by decide))).symm
                have e9 : vs 9 = .bool fl := (Option.some.inj (hF 9 (by decide))).symm
                clear hF
                simp only [List.drop_succ_cons, List.drop_zero, puts, List.range, List.range.loop, List.foldr, if_true, List.getD_cons_zero, List.getD_cons_succ, e0, e1, e2, e3, e4, e5, e6, e7, e8, e9, Act.put, List.setIfInBounds_toArray, List.set_cons_zero, List.set_cons_succ]
                clear e0 e1 e2 e3 e4 e5 e6 e7 e8 e9
                have HU6 := hid (HU5.out.trans (hI.mono HU5.out.size))
                have HM6 := hid (HM5.out.below hI)
                clear hI HM5 HTA
                cases fl
                · have HZ : Hid (opnE lim q th bk h B = 0) := by
                    unfold Hid opnE; rw [HC.out]; simp only
                    rw [if_neg (by simp [HTT.out]), if_neg (by rw [← HOS.out, HPP.out]; simp [HNE.out]), if_neg (by rw [← HX6.out, ← HX7.out]; simp), if_neg (of_decide_eq_false HFL.out.symm)]
                  obtain ⟨N, HN⟩ : ∃ N, Hid (N = q.last + 1) := ⟨_, rfl⟩
                  have HQ : Hid (opnR lim q th bk h B now = keepQ lim (numQ (numQ { q with last := N } th) bk) N (kpF ⟨th, bk, st, 0⟩ now)) := by
                    unfold Hid opnR opnQ; rw [if_pos HZ.out, HC.out, HN.out, HSTT.out]
                  have HN64 : Hid (Tm.In64 N) := by unfold Hid; rw [HN.out]; have := HL0.out; have := HL1.out; exact ⟨by omega, by omega⟩
                  obtain ⟨F6, p6, t6, hF6, hstep6⟩ := HM6.out.open
                  have k1 : u6.cell? ⟨b, 1, none⟩ = some (.int .i64 q.last) := t6.cells rfl
                  have fr1 := t6.free 1
                  have hlo : 0 ≤ q.last := HL0.out
                  have hhi : q.last < 4611686018427387904 := HL1.out
                  obtain ⟨w7, HW7⟩ : ∃ w7, Hid (w7 = u6.setCell ⟨b, 1, none⟩ (.int .i64 (q.last + 1))) := ⟨_, rfl⟩
                  have hst7 : StD u6 w7 b lim { q with last := N } F6 := by rw [HW7.out, HN.out]; exact std_put t6 hF6 _
                  obtain ⟨m7, row7⟩ := hstep6 w7 _ hst7
                  have HM7 := hid m7
                  have HR7 : Hid (w7.heap[g0]? = some (.cells th.cells 37 (0, 0)) ∧ w7.heap[g0 + 1]? = some (.cells bk.cells 37 (0, 0))) := by
                    obtain ⟨x0, x1, -⟩ := HBW.out u6 (HB1.out.trans (HU6.out.mono HB1.out.size))
                    exact ⟨(row7 g0 HGW.out (by omega)).trans x0, (row7 (g0 + 1) (by have := HGW.out; omega) (by omega)).trans x1⟩
                  clear t6 hF6 hstep6 hst7 m7 row7 HU HU3 HU4 HU5 HU6 HM6
                  go_upto_region 12 with fail
                  rw [show (u6.setCell ⟨b, 1, none⟩ (.int .i64 (q.last + 1))) = w7 from HW7.out.symm]
                  clear k1 fr1
                  obtain ⟨p7, t7⟩ := HM7.out.at
                  have HT7 : Hid (∀ u : World, Below w7.heap.size w7 u → u.cell? ⟨b, 1, none⟩ = some (.int .i64 N) ∧ u.cell? ⟨b, 2, none⟩ = some (.map (some p7.nb)) ∧ (Instr.loadAt 37 (.pointer (some ⟨g0, 0, none⟩))).run Tryz.prog u = .ok (.agg th.cells) u) := fun u hu =>
                    ⟨(t7.below hu).cells rfl, (t7.below hu).cells rfl, load_tu (below_keeps hu HR7.out.1 (Array.getElem?_eq_some_iff.1 HR7.out.1).1)⟩
                  have HNB7 := hid t7
                  clear t7
                  refine wp_region_guarded' 9 (fun i => ([77, 78, 79, 80, 81, 82, 83, 84, 85] : List Tmp).getD i 0) (Vs [.pointer (some ⟨b, 0, none⟩), .pointer (some ⟨b, 0, none⟩), .pointer (some ⟨b, 2, none⟩), .map (some p7.nb), .agg th.cells, .pointer (some ⟨b, 0, none⟩), .pointer (some ⟨b, 0, none⟩), .pointer (some ⟨b, 1, none⟩), .int .i64 N]) (fun u => Below w7.heap.size w7 u) (fun _ u u' => Below u.heap.size u u') (by kernel_rfl) (by kernel_rfl) ⟨rfl, rfl, rfl, Nat.le_refl _, fun _ _ => rfl⟩ (fun _ _ _ _ _ _ h _ _ => h) ?_ ?_
                  · simp only [List.take_succ_cons, List.take_zero, stepsG]
                    refine ⟨?_, ?_, ?_, ?_, ?_, ?_, ?_, ?_, ?_, trivial⟩
                    · intro a u vs hI hold hdep
                      exact opAt_plain rfl (wp_still (ex_move (.tmp 0) _ rfl (hold 0 (dlM (L := [77, 78, 79, 80, 81, 82, 83, 84, 85]) (by decide)))) rfl rfl hI)
                    · intro a u vs hI hold hdep
                      exact opAt_plain rfl (wp_still (ex_nil ⟨b, 0, none⟩ (.tmp 77) rfl (Vs.dep (hdep ⟨0, .data⟩ (by simp) rfl (by decide)) rfl)) rfl rfl hI)
                    · intro a u vs hI hold hdep
                      exact opAt_plain rfl (wp_still (ex_field _ ⟨b, 0, none⟩ (.tmp 78) 2 _ rfl (Vs.dep (hdep ⟨1, .data⟩ (by simp) rfl (by decide)) rfl) (fld_t2 b u)) rfl rfl hI)
                    · intro a u vs hI hold hdep
                      exact opAt_plain rfl (wp_still (ex_load _ ⟨b, 2, none⟩ (.tmp 79) _ rfl (Vs.dep (hdep ⟨2, .data⟩ (by simp) rfl (by decide)) rfl) (ld_mapT (HT7.out u hI).2.1)) rfl rfl hI)
                    · intro a u vs hI hold hdep
                      exact opAt_plain rfl (wp_still (ex_load _ ⟨g0, 0, none⟩ (.tmp 6) _ rfl (hold 6 (dlM (L := [77, 78, 79, 80, 81, 82, 83, 84, 85]) (by decide))) ((HT7.out u hI).2.2)) rfl rfl hI)
                    · intro a u vs hI hold hdep
                      exact opAt_plain rfl (wp_still (ex_move (.tmp 0) _ rfl (hold 0 (dlM (L := [77, 78, 79, 80, 81, 82, 83, 84, 85]) (by decide)))) rfl rfl hI)
                    · intro a u vs hI hold hdep
                      exact opAt_plain rfl (wp_still (ex_nil ⟨b, 0, none⟩ (.tmp 82) rfl (Vs.dep (hdep ⟨5, .data⟩ (by simp) rfl (by decide)) rfl)) rfl rfl hI)
                    · intro a u vs hI hold hdep
                      exact opAt_plain rfl (wp_still (ex_field _ ⟨b, 0, none⟩ (.tmp 83) 1 _ rfl (Vs.dep (hdep ⟨6, .data⟩ (by simp) rfl (by decide)) rfl) (fld_t1 b u)) rfl rfl hI)
                    · intro a u vs hI hold hdep
                      exact opAt_plain rfl (wp_still (ex_load _ ⟨b, 1, none⟩ (.tmp 84) _ rfl (Vs.dep (hdep ⟨7, .data⟩ (by simp) rfl (by decide)) rfl) (ld_int (HT7.out u hI).1)) rfl rfl hI)
                  intro vs u7 hI hF
                  have e0 : vs 0 = .pointer (some ⟨b, 0, none⟩) := (Option.some.inj (hF 0 (by decide))).symm
                  have e1 : vs 1 = .pointer (some ⟨b, 0, none⟩) := (Option.some.inj (hF 1 (by decide))).symm
                  have e2 : vs 2 = .pointer (some ⟨b, 2, none⟩) := (Option.some.inj (hF 2 (by decide))).symm
                  have e3 : vs 3 = .map (some p7.nb) := (Option.some.inj (hF 3 (by decide))).symm
                  have e4 : vs 4 = .agg th.cells := (Option.some.inj (hF 4 (by decide))).symm
                  have e5 : vs 5 = .pointer (some ⟨b, 0, none⟩) := (Option.some.inj (hF 5 (by decide))).symm
                  have e6 : vs 6 = .pointer (some ⟨b, 0, none⟩) := (Option.some.inj (hF 6 (by decide))).symm
                  have e7 : vs 7 = .pointer (some ⟨b, 1, none⟩) := (Option.some.inj (hF 7 (by decide))).symm
                  have e8 : vs 8 = .int .i64 N := (Option.some.inj (hF 8 (by decide))).symm
                  clear hF
                  simp only [List.drop_succ_cons, List.drop_zero, puts, List.range, List.range.loop, List.foldr, if_true, List.getD_cons_zero, List.getD_cons_succ, e0, e1, e2, e3, e4, e5, e6, e7, e8, Act.put, List.setIfInBounds_toArray, List.set_cons_zero, List.set_cons_succ]
                  clear e0 e1 e2 e3 e4 e5 e6 e7 e8
                  have hR8 : u7.heap[g0]? = some (.cells th.cells 37 (0, 0)) ∧ u7.heap[g0 + 1]? = some (.cells bk.cells 37 (0, 0)) := ⟨below_keeps hI HR7.out.1 (Array.getElem?_eq_some_iff.1 HR7.out.1).1, below_keeps hI HR7.out.2 (Array.getElem?_eq_some_iff.1 HR7.out.2).1⟩
                  obtain ⟨F8, p8, t8, hF8, hstep8⟩ := (HM7.out.below hI).open
                  have hpe : p8.nb = p7.nb := by
                    have e1 := (HNB7.out.below hI).cells (j := 2) (v := .map (some p7.nb)) rfl
                    have e2 := t8.cells (j := 2) (v := .map (some p8.nb)) rfl
                    rw [e1] at e2
                    simpa using e2.symm
                  obtain ⟨w8, hup8, hm8, ht8⟩ := t8.nm.store (by have := HCF.out; show q.cf < 1000000; omega) (k := th) HTH.out N
                  obtain ⟨m8, row8⟩ := hstep8 w8 _ (std_nmap t8 hF8 ht8 hm8)
                  have HUP8 : Hid ((Instr.mapUpdate 58 (.map (some p7.nb)) (.agg th.cells) (.int .i64 N)).run Tryz.prog u7 = .ok () w8) := by unfold Hid; rw [← hpe]; exact hup8
                  have HM8 : Hid (Mid w w8 b lim (numQ { q with last := N } th) F (g0 + 3)) := m8
                  have HR8 : Hid (w8.heap[g0]? = some (.cells th.cells 37 (0, 0)) ∧ w8.heap[g0 + 1]? = some (.cells bk.cells 37 (0, 0))) := ⟨(row8 g0 HGW.out (by omega)).trans hR8.1, (row8 (g0 + 1) (by have := HGW.out; omega) (by omega)).trans hR8.2⟩
                  clear hI hR8 t8 hF8 hstep8 hpe hup8 hm8 ht8 m8 row8 HM7 HR7 HT7 HNB7
                  go_upto_region 13 with (first | (at_mapUpdate; refine wpList_update_run _ rfl _ _ _ _ rfl _ _ _ rfl rfl rfl HUP8.out ?_) | fail)
                  obtain ⟨q8, HQ8⟩ : ∃ q8, Hid (q8 = numQ { q with last := N } th) := ⟨_, rfl⟩
                  have HQ8l : Hid (q8.last = N) := by unfold Hid; rw [HQ8.out]; rfl
                  have HQ8c : Hid (q8.cf ≤ q.cf + 1) := by unfold Hid; rw [HQ8.out]; unfold numQ; simp only; split <;> omega
                  have HQ8g : Hid (q8.cg = q.cg) := by unfold Hid; rw [HQ8.out]; rfl
                  rw [← HQ8.out] at HM8
                  obtain ⟨p9, t9⟩ := HM8.out.at
                  have HT9 : Hid (∀ u : World, Below w8.heap.size w8 u → u.cell? ⟨b, 1, none⟩ = some (.int .i64 N) ∧ u.cell? ⟨b, 2, none⟩ = some (.map (some p9.nb)) ∧ (Instr.loadAt 37 (.pointer (some ⟨g0 + 1, 0, none⟩))).run Tryz.prog u = .ok (.agg bk.cells) u) := fun u hu =>
                    ⟨by rw [← HQ8l.out]; exact (t9.below hu).cells rfl, (t9.below hu).cells rfl, load_tu (below_keeps hu HR8.out.2 (Array.getElem?_eq_some_iff.1 HR8.out.2).1)⟩
                  have HNB9 := hid t9
                  clear t9
                  refine wp_region_guarded' 9 (fun i => ([86, 87, 88, 89, 90, 91, 92, 93, 94] : List Tmp).getD i 0) (Vs [.pointer (some ⟨b, 0, none⟩), .pointer (some ⟨b, 0, none⟩), .pointer (some ⟨b, 2, none⟩), .map (some p9.nb), .agg bk.cells, .pointer (some ⟨b, 0, none⟩), .pointer (some ⟨b, 0, none⟩), .pointer (some ⟨b, 1, none⟩), .int .i64 N]) (fun u => Below w8.heap.size w8 u) (fun _ u u' => Below u.heap.size u u') (by kernel_rfl) (by kernel_rfl) ⟨rfl, rfl, rfl, Nat.le_refl _, fun _ _ => rfl⟩ (fun _ _ _ _ _ _ h _ _ => h) ?_ ?_
                  · simp only [List.take_succ_cons, List.take_zero, stepsG]
                    refine ⟨?_, ?_, ?_, ?_, ?_, ?_, ?_, ?_, ?_, trivial⟩
                    · intro a u vs hI hold hdep
                      exact opAt_plain rfl (wp_still (ex_move (.tmp 0) _ rfl (hold 0 (dlM (L := [86, 87, 88, 89, 90, 91, 92, 93, 94]) (by decide)))) rfl rfl hI)
                    · intro a u vs hI hold hdep
                      exact opAt_plain rfl (wp_still (ex_nil ⟨b, 0, none⟩ (.tmp 86) rfl (Vs.dep (hdep ⟨0, .data⟩ (by simp) rfl (by decide)) rfl)) rfl rfl hI)
                    · intro a u vs hI hold hdep
                      exact opAt_plain rfl (wp_still (ex_field _ ⟨b, 0, none⟩ (.tmp 87) 2 _ rfl (Vs.dep (hdep ⟨1, .data⟩ (by simp) rfl (by decide)) rfl) (fld_t2 b u)) rfl rfl hI)
                    · intro a u vs hI hold hdep
                      exact opAt_plain rfl (wp_still (ex_load _ ⟨b, 2, none⟩ (.tmp 88) _ rfl (Vs.dep (hdep ⟨2, .data⟩ (by simp) rfl (by decide)) rfl) (ld_mapT (HT9.out u hI).2.1)) rfl rfl hI)
                    · intro a u vs hI hold hdep
                      exact opAt_plain rfl (wp_still (ex_load _ ⟨g0 + 1, 0, none⟩ (.tmp 7) _ rfl (hold 7 (dlM (L := [86, 87, 88, 89, 90, 91, 92, 93, 94]) (by decide))) ((HT9.out u hI).2.2)) rfl rfl hI)
                    · intro a u vs hI hold hdep
                      exact opAt_plain rfl (wp_still (ex_move (.tmp 0) _ rfl (hold 0 (dlM (L := [86, 87, 88, 89, 90, 91, 92, 93, 94]) (by decide)))) rfl rfl hI)
                    · intro a u vs hI hold hdep
                      exact opAt_plain rfl (wp_still (ex_nil ⟨b, 0, none⟩ (.tmp 91) rfl (Vs.dep (hdep ⟨5, .data⟩ (by simp) rfl (by decide)) rfl)) rfl rfl hI)
                    · intro a u vs hI hold hdep
                      exact opAt_plain rfl (wp_still (ex_field _ ⟨b, 0, none⟩ (.tmp 92) 1 _ rfl (Vs.dep (hdep ⟨6, .data⟩ (by simp) rfl (by decide)) rfl) (fld_t1 b u)) rfl rfl hI)
                    · intro a u vs hI hold hdep
                      exact opAt_plain rfl (wp_still (ex_load _ ⟨b, 1, none⟩ (.tmp 93) _ rfl (Vs.dep (hdep ⟨7, .data⟩ (by simp) rfl (by decide)) rfl) (ld_int (HT9.out u hI).1)) rfl rfl hI)
                  intro vs u8 hI hF
                  have e0 : vs 0 = .pointer (some ⟨b, 0, none⟩) := (Option.some.inj (hF 0 (by decide))).symm
                  have e1 : vs 1 = .pointer (some ⟨b, 0, none⟩) := (Option.some.inj (hF 1 (by decide))).symm
                  have e2 : vs 2 = .pointer (some ⟨b, 2, none⟩) := (Option.some.inj (hF 2 (by decide))).symm
                  have e3 : vs 3 = .map (some p9.nb) := (Option.some.inj (hF 3 (by decide))).symm
                  have e4 : vs 4 = .agg bk.cells := (Option.some.inj (hF 4 (by decide))).symm
                  have e5 : vs 5 = .pointer (some ⟨b, 0, none⟩) := (Option.some.inj (hF 5 (by decide))).symm
                  have e6 : vs 6 = .pointer (some ⟨b, 0, none⟩) := (Option.some.inj (hF 6 (by decide))).symm
                  have e7 : vs 7 = .pointer (some ⟨b, 1, none⟩) := (Option.some.inj (hF 7 (by decide))).symm
                  have e8 : vs 8 = .int .i64 N := (Option.some.inj (hF 8 (by decide))).symm
                  clear hF
                  simp only [List.drop_succ_cons, List.drop_zero, puts, List.range, List.range.loop, List.foldr, if_true, List.getD_cons_zero, List.getD_cons_succ, e0, e1, e2, e3, e4, e5, e6, e7, e8, Act.put, List.setIfInBounds_toArray, List.set_cons_zero, List.set_cons_succ]
                  clear e0 e1 e2 e3 e4 e5 e6 e7 e8
                  have hRa : u8.heap[g0]? = some (.cells th.cells 37 (0, 0)) ∧ u8.heap[g0 + 1]? = some (.cells bk.cells 37 (0, 0)) := ⟨below_keeps hI HR8.out.1 (Array.getElem?_eq_some_iff.1 HR8.out.1).1, below_keeps hI HR8.out.2 (Array.getElem?_eq_some_iff.1 HR8.out.2).1⟩
                  obtain ⟨Fa, pa, ta, hFa, hstepa⟩ := (HM8.out.below hI).open
                  have hpe : pa.nb = p9.nb := by
                    have e1 := (HNB9.out.below hI).cells (j := 2) (v := .map (some p9.nb)) rfl
                    have e2 := ta.cells (j := 2) (v := .map (some pa.nb)) rfl
                    rw [e1] at e2
                    simpa using e2.symm
                  obtain ⟨wA, hupa, hma, hta⟩ := ta.nm.store (by have := HCF.out; have := HQ8c.out; omega) (k := bk) HBK.out N
                  obtain ⟨ma, rowa⟩ := hstepa wA _ (std_nmap ta hFa hta hma)
                  have HUPa : Hid ((Instr.mapUpdate 58 (.map (some p9.nb)) (.agg bk.cells) (.int .i64 N)).run Tryz.prog u8 = .ok () wA) := by unfold Hid; rw [← hpe]; exact hupa
                  have HMa : Hid (Mid w wA b lim (numQ q8 bk) F (g0 + 3)) := by
                    have e : numQ q8 bk = { q8 with f := fun y => if y = bk then some N else q8.f y, cf := if (q8.f bk).isSome then q8.cf else q8.cf + 1 } := by unfold numQ upN; rw [HQ8l.out]
                    unfold Hid; rw [e]; exact ma
                  have HRa : Hid (wA.heap[g0]? = some (.cells th.cells 37 (0, 0)) ∧ wA.heap[g0 + 1]? = some (.cells bk.cells 37 (0, 0))) := ⟨(rowa g0 HGW.out (by omega)).trans hRa.1, (rowa (g0 + 1) (by have := HGW.out; omega) (by omega)).trans hRa.2⟩
                  clear hI hRa ta hFa hstepa hpe hupa hma hta ma rowa HM8 HR8 HT9 HNB9
                  go_upto_region 14 with (first | (at_mapUpdate; refine wpList_update_run _ rfl _ _ _ _ rfl _ _ _ rfl rfl rfl HUPa.out ?_) | fail)
                  obtain ⟨q9, HQ9⟩ : ∃ q9, Hid (q9 = numQ q8 bk) := ⟨_, rfl⟩
                  have HQ9l : Hid (q9.last = N) := by unfold Hid; rw [HQ9.out]; exact HQ8l.out
                  have HQ9g : Hid (q9.cg = q.cg) := by unfold Hid; rw [HQ9.out]; exact HQ8g.out
                  rw [← HQ9.out] at HMa
                  obtain ⟨pb, tb⟩ := HMa.out.at
                  have HTb : Hid (∀ u : World, Below wA.heap.size wA u → u.cell? ⟨b, 1, none⟩ = some (.int .i64 N) ∧ (Instr.loadAt 37 (.pointer (some ⟨g0, 0, none⟩))).run Tryz.prog u = .ok (.agg th.cells) u ∧ (Instr.loadAt 37 (.pointer (some ⟨g0 + 1, 0, none⟩))).run Tryz.prog u = .ok (.agg bk.cells) u) := fun u hu =>
                    ⟨by rw [← HQ9l.out]; exact (tb.below hu).cells rfl, load_tu (below_keeps hu HRa.out.1 (Array.getElem?_eq_some_iff.1 HRa.out.1).1), load_tu (below_keeps hu HRa.out.2 (Array.getElem?_eq_some_iff.1 HRa.out.2).1)⟩
                  clear tb
                  refine wp_region_guarded' 10 (fun i => ([95, 96, 97, 98, 99, 100, 101, 102, 103, 104] : List Tmp).getD i 0) (Vs [.pointer (some ⟨b, 0, none⟩), .pointer (some ⟨b, 0, none⟩), .pointer (some ⟨b, 0, none⟩), .pointer (some ⟨b, 1, none⟩), .int .i64 N, .agg th.cells, .agg bk.cells, .int .i64 (st : Int), .agg (Fw.cells ⟨th, bk, st, 0⟩), .int .i64 now]) (fun u => Below wA.heap.size wA u) (fun _ u u' => Below u.heap.size u u') (by kernel_rfl) (by kernel_rfl) ⟨rfl, rfl, rfl, Nat.le_refl _, fun _ _ => rfl⟩ (fun _ _ _ _ _ _ h _ _ => h) ?_ ?_
                  · simp only [List.take_succ_cons, List.take_zero, stepsG]
                    refine ⟨?_, ?_, ?_, ?_, ?_, ?_, ?_, ?_, ?_, ?_, trivial⟩
                    · intro a u vs hI hold hdep
                      exact opAt_plain rfl (wp_still (ex_move (.tmp 0) _ rfl (hold 0 (dlM (L := [95, 96, 97, 98, 99, 100, 101, 102, 103, 104]) (by decide)))) rfl rfl hI)
                    · intro a u vs hI hold hdep
                      exact opAt_plain rfl (wp_still (ex_move (.tmp 0) _ rfl (hold 0 (dlM (L := [95, 96, 97, 98, 99, 100, 101, 102, 103, 104]) (by decide)))) rfl rfl hI)
                    · intro a u vs hI hold hdep
                      exact opAt_plain rfl (wp_still (ex_nil ⟨b, 0, none⟩ (.tmp 96) rfl (Vs.dep (hdep ⟨1, .data⟩ (by simp) rfl (by decide)) rfl)) rfl rfl hI)
                    · intro a u vs hI hold hdep
                      exact opAt_plain rfl (wp_still (ex_field _ ⟨b, 0, none⟩ (.tmp 97) 1 _ rfl (Vs.dep (hdep ⟨2, .data⟩ (by simp) rfl (by decide)) rfl) (fld_t1 b u)) rfl rfl hI)
                    · intro a u vs hI hold hdep
                      exact opAt_plain rfl (wp_still (ex_load _ ⟨b, 1, none⟩ (.tmp 98) _ rfl (Vs.dep (hdep ⟨3, .data⟩ (by simp) rfl (by decide)) rfl) (ld_int (HTb.out u hI).1)) rfl rfl hI)
                    · intro a u vs hI hold hdep
                      exact opAt_plain rfl (wp_still (ex_load _ ⟨g0, 0, none⟩ (.tmp 6) _ rfl (hold 6 (dlM (L := [95, 96, 97, 98, 99, 100, 101, 102, 103, 104]) (by decide))) ((HTb.out u hI).2.1)) rfl rfl hI)
                    · intro a u vs hI hold hdep
                      exact opAt_plain rfl (wp_still (ex_load _ ⟨g0 + 1, 0, none⟩ (.tmp 7) _ rfl (hold 7 (dlM (L := [95, 96, 97, 98, 99, 100, 101, 102, 103, 104]) (by decide))) ((HTb.out u hI).2.2)) rfl rfl hI)
                    · intro a u vs hI hold hdep
                      exact opAt_plain rfl (wp_still (ex_move (.tmp 13) _ rfl (hold 13 (dlM (L := [95, 96, 97, 98, 99, 100, 101, 102, 103, 104]) (by decide)))) rfl rfl hI)
                    · intro a u vs hI hold hdep
                      have x0 : a.eval (.tmp 100) = .agg th.cells := (Vs.dep (hdep ⟨5, .data⟩ (by simp) rfl (by decide)) rfl)
                      have x1 : a.eval (.tmp 101) = .agg bk.cells := (Vs.dep (hdep ⟨6, .data⟩ (by simp) rfl (by decide)) rfl)
                      have x2 : a.eval (.tmp 102) = .int .i64 (st : Int) := (Vs.dep (hdep ⟨7, .data⟩ (by simp) rfl (by decide)) rfl)
                      exact opAt_plain rfl (wp_still (ex_build 45 _ #[(0, .agg th.cells), (1, .agg bk.cells), (2, .int .i64 (st : Int))] _ rfl (by simp only [List.map_toArray, List.map_cons, List.map_nil, x0, x1, x2]) (build_fw th bk st u)) rfl rfl hI)
                    · intro a u vs hI hold hdep
                      exact opAt_plain rfl (wp_still (ex_move (.tmp 4) _ rfl (hold 4 (dlM (L := [95, 96, 97, 98, 99, 100, 101, 102, 103, 104]) (by decide)))) rfl rfl hI)
                  intro vs u9 hI hF
                  have e0 : vs 0 = .pointer (some ⟨b, 0, none⟩) := (Option.some.inj (hF 0 (by decide))).symm
                  have e1 : vs 1 = .pointer (some ⟨b, 0, none⟩) := (Option.some.inj (hF 1 (by decide))).symm
                  have e2 : vs 2 = .pointer (some ⟨b, 0, none⟩) := (Option.some.inj (hF 2 (by decide))).symm
                  have e3 : vs 3 = .pointer (some ⟨b, 1, none⟩) := (Option.some.inj (hF 3 (by decide))).symm
                  have e4 : vs 4 = .int .i64 N := (Option.some.inj (hF 4 (by decide))).symm
                  have e5 : vs 5 = .agg th.cells := (Option.some.inj (hF 5 (by decide))).symm
                  have e6 : vs 6 = .agg bk.cells := (Option.some.inj (hF 6 (by decide))).symm
                  have e7 : vs 7 = .int .i64 (st : Int) := (Option.some.inj (hF 7 (by decide))).symm
                  have e8 : vs 8 = .agg (Fw.cells ⟨th, bk, st, 0⟩) := (Option.some.inj (hF 8 (by decide))).symm
                  have e9 : vs 9 = .int .i64 now := (Option.some.inj (hF 9 (by decide))).symm
                  clear hF
                  simp only [List.drop_succ_cons, List.drop_zero, puts, List.range, List.range.loop, List.foldr, if_true, List.getD_cons_zero, List.getD_cons_succ, e0, e1, e2, e3, e4, e5, e6, e7, e8, e9, Act.put, List.setIfInBounds_toArray, List.set_cons_zero, List.set_cons_succ]
                  clear e0 e1 e2 e3 e4 e5 e6 e7 e8 e9
                  have HMb := hid (HMa.out.below hI)
                  obtain ⟨fw, HFW⟩ : ∃ fw, Hid (fw = Fw.mk th bk st 0) := ⟨_, rfl⟩
                  rw [← HFW.out]
                  have HKP : Hid (Calls Tryz.prog 25 #[.pointer (some ⟨b, 0, none⟩), .int .i64 N, .agg fw.cells, .int .i64 now] u9 fun e w' => e = .returned (.agg (kpF fw now).cells) ∧ Mid w w' b lim (keepQ lim q9 N (kpF fw now)) F (g0 + 3) ∧ ∀ g, w.heap.size ≤ g → g < g0 + 3 → w'.heap[g]? = u9.heap[g]?) := by
                    refine Mid.call (P := fun e => e = .returned (.agg (kpF fw now).cells)) HMb.out fun F' hF' => ?_
                    exact keep_any u9 b lim q9 F' N fw now hF' HN64.out HNOW.out (by rw [HFW.out]; show st < 10; rw [HSTT.out]; exact fst0_lt c) (by have := HCG.out; have := HQ9g.out; omega)
                  clear hI HTb HMa HRa
                  go_wp2_with fail
                  refine HKP.out.mono ?_
                  rintro _ wE ⟨rfl, mE, -⟩
                  have HME := hid mE
                  clear mE
                  go_wp2_with fail
                  go_ret
                  exact ⟨by rw [HZ.out]; rfl, by rw [HQ.out, ← HQ8.out, ← HQ9.out, ← HFW.out]; exact HME.out.end⟩
                · have HV : Hid (opnE lim q th bk h B = 4) := by
                    unfold Hid opnE; rw [HC.out]; simp only
                    rw [if_neg (by simp [HTT.out]), if_neg (by rw [← HOS.out, HPP.out]; simp [HNE.out]), if_neg (by rw [← HX6.out, ← HX7.out]; simp), if_pos (of_decide_eq_true HFL.out.symm)]
                  have HQ := hid (HSAME.out (by rw [HV.out]; decide))
                  go_wp2_with fail
                  go_ret
                  exact ⟨by rw [HV.out]; rfl, by rw [HQ.out]; exact HM6.out.end⟩
              · have HV : Hid (opnE lim q th bk h B = 5) := by
                  unfold Hid opnE; rw [HC.out]; simp only
                  rw [if_neg (by simp [HTT.out]), if_neg (by rw [← HOS.out, HPP.out]; simp [HNE.out]), if_pos (.inr HX7.out.symm)]
                have HQ := hid (HSAME.out (by rw [HV.out]; decide))
                go_wp2_with fail
                go_ret
                exact ⟨by rw [HV.out]; rfl, by rw [HQ.out]; exact HM5.out.end⟩
            · have HV : Hid (opnE lim q th bk h B = 5) := by
                unfold Hid opnE; rw [HC.out]; simp only
                rw [if_neg (by simp [HTT.out]), if_neg (by rw [← HOS.out, HPP.out]; simp [HNE.out]), if_pos (.inl HX6.out.symm)]
              have HQ := hid (HSAME.out (by rw [HV.out]; decide))
              go_wp2_with fail
              go_ret
              exact ⟨by rw [HV.out]; rfl, by rw [HQ.out]; exact HM4.out.end⟩
        · have HV : Hid (opnE lim q th bk h B = 210) := by
            unfold Hid opnE; rw [HC.out]; simp only
            rw [if_neg (by simp [HTT.out]), if_pos (.inr (.inl hp))]
          have HQ := hid (HSAME.out (by rw [HV.out]; decide))
          have qp : ((bk.p : Int) != (th.p : Int)) = true := by simp; omega
          clear hp
          go_wp2_with fail
          go_ret
          exact ⟨by rw [HV.out]; rfl, by rw [HQ.out]; exact HM3.out.end⟩
    · have HV : Hid (opnE lim q th bk h B = 210) := by unfold Hid opnE; rw [HC.out]; simp only; rw [if_pos hT]
      have HQ := hid (HSAME.out (by rw [HV.out]; decide))
      have qT : (!decide (tupC h c = th)) = true := by simp [hT]
      clear hT
      go_upto_region 2 with fail
      refine wp_region_guarded' 9 (fun i => ([20, 21, 22, 23, 24, 25, 26, 27, 28] : List Tmp).getD i 0) (Vs [.int .i64 0, .bool false, .bool false, .pointer (some ⟨g0 + 2, 0, none⟩), .agg (hdCells h vo), c.v, .agg (tupC h c).cells, .agg th.cells, .bool true]) (fun u => Below w1.heap.size w1 u) (fun _ u u' => Below u.heap.size u u') (by kernel_rfl) (by kernel_rfl) ⟨rfl, rfl, rfl, Nat.le_refl _, fun _ _ => rfl⟩ (fun _ _ _ _ _ _ h _ _ => h) ?_ ?_
      · simp only [List.take_succ_cons, List.take_zero, stepsG]
        refine ⟨?_, ?_, ?_, ?_, ?_, ?_, ?_, ?_, ?_, trivial⟩
        · intro a u vs hI hold hdep
          exact opAt_plain rfl (wp_still (ex_move (.tmp 12) _ rfl (hold 12 (dlM (L := [20, 21, 22, 23, 24, 25, 26, 27, 28]) (by decide)))) rfl rfl hI)
        · intro a u vs hI hold hdep
          exact opAt_plain rfl (wp_still (ex_neE (.tmp 20) 0 false _ rfl (Vs.dep (hdep ⟨0, .data⟩ (by simp) rfl (by decide)) rfl) rfl) rfl rfl hI)
        · intro a u vs hI hold hdep
          exact opAt_plain rfl (wp_still (ex_move (.tmp 21) _ rfl (Vs.dep (hdep ⟨1, .data⟩ (by simp) rfl (by decide)) rfl)) rfl rfl hI)
        · intro a u vs hI hold hdep
          exact opAt_go (j := 2) (t := 22) (b := false) rfl rfl (Vs.dep (hdep ⟨2, .guard⟩ (by simp) rfl (by decide)) rfl) (wp_still (ex_field _ ⟨g0 + 2, 0, none⟩ (.tmp 8) 0 _ rfl (hold 8 (dlM (L := [20, 21, 22, 23, 24, 25, 26, 27, 28]) (by decide))) (fld_p0 _ u)) rfl rfl hI)
        · intro a u vs hI hold hdep
          exact opAt_go (j := 2) (t := 22) (b := false) rfl rfl (Vs.dep (hdep ⟨2, .guard⟩ (by simp) rfl (by decide)) rfl) (wp_still (ex_load _ ⟨g0 + 2, 0, none⟩ (.tmp 23) _ rfl (Vs.dep (hdep ⟨3, .data⟩ (by simp) rfl (by decide)) rfl) ((H1.out u hI).1)) rfl rfl hI)
        · intro a u vs hI hold hdep
          exact opAt_go (j := 2) (t := 22) (b := false) rfl rfl (Vs.dep (hdep ⟨2, .guard⟩ (by simp) rfl (by decide)) rfl) (wp_still (ex_move (.tmp 11) _ rfl (hold 11 (dlM (L := [20, 21, 22, 23, 24, 25, 26, 27, 28]) (by decide)))) rfl rfl hI)
        · intro a u vs hI hold hdep
          have e0 : a.eval (.tmp 24) = .agg (hdCells h vo) := (Vs.dep (hdep ⟨4, .data⟩ (by simp) rfl (by decide)) rfl)
          have e1 : a.eval (.tmp 25) = c.v := (Vs.dep (hdep ⟨5, .data⟩ (by simp) rfl (by decide)) rfl)
          refine opAt_go (j := 2) (t := 22) (b := false) rfl rfl (Vs.dep (hdep ⟨2, .guard⟩ (by simp) rfl (by decide)) rfl) ?_
          refine wp_call 22 _ _ rfl (enters_of Tryz.func22 (by kernel_rfl) rfl) #[.agg (hdCells h vo), c.v] (by simp only [List.map_toArray, List.map_cons, List.map_nil, e0, e1]) ?_
          refine (tupleOf_any h vo c u).mono ?_
          rintro _ u' ⟨rfl, hb'⟩
          exact ⟨_, rfl, _, rfl, rfl, hI.trans (hb'.mono hI.size), hb'⟩
        · intro a u vs hI hold hdep
          exact opAt_go (j := 2) (t := 22) (b := false) rfl rfl (Vs.dep (hdep ⟨2, .guard⟩ (by simp) rfl (by decide)) rfl) (wp_still (ex_load _ ⟨g0, 0, none⟩ (.tmp 6) _ rfl (hold 6 (dlM (L := [20, 21, 22, 23, 24, 25, 26, 27, 28]) (by decide))) ((H1.out u hI).2.1)) rfl rfl hI)
        · intro a u vs hI hold hdep
          exact opAt_go (j := 2) (t := 22) (b := false) rfl rfl (Vs.dep (hdep ⟨2, .guard⟩ (by simp) rfl (by decide)) rfl) (wp_still (ex_neTb (.tmp 26) (.tmp 27) _ (tupC h c) th true rfl (Vs.dep (hdep ⟨6, .data⟩ (by simp) rfl (by decide)) rfl) (Vs.dep (hdep ⟨7, .data⟩ (by simp) rfl (by decide)) rfl) qT) rfl rfl hI)
      intro vs u hI hF
      have e0 : vs 0 = .int .i64 0 := (Option.some.inj (hF 0 (by decide))).symm
      have e1 : vs 1 = .bool false := (Option.some.inj (hF 1 (by decide))).symm
      have e2 : vs 2 = .bool false := (Option.some.inj (hF 2 (by decide))).symm
      have e3 : vs 3 = .pointer (some ⟨g0 + 2, 0, none⟩) := (Option.some.inj (hF 3 (by decide))).symm
      have e4 : vs 4 = .agg (hdCells h vo) := (Option.some.inj (hF 4 (by decide))).symm
      have e5 : vs 5 = c.v := (Option.some.inj (hF 5 (by decide))).symm
      have e6 : vs 6 = .agg (tupC h c).cells := (Option.some.inj (hF 6 (by decide))).symm
      have e7 : vs 7 = .agg th.cells := (Option.some.inj (hF 7 (by decide))).symm
      have e8 : vs 8 = .bool true := (Option.some.inj (hF 8 (by decide))).symm
      clear hF
      simp only [List.drop_succ_cons, List.drop_zero, puts, List.range, List.range.loop, List.foldr, if_true, List.getD_cons_zero, List.getD_cons_succ, e0, e1, e2, e3, e4, e5, e6, e7, e8, Act.put, List.setIfInBounds_toArray, List.set_cons_zero, List.set_cons_succ]
      clear e0 e1 e2 e3 e4 e5 e6 e7 e8
      have HM2 := hid (HM1.out.below hI)
      clear hI
      go_wp2_with fail
      go_ret
      exact ⟨by rw [HV.out]; rfl, by rw [HQ.out]; exact HM2.out.end⟩
end Go.Proofs.YtkkfioebpppffaaGreatDoor.Fl
