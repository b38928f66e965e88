import Derived.Test.YthmhiehglcfepaaDoorFlZA
namespace Go.Proofs.YthmhiehglcfepaaDoor.Fl
open Go.Proofs.YthmhiehglcfepaaDoor Go.ChangeShapes Go.WideShapes Go.ChangeAt Go.RowKit Go.Maps N
set_option maxHeartbeats 16000000
set_option maxRecDepth 100000

def intOf : Value → Int
  | .int _ i => i
  | _ => 0
theorem int_lt {a b : Nat} (h : a < b) : (a : Int) < (b : Int) := by omega
theorem int_nlt {a b : Nat} (h : ¬ a < b) : ¬ (a : Int) < (b : Int) := by omega

/-- Rows of the law's own. -/
def Pre (w u : World) (R : List Rw) : Prop := (∀ r ∈ R, w.heap.size ≤ r.b ∧ u.heap[r.b]? = some (.cells r.cs r.ty (0, 0))) ∧ Below w.heap.size w u
section
variable {w u u' : World} {R : List Rw}
theorem Pre.row (h : Pre w u R) {r : Rw} (hr : r ∈ R) : u.heap[r.b]? = some (.cells r.cs r.ty (0, 0)) := (h.1 r hr).2
theorem Pre.below (h : Pre w u R) (hb : Below u.heap.size u u') : Pre w u' R :=
  ⟨fun r hr => ⟨(h.1 r hr).1, below_keeps hb (h.1 r hr).2 (Array.getElem?_eq_some_iff.1 (h.1 r hr).2).1⟩, h.2.trans (hb.mono h.2.size)⟩
theorem Pre.put (h : Pre w u R) {r r' : Rw} {R' : List Rw} (hm : r ∈ R) (hk : Me.Keeps (fun k => k = r.b) u u') (hr : u'.heap[r.b]? = some (.cells r'.cs r'.ty (0, 0))) (he : r'.b = r.b) (hR : ∀ x ∈ R', x = r' ∨ (x ∈ R ∧ x.b ≠ r.b)) : Pre w u' R' := by
  have hB := (h.1 r hm).1
  refine ⟨fun x hx => ?_, ⟨hk.os.trans h.2.os, hk.tape.trans h.2.tape, hk.output.trans h.2.output, Nat.le_trans h.2.size hk.size, fun k hkb => (hk.block k (by have := h.2.size; omega) (by omega)).trans (h.2.block k hkb)⟩⟩
  rcases hR x hx with rfl | ⟨hx1, hx2⟩
  · rw [he]; exact ⟨hB, hr⟩
  · exact ⟨(h.1 x hx1).1, (hk.block _ (Array.getElem?_eq_some_iff.1 (h.1 x hx1).2).1 hx2).trans (h.1 x hx1).2⟩
theorem Pre.set (h : Pre w u R) {r : Rw} {R' : List Rw} {cs' : Array Value} {j : Nat} {v : Value} (hm : r ∈ R) (hc : r.cs.setIfInBounds j v = cs') (hu : u' = u.setCell ⟨r.b, j, none⟩ v) (hR : ∀ x ∈ R', x = ⟨r.b, cs', r.ty⟩ ∨ (x ∈ R ∧ x.b ≠ r.b)) : Pre w u' R' := by
  refine h.put (r' := ⟨r.b, cs', r.ty⟩) hm (by rw [hu]; exact Me.Keeps.set (S := fun k => k = r.b) (Me.Keeps.refl _ _) ⟨r.b, j, none⟩ rfl _) ?_ rfl hR
  rw [hu, Me.set_cells (h.row hm), hc]
end

theorem ex_eqnil {o : Oper} {a : Act} {w : World} (x y : Operand) (p : Addr) (T' : TypeId) (ho : o.op = .binOp .eql 30 x y T') (hx : a.eval x = .pointer (some p)) (hy : a.eval y = .pointer none) : (execOp a.eval o).run Tryd.prog w = .ok (.value (.bool false)) w := by
  have h : (Op.equal 30 (.pointer (some p)) (.pointer none)).run Tryd.prog w = .ok false w := by kernel_rfl
  unfold execOp
  simp only [ho, hx, hy]
  simp [eqGuard, binOp, go_sem, h]
theorem opens_any {B : Nat} {w u : World} {b : Nat} {R : List Rw} {x bk : Tu} {now : Int} (T : Tab B w u b 1 q0 R) (hx : x.Ok) (hk : bk.Ok) (hp : x.p = 6) (hpk : bk.p = 6) (hn : ¬ bk = x) (h1 : -1152921504606846976 ≤ now) (h2 : now ≤ 1152921504606846976) (ao : Option Addr) (n cap : Nat) (hs : SeesB u (.slice ao n cap) (mdB x 2)) :
    Calls Tryd.prog 7 #[.pointer (some ⟨b, 0, none⟩), .agg x.cells, .agg bk.cells, .agg (pkCells (mdH x) (.slice none 0 0) (.slice ao n cap)), .int .i64 now] u fun e w' => e = .returned (.int .i64 0) ∧ Tab B w w' b 1 (opnR 1 q0 x bk (mdH x) (mdB x 2) now) R := by
  refine T.call (P := fun e => e = .returned (.int .i64 0)) fun F' hF' => ?_
  have hc := rdC_made (.inl hp) hx 2
  have hcc : mdC x 2 = .sg x.sp x.dp 2 := by unfold mdC; rw [if_pos hp]
  have ho := (open_one (bk := bk) (now := now) hc (tup_made (fun h => by omega) 2) (by rw [hcc]; rfl) (by rw [hp, hpk]) hn).1
  have := open_any u b 1 q0 F' x bk (mdH x) (.slice none 0 0) (.slice ao n cap) (mdB x 2) now hF' hx hk (mdH_ok hx) (sees_nil _) hs (by show 0 ≤ _; omega) (by rw [mdB_len]; split <;> omega) ⟨by omega, by omega⟩ (by simp [q0]) (by simp [q0]) (by simp [q0]) (by simp [q0])
  rw [ho] at this
  exact this
theorem opened {x bk : Tu} {now : Int} (hx : x.Ok) (hp : x.p = 6) (hpk : bk.p = 6) (hn : ¬ bk = x) (h1 : -1152921504606846976 ≤ now) (h2 : now ≤ 1152921504606846976) : One (opnR 1 q0 x bk (mdH x) (mdB x 2) now) x bk 3 (now + 120) := by
  have hc := rdC_made (.inl hp) hx 2
  have hcc : mdC x 2 = .sg x.sp x.dp 2 := by unfold mdC; rw [if_pos hp]
  have hf : fst0 (mdC x 2) = (3, true) := by rw [hcc]; rfl
  have ho := (open_one (bk := bk) (now := now) hc (tup_made (fun h => by omega) 2) (by rw [hf]) (by rw [hp, hpk]) hn).2
  rw [hf, hp, show spanF 3 6 = 120 from by decide, span_aft h1 (by omega) (by omega) (by omega)] at ho
  exact ho
theorem ex_index {P : Program} {o : Oper} {a : Act} {w : World} (T : TypeId) (x y : Operand) (m k v : Value) (ho : o.op = .indexAddr T x y) (hx : a.eval x = m) (hy : a.eval y = k) (hr : (Instr.indexAt T m k).run P w = .ok v w) : (execOp a.eval o).run P w = .ok (.value v) w := by
  unfold execOp
  simp only [ho, hx, hy]
  simp [go_sem, hr]
section
variable {B : Nat} {w u u' : World} {b : Nat} {lim : Int} {q : Raw} {R : List Rw}
theorem Tab.news (h : Tab B w u b lim q R) {R' : List Rw} (hb : Below u.heap.size u u') (hR : ∀ r ∈ R', u.heap.size ≤ r.b ∧ u'.heap[r.b]? = some (.cells r.cs r.ty (0, 0))) : Tab B w u' b lim q (R' ++ R) := by
  obtain ⟨F, h1, h2, h3, h4, h5⟩ := h.below hb
  obtain ⟨F0, g1, g2, g3, g4, g5⟩ := h
  refine ⟨F0, g1.below hb, g2, fun r hr2 => ?_, h4, h5⟩
  rcases List.mem_append.1 hr2 with hr2 | hr2
  · obtain ⟨k1, k2⟩ := hR r hr2
    exact ⟨fun e => by have := g1.lt e; omega, Nat.le_trans g5.1 (Nat.le_trans g4.size k1), k2⟩
  · exact ⟨(g3 r hr2).1, (g3 r hr2).2.1, below_keeps hb (g3 r hr2).2.2 (Array.getElem?_eq_some_iff.1 (g3 r hr2).2.2).1⟩
theorem Tab.put2 (h : Tab B w u b lim q R) {r1 r2 : Rw} {R' : List Rw} (m1 : r1 ∈ R) (m2 : r2 ∈ R) (hk : Me.Keeps (fun k => k = r1.b ∨ k = r2.b) u u') (hR : ∀ x ∈ R', (u'.heap[x.b]? = some (.cells x.cs x.ty (0, 0)) ∧ (x.b = r1.b ∨ x.b = r2.b)) ∨ (x ∈ R ∧ x.b ≠ r1.b ∧ x.b ≠ r2.b)) : Tab B w u' b lim q R' := by
  obtain ⟨F, h1, h2, h3, h4, h5⟩ := h
  have B1 := (h3 r1 m1).2.1
  have B2 := (h3 r2 m2).2.1
  refine ⟨F, h1.keeps hk (fun k e e2 => ?_) (fun k e e2 => ?_), h2, fun x hx => ?_, ⟨hk.os.trans h4.os, hk.tape.trans h4.tape, hk.output.trans h4.output, Nat.le_trans h4.size hk.size, fun k hkb => (hk.block k (by have := h4.size; have := h5.1; omega) (by omega)).trans (h4.block k hkb)⟩, h5⟩
  · rcases e2 with rfl | rfl
    · exact (h3 r1 m1).1 e
    · exact (h3 r2 m2).1 e
  · have := h5.2 k e; omega
  · rcases hR x hx with ⟨hx1, hx2⟩ | ⟨hx1, hx2, hx3⟩
    · refine ⟨fun e => ?_, by rcases hx2 with e | e <;> omega, hx1⟩
      rcases hx2 with e2 | e2
      · exact (h3 r1 m1).1 (e2 ▸ e)
      · exact (h3 r2 m2).1 (e2 ▸ e)
    · exact ⟨(h3 x hx1).1, (h3 x hx1).2.1, (hk.block _ (Array.getElem?_eq_some_iff.1 (h3 x hx1).2.2).1 (fun e => e.elim (fun e => hx2 e) fun e => hx3 e)).trans (h3 x hx1).2.2⟩
end
def stA (en k : Nat) : Nat := if k = 0 then 3 else if k = 1 then 4 else if k = 2 then 5 else if k = 3 then 5 else if k = 4 then en else 7
theorem tu_rst (st : Nat) (d : Bool) : tuN st 4 d = (8, true) := by
  unfold tuN
  rw [if_pos (by decide)]
theorem stA_lt {en k : Nat} (h : en < 10) : stA en k < 10 := by
  unfold stA
  repeat' split
  all_goals omega
def Dir (x bk y : Tu) (d : Bool) : Prop := y = x ∧ d = false ∨ y = bk ∧ d = true

theorem ld_i64 {u : World} {p : Addr} {x : Int} (h : u.cell? p = some (.int .i64 x)) : (Instr.loadAt 2 (.pointer (some p))).run Tryd.prog u = .ok (.int .i64 x) u := by simp [go_sem, h]
theorem idx8 (g : Nat) (u : World) : (Instr.indexAt 27 (.pointer (some ⟨g, 0, none⟩)) (.int .i64 0)).run Tryd.prog u = .ok (.pointer (some ⟨g, 0, none⟩)) u := by kernel_rfl

theorem life_any (w : World) (x back : Tu) (L : List Int) (bf : Bool) (data reset : Int) (ht : TabF w) (hx : x.Ok) (hb : back.Ok) (hL : L.length = 8) (hLi : ∀ y ∈ L, Tm.In64 y) (hd : Tm.In64 data) (hr : Tm.In64 reset) :
    Calls Tryd.prog 3 #[.agg x.cells, .agg back.cells, .agg (i64C L), .bool bf, .int .i64 data, .int .i64 reset] w fun e w' => e = .returned (.bool true) ∧ Below w.heap.size w w' := by
  obtain ⟨wa, HWA⟩ : ∃ wa, Hid (wa = w.alloc (.cells x.cells 26)) := ⟨_, rfl⟩
  obtain ⟨wb, HWB⟩ : ∃ wb, Hid (wb = wa.alloc (.cells back.cells 26)) := ⟨_, rfl⟩
  obtain ⟨w0, HW0⟩ : ∃ w0, Hid (w0 = wb.alloc (.cells (i64C L) 27)) := ⟨_, rfl⟩
  obtain ⟨g6, HG6⟩ : ∃ g, Hid (g = w.heap.size) := ⟨_, rfl⟩
  have sa : wa.heap.size = g6 + 1 := by rw [HWA.out, HG6.out]; simp
  have sb : wb.heap.size = g6 + 2 := by rw [HWB.out, World.size_alloc, sa]
  have ba : Below w.heap.size w wa := by rw [HWA.out]; exact (Below.refl _ _).alloc (Nat.le_refl _) _
  have bb : Below wa.heap.size wa wb := by rw [HWB.out]; exact (Below.refl _ _).alloc (Nat.le_refl _) _
  have bc : Below wb.heap.size wb w0 := by rw [HW0.out]; exact (Below.refl _ _).alloc (Nat.le_refl _) _
  have ra : wa.heap[g6]? = some (.cells x.cells 26 (0, 0)) := by rw [HWA.out, HG6.out]; exact heap_alloc_new w _
  have rb : wb.heap[g6 + 1]? = some (.cells back.cells 26 (0, 0)) := by
    have := heap_alloc_new wa (.cells back.cells 26); rw [sa] at this; rw [HWB.out]; exact this
  have rc : w0.heap[g6 + 2]? = some (.cells (i64C L) 27 (0, 0)) := by
    have := heap_alloc_new wb (.cells (i64C L) 27); rw [sb] at this; rw [HW0.out]; exact this
  have r0 := below_keeps bc (below_keeps bb ra (by omega)) (by omega)
  have r1 := below_keeps bc rb (by omega)
  obtain ⟨g7, HG7⟩ : ∃ g, Hid (g = g6 + 1) := ⟨_, rfl⟩
  obtain ⟨g8, HG8⟩ : ∃ g, Hid (g = g6 + 2) := ⟨_, rfl⟩
  rw [← HG7.out] at r1
  rw [← HG8.out] at rc
  have hgw : w.heap.size ≤ g6 := by rw [HG6.out]; exact Nat.le_refl _
  have P0 : Pre w w0 [⟨g6, x.cells, 26⟩, ⟨g7, back.cells, 26⟩, ⟨g8, i64C L, 27⟩] := by
    refine ⟨fun r hr => ?_, (ba.trans (bb.mono ba.size)).trans (bc.mono (ba.trans (bb.mono ba.size)).size)⟩
    simp only [List.mem_cons, List.not_mem_nil, or_false] at hr
    rcases hr with rfl | rfl | rfl
    · exact ⟨hgw, r0⟩
    · exact ⟨by show w.heap.size ≤ g7; rw [HG7.out]; omega, r1⟩
    · exact ⟨by show w.heap.size ≤ g8; rw [HG8.out]; omega, rc⟩
  have HNE : Hid (g6 ≠ g7 ∧ g6 ≠ g8 ∧ g7 ≠ g8) := by unfold Hid; rw [HG7.out, HG8.out]; omega
  have HALLOC : Hid (((w.alloc (.cells x.cells 26)).alloc (.cells back.cells 26)).alloc (.cells (i64C L) 27) = w0) := by unfold Hid; rw [HW0.out, HWB.out, HWA.out]
  have HBG := hid (begun_any w0 (ht.below P0.2))
  have HP0 := hid P0
  have HTL := hid (tab_lt ht)
  have HTF := hid ht
  have HX := hid hx
  have HBK := hid hb
  have HLL := hid hL
  have HLI := hid hLi
  have HDA := hid hd
  have HRE := hid hr
  have hd1 := hd.lo; have hd2 := hd.hi; have hr1 := hr.lo; have hr2 := hr.hi
  obtain ⟨x6, HX6⟩ : ∃ t, Hid (t = tcp x) := ⟨_, rfl⟩
  obtain ⟨b6, HB6⟩ : ∃ t, Hid (t = tcp back) := ⟨_, rfl⟩
  have HO6 : Hid (x6.Ok ∧ x6.p = 6 ∧ b6.Ok ∧ b6.p = 6) := by unfold Hid; rw [HX6.out, HB6.out]; exact ⟨tcp_ok hx, rfl, tcp_ok hb, rfl⟩
  have HC6 : Hid (x.cells.setIfInBounds 2 (.int .u8 6) = x6.cells ∧ back.cells.setIfInBounds 2 (.int .u8 6) = b6.cells) := by unfold Hid; rw [HX6.out, HB6.out]; exact ⟨rfl, rfl⟩
  have hcx : ∀ u : World, u.heap[g6]? = some (.cells x.cells 26 (0, 0)) → u.cell? ⟨g6, 2, none⟩ = some (.int .u8 (x.p : Int)) ∧ u.frozen? ⟨g6, 2, none⟩ = false := fun u h => ⟨ce_tu h, frozen_of_row _ _ _ _ _ h⟩
  have hcb : ∀ u : World, u.heap[g7]? = some (.cells back.cells 26 (0, 0)) → u.cell? ⟨g7, 2, none⟩ = some (.int .u8 (back.p : Int)) ∧ u.frozen? ⟨g7, 2, none⟩ = false := fun u h => ⟨ce_tu h, frozen_of_row _ _ _ _ _ h⟩
  have HCX := hid hcx
  have HCB := hid hcb
  obtain ⟨xp, HXP⟩ : ∃ p, Hid (p = x.p) := ⟨_, rfl⟩
  obtain ⟨bp, HBP⟩ : ∃ p, Hid (p = back.p) := ⟨_, rfl⟩
  rw [← HXP.out] at HCX
  rw [← HBP.out] at HCB
  clear ht hx hb hL hLi hd hr sa sb ba bb bc ra rb rc r0 r1 hgw P0 HWA HWB HW0 hcx hcb
  generalize x.cells = xc at *
  generalize back.cells = bc at *
  go_enter Tryd.func3, Tryd.ntmps3
  go_upto_region 1 with fail
  rw [HALLOC.out]
  have e6 : w.heap.size = g6 := HG6.out.symm
  rw [e6, show g6 + 1 = g7 from HG7.out.symm, show g7 + 1 = g8 from by rw [HG7.out, HG8.out]]
  go_wp2_with fail
  refine HBG.out.mono ?_
  rintro _ w1 ⟨rfl, hb1⟩
  have P1 := HP0.out.below hb1
  have HP1 := hid P1
  obtain ⟨k6, f6⟩ := HCX.out w1 (P1.row (r := ⟨g6, xc, 26⟩) (by simp))
  clear hb1 P1 HBG HP0
  go_upto_region 5 with fail
  obtain ⟨w2, HW2⟩ : ∃ w2, Hid (w2 = w1.setCell ⟨g6, 2, none⟩ (.int .u8 6)) := ⟨_, rfl⟩
  have P2 : Pre w w2 [⟨g6, x6.cells, 26⟩, ⟨g7, bc, 26⟩, ⟨g8, i64C L, 27⟩] := HP1.out.set (r := ⟨g6, xc, 26⟩) (by simp) HC6.out.1 HW2.out fun y hy => by
    have := HNE.out
    simp only [List.mem_cons, List.not_mem_nil, or_false] at hy
    rcases hy with rfl | rfl | rfl
    · exact .inl rfl
    · exact .inr ⟨by simp, fun e => this.1 e.symm⟩
    · exact .inr ⟨by simp, fun e => this.2.1 e.symm⟩
  rw [← HW2.out]
  have HP2 := hid P2
  obtain ⟨k7, f7⟩ := HCB.out w2 (P2.row (r := ⟨g7, bc, 26⟩) (by simp))
  clear k6 f6 P2 HP1
  go_upto_region 6 with fail
  obtain ⟨w3, HW3⟩ : ∃ w3, Hid (w3 = w2.setCell ⟨g7, 2, none⟩ (.int .u8 6)) := ⟨_, rfl⟩
  have P3 : Pre w w3 [⟨g6, x6.cells, 26⟩, ⟨g7, b6.cells, 26⟩, ⟨g8, i64C L, 27⟩] := HP2.out.set (r := ⟨g7, bc, 26⟩) (by simp) HC6.out.2 HW3.out fun y hy => by
    have := HNE.out
    simp only [List.mem_cons, List.not_mem_nil, or_false] at hy
    rcases hy with rfl | rfl | rfl
    · exact .inr ⟨by simp, this.1⟩
    · exact .inl rfl
    · exact .inr ⟨by simp, fun e => this.2.2 e.symm⟩
  rw [← HW3.out]
  have HP3 := hid P3
  have L6 := hid (load_tu (P3.row (r := ⟨g6, x6.cells, 26⟩) (by simp)))
  have L7 := hid (load_tu (P3.row (r := ⟨g7, b6.cells, 26⟩) (by simp)))
  clear k7 f7 P3 HP2
  by_cases he : b6 = x6
  case' pos =>
    have qe := hid (show decide (b6 = x6) = true by simp [he])
    have HBA := hid (back_any x6 w3)
    clear he
    go_wp2_with (first | (refine wpList_ld 26 ⟨g7, 0, none⟩ (.tmp 7) rfl rfl L7.out rfl ?_) | (refine wpList_ld 26 ⟨g6, 0, none⟩ (.tmp 6) rfl rfl L6.out rfl ?_) | (refine wpList_val (ex_eqTb (.tmp 28) (.tmp 29) _ b6 x6 true rfl rfl rfl qe.out) rfl ?_) | fail)
    refine HBA.out.mono ?_
    rintro _ u3 ⟨rfl, hb3⟩
    have P3' := HP3.out.below hb3
    have HR3 := hid (P3'.row (r := ⟨g7, b6.cells, 26⟩) (by simp))
    have HP3' := hid P3'
    clear hb3 P3' HBA
    go_upto_region 8 with (first | (refine wpList_st rfl 26 (.tmp 7) (.tmp 32) rfl g7 x6.back.cells rfl rfl _ b6.cells HR3.out (by kernel_rfl) rfl x6.back.one ?_; intro w4 hw4 hbut4) | fail)
    have P4 : Pre w w4 [⟨g6, x6.cells, 26⟩, ⟨g7, x6.back.cells, 26⟩, ⟨g8, i64C L, 27⟩] := HP3'.out.put (r := ⟨g7, b6.cells, 26⟩) (r' := ⟨g7, x6.back.cells, 26⟩) (by simp) (But.kp hbut4) hw4 rfl fun y hy => by
      have := HNE.out
      simp only [List.mem_cons, List.not_mem_nil, or_false] at hy
      rcases hy with rfl | rfl | rfl
      · exact .inr ⟨by simp, this.1⟩
      · exact .inl rfl
      · exact .inr ⟨by simp, fun e => this.2.2 e.symm⟩
    have HP4 := hid P4
    have L64 := hid (load_tu (P4.row (r := ⟨g6, x6.cells, 26⟩) (by simp)))
    have L74 := hid (load_tu hw4)
    clear hw4 hbut4 P4 HP3' HR3 L6 L7 HP3
    obtain ⟨bk, HBKE⟩ : ∃ t, Hid (t = x6.back) := ⟨_, rfl⟩
    have HBO : Hid (bk.Ok ∧ bk.p = 6) := by unfold Hid; rw [HBKE.out]; exact ⟨HO6.out.1.back, HO6.out.2.1⟩
    rw [← HBKE.out] at HP4 L74
    rcases Decidable.em (bk = x6) with he2 | he2
    · have qe2 := hid (show decide (bk = x6) = true by simp [he2])
      clear he2
      go_wp2_with (first | (refine wpList_ld 26 ⟨g7, 0, none⟩ (.tmp 7) rfl rfl L74.out rfl ?_) | (refine wpList_ld 26 ⟨g6, 0, none⟩ (.tmp 6) rfl rfl L64.out rfl ?_) | (refine wpList_val (ex_eqTb (.tmp 33) (.tmp 34) _ bk x6 true rfl rfl rfl qe2.out) rfl ?_) | fail)
      go_ret
      exact ⟨rfl, e6 ▸ HP4.out.2⟩
    have qe2 := hid (show decide (bk = x6) = false by simp [he2])
    have HNB := hid he2
    clear he2
    go_upto_region 10 with (first | (refine wpList_ld 26 ⟨g7, 0, none⟩ (.tmp 7) rfl rfl L74.out rfl ?_) | (refine wpList_ld 26 ⟨g6, 0, none⟩ (.tmp 6) rfl rfl L64.out rfl ?_) | (refine wpList_val (ex_eqTb (.tmp 33) (.tmp 34) _ bk x6 false rfl rfl rfl qe2.out) rfl ?_) | fail)
    clear L64 L74 qe qe2
  case' neg =>
    have qe := hid (show decide (b6 = x6) = false by simp [he])
    obtain ⟨bk, HBKE⟩ : ∃ t, Hid (t = b6) := ⟨_, rfl⟩
    have HBO : Hid (bk.Ok ∧ bk.p = 6) := by unfold Hid; rw [HBKE.out]; exact ⟨HO6.out.2.2.1, HO6.out.2.2.2⟩
    have HNB : Hid (¬ bk = x6) := by rw [HBKE.out]; exact he
    clear he
    go_upto_region 10 with (first | (refine wpList_ld 26 ⟨g7, 0, none⟩ (.tmp 7) rfl rfl L7.out rfl ?_) | (refine wpList_ld 26 ⟨g6, 0, none⟩ (.tmp 6) rfl rfl L6.out rfl ?_) | (refine wpList_val (ex_eqTb (.tmp 28) (.tmp 29) _ b6 x6 false rfl rfl rfl qe.out) rfl ?_) | fail)
    obtain ⟨w4, HW4⟩ : ∃ u, Hid (u = w3) := ⟨_, rfl⟩
    rw [← HBKE.out, ← HW4.out] at HP3
    rw [← HW4.out]
    have HP4 := hid HP3.out
    clear L6 L7 qe HP3
  all_goals (
    clear HCX HCB
    have HNBs : Hid (¬ x6 = bk) := fun e => HNB.out e.symm
    go_wp2_with fail
    go_loopw [14] (fun i wr => ∃ (k : Nat) (M : List Int), i = .int .i64 (k : Int) ∧ k ≤ 8 ∧ Hid (M.length = 8 ∧ (∀ y ∈ M, Tm.In64 y) ∧ ∀ j, j < k → ∀ y, M[j]? = some y → -1152921504606846976 ≤ y ∧ y ≤ 1152921504606846976) ∧ Hid (Pre w wr [⟨g6, x6.cells, 26⟩, ⟨g7, bk.cells, 26⟩, ⟨g8, i64C M, 27⟩])) (fun i _ => 8 - (intOf i).toNat)
    case atStart => exact ⟨0, L, rfl, by omega, ⟨HLL.out, HLI.out, fun j hj => absurd hj (by omega)⟩, HP4⟩
    case round =>
      clear HP4
      obtain ⟨k, M, rfl, hk, HM, HPR⟩ := hrel
      by_cases hlt : k < 8
      · obtain ⟨y, hy⟩ : ∃ y, M[k]? = some y := ⟨_, List.getElem?_eq_getElem (by rw [HM.out.1]; exact hlt)⟩
        have hr8 := HPR.out.row (r := ⟨g8, i64C M, 27⟩) (by simp)
        have ck := i64_cell hr8 k y hy
        have fk : wr.frozen? ⟨g8, k, none⟩ = false := frozen_of_row _ _ _ _ _ hr8
        have hlt' : (k : Int) < 8 := by omega
        have hy64 := HM.out.2.1 y (List.mem_of_getElem? hy)
        have hyl := hy64.lo
        have hyh := hy64.hi
        have HY := hid hy
        have HSET : Hid (∀ w' : World, w' = wr.setCell ⟨g8, k, none⟩ (.int .i64 (k : Int)) → ∃ M' : List Int, (M'.length = 8 ∧ (∀ y ∈ M', Tm.In64 y) ∧ ∀ j, j < k + 1 → ∀ y, M'[j]? = some y → -1152921504606846976 ≤ y ∧ y ≤ 1152921504606846976) ∧ Pre w w' [⟨g6, x6.cells, 26⟩, ⟨g7, bk.cells, 26⟩, ⟨g8, i64C M', 27⟩]) := fun w' hw' => by
          obtain ⟨m1, m2, m3⟩ := HM.out
          refine ⟨M.set k (k : Int), ⟨by rw [List.length_set, m1], fun z hz => ?_, fun j hj z hz => ?_⟩, HPR.out.set (r := ⟨g8, i64C M, 27⟩) (by simp) (i64_set M k (k : Int)) hw' fun z hz => ?_⟩
          · rcases List.mem_or_eq_of_mem_set hz with hz | rfl
            · exact m2 z hz
            · exact ⟨by omega, by omega⟩
          · by_cases e : j = k
            · subst e
              rw [List.getElem?_set_self (by omega)] at hz
              cases hz
              exact ⟨by omega, by omega⟩
            · rw [List.getElem?_set_ne (Ne.symm e)] at hz
              exact m3 j (by omega) z hz
          · have := HNE.out
            simp only [List.mem_cons, List.not_mem_nil, or_false] at hz
            rcases hz with rfl | rfl | rfl
            · exact .inr ⟨by simp, this.2.1⟩
            · exact .inr ⟨by simp, this.2.2⟩
            · exact .inl rfl
        have HKEEP : Hid (-1152921504606846976 ≤ y → y ≤ 1152921504606846976 → (M.length = 8 ∧ (∀ y ∈ M, Tm.In64 y) ∧ ∀ j, j < k + 1 → ∀ y, M[j]? = some y → -1152921504606846976 ≤ y ∧ y ≤ 1152921504606846976)) := fun y1 y2 => by
          obtain ⟨m1, m2, m3⟩ := HM.out
          refine ⟨m1, m2, fun j hj z hz => ?_⟩
          by_cases e : j = k
          · subst e
            rw [HY.out] at hz
            cases hz
            exact ⟨y1, y2⟩
          · exact m3 j (by omega) z hz
        clear hy hr8 hy64
        by_cases ha : y < -1152921504606846976
        · clear HKEEP
          go_wp2_with fail
          obtain ⟨M', x1, x2⟩ := HSET.out _ rfl
          have X1 := hid x1
          have X2 := hid x2
          clear HSET HM HPR HY x1 x2 ck fk
          go_wp2_with fail
          go_roundw
          case rel => exact ⟨k + 1, M', by go_num, hlt, X1, X2⟩
          case measure => simp [intOf]; omega
        · by_cases hb : 1152921504606846976 < y
          · clear HKEEP
            go_wp2_with fail
            obtain ⟨M', x1, x2⟩ := HSET.out _ rfl
            have X1 := hid x1
            have X2 := hid x2
            clear HSET HM HPR HY x1 x2 ck fk
            go_wp2_with fail
            go_roundw
            case rel => exact ⟨k + 1, M', by go_num, hlt, X1, X2⟩
            case measure => simp [intOf]; omega
          · have X1 := hid (HKEEP.out (by omega) (by omega))
            clear HSET HKEEP
            go_wp2_with fail
            go_roundw
            case rel => exact ⟨k + 1, M, by go_num, hlt, X1, HPR⟩
            case measure => simp [intOf]; omega
      · have hlt' : ¬ (k : Int) < 8 := by omega
        have hk8 : k = 8 := by omega
        obtain ⟨m1, -, m3⟩ := HM.out
        rw [hk8] at m3
        obtain ⟨a0, a1, a2, a3, a4, a5, a6, a7, hMM⟩ : ∃ a0 a1 a2 a3 a4 a5 a6 a7, M = [a0, a1, a2, a3, a4, a5, a6, a7] := by
          match M, m1 with
          | [a0, a1, a2, a3, a4, a5, a6, a7], _ => exact ⟨_, _, _, _, _, _, _, _, rfl⟩
        subst hMM
        have HA : Hid ((-1152921504606846976 ≤ a0 ∧ a0 ≤ 1152921504606846976) ∧ (-1152921504606846976 ≤ a1 ∧ a1 ≤ 1152921504606846976) ∧ (-1152921504606846976 ≤ a2 ∧ a2 ≤ 1152921504606846976) ∧ (-1152921504606846976 ≤ a3 ∧ a3 ≤ 1152921504606846976) ∧ (-1152921504606846976 ≤ a4 ∧ a4 ≤ 1152921504606846976) ∧ (-1152921504606846976 ≤ a5 ∧ a5 ≤ 1152921504606846976) ∧ (-1152921504606846976 ≤ a6 ∧ a6 ≤ 1152921504606846976) ∧ (-1152921504606846976 ≤ a7 ∧ a7 ≤ 1152921504606846976)) :=
          ⟨m3 0 (by omega) _ rfl, m3 1 (by omega) _ rfl, m3 2 (by omega) _ rfl, m3 3 (by omega) _ rfl, m3 4 (by omega) _ rfl, m3 5 (by omega) _ rfl, m3 6 (by omega) _ rfl, m3 7 (by omega) _ rfl⟩
        have HN := hid (new_good 1 wr (by omega) (by omega) (HTF.out.below HPR.out.2))
        clear m1 m3 HM hlt hk
        go_wp2_with fail
        refine HN.out.mono ?_
        rintro _ w5 ⟨b, F, rfl, hs5, hF5, hb5⟩
        have T5 : Tab w.heap.size w w5 b 1 q0 [⟨g6, x6.cells, 26⟩, ⟨g7, bk.cells, 26⟩, ⟨g8, i64C [a0, a1, a2, a3, a4, a5, a6, a7], 27⟩] := tab_new hs5 hF5 hb5 HPR.out.2 (Nat.le_refl _) HTL.out HPR.out.1
        have HT5 := hid T5
        have HLD : Hid (∀ u : World, Below w5.heap.size w5 u → (Instr.loadAt 26 (.pointer (some ⟨g6, 0, none⟩))).run Tryd.prog u = .ok (.agg x6.cells) u ∧ (Instr.loadAt 26 (.pointer (some ⟨g7, 0, none⟩))).run Tryd.prog u = .ok (.agg bk.cells) u ∧ u.cell? ⟨g8, 0, none⟩ = some (.int .i64 a0)) := fun u hu =>
          have T := HT5.out.below hu
          ⟨load_tu (T.row (r := ⟨g6, x6.cells, 26⟩) (by simp)), load_tu (T.row (r := ⟨g7, bk.cells, 26⟩) (by simp)), i64_cell (T.row (r := ⟨g8, i64C [a0, a1, a2, a3, a4, a5, a6, a7], 27⟩) (by simp)) 0 a0 rfl⟩
        have HOP : Hid (∀ u ao n cap, Tab w.heap.size w u b 1 q0 [⟨g6, x6.cells, 26⟩, ⟨g7, bk.cells, 26⟩, ⟨g8, i64C [a0, a1, a2, a3, a4, a5, a6, a7], 27⟩] → SeesB u (.slice ao n cap) (mdB x6 2) →
            Calls Tryd.prog 7 #[.pointer (some ⟨b, 0, none⟩), .agg x6.cells, .agg bk.cells, .agg (pkCells (mdH x6) (.slice none 0 0) (.slice ao n cap)), .int .i64 a0] u fun e w' => e = .returned (.int .i64 0) ∧ Tab w.heap.size w w' b 1 (opnR 1 q0 x6 bk (mdH x6) (mdB x6 2) a0) [⟨g6, x6.cells, 26⟩, ⟨g7, bk.cells, 26⟩, ⟨g8, i64C [a0, a1, a2, a3, a4, a5, a6, a7], 27⟩]) := fun u ao n cap T hs =>
          opens_any T HO6.out.1 HBO.out.1 HO6.out.2.1 HBO.out.2 HNB.out HA.out.1.1 HA.out.1.2 ao n cap hs
        obtain ⟨q1, HQ1⟩ : ∃ q1, Hid (q1 = opnR 1 q0 x6 bk (mdH x6) (mdB x6 2) a0) := ⟨_, rfl⟩
        have HON : Hid (One q1 x6 bk 3 (a0 + 120)) := by unfold Hid; rw [HQ1.out]; exact opened HO6.out.1 HO6.out.2.1 HBO.out.2 HNB.out HA.out.1.1 HA.out.1.2
        rw [← HQ1.out] at HOP
        have HMK := hid (fun u => made_sees x6 2 u HO6.out.1 (by omega))
        clear hs5 hF5 hb5 T5 HPR HN HQ1
        go_upto_region 16 with fail
        refine wp_region_guarded' 14 (fun i => ([57, 58, 59, 60, 61, 62, 63, 64, 65, 66, 67, 68, 69, 70] : List Tmp).getD i 0) (FM [.pointer (some ⟨b, 0, none⟩), .bool false, .bool false, .int .i64 0, .bool false, .bool false, .bool false, .pointer (some ⟨b, 0, none⟩), .agg x6.cells, .agg bk.cells, .agg x6.cells, undef, .pointer (some ⟨g8, 0, none⟩), .int .i64 a0] 11 (mdH x6) (mdB x6 2)) (fun u => Below w5.heap.size w5 u) (fun _ u u' => Below u.heap.size u u') (by kernel_rfl) (by kernel_rfl) ⟨rfl, rfl, rfl, Nat.le_refl _, fun _ _ => rfl⟩ (fun _ _ _ _ _ _ h _ hr => h.keeps hr) ?_ ?_
        · simp only [List.take_succ_cons, List.take_zero, stepsG]
          refine ⟨?_, ?_, ?_, ?_, ?_, ?_, ?_, ?_, ?_, ?_, ?_, ?_, ?_, ?_, trivial⟩
          · intro a u vs hI hold hdep
            exact opAt_plain rfl (fm_still (ex_move (.tmp 15) _ rfl (hold 15 (dlM (L := [57, 58, 59, 60, 61, 62, 63, 64, 65, 66, 67, 68, 69, 70]) (by decide)))) (by decide) rfl rfl hI)
          · intro a u vs hI hold hdep
            exact opAt_plain rfl (fm_still (ex_eqnil (.tmp 57) (.const (.pointer none)) ⟨b, 0, none⟩ _ rfl (FM.dep (hdep ⟨0, .data⟩ (by simp) rfl (by decide)) (by decide) rfl) rfl) (by decide) rfl rfl hI)
          · intro a u vs hI hold hdep
            exact opAt_plain rfl (fm_still (ex_move (.tmp 58) _ rfl (FM.dep (hdep ⟨1, .data⟩ (by simp) rfl (by decide)) (by decide) rfl)) (by decide) rfl rfl hI)
          · intro a u vs hI hold hdep
            exact opAt_go (j := 2) (t := 59) (b := false) rfl rfl (FM.dep (hdep ⟨2, .guard⟩ (by simp) rfl (by decide)) (by decide) rfl) (fm_still (ex_move (.tmp 16) _ rfl (hold 16 (dlM (L := [57, 58, 59, 60, 61, 62, 63, 64, 65, 66, 67, 68, 69, 70]) (by decide)))) (by decide) rfl rfl hI)
          · intro a u vs hI hold hdep
            exact opAt_go (j := 2) (t := 59) (b := false) rfl rfl (FM.dep (hdep ⟨2, .guard⟩ (by simp) rfl (by decide)) (by decide) rfl) (fm_still (ex_neE (.tmp 60) 0 false _ rfl (FM.dep (hdep ⟨3, .data⟩ (by simp) rfl (by decide)) (by decide) rfl) rfl) (by decide) rfl rfl hI)
          · intro a u vs hI hold hdep
            exact opAt_plain rfl (fm_still (ex_pick (.tmp 59) (.const (.bool true)) (.tmp 61) false (.bool false) rfl (FM.dep (hdep ⟨2, .data⟩ (by simp) rfl (by decide)) (by decide) rfl) (FM.dep (hdep ⟨4, .data⟩ (by simp) rfl (by decide)) (by decide) rfl)) (by decide) rfl rfl hI)
          · intro a u vs hI hold hdep
            exact opAt_plain rfl (fm_still (ex_move (.tmp 62) _ rfl (FM.dep (hdep ⟨5, .data⟩ (by simp) rfl (by decide)) (by decide) rfl)) (by decide) rfl rfl hI)
          · intro a u vs hI hold hdep
            exact opAt_go (j := 6) (t := 63) (b := false) rfl rfl (FM.dep (hdep ⟨6, .guard⟩ (by simp) rfl (by decide)) (by decide) rfl) (fm_still (ex_move (.tmp 15) _ rfl (hold 15 (dlM (L := [57, 58, 59, 60, 61, 62, 63, 64, 65, 66, 67, 68, 69, 70]) (by decide)))) (by decide) rfl rfl hI)
          · intro a u vs hI hold hdep
            exact opAt_go (j := 6) (t := 63) (b := false) rfl rfl (FM.dep (hdep ⟨6, .guard⟩ (by simp) rfl (by decide)) (by decide) rfl) (fm_still (ex_load _ ⟨g6, 0, none⟩ (.tmp 6) _ rfl (hold 6 (dlM (L := [57, 58, 59, 60, 61, 62, 63, 64, 65, 66, 67, 68, 69, 70]) (by decide))) ((HLD.out u hI).1)) (by decide) rfl rfl hI)
          · intro a u vs hI hold hdep
            exact opAt_go (j := 6) (t := 63) (b := false) rfl rfl (FM.dep (hdep ⟨6, .guard⟩ (by simp) rfl (by decide)) (by decide) rfl) (fm_still (ex_load _ ⟨g7, 0, none⟩ (.tmp 7) _ rfl (hold 7 (dlM (L := [57, 58, 59, 60, 61, 62, 63, 64, 65, 66, 67, 68, 69, 70]) (by decide))) ((HLD.out u hI).2.1)) (by decide) rfl rfl hI)
          · intro a u vs hI hold hdep
            exact opAt_go (j := 6) (t := 63) (b := false) rfl rfl (FM.dep (hdep ⟨6, .guard⟩ (by simp) rfl (by decide)) (by decide) rfl) (fm_still (ex_load _ ⟨g6, 0, none⟩ (.tmp 6) _ rfl (hold 6 (dlM (L := [57, 58, 59, 60, 61, 62, 63, 64, 65, 66, 67, 68, 69, 70]) (by decide))) ((HLD.out u hI).1)) (by decide) rfl rfl hI)
          · intro a u vs hI hold hdep
            have e0 : a.eval (.tmp 67) = .agg x6.cells := (FM.dep (hdep ⟨10, .data⟩ (by simp) rfl (by decide)) (by decide) rfl)
            have e1 : a.eval (.const (.int .u8 2)) = .int .u8 2 := rfl
            refine opAt_go (j := 6) (t := 63) (b := false) rfl rfl (FM.dep (hdep ⟨6, .guard⟩ (by simp) rfl (by decide)) (by decide) rfl) ?_
            refine wp_call 8 _ _ rfl (enters_of Tryd.func8 (by kernel_rfl) rfl) #[.agg x6.cells, .int .u8 2] (by simp only [List.map_toArray, List.map_cons, List.map_nil, e0, e1]) ?_
            refine (HMK.out u).mono ?_
            rintro _ u' ⟨ao, n, cap, rfl, hs', hb'⟩
            exact ⟨_, rfl, _, rfl, fm_made rfl hs', hI.trans (hb'.mono hI.size), hb'⟩
          · intro a u vs hI hold hdep
            exact opAt_go (j := 6) (t := 63) (b := false) rfl rfl (FM.dep (hdep ⟨6, .guard⟩ (by simp) rfl (by decide)) (by decide) rfl) (fm_still (ex_index 27 (.tmp 8) (.const (.int .i64 0)) _ _ _ rfl (hold 8 (dlM (L := [57, 58, 59, 60, 61, 62, 63, 64, 65, 66, 67, 68, 69, 70]) (by decide))) rfl (idx8 g8 u)) (by decide) rfl rfl hI)
          · intro a u vs hI hold hdep
            exact opAt_go (j := 6) (t := 63) (b := false) rfl rfl (FM.dep (hdep ⟨6, .guard⟩ (by simp) rfl (by decide)) (by decide) rfl) (fm_still (ex_load _ ⟨g8, 0, none⟩ (.tmp 69) _ rfl (FM.dep (hdep ⟨12, .data⟩ (by simp) rfl (by decide)) (by decide) rfl) (ld_i64 (HLD.out u hI).2.2)) (by decide) rfl rfl hI)
        intro vs u hI hF
        have e0 : vs 0 = .pointer (some ⟨b, 0, none⟩) := (hF 0 (by decide)).is (by decide) rfl
        have e1 : vs 1 = .bool false := (hF 1 (by decide)).is (by decide) rfl
        have e2 : vs 2 = .bool false := (hF 2 (by decide)).is (by decide) rfl
        have e3 : vs 3 = .int .i64 0 := (hF 3 (by decide)).is (by decide) rfl
        have e4 : vs 4 = .bool false := (hF 4 (by decide)).is (by decide) rfl
        have e5 : vs 5 = .bool false := (hF 5 (by decide)).is (by decide) rfl
        have e6 : vs 6 = .bool false := (hF 6 (by decide)).is (by decide) rfl
        have e7 : vs 7 = .pointer (some ⟨b, 0, none⟩) := (hF 7 (by decide)).is (by decide) rfl
        have e8 : vs 8 = .agg x6.cells := (hF 8 (by decide)).is (by decide) rfl
        have e9 : vs 9 = .agg bk.cells := (hF 9 (by decide)).is (by decide) rfl
        have e10 : vs 10 = .agg x6.cells := (hF 10 (by decide)).is (by decide) rfl
        have hM := (hF 11 (by decide)).made rfl
        have e12 : vs 12 = .pointer (some ⟨g8, 0, none⟩) := (hF 12 (by decide)).is (by decide) rfl
        have e13 : vs 13 = .int .i64 a0 := (hF 13 (by decide)).is (by decide) rfl
        clear hF
        simp only [List.drop_succ_cons, List.drop_zero, puts, List.range, List.range.loop, List.foldr, if_true, List.getD_cons_zero, List.getD_cons_succ, e0, e1, e2, e3, e4, e5, e6, e7, e8, e9, e10, e12, e13, Act.put, List.setIfInBounds_toArray, List.set_cons_zero, List.set_cons_succ]
        clear e0 e1 e2 e3 e4 e5 e6 e7 e8 e9 e10 e12 e13
        have HC5 : Hid (Calls Tryd.prog 7 #[.pointer (some ⟨b, 0, none⟩), .agg x6.cells, .agg bk.cells, vs 11, .int .i64 a0] u fun e w' => e = .returned (.int .i64 0) ∧ Tab w.heap.size w w' b 1 q1 [⟨g6, x6.cells, 26⟩, ⟨g7, bk.cells, 26⟩, ⟨g8, i64C [a0, a1, a2, a3, a4, a5, a6, a7], 27⟩]) := by
          obtain ⟨ao, n, cap, e11, hsM⟩ := hM
          unfold Hid
          rw [e11]
          exact HOP.out u ao n cap (HT5.out.below hI) hsM
        clear HLD HOP HMK HT5 hI hM
        go_wp2_with fail
        refine HC5.out.mono ?_
        rintro _ w6 ⟨rfl, T6⟩
        have HT6 := hid T6
        clear T6 HC5
        go_upto_region 18 with fail
        have HL6 : Hid (∀ u, Below w6.heap.size w6 u → (Instr.loadAt 26 (.pointer (some ⟨g6, 0, none⟩))).run Tryd.prog u = .ok (.agg x6.cells) u ∧ (Instr.loadAt 26 (.pointer (some ⟨g7, 0, none⟩))).run Tryd.prog u = .ok (.agg bk.cells) u) := fun u hu =>
          ⟨load_tu ((HT6.out.below hu).row (r := ⟨g6, x6.cells, 26⟩) (by simp)), load_tu ((HT6.out.below hu).row (r := ⟨g7, bk.cells, 26⟩) (by simp))⟩
        have HLT : Hid (g6 < w6.heap.size ∧ g7 < w6.heap.size ∧ g8 < w6.heap.size) :=
          ⟨(Array.getElem?_eq_some_iff.1 (HT6.out.row (r := ⟨g6, x6.cells, 26⟩) (by simp))).1, (Array.getElem?_eq_some_iff.1 (HT6.out.row (r := ⟨g7, bk.cells, 26⟩) (by simp))).1, (Array.getElem?_eq_some_iff.1 (HT6.out.row (r := ⟨g8, i64C [a0, a1, a2, a3, a4, a5, a6, a7], 27⟩) (by simp))).1⟩
        refine regA (t0 := x6) (t1 := bk) (Nat.le_of_ble_eq_true rfl) (fun _ _ _ _ _ h => h) rfl rfl HL6.out ?_
        intro g17 g18 w7 hne7 hg17 hg18 r17 r18 hb7
        have T7 : Tab w.heap.size w w7 b 1 q1 [⟨g17, x6.cells, 26⟩, ⟨g18, bk.cells, 26⟩, ⟨g6, x6.cells, 26⟩, ⟨g7, bk.cells, 26⟩, ⟨g8, i64C [a0, a1, a2, a3, a4, a5, a6, a7], 27⟩] := HT6.out.news (R' := [⟨g17, x6.cells, 26⟩, ⟨g18, bk.cells, 26⟩]) hb7 (fun r hr => by
          simp only [List.mem_cons, List.not_mem_nil, or_false] at hr
          rcases hr with rfl | rfl
          · exact ⟨hg17, r17⟩
          · exact ⟨hg18, r18⟩)
        have HN7 : Hid (g17 ≠ g18 ∧ g17 ≠ g6 ∧ g17 ≠ g7 ∧ g17 ≠ g8 ∧ g18 ≠ g6 ∧ g18 ≠ g7 ∧ g18 ≠ g8) := by
          obtain ⟨l1, l2, l3⟩ := HLT.out
          refine ⟨hne7, ?_, ?_, ?_, ?_, ?_, ?_⟩ <;> omega
        have HT7 := hid T7
        clear hne7 hg17 hg18 r17 r18 hb7 T7 HL6 HT6 HLT
        simp only [Act.put, List.setIfInBounds_toArray, List.set_cons_zero, List.set_cons_succ]
        cases bf
        case' false =>
          go_upto_region 23 with fail
          obtain ⟨w8, HW8⟩ : ∃ u, Hid (u = w7) := ⟨_, rfl⟩
          obtain ⟨E0, HE0⟩ : ∃ t, Hid (t = x6) := ⟨_, rfl⟩
          obtain ⟨E1, HE1⟩ : ∃ t, Hid (t = bk) := ⟨_, rfl⟩
          obtain ⟨d0, HD0⟩ : ∃ t, Hid (t = false) := ⟨_, rfl⟩
          obtain ⟨d1, HD1⟩ : ∃ t, Hid (t = true) := ⟨_, rfl⟩
          obtain ⟨en, HEN⟩ : ∃ t : Nat, Hid (t = 6) := ⟨_, rfl⟩
          have HT8 : Hid (Tab w.heap.size w w8 b 1 q1 [⟨g17, E0.cells, 26⟩, ⟨g18, E1.cells, 26⟩, ⟨g6, x6.cells, 26⟩, ⟨g7, bk.cells, 26⟩, ⟨g8, i64C [a0, a1, a2, a3, a4, a5, a6, a7], 27⟩]) := by
            unfold Hid; rw [HW8.out, HE0.out, HE1.out]; exact HT7.out
          have HDR : Hid (Dir x6 bk E0 d0 ∧ Dir x6 bk E1 d1) := ⟨.inl ⟨HE0.out, HD0.out⟩, .inr ⟨HE1.out, HD1.out⟩⟩
          rw [← HW8.out]
          clear HT7 HW8 HE0 HE1
        case' true =>
          go_upto_region 21 with fail
          have HL7 : Hid (∀ u, Me.Keeps (fun k => k = g17 ∨ k = g18) w7 u → (Instr.loadAt 26 (.pointer (some ⟨g7, 0, none⟩))).run Tryd.prog u = .ok (.agg bk.cells) u ∧ (Instr.loadAt 26 (.pointer (some ⟨g6, 0, none⟩))).run Tryd.prog u = .ok (.agg x6.cells) u) := fun u hu => by
            obtain ⟨n1, n2, n3, n4, n5, n6, n7⟩ := HN7.out
            exact ⟨load_tu (kp_mem hu (HT7.out.row (r := ⟨g7, bk.cells, 26⟩) (by simp)) (fun e => e.elim (fun e => n3 e.symm) fun e => n6 e.symm)), load_tu (kp_mem hu (HT7.out.row (r := ⟨g6, x6.cells, 26⟩) (by simp)) (fun e => e.elim (fun e => n2 e.symm) fun e => n5 e.symm))⟩
          refine regB (t0 := bk) (t1 := x6) (g := g17) (h := g18) (Nat.le_of_ble_eq_true rfl) (fun _ _ _ _ _ h => h) rfl rfl rfl rfl HN7.out.1 (og := x6.cells) (oh := bk.cells) rfl rfl (HT7.out.row (r := ⟨g17, x6.cells, 26⟩) (by simp)) (HT7.out.row (r := ⟨g18, bk.cells, 26⟩) (by simp)) HL7.out ?_
          intro w8 r17 r18 hk8
          obtain ⟨E0, HE0⟩ : ∃ t, Hid (t = bk) := ⟨_, rfl⟩
          obtain ⟨E1, HE1⟩ : ∃ t, Hid (t = x6) := ⟨_, rfl⟩
          obtain ⟨d0, HD0⟩ : ∃ t, Hid (t = true) := ⟨_, rfl⟩
          obtain ⟨d1, HD1⟩ : ∃ t, Hid (t = false) := ⟨_, rfl⟩
          obtain ⟨en, HEN⟩ : ∃ t : Nat, Hid (t = 9) := ⟨_, rfl⟩
          have HT8 : Hid (Tab w.heap.size w w8 b 1 q1 [⟨g17, E0.cells, 26⟩, ⟨g18, E1.cells, 26⟩, ⟨g6, x6.cells, 26⟩, ⟨g7, bk.cells, 26⟩, ⟨g8, i64C [a0, a1, a2, a3, a4, a5, a6, a7], 27⟩]) := by
            unfold Hid
            rw [HE0.out, HE1.out]
            refine HT7.out.put2 (r1 := ⟨g17, x6.cells, 26⟩) (r2 := ⟨g18, bk.cells, 26⟩) (by simp) (by simp) hk8 fun y hy => ?_
            obtain ⟨n1, n2, n3, n4, n5, n6, n7⟩ := HN7.out
            simp only [List.mem_cons, List.not_mem_nil, or_false] at hy
            rcases hy with rfl | rfl | rfl | rfl | rfl
            · exact .inl ⟨r17, .inl rfl⟩
            · exact .inl ⟨r18, .inr rfl⟩
            · exact .inr ⟨by simp, n2.symm, n5.symm⟩
            · exact .inr ⟨by simp, n3.symm, n6.symm⟩
            · exact .inr ⟨by simp, n4.symm, n7.symm⟩
          have HDR : Hid (Dir x6 bk E0 d0 ∧ Dir x6 bk E1 d1) := ⟨.inr ⟨HE0.out, HD0.out⟩, .inl ⟨HE1.out, HD1.out⟩⟩
          simp only [Act.put, List.setIfInBounds_toArray, List.set_cons_zero, List.set_cons_succ]
          clear HT7 HL7 r17 r18 hk8 HE0 HE1
          go_upto_region 23 with fail
        all_goals (
          have HBU : Hid (tuN 5 17 d0 = (en, true) ∧ tuN en 16 d1 = (en, true) ∧ tuN en 17 d1 = (7, true) ∧ tuN 7 16 d0 = (7, true) ∧ en < 10 ∧ spanF en 6 = 120) := by
            unfold Hid; rw [HD0.out, HD1.out, HEN.out]; decide
          obtain ⟨R7, HR7⟩ : ∃ R : List Rw, Hid (R = [⟨g17, E0.cells, 26⟩, ⟨g18, E1.cells, 26⟩, ⟨g6, x6.cells, 26⟩, ⟨g7, bk.cells, 26⟩, ⟨g8, i64C [a0, a1, a2, a3, a4, a5, a6, a7], 27⟩]) := ⟨_, rfl⟩
          rw [← HR7.out] at HT8
          have HLDS : Hid (∀ u q, Tab w.heap.size w u b 1 q R7 → (Instr.loadAt 26 (.pointer (some ⟨g6, 0, none⟩))).run Tryd.prog u = .ok (.agg x6.cells) u ∧ (Instr.loadAt 26 (.pointer (some ⟨g7, 0, none⟩))).run Tryd.prog u = .ok (.agg bk.cells) u ∧ (Instr.loadAt 26 (.pointer (some ⟨g17, 0, none⟩))).run Tryd.prog u = .ok (.agg E0.cells) u ∧ (Instr.loadAt 26 (.pointer (some ⟨g18, 0, none⟩))).run Tryd.prog u = .ok (.agg E1.cells) u) := fun u q T =>
            ⟨load_tu (T.row (r := ⟨g6, x6.cells, 26⟩) (by rw [HR7.out]; simp)), load_tu (T.row (r := ⟨g7, bk.cells, 26⟩) (by rw [HR7.out]; simp)), load_tu (T.row (r := ⟨g17, E0.cells, 26⟩) (by rw [HR7.out]; simp)), load_tu (T.row (r := ⟨g18, E1.cells, 26⟩) (by rw [HR7.out]; simp))⟩
          have HCEL : Hid (∀ u q, Tab w.heap.size w u b 1 q R7 → ∀ (j : Nat) (y : Int), [a0, a1, a2, a3, a4, a5, a6, a7][j]? = some y → u.cell? ⟨g8, j, none⟩ = some (.int .i64 y)) := fun u q T j y h =>
            i64_cell (T.row (r := ⟨g8, i64C [a0, a1, a2, a3, a4, a5, a6, a7], 27⟩) (by rw [HR7.out]; simp)) j y h
          have HMV : Hid (∀ (u : World) (q : Raw) (y : Tu) (d : Bool) (st st' f : Nat) (til now span sE fI : Int), Tab w.heap.size w u b 1 q R7 → One q x6 bk st til → Dir x6 bk y d → tuN st f d = (st', true) → spanF st' 6 = span → sE = (st' : Int) → fI = (f : Int) → st < 10 → f < 256 → -1152921504606846976 ≤ now → now ≤ 1152921504606847000 →
              Calls Tryd.prog 9 #[.pointer (some ⟨b, 0, none⟩), .agg y.cells, .int .u8 fI, .int .i64 now, .int .i64 sE, .int .i64 span] u fun e w' => e = .returned (.bool true) ∧ ∃ q', Tab w.heap.size w w' b 1 q' R7 ∧ One q' x6 bk st' (now + span)) := fun u q y d st st' f til now span sE fI T O hd htu hsp hs hf h1 h2 h3 h4 => by
            subst hs hf
            have hdd : d = decide (y = bk) := by
              rcases hd with ⟨rfl, rfl⟩ | ⟨rfl, rfl⟩
              · simp [HNBs.out]
              · simp
            have hyx : y = x6 ∨ y = bk := hd.imp (·.1) (·.1)
            have hyp : y.p = 6 ∧ y.Ok := by
              rcases hyx with rfl | rfl
              · exact ⟨HO6.out.2.1, HO6.out.1⟩
              · exact ⟨HBO.out.2, HBO.out.1⟩
            exact (moves_any T O hyx hyp.1 HO6.out.2.1 hyp.2 h2 h1 (hdd ▸ htu) hsp h3 h4).mono fun e w' ⟨g1, g2, g3⟩ => ⟨g1, _, g2, g3⟩
          clear HR7 HN7 HD0 HD1 HNB HO6 HBO
          go_wp2_with fail
          go_loopw [13, 21] (fun ok i wr => ∃ (k : Nat) (q : Raw), ok = .bool true ∧ i = .int .i64 (k : Int) ∧ k ≤ 6 ∧ Hid (Tab w.heap.size w wr b 1 q R7) ∧ Hid (∃ til, One q x6 bk (stA en k) til)) (fun _ i _ => 6 - (intOf i).toNat)
          case atStart => exact ⟨0, q1, rfl, rfl, by omega, HT8, ⟨a0 + 120, HON.out⟩⟩
          case round =>
            clear HT8 HON
            obtain ⟨k, q, rfl, rfl, hk, HT, HO0⟩ := hrel
            obtain ⟨til, o0⟩ := HO0.out
            have HO := hid o0
            clear o0 HO0
            by_cases hlt : k < 6
            · have hlt' : (k : Int) < 6 := by omega
              have hk0 : (0 : Int) ≤ (k : Int) := by omega
              by_cases hrs : (k : Int) = reset
              · as_aux_lemma =>
                  have c6 := HCEL.out _ _ HT.out 6 a6 rfl
                  go_wp2_with (first | (refine wpList_ld 26 ⟨g6, 0, none⟩ (.tmp 6) rfl rfl (HLDS.out _ _ HT.out).1 rfl ?_) | (refine wpList_ld 26 ⟨g7, 0, none⟩ (.tmp 7) rfl rfl (HLDS.out _ _ HT.out).2.1 rfl ?_) | (refine wpList_ld 26 ⟨g17, 0, none⟩ (.tmp 17) rfl rfl (HLDS.out _ _ HT.out).2.2.1 rfl ?_) | (refine wpList_ld 26 ⟨g18, 0, none⟩ (.tmp 18) rfl rfl (HLDS.out _ _ HT.out).2.2.2 rfl ?_) | fail)
                  refine (HMV.out _ _ E0 d0 _ 8 4 _ a6 10 _ _ HT.out HO.out HDR.out.1 (tu_rst _ _) (by decide) rfl rfl (stA_lt HBU.out.2.2.2.2.1) (by omega) HA.out.2.2.2.2.2.2.1.1 (by have := HA.out.2.2.2.2.2.2.1.2; omega)).mono ?_
                  rintro _ u1 ⟨rfl, q', T1, O1⟩
                  have HT1 := hid T1
                  have HO1 := hid O1
                  have c7 := HCEL.out _ _ HT1.out 7 a7 rfl
                  clear T1 O1 c6 HT HO
                  go_wp2_with (first | (refine wpList_ld 26 ⟨g6, 0, none⟩ (.tmp 6) rfl rfl (HLDS.out _ _ HT1.out).1 rfl ?_) | (refine wpList_ld 26 ⟨g7, 0, none⟩ (.tmp 7) rfl rfl (HLDS.out _ _ HT1.out).2.1 rfl ?_) | (refine wpList_ld 26 ⟨g17, 0, none⟩ (.tmp 17) rfl rfl (HLDS.out _ _ HT1.out).2.2.1 rfl ?_) | (refine wpList_ld 26 ⟨g18, 0, none⟩ (.tmp 18) rfl rfl (HLDS.out _ _ HT1.out).2.2.2 rfl ?_) | fail)
                  refine (HMV.out _ _ x6 false 8 3 2 _ a7 120 _ _ HT1.out HO1.out (.inl ⟨rfl, rfl⟩) (by decide) (by decide) rfl rfl (by omega) (by omega) HA.out.2.2.2.2.2.2.2.1 (by have := HA.out.2.2.2.2.2.2.2.2; omega)).mono ?_
                  rintro _ u2 ⟨rfl, q'', T2, O2⟩
                  have HT2 := hid T2
                  clear T2 O2 c7 HT1 HO1
                  go_wp2_with fail
                  go_ret
                  exact ⟨rfl, e6 ▸ HT2.out.bel⟩
              · by_cases h0 : (k : Int) = 0
                · as_aux_lemma =>
                    have hkk : k = 0 := by omega
                    have hs : stA en k = 3 := by rw [hkk]; rfl
                    have hs2 : stA en (k + 1) = 4 := by rw [hkk]; rfl
                    have c1 := HCEL.out _ _ HT.out 1 a1 rfl
                    go_wp2_with (first | (refine wpList_ld 26 ⟨g6, 0, none⟩ (.tmp 6) rfl rfl (HLDS.out _ _ HT.out).1 rfl ?_) | (refine wpList_ld 26 ⟨g7, 0, none⟩ (.tmp 7) rfl rfl (HLDS.out _ _ HT.out).2.1 rfl ?_) | (refine wpList_ld 26 ⟨g17, 0, none⟩ (.tmp 17) rfl rfl (HLDS.out _ _ HT.out).2.2.1 rfl ?_) | (refine wpList_ld 26 ⟨g18, 0, none⟩ (.tmp 18) rfl rfl (HLDS.out _ _ HT.out).2.2.2 rfl ?_) | fail)
                    refine (HMV.out _ _ bk true _ 4 18 _ a1 60 _ _ HT.out HO.out (.inr ⟨rfl, rfl⟩) (by rw [hs]; decide) (by decide) (rfl) rfl (by rw [hs]; have := HBU.out.2.2.2.2.1; omega) (by omega) (HA.out.2.1.1) (by have := HA.out.2.1.2; omega)).mono ?_
                    rintro _ u1 ⟨rfl, q1, T1, O1⟩
                    have HT1 := hid T1
                    have HO1 := hid O1
                    clear T1 O1 c1
                    clear HT HO
                    go_wp2_with fail
                    have HR : Hid (∃ t, One q1 x6 bk (stA en (k + 1)) t) := by unfold Hid; rw [hs2]; exact ⟨a1 + 60, HO1.out⟩
                    go_roundw
                    case rel => exact ⟨k + 1, q1, rfl, by first | go_num | (congr 1; omega) | (simp; omega), hlt, HT1, HR⟩
                    case measure => simp [intOf]; omega
                · by_cases h1 : (k : Int) = 1
                  · as_aux_lemma =>
                      have hkk : k = 1 := by omega
                      have hs : stA en k = 4 := by rw [hkk]; rfl
                      have hs2 : stA en (k + 1) = 5 := by rw [hkk]; rfl
                      have c2 := HCEL.out _ _ HT.out 2 a2 rfl
                      go_wp2_with (first | (refine wpList_ld 26 ⟨g6, 0, none⟩ (.tmp 6) rfl rfl (HLDS.out _ _ HT.out).1 rfl ?_) | (refine wpList_ld 26 ⟨g7, 0, none⟩ (.tmp 7) rfl rfl (HLDS.out _ _ HT.out).2.1 rfl ?_) | (refine wpList_ld 26 ⟨g17, 0, none⟩ (.tmp 17) rfl rfl (HLDS.out _ _ HT.out).2.2.1 rfl ?_) | (refine wpList_ld 26 ⟨g18, 0, none⟩ (.tmp 18) rfl rfl (HLDS.out _ _ HT.out).2.2.2 rfl ?_) | fail)
                      refine (HMV.out _ _ x6 false _ 5 16 _ a2 432000 _ _ HT.out HO.out (.inl ⟨rfl, rfl⟩) (by rw [hs]; decide) (by decide) (rfl) rfl (by rw [hs]; have := HBU.out.2.2.2.2.1; omega) (by omega) (HA.out.2.2.1.1) (by have := HA.out.2.2.1.2; omega)).mono ?_
                      rintro _ u1 ⟨rfl, q1, T1, O1⟩
                      have HT1 := hid T1
                      have HO1 := hid O1
                      clear T1 O1 c2
                      clear HT HO
                      go_wp2_with fail
                      have HR : Hid (∃ t, One q1 x6 bk (stA en (k + 1)) t) := by unfold Hid; rw [hs2]; exact ⟨a2 + 432000, HO1.out⟩
                      go_roundw
                      case rel => exact ⟨k + 1, q1, rfl, by first | go_num | (congr 1; omega) | (simp; omega), hlt, HT1, HR⟩
                      case measure => simp [intOf]; omega
                  · by_cases h2 : (k : Int) = 2
                    · as_aux_lemma =>
                        have hkk : k = 2 := by omega
                        have hs : stA en k = 5 := by rw [hkk]; rfl
                        have hs2 : stA en (k + 1) = 5 := by rw [hkk]; rfl
                        rw [hs] at HO
                        have HK2 := hid hkk
                        have hrs2 : ¬ (2 : Int) = reset := by omega
                        have A3 := HA.out.2.2.2.1
                        go_wp2_with fail
                        rw [show ((2 : Int) == reset) = false from by simp [hrs2]]
                        go_loopw [13, 22] (fun ok j wr => ∃ (m : Nat) (q : Raw), ok = .bool true ∧ j = .int .i64 (m : Int) ∧ m ≤ 20 ∧ Hid (Tab w.heap.size w wr b 1 q R7) ∧ Hid (∃ til, One q x6 bk 5 til)) (fun _ j _ => 20 - (intOf j).toNat)
                        case atStart => exact ⟨0, q, rfl, rfl, by omega, HT, ⟨til, HO.out⟩⟩
                        case round =>
                          clear HT HO h2 hkk
                          obtain ⟨m, qm, rfl, rfl, hm, HT, HO0⟩ := hrel
                          obtain ⟨tm, o0⟩ := HO0.out
                          have HO := hid o0
                          clear o0 HO0
                          have hm0 : (0 : Int) ≤ (m : Int) := by omega
                          by_cases m1 : (m : Int) < data
                          · by_cases m2 : m < 20
                            · have m3 : (m : Int) < 20 := by omega
                              have A31 := A3.1
                              have A32 := A3.2
                              have c3 := HCEL.out _ _ HT.out 3 a3 rfl
                              go_wp2_with (first | (refine wpList_ld 26 ⟨g6, 0, none⟩ (.tmp 6) rfl rfl (HLDS.out _ _ HT.out).1 rfl ?_) | (refine wpList_ld 26 ⟨g7, 0, none⟩ (.tmp 7) rfl rfl (HLDS.out _ _ HT.out).2.1 rfl ?_) | (refine wpList_ld 26 ⟨g17, 0, none⟩ (.tmp 17) rfl rfl (HLDS.out _ _ HT.out).2.2.1 rfl ?_) | (refine wpList_ld 26 ⟨g18, 0, none⟩ (.tmp 18) rfl rfl (HLDS.out _ _ HT.out).2.2.2 rfl ?_) | fail)
                              refine (HMV.out _ _ x6 false 5 5 24 _ _ 432000 _ _ HT.out HO.out (.inl ⟨rfl, rfl⟩) (by decide) (by decide) rfl rfl (by omega) (by omega) (by omega) (by omega)).mono ?_
                              rintro _ u1 ⟨rfl, p1, T1, O1⟩
                              have HT1 := hid T1
                              have HO1 := hid O1
                              clear T1 O1 c3 HT HO
                              have c3 := HCEL.out _ _ HT1.out 3 a3 rfl
                              go_wp2_with (first | (refine wpList_ld 26 ⟨g6, 0, none⟩ (.tmp 6) rfl rfl (HLDS.out _ _ HT1.out).1 rfl ?_) | (refine wpList_ld 26 ⟨g7, 0, none⟩ (.tmp 7) rfl rfl (HLDS.out _ _ HT1.out).2.1 rfl ?_) | (refine wpList_ld 26 ⟨g17, 0, none⟩ (.tmp 17) rfl rfl (HLDS.out _ _ HT1.out).2.2.1 rfl ?_) | (refine wpList_ld 26 ⟨g18, 0, none⟩ (.tmp 18) rfl rfl (HLDS.out _ _ HT1.out).2.2.2 rfl ?_) | fail)
                              refine (HMV.out _ _ bk true 5 5 16 _ a3 432000 _ _ HT1.out HO1.out (.inr ⟨rfl, rfl⟩) (by decide) (by decide) rfl rfl (by omega) (by omega) (by omega) (by omega)).mono ?_
                              rintro _ u2 ⟨rfl, p2, T2, O2⟩
                              have HT2 := hid T2
                              have HO2 : Hid (∃ t, One p2 x6 bk 5 t) := ⟨_, O2⟩
                              clear T2 O2 c3 HT1 HO1 A31 A32
                              go_wp2_with fail
                              go_roundw
                              case rel => exact ⟨m + 1, p2, rfl, by go_num, m2, HT2, HO2⟩
                              case measure => simp [intOf]; omega
                            · have m3 : ¬ (m : Int) < 20 := by omega
                              have HR : Hid (∃ t, One qm x6 bk (stA en (k + 1)) t) := by unfold Hid; rw [hs2]; exact ⟨tm, HO.out⟩
                              go_wp2_with fail
                              go_roundw
                              case rel => exact ⟨k + 1, qm, rfl, by first | go_num | (have := HK2.out; congr 1; omega) | (have := HK2.out; simp; omega), hlt, HT, HR⟩
                              case measure => simp [intOf]; omega
                          · have HR : Hid (∃ t, One qm x6 bk (stA en (k + 1)) t) := by unfold Hid; rw [hs2]; exact ⟨tm, HO.out⟩
                            go_wp2_with fail
                            go_roundw
                            case rel => exact ⟨k + 1, qm, rfl, by first | go_num | (have := HK2.out; congr 1; omega) | (have := HK2.out; simp; omega), hlt, HT, HR⟩
                            case measure => simp [intOf]; omega
                    · by_cases h3 : (k : Int) = 3
                      · as_aux_lemma =>
                          have hkk : k = 3 := by omega
                          have hs : stA en k = 5 := by rw [hkk]; rfl
                          have hs2 : stA en (k + 1) = en := by rw [hkk]; rfl
                          have c4 := HCEL.out _ _ HT.out 4 a4 rfl
                          go_wp2_with (first | (refine wpList_ld 26 ⟨g6, 0, none⟩ (.tmp 6) rfl rfl (HLDS.out _ _ HT.out).1 rfl ?_) | (refine wpList_ld 26 ⟨g7, 0, none⟩ (.tmp 7) rfl rfl (HLDS.out _ _ HT.out).2.1 rfl ?_) | (refine wpList_ld 26 ⟨g17, 0, none⟩ (.tmp 17) rfl rfl (HLDS.out _ _ HT.out).2.2.1 rfl ?_) | (refine wpList_ld 26 ⟨g18, 0, none⟩ (.tmp 18) rfl rfl (HLDS.out _ _ HT.out).2.2.2 rfl ?_) | fail)
                          refine (HMV.out _ _ E0 d0 _ en 17 _ a4 120 _ _ HT.out HO.out HDR.out.1 (by rw [hs]; exact HBU.out.1) (HBU.out.2.2.2.2.2) (by rw [HEN.out]; rfl) rfl (by rw [hs]; have := HBU.out.2.2.2.2.1; omega) (by omega) (HA.out.2.2.2.2.1.1) (by have := HA.out.2.2.2.2.1.2; omega)).mono ?_
                          rintro _ u1 ⟨rfl, q1, T1, O1⟩
                          have HT1 := hid T1
                          have HO1 := hid O1
                          clear T1 O1 c4
                          clear HT HO
                          have c4 := HCEL.out _ _ HT1.out 4 a4 rfl
                          go_wp2_with (first | (refine wpList_ld 26 ⟨g6, 0, none⟩ (.tmp 6) rfl rfl (HLDS.out _ _ HT1.out).1 rfl ?_) | (refine wpList_ld 26 ⟨g7, 0, none⟩ (.tmp 7) rfl rfl (HLDS.out _ _ HT1.out).2.1 rfl ?_) | (refine wpList_ld 26 ⟨g17, 0, none⟩ (.tmp 17) rfl rfl (HLDS.out _ _ HT1.out).2.2.1 rfl ?_) | (refine wpList_ld 26 ⟨g18, 0, none⟩ (.tmp 18) rfl rfl (HLDS.out _ _ HT1.out).2.2.2 rfl ?_) | fail)
                          refine (HMV.out _ _ E1 d1 _ en 16 _ a4 120 _ _ HT1.out HO1.out HDR.out.2 (HBU.out.2.1) (HBU.out.2.2.2.2.2) (by rw [HEN.out]; rfl) rfl HBU.out.2.2.2.2.1 (by omega) (HA.out.2.2.2.2.1.1) (by have := HA.out.2.2.2.2.1.2; omega)).mono ?_
                          rintro _ u2 ⟨rfl, q2, T2, O2⟩
                          have HT2 := hid T2
                          have HO2 := hid O2
                          clear T2 O2 c4
                          clear HT1 HO1
                          go_wp2_with fail
                          have HR : Hid (∃ t, One q2 x6 bk (stA en (k + 1)) t) := by unfold Hid; rw [hs2]; exact ⟨a4 + 120, HO2.out⟩
                          go_roundw
                          case rel => exact ⟨k + 1, q2, rfl, by first | go_num | (congr 1; omega) | (simp; omega), hlt, HT2, HR⟩
                          case measure => simp [intOf]; omega
                      · by_cases h4 : (k : Int) = 4
                        · as_aux_lemma =>
                            have hkk : k = 4 := by omega
                            have hs : stA en k = en := by rw [hkk]; rfl
                            have hs2 : stA en (k + 1) = 7 := by rw [hkk]; rfl
                            have c5 := HCEL.out _ _ HT.out 5 a5 rfl
                            go_wp2_with (first | (refine wpList_ld 26 ⟨g6, 0, none⟩ (.tmp 6) rfl rfl (HLDS.out _ _ HT.out).1 rfl ?_) | (refine wpList_ld 26 ⟨g7, 0, none⟩ (.tmp 7) rfl rfl (HLDS.out _ _ HT.out).2.1 rfl ?_) | (refine wpList_ld 26 ⟨g17, 0, none⟩ (.tmp 17) rfl rfl (HLDS.out _ _ HT.out).2.2.1 rfl ?_) | (refine wpList_ld 26 ⟨g18, 0, none⟩ (.tmp 18) rfl rfl (HLDS.out _ _ HT.out).2.2.2 rfl ?_) | fail)
                            refine (HMV.out _ _ E1 d1 _ 7 17 _ a5 60 _ _ HT.out HO.out HDR.out.2 (by rw [hs]; exact HBU.out.2.2.1) (by decide) (rfl) rfl (by rw [hs]; have := HBU.out.2.2.2.2.1; omega) (by omega) (HA.out.2.2.2.2.2.1.1) (by have := HA.out.2.2.2.2.2.1.2; omega)).mono ?_
                            rintro _ u1 ⟨rfl, q1, T1, O1⟩
                            have HT1 := hid T1
                            have HO1 := hid O1
                            clear T1 O1 c5
                            clear HT HO
                            go_wp2_with fail
                            have HR : Hid (∃ t, One q1 x6 bk (stA en (k + 1)) t) := by unfold Hid; rw [hs2]; exact ⟨a5 + 60, HO1.out⟩
                            go_roundw
                            case rel => exact ⟨k + 1, q1, rfl, by first | go_num | (congr 1; omega) | (simp; omega), hlt, HT1, HR⟩
                            case measure => simp [intOf]; omega
                        · as_aux_lemma =>
                            have hkk : k = 5 := by omega
                            have hs : stA en k = 7 := by rw [hkk]; rfl
                            have hs2 : stA en (k + 1) = 7 := by rw [hkk]; rfl
                            have c6 := HCEL.out _ _ HT.out 6 a6 rfl
                            go_wp2_with (first | (refine wpList_ld 26 ⟨g6, 0, none⟩ (.tmp 6) rfl rfl (HLDS.out _ _ HT.out).1 rfl ?_) | (refine wpList_ld 26 ⟨g7, 0, none⟩ (.tmp 7) rfl rfl (HLDS.out _ _ HT.out).2.1 rfl ?_) | (refine wpList_ld 26 ⟨g17, 0, none⟩ (.tmp 17) rfl rfl (HLDS.out _ _ HT.out).2.2.1 rfl ?_) | (refine wpList_ld 26 ⟨g18, 0, none⟩ (.tmp 18) rfl rfl (HLDS.out _ _ HT.out).2.2.2 rfl ?_) | fail)
                            refine (HMV.out _ _ E0 d0 _ 7 16 _ a6 60 _ _ HT.out HO.out HDR.out.1 (by rw [hs]; exact HBU.out.2.2.2.1) (by decide) (rfl) rfl (by rw [hs]; have := HBU.out.2.2.2.2.1; omega) (by omega) (HA.out.2.2.2.2.2.2.1.1) (by have := HA.out.2.2.2.2.2.2.1.2; omega)).mono ?_
                            rintro _ u1 ⟨rfl, q1, T1, O1⟩
                            have HT1 := hid T1
                            have HO1 := hid O1
                            clear T1 O1 c6
                            clear HT HO
                            go_wp2_with fail
                            have HR : Hid (∃ t, One q1 x6 bk (stA en (k + 1)) t) := by unfold Hid; rw [hs2]; exact ⟨a6 + 60, HO1.out⟩
                            go_roundw
                            case rel => exact ⟨k + 1, q1, rfl, by first | go_num | (congr 1; omega) | (simp; omega), hlt, HT1, HR⟩
                            case measure => simp [intOf]; omega
            · as_aux_lemma =>
                have hlt' : ¬ (k : Int) < 6 := by omega
                have hs : stA en k = 7 := by
                  have : k = 6 := by omega
                  subst this; rfl
                have c7 := HCEL.out _ _ HT.out 7 a7 rfl
                go_wp2_with (first | (refine wpList_ld 26 ⟨g6, 0, none⟩ (.tmp 6) rfl rfl (HLDS.out _ _ HT.out).1 rfl ?_) | (refine wpList_ld 26 ⟨g7, 0, none⟩ (.tmp 7) rfl rfl (HLDS.out _ _ HT.out).2.1 rfl ?_) | (refine wpList_ld 26 ⟨g17, 0, none⟩ (.tmp 17) rfl rfl (HLDS.out _ _ HT.out).2.2.1 rfl ?_) | (refine wpList_ld 26 ⟨g18, 0, none⟩ (.tmp 18) rfl rfl (HLDS.out _ _ HT.out).2.2.2 rfl ?_) | fail)
                refine (HMV.out _ _ x6 false _ 3 2 _ a7 120 _ _ HT.out HO.out (.inl ⟨rfl, rfl⟩) (by rw [hs]; decide) (by decide) rfl rfl (by rw [hs]; omega) (by omega) HA.out.2.2.2.2.2.2.2.1 (by have := HA.out.2.2.2.2.2.2.2.2; omega)).mono ?_
                rintro _ u2 ⟨rfl, q'', T2, O2⟩
                have HT2 := hid T2
                clear T2 O2 c7 HT HO
                go_wp2_with fail
                go_ret
                exact ⟨rfl, e6 ▸ HT2.out.bel⟩))
end Go.Proofs.YthmhiehglcfepaaDoor.Fl
