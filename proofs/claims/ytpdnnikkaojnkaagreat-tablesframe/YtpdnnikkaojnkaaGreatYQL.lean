import Derived.Test.YtpdnnikkaojnkaaGreatZE
import Derived.Test.YtpdnnikkaojnkaaGreatYQD
namespace Go.Proofs.YtpdnnikkaojnkaaGreat.Rt
open Go.Proofs.YtpdnnikkaojnkaaGreat Go.ChangeShapes Go.WideShapes Go.ChangeAt Go.RowKit Go.Maps Tri N
set_option maxHeartbeats 8000000
set_option maxRecDepth 100000
def fR (o : Opv) (v : Vt) : Bool := decide (2 < o.kind) || decide (v.key ≠ (o.r.x, o.r.n))
def fN (o : Opv) (e : Nb) : Bool := decide (o.kind < 3) || decide (4 < o.kind) || decide (e.ip ≠ o.n.ip)
def fF (o : Opv) (e : Fd) : Bool := decide (o.kind < 5) || decide (e.mac ≠ o.f.mac)
theorem filt_yes {α : Type} {f : α -> Bool} {L : List α} {j : Nat} {e : α} (h : L[j]? = some e) (hf : f e = true) : (L.take (j + 1)).filter f = (L.take j).filter f ++ [e] := by
 rw [List.take_add_one, h, Option.toList_some, List.filter_append]
 simp [hf]
theorem filt_no {α : Type} {f : α -> Bool} {L : List α} {j : Nat} {e : α} (h : L[j]? = some e) (hf : f e = false) : (L.take (j + 1)).filter f = (L.take j).filter f := by
 rw [List.take_add_one, h, Option.toList_some, List.filter_append]
 simp [hf]
def FB7 (l : List Value) (cs : Array Value) (T : TypeId) (B : Nat) (i : Nat) (v : Value) (w : World) : Prop :=
 (i = 7 -> ∃ b, v = .slice (some ⟨b, 0, none⟩) 1 1 /\ B <= b /\ w.heap[b]? = some (.cells cs T)) /\ (i ≠ 7 -> l[i]? = some v)
theorem FB7.keeps (l : List Value) (cs : Array Value) (T : TypeId) (B : Nat) : ∀ (i : Nat) (v : Value) (w w' : World), FB7 l cs T B i v w -> Below w.heap.size w w' -> FB7 l cs T B i v w' := fun _ _ _ _ h hb =>
 ⟨fun h9 => by
  obtain ⟨b, h1, h2, h3⟩ := h.1 h9
  exact ⟨b, h1, h2, below_keeps hb h3 (gsl h3)⟩, h.2⟩
theorem FB7.dep {l : List Value} {cs : Array Value} {T : TypeId} {B i : Nat} {a : Act} {t : Operand} {x y : Value} {w : World} (h : a.eval t = x /\ FB7 l cs T B i x w) (h9 : i ≠ 7) (hy : l[i]? = some y) : a.eval t = y := by
 have := h.2.2 h9
 rw [hy] at this
 exact h.1.trans (Option.some.inj this).symm
theorem FB7.is {l : List Value} {cs : Array Value} {T : TypeId} {B i : Nat} {v y : Value} {w : World} (h : FB7 l cs T B i v w) (h9 : i ≠ 7) (hy : l[i]? = some y) : v = y := by
 have := h.2 h9
 rw [hy] at this
 exact (Option.some.inj this).symm
theorem fb7_still {P : Program} {o : Oper} {a : Act} {W w : World} {Q : Exit -> Act -> World -> Prop} {l : List Value} {cs : Array Value} {T : TypeId} {B i : Nat} {t : Tmp} (v : Value) (hr : (execOp a.eval o).run P w = .ok (.value v) w) (ht : o.dst = some t) (h9 : i ≠ 7) (hl : l[i]? = some v) (hW : Below W.heap.size W w) :
  o.wp P a w (fun a' w' => ∃ v', a' = a.put (some t) v' /\ FB7 l cs T B i v' w' /\ Below W.heap.size W w' /\ Below w.heap.size w w') Q :=
 wp_val hr (by rw [ht]; exact ⟨v, rfl, ⟨fun e => absurd e h9, fun _ => hl⟩, hW, bR⟩)
def WoP (w' : World) (A : List Vt) (B : List Nb) (C : List Fd) (o : Opv) (v : Value) : Prop := Gd (A.filter (fR o)) (B.filter (fN o)) (C.filter (fF o)) v w'
theorem without_any (w : World) (x1 y1 z1 : Value) {A : List Vt} {B : List Nb} {C : List Fd} (o : Opv) (hx : Own kR w 0 x1 A) (hy : Own kN w 0 y1 B) (hz : Own kF w 0 z1 C) (hA : A.length <= 256) (hB : B.length <= 256) (hC : C.length <= 256) :
  Calls Tryz.prog 33 #[.agg #[x1, y1, z1], .agg o.cells] w fun e w' => ∃ v, e = .returned v /\ WoP w' A B C o v /\ Below w.heap.size w w' := by
 obtain ⟨a1, n1, c1, rfl, HN1, -, -⟩ := hx.shape
 obtain ⟨a3, n3, c3, rfl, HN3, -, -⟩ := hy.shape
 obtain ⟨a5, n5, c5, rfl, HN5, -, -⟩ := hz.shape
 obtain ⟨w1, HW1⟩ : ∃ w1, Hid (w1 = (w.alloc (.cells #[.slice a1 n1 c1, .slice a3 n3 c3, .slice a5 n5 c5] 51)).alloc (.cells o.cells 46)) := ⟨_, rfl⟩
 obtain ⟨r0, r1, hb1⟩ : w1.heap[w.heap.size]? = some (.cells #[.slice a1 n1 c1, .slice a3 n3 c3, .slice a5 n5 c5] 51) /\ w1.heap[w.heap.size + 1]? = some (.cells o.cells 46) /\ Below w.heap.size w w1 := by rw [HW1.out]; exact two_bx w _ _
 have HR0 : Hid (∀ u, Below w1.heap.size w1 u -> u.heap[w.heap.size]? = some (.cells #[.slice a1 n1 c1, .slice a3 n3 c3, .slice a5 n5 c5] 51)) := fun u hu => below_keeps hu r0 (gsl r0)
 have HRO : Hid (∀ u, Below w1.heap.size w1 u -> u.heap[w.heap.size + 1]? = some (.cells o.cells 46)) := fun u hu => below_keeps hu r1 (gsl r1)
 have HB1 := hid hb1
 have HX := hid (hx.below hb1)
 have HY := hid (hy.below hb1)
 have HZ := hid (hz.below hb1)
 have l1 : n1 <= 256 := by rw [HN1.out]; exact hA
 have l3 : n3 <= 256 := by rw [HN3.out]; exact hB
 have l5 : n5 <= 256 := by rw [HN5.out]; exact hC
 unfold Opv.cells at HW1
 unfold Opv.cells
 clear hx hy hz hA hB hC hb1 r0 r1
 go_enter Tryz.func33, Tryz.ntmps33
 go_upto_region 1 with (first | (rw [<- HW1.out]; refine wpList_alB rfl 51 tbZ rfl alloc_tb ?_; intro wa hba hsa hra) | fail)
 go_upto_region 2 with (first | (refine wpList_alB rfl 51 tbZ rfl alloc_tb ?_; intro w2 hb2 hs2 hr2) | fail)
 have HT0 : Hid (Tb w1 w2 (.slice none 0 0) (.slice none 0 0) (.slice none 0 0) [] [] []) := ⟨hba.trans (hb2.mono hba.size), below_keeps hb2 hra (by omega), by rw [<- hsa]; exact hr2, Own.nil _ _, Own.nil _ _, Own.nil _ _⟩
 rw [hsa]
 clear hba hsa hra hb2 hs2 hr2 HW1
 go_upto_region 3 with fail
 go_loopw [6] (fun i wr => ∃ (j : Nat) (x : Value), i = .int .i64 (j : Int) /\ j <= n1 /\ Hid (Tb w1 wr x (.slice none 0 0) (.slice none 0 0) ((A.take j).filter (fR o)) [] [])) (fun i _ => n1 - (intOf i).toNat)
 case atStart => exact ⟨0, (.slice none 0 0), rfl, Nat.zero_le _, HT0⟩
 case round =>
 obtain ⟨j, x, rfl, hj, HT⟩ := hrel
 have c00 : wr.cell? ⟨w.heap.size, 0, none⟩ = some (.slice a1 n1 c1) := by rw [cell_of_row _ _ _ _ _ _ (HR0.out wr HT.out.bel)]; rfl
 by_cases hlt : j < n1
 ·have hlt' : (j : Int) < (n1 : Int) := int_lt hlt
  have hj0 : decide ((j : Int) < 0) = false := by simp
  have hj1 : (0 : Int) <= (j : Int) := by omega
  obtain ⟨p, HP⟩ : ∃ p, Hid (A[j]? = some p) := ⟨_, hid (List.getElem?_eq_getElem (by have := HN1.out; omega))⟩
  obtain ⟨g, hg0, hg, hcl⟩ := HX.out.at HP.out
  cases hg0
  have HG := hid hg
  have HCL := hid hcl
  have hu : ∀ t2 : Beh wr, Below w1.heap.size w1 t2.wd := fun t2 => HT.out.bel.trans (t2.ok.mono HT.out.bel.size)
  have kc : ∀ t2 : Beh wr, t2.wd.cell? ⟨w.heap.size, 0, none⟩ = some (.slice (some ⟨g, 0, none⟩) n1 c1) := fun t2 => by rw [cell_of_row _ _ _ _ _ _ (HR0.out t2.wd (hu t2))]; rfl
  have ko : ∀ t2 : Beh wr, t2.wd.cell? ⟨w.heap.size + 1, 0, none⟩ = some (.int .i64 o.kind) := fun t2 => by rw [cell_of_row _ _ _ _ _ _ (HRO.out t2.wd (hu t2))]; rfl
  have k0 : ∀ t2 : Beh wr, t2.wd.cell? ⟨g, j * 4, none⟩ = some (.int .u32 (p.x : Int)) := fun t2 => ((HCL.out t2.wd ((hu t2).block g HG.out)).1 0 (by decide)).1
  have k1 : ∀ t2 : Beh wr, t2.wd.cell? ⟨g, j * 4 + 1, none⟩ = some (.int .i64 p.n) := fun t2 => ((HCL.out t2.wd ((hu t2).block g HG.out)).1 1 (by decide)).1
  have m1 : ∀ t2 : Beh wr, t2.wd.cell? ⟨w.heap.size + 1, 1, none⟩ = some (.int .u32 (o.r.x : Int)) := fun t2 => by rw [cell_of_row _ _ _ _ _ _ (HRO.out t2.wd (hu t2))]; rfl
  have m2 : ∀ t2 : Beh wr, t2.wd.cell? ⟨w.heap.size + 1, 2, none⟩ = some (.int .i64 o.r.n) := fun t2 => by rw [cell_of_row _ _ _ _ _ _ (HRO.out t2.wd (hu t2))]; rfl
  clear hcl hg hu
  by_cases hk2 : 2 < o.kind
  focus
   have HF : Hid (fR o p = true) := by unfold Hid fR; rw [decide_eq_true hk2]; rfl
   go_upto_region 5 with fail
   refine wp_region_beh (by kernel_rfl) (by kernel_rfl) ?_
   repeat (go_big_quiet_step (fail))
   refine wpQuiet_nil ?_
   rintro _ ⟨t, rfl⟩
   have HTt := hid (HT.out.more t.ok)
   clear kc ko k0 k1 m1 m2
  rotate_left
  by_cases hq : p.key = (o.r.x, o.r.n)
  focus
   have HF : Hid (fR o p = false) := by unfold Hid fR; rw [decide_eq_false hk2, decide_eq_false (fun h => h hq)]; rfl
   have heq := eqP_t o.r.x o.r.n
   have e1 : p.x = o.r.x := congrArg Prod.fst hq
   have e2 : p.n = o.r.n := congrArg Prod.snd hq
   rw [e1] at k0
   rw [e2] at k1
   clear e1 e2 hq
   go_upto_region 5 with fail
   refine wp_region_beh (by kernel_rfl) (by kernel_rfl) ?_
   repeat (go_big_quiet_step (fail))
   refine wpQuiet_nil ?_
   rintro _ ⟨t, rfl⟩
   have HTt := hid (HT.out.more t.ok)
   clear kc ko k0 k1 m1 m2 heq
   have HT6 : Hid (Tb w1 t.wd x (.slice none 0 0) (.slice none 0 0) ((A.take (j + 1)).filter (fR o)) [] []) := by unfold Hid; rw [filt_no HP.out HF.out]; exact HTt.out
   clear HTt HF
   go_wp2_with fail
   go_roundw
   case rel => exact ⟨j + 1, _, by go_num, hlt, HT6⟩
   case measure => simp [intOf]; omega
  focus
   have HF : Hid (fR o p = true) := by unfold Hid fR; rw [decide_eq_true hq, Bool.or_true]
   have heq := eqP_f (x := p.x) (n := p.n) hq
   clear hq
   go_upto_region 5 with fail
   refine wp_region_beh (by kernel_rfl) (by kernel_rfl) ?_
   repeat (go_big_quiet_step (fail))
   refine wpQuiet_nil ?_
   rintro _ ⟨t, rfl⟩
   have HTt := hid (HT.out.more t.ok)
   clear kc ko k0 k1 m1 m2 heq
  all_goals
   obtain ⟨ax, nx, cx, rfl, HNX, -, -⟩ := HTt.out.r.shape
   generalize t.wd = u at *
   clear c00
   go_upto_region 6 with fail
   refine wp_region_mono' 8 (fun i => ([31, 32, 33, 34, 35, 36, 37, 38] : List Tmp).getD i 0) (FB7 [.pointer (some ⟨w1.heap.size + 1, 0, none⟩), .slice ax nx cx, .pointer (some ⟨w.heap.size, 0, none⟩), .slice (some ⟨g, 0, none⟩) n1 c1, .int .i64 (j : Int), .pointer (some ⟨g, j * 4, none⟩), .agg p.cells] p.cells 38 u.heap.size) (by kernel_rfl) (by kernel_rfl) (FB7.keeps _ _ _ _) ?_ ?_
   ·simp only [List.take_succ_cons, List.take_zero, stepsOk]
    refine ⟨?_, ?_, ?_, ?_, ?_, ?_, ?_, ?_, trivial⟩
    ·intro a y vs hb hold hdep
     exact fb7_still (.pointer (some ⟨w1.heap.size + 1, 0, none⟩)) (ex_field _ ⟨w1.heap.size + 1, 0, none⟩ (.tmp 5) 0 _ rfl (hold 5 (dlM (L := [31, 32, 33, 34, 35, 36, 37, 38]) (by decide))) (by kernel_rfl)) rfl (by decide) rfl hb
    ·intro a y vs hb hold hdep
     have hc := (HTt.out.more hb).cells.1
     exact fb7_still (.slice ax nx cx) (ex_load _ ⟨w1.heap.size + 1, 0, none⟩ (.tmp 31) _ rfl (FB7.dep (hdep ⟨0, .data⟩ (by simp) rfl (by decide)) (by decide) rfl) (by simp [go_sem, hc])) rfl (by decide) rfl hb
    ·intro a y vs hb hold hdep
     exact fb7_still (.pointer (some ⟨w.heap.size, 0, none⟩)) (ex_field _ ⟨w.heap.size, 0, none⟩ (.tmp 2) 0 _ rfl (hold 2 (dlM (L := [31, 32, 33, 34, 35, 36, 37, 38]) (by decide))) (by kernel_rfl)) rfl (by decide) rfl hb
    ·intro a y vs hb hold hdep
     have hc : y.cell? ⟨w.heap.size, 0, none⟩ = some (.slice (some ⟨g, 0, none⟩) n1 c1) := by rw [cell_of_row _ _ _ _ _ _ (HR0.out y (HTt.out.more hb).bel)]; rfl
     exact fb7_still (.slice (some ⟨g, 0, none⟩) n1 c1) (ex_load _ ⟨w.heap.size, 0, none⟩ (.tmp 33) _ rfl (FB7.dep (hdep ⟨2, .data⟩ (by simp) rfl (by decide)) (by decide) rfl) (by simp [go_sem, hc])) rfl (by decide) rfl hb
    ·intro a y vs hb hold hdep
     exact fb7_still (.int .i64 (j : Int)) (ex_move (.tmp 6) _ rfl (hold 6 (dlM (L := [31, 32, 33, 34, 35, 36, 37, 38]) (by decide)))) rfl (by decide) rfl hb
    ·intro a y vs hb hold hdep
     exact fb7_still (.pointer (some ⟨g, j * 4, none⟩)) (ex_index _ (.tmp 34) (.tmp 35) _ _ _ rfl (FB7.dep (hdep ⟨3, .data⟩ (by simp) rfl (by decide)) (by decide) rfl) (FB7.dep (hdep ⟨4, .data⟩ (by simp) rfl (by decide)) (by decide) rfl) (idxR hlt y)) rfl (by decide) rfl hb
    ·intro a y vs hb hold hdep
     exact fb7_still (.agg p.cells) (ex_load _ ⟨g, j * 4, none⟩ (.tmp 36) _ rfl (FB7.dep (hdep ⟨5, .data⟩ (by simp) rfl (by decide)) (by decide) rfl) (HCL.out y ((HTt.out.more hb).bel.block g HG.out)).2) rfl (by decide) rfl hb
    ·intro a y vs hb hold hdep
     have e8 : a.eval (.tmp 37) = .agg p.cells := (FB7.dep (hdep ⟨6, .data⟩ (by simp) rfl (by decide)) (by decide) rfl)
     have hb' : Below y.heap.size y (y.alloc (.cells p.cells 38)) := bR.alloc nL _
     exact wp_val (ex_bsE 47 1 #[(0, .tmp 37)] #[(0, .agg p.cells)] _ rfl (by simp only [List.map_toArray, List.map_cons, List.map_nil, e8]) (build1R p y)) ⟨_, rfl, ⟨fun _ => ⟨y.heap.size, rfl, hb.size, heap_alloc_new y _⟩, fun h => absurd rfl h⟩, hb.trans (hb'.mono hb.size), hb'⟩
   intro vs y hb hF
   have e0 : vs 0 = .pointer (some ⟨w1.heap.size + 1, 0, none⟩) := (hF 0 (by decide)).is (by decide) rfl
   have e1 : vs 1 = .slice ax nx cx := (hF 1 (by decide)).is (by decide) rfl
   have e2 : vs 2 = .pointer (some ⟨w.heap.size, 0, none⟩) := (hF 2 (by decide)).is (by decide) rfl
   have e3 : vs 3 = .slice (some ⟨g, 0, none⟩) n1 c1 := (hF 3 (by decide)).is (by decide) rfl
   have e4 : vs 4 = .int .i64 (j : Int) := (hF 4 (by decide)).is (by decide) rfl
   have e5 : vs 5 = .pointer (some ⟨g, j * 4, none⟩) := (hF 5 (by decide)).is (by decide) rfl
   have e6 : vs 6 = .agg p.cells := (hF 6 (by decide)).is (by decide) rfl
   obtain ⟨b7, e7, -, hr7⟩ := (hF 7 (by decide)).1 rfl
   clear hF
   simp only [List.drop_succ_cons, List.drop_zero, puts, List.range, List.range.loop, List.foldr, if_true, List.getD_cons_zero, List.getD_cons_succ, e0, e1, e2, e3, e4, e5, e6, e7, Act.put, List.setIfInBounds_toArray, List.set_cons_zero, List.set_cons_succ]
   clear e0 e1 e2 e3 e4 e5 e6 e7
   have HTY := hid (HTt.out.more hb)
   have hfl : ((A.take j).filter (fR o)).length <= 256 := Nat.le_trans (List.length_filter_le _ _) (by rw [List.length_take]; have := HN1.out; omega)
   obtain ⟨v', w5, hap, ho5, hg5, -⟩ := append_one (K := kR) 47 p b7 HTY.out.r hr7 HTY.out.bel.size (by omega)
   obtain ⟨g', n', c', rfl, -⟩ := own_some ho5
   have hk5 : Me.Keeps (fun k => Value.ownBlock (.slice ax nx cx) = some k) y w5 := Me.Keeps.grown hg5 fun _ e => e
   have HAP : Hid ((Builtin.append_ #[47, 47] 47 #[.slice ax nx cx, .slice (some ⟨b7, 0, none⟩) 1 1]).run Tryz.prog y = .ok (.slice (some ⟨g', 0, none⟩) n' c') w5) := hap
   obtain ⟨w6, HW6⟩ : ∃ w6, Hid (w6 = w5.setCell ⟨w1.heap.size + 1, 0, none⟩ (.slice (some ⟨g', 0, none⟩) n' c')) := ⟨_, rfl⟩
   have HT6 : Hid (Tb w1 w6 (.slice (some ⟨g', 0, none⟩) n' c') (.slice none 0 0) (.slice none 0 0) ((A.take (j + 1)).filter (fR o)) [] []) := by
    unfold Hid
    rw [HW6.out, filt_yes HP.out HF.out]
    exact HTY.out.setR hk5 ho5
   have r5 : w5.heap[w1.heap.size + 1]? = _ := (hk5.block _ HTY.out.lt fun e => (HTY.out.apart.1 _ e).2.1 rfl).trans HTY.out.row
   obtain ⟨v5, m5⟩ : ∃ v, w5.cell? ⟨w1.heap.size + 1, 0, none⟩ = some v := ⟨_, crw r5 rfl⟩
   have m6 : w5.frozen? ⟨w1.heap.size + 1, 0, none⟩ = false := frozen_of_row _ _ _ _ _ r5
   clear hap ho5 hg5 hk5 r5 hb hr7 HTY HTt HCL HG hfl HT
   go_upto_region 4 with (first | (at_builtin; refine wpList_append_run _ rfl (.tmp 32) (.tmp 38) 47 47 rfl _ _ rfl rfl HAP.out ?_) | fail)
   rw [<- HW6.out]
   clear m5 m6 HAP HW6
   go_wp2_with fail
   go_roundw
   case rel => exact ⟨j + 1, _, by go_num, hlt, HT6⟩
   case measure => simp [intOf]; omega
 ·have hlt' : ¬ (j : Int) < (n1 : Int) := int_nlt hlt
  have HTk : Hid (Tb w1 wr x (.slice none 0 0) (.slice none 0 0) (A.filter (fR o)) [] []) := by have := HT.out; rw [List.take_of_length_le (by have := HN1.out; omega)] at this; exact this
  have c01 : wr.cell? ⟨w.heap.size, 1, none⟩ = some (.slice a3 n3 c3) := by rw [cell_of_row _ _ _ _ _ _ (HR0.out wr HT.out.bel)]; rfl
  generalize x = vR at HTk HT
  go_upto_region 8 with fail
  go_loopw [7] (fun i wr => ∃ (j : Nat) (x : Value), i = .int .i64 (j : Int) /\ j <= n3 /\ Hid (Tb w1 wr vR x (.slice none 0 0) (A.filter (fR o)) ((B.take j).filter (fN o)) [])) (fun i _ => n3 - (intOf i).toNat)
  case atStart => exact ⟨0, (.slice none 0 0), rfl, Nat.zero_le _, HTk⟩
  case round =>
  obtain ⟨j, x, rfl, hj, HT⟩ := hrel
  have c00 : wr.cell? ⟨w.heap.size, 1, none⟩ = some (.slice a3 n3 c3) := by rw [cell_of_row _ _ _ _ _ _ (HR0.out wr HT.out.bel)]; rfl
  by_cases hlt : j < n3
  ·have hlt' : (j : Int) < (n3 : Int) := int_lt hlt
   have hj0 : decide ((j : Int) < 0) = false := by simp
   have hj1 : (0 : Int) <= (j : Int) := by omega
   obtain ⟨p, HP⟩ : ∃ p, Hid (B[j]? = some p) := ⟨_, hid (List.getElem?_eq_getElem (by have := HN3.out; omega))⟩
   obtain ⟨g, hg0, hg, hcl⟩ := HY.out.at HP.out
   cases hg0
   have HG := hid hg
   have HCL := hid hcl
   have hu : ∀ t2 : Beh wr, Below w1.heap.size w1 t2.wd := fun t2 => HT.out.bel.trans (t2.ok.mono HT.out.bel.size)
   have kc : ∀ t2 : Beh wr, t2.wd.cell? ⟨w.heap.size, 1, none⟩ = some (.slice (some ⟨g, 0, none⟩) n3 c3) := fun t2 => by rw [cell_of_row _ _ _ _ _ _ (HR0.out t2.wd (hu t2))]; rfl
   have ko : ∀ t2 : Beh wr, t2.wd.cell? ⟨w.heap.size + 1, 0, none⟩ = some (.int .i64 o.kind) := fun t2 => by rw [cell_of_row _ _ _ _ _ _ (HRO.out t2.wd (hu t2))]; rfl
   have k0 : ∀ t2 : Beh wr, t2.wd.cell? ⟨g, j * 7, none⟩ = some (.int .u32 (p.ip : Int)) := fun t2 => ((HCL.out t2.wd ((hu t2).block g HG.out)).1 0 (by decide)).1
   have m5 : ∀ t2 : Beh wr, t2.wd.cell? ⟨w.heap.size + 1, 5, none⟩ = some (.int .u32 (o.n.ip : Int)) := fun t2 => by rw [cell_of_row _ _ _ _ _ _ (HRO.out t2.wd (hu t2))]; rfl
   clear hcl hg hu
   by_cases hk3 : o.kind < 3
   focus
    have HF : Hid (fN o p = true) := by unfold Hid fN; rw [decide_eq_true hk3]; rfl
    go_upto_region 10 with fail
    refine wp_region_beh (by kernel_rfl) (by kernel_rfl) ?_
    repeat (go_big_quiet_step (fail))
    refine wpQuiet_nil ?_
    rintro _ ⟨t, rfl⟩
    have HTt := hid (HT.out.more t.ok)
    clear kc ko k0 m5
   rotate_left
   by_cases hk4 : 4 < o.kind
   focus
    have HF : Hid (fN o p = true) := by unfold Hid fN; rw [decide_eq_true hk4, Bool.or_true]; rfl
    go_upto_region 10 with fail
    refine wp_region_beh (by kernel_rfl) (by kernel_rfl) ?_
    repeat (go_big_quiet_step (fail))
    refine wpQuiet_nil ?_
    rintro _ ⟨t, rfl⟩
    have HTt := hid (HT.out.more t.ok)
    clear kc ko k0 m5
   rotate_left
   by_cases hq : p.ip = o.n.ip
   focus
    have HF : Hid (fN o p = false) := by unfold Hid fN; rw [decide_eq_false hk3, decide_eq_false hk4, decide_eq_false (fun h => h hq)]; rfl
    rw [hq] at k0
    clear hq
    go_upto_region 10 with fail
    refine wp_region_beh (by kernel_rfl) (by kernel_rfl) ?_
    repeat (go_big_quiet_step (fail))
    refine wpQuiet_nil ?_
    rintro _ ⟨t, rfl⟩
    have HTt := hid (HT.out.more t.ok)
    clear kc ko k0 m5
    have HT6 : Hid (Tb w1 t.wd vR x (.slice none 0 0) (A.filter (fR o)) ((B.take (j + 1)).filter (fN o)) []) := by unfold Hid; rw [filt_no HP.out HF.out]; exact HTt.out
    clear HTt HF
    go_wp2_with fail
    go_roundw
    case rel => exact ⟨j + 1, _, by go_num, hlt, HT6⟩
    case measure => simp [intOf]; omega
   focus
    have HF : Hid (fN o p = true) := by unfold Hid fN; rw [decide_eq_true hq, Bool.or_true]
    have hq1 : ¬ (p.ip : Int) = (o.n.ip : Int) := by omega
    have hq2 : ((p.ip : Int) == (o.n.ip : Int)) = false := by simpa using hq1
    clear hq
    go_upto_region 10 with fail
    refine wp_region_beh (by kernel_rfl) (by kernel_rfl) ?_
    repeat (go_big_quiet_step (fail))
    refine wpQuiet_nil ?_
    rintro _ ⟨t, rfl⟩
    have HTt := hid (HT.out.more t.ok)
    clear kc ko k0 m5
   all_goals
    obtain ⟨ax, nx, cx, rfl, HNX, -, -⟩ := HTt.out.n.shape
    generalize t.wd = u at *
    clear c00
    go_upto_region 11 with fail
    refine wp_region_mono' 8 (fun i => ([68, 69, 70, 71, 72, 73, 74, 75] : List Tmp).getD i 0) (FB7 [.pointer (some ⟨w1.heap.size + 1, 1, none⟩), .slice ax nx cx, .pointer (some ⟨w.heap.size, 1, none⟩), .slice (some ⟨g, 0, none⟩) n3 c3, .int .i64 (j : Int), .pointer (some ⟨g, j * 7, none⟩), .agg p.cells] p.cells 42 u.heap.size) (by kernel_rfl) (by kernel_rfl) (FB7.keeps _ _ _ _) ?_ ?_
    ·simp only [List.take_succ_cons, List.take_zero, stepsOk]
     refine ⟨?_, ?_, ?_, ?_, ?_, ?_, ?_, ?_, trivial⟩
     ·intro a y vs hb hold hdep
      exact fb7_still (.pointer (some ⟨w1.heap.size + 1, 1, none⟩)) (ex_field _ ⟨w1.heap.size + 1, 0, none⟩ (.tmp 5) 1 _ rfl (hold 5 (dlM (L := [68, 69, 70, 71, 72, 73, 74, 75]) (by decide))) (by kernel_rfl)) rfl (by decide) rfl hb
     ·intro a y vs hb hold hdep
      have hc := (HTt.out.more hb).cells.2.1
      exact fb7_still (.slice ax nx cx) (ex_load _ ⟨w1.heap.size + 1, 1, none⟩ (.tmp 68) _ rfl (FB7.dep (hdep ⟨0, .data⟩ (by simp) rfl (by decide)) (by decide) rfl) (by simp [go_sem, hc])) rfl (by decide) rfl hb
     ·intro a y vs hb hold hdep
      exact fb7_still (.pointer (some ⟨w.heap.size, 1, none⟩)) (ex_field _ ⟨w.heap.size, 0, none⟩ (.tmp 2) 1 _ rfl (hold 2 (dlM (L := [68, 69, 70, 71, 72, 73, 74, 75]) (by decide))) (by kernel_rfl)) rfl (by decide) rfl hb
     ·intro a y vs hb hold hdep
      have hc : y.cell? ⟨w.heap.size, 1, none⟩ = some (.slice (some ⟨g, 0, none⟩) n3 c3) := by rw [cell_of_row _ _ _ _ _ _ (HR0.out y (HTt.out.more hb).bel)]; rfl
      exact fb7_still (.slice (some ⟨g, 0, none⟩) n3 c3) (ex_load _ ⟨w.heap.size, 1, none⟩ (.tmp 70) _ rfl (FB7.dep (hdep ⟨2, .data⟩ (by simp) rfl (by decide)) (by decide) rfl) (by simp [go_sem, hc])) rfl (by decide) rfl hb
     ·intro a y vs hb hold hdep
      exact fb7_still (.int .i64 (j : Int)) (ex_move (.tmp 7) _ rfl (hold 7 (dlM (L := [68, 69, 70, 71, 72, 73, 74, 75]) (by decide)))) rfl (by decide) rfl hb
     ·intro a y vs hb hold hdep
      exact fb7_still (.pointer (some ⟨g, j * 7, none⟩)) (ex_index _ (.tmp 71) (.tmp 72) _ _ _ rfl (FB7.dep (hdep ⟨3, .data⟩ (by simp) rfl (by decide)) (by decide) rfl) (FB7.dep (hdep ⟨4, .data⟩ (by simp) rfl (by decide)) (by decide) rfl) (idxN hlt y)) rfl (by decide) rfl hb
     ·intro a y vs hb hold hdep
      exact fb7_still (.agg p.cells) (ex_load _ ⟨g, j * 7, none⟩ (.tmp 73) _ rfl (FB7.dep (hdep ⟨5, .data⟩ (by simp) rfl (by decide)) (by decide) rfl) (HCL.out y ((HTt.out.more hb).bel.block g HG.out)).2) rfl (by decide) rfl hb
     ·intro a y vs hb hold hdep
      have e8 : a.eval (.tmp 74) = .agg p.cells := (FB7.dep (hdep ⟨6, .data⟩ (by simp) rfl (by decide)) (by decide) rfl)
      have hb' : Below y.heap.size y (y.alloc (.cells p.cells 42)) := bR.alloc nL _
      exact wp_val (ex_bsE 48 1 #[(0, .tmp 74)] #[(0, .agg p.cells)] _ rfl (by simp only [List.map_toArray, List.map_cons, List.map_nil, e8]) (build1N p y)) ⟨_, rfl, ⟨fun _ => ⟨y.heap.size, rfl, hb.size, heap_alloc_new y _⟩, fun h => absurd rfl h⟩, hb.trans (hb'.mono hb.size), hb'⟩
    intro vs y hb hF
    have e0 : vs 0 = .pointer (some ⟨w1.heap.size + 1, 1, none⟩) := (hF 0 (by decide)).is (by decide) rfl
    have e1 : vs 1 = .slice ax nx cx := (hF 1 (by decide)).is (by decide) rfl
    have e2 : vs 2 = .pointer (some ⟨w.heap.size, 1, none⟩) := (hF 2 (by decide)).is (by decide) rfl
    have e3 : vs 3 = .slice (some ⟨g, 0, none⟩) n3 c3 := (hF 3 (by decide)).is (by decide) rfl
    have e4 : vs 4 = .int .i64 (j : Int) := (hF 4 (by decide)).is (by decide) rfl
    have e5 : vs 5 = .pointer (some ⟨g, j * 7, none⟩) := (hF 5 (by decide)).is (by decide) rfl
    have e6 : vs 6 = .agg p.cells := (hF 6 (by decide)).is (by decide) rfl
    obtain ⟨b7, e7, -, hr7⟩ := (hF 7 (by decide)).1 rfl
    clear hF
    simp only [List.drop_succ_cons, List.drop_zero, puts, List.range, List.range.loop, List.foldr, if_true, List.getD_cons_zero, List.getD_cons_succ, e0, e1, e2, e3, e4, e5, e6, e7, Act.put, List.setIfInBounds_toArray, List.set_cons_zero, List.set_cons_succ]
    clear e0 e1 e2 e3 e4 e5 e6 e7
    have HTY := hid (HTt.out.more hb)
    have hfl : ((B.take j).filter (fN o)).length <= 256 := Nat.le_trans (List.length_filter_le _ _) (by rw [List.length_take]; have := HN3.out; omega)
    obtain ⟨v', w5, hap, ho5, hg5, -⟩ := append_one (K := kN) 48 p b7 HTY.out.n hr7 HTY.out.bel.size (by omega)
    obtain ⟨g', n', c', rfl, -⟩ := own_some ho5
    have hk5 : Me.Keeps (fun k => Value.ownBlock (.slice ax nx cx) = some k) y w5 := Me.Keeps.grown hg5 fun _ e => e
    have HAP : Hid ((Builtin.append_ #[48, 48] 48 #[.slice ax nx cx, .slice (some ⟨b7, 0, none⟩) 1 1]).run Tryz.prog y = .ok (.slice (some ⟨g', 0, none⟩) n' c') w5) := hap
    obtain ⟨w6, HW6⟩ : ∃ w6, Hid (w6 = w5.setCell ⟨w1.heap.size + 1, 1, none⟩ (.slice (some ⟨g', 0, none⟩) n' c')) := ⟨_, rfl⟩
    have HT6 : Hid (Tb w1 w6 vR (.slice (some ⟨g', 0, none⟩) n' c') (.slice none 0 0) (A.filter (fR o)) ((B.take (j + 1)).filter (fN o)) []) := by
     unfold Hid
     rw [HW6.out, filt_yes HP.out HF.out]
     exact HTY.out.setN hk5 ho5
    have r5 : w5.heap[w1.heap.size + 1]? = _ := (hk5.block _ HTY.out.lt fun e => (HTY.out.apart.2.1 _ e).2.1 rfl).trans HTY.out.row
    obtain ⟨v5, m5⟩ : ∃ v, w5.cell? ⟨w1.heap.size + 1, 1, none⟩ = some v := ⟨_, crw r5 rfl⟩
    have m6 : w5.frozen? ⟨w1.heap.size + 1, 1, none⟩ = false := frozen_of_row _ _ _ _ _ r5
    clear hap ho5 hg5 hk5 r5 hb hr7 HTY HTt HCL HG hfl HT
    go_upto_region 9 with (first | (at_builtin; refine wpList_append_run _ rfl (.tmp 69) (.tmp 75) 48 48 rfl _ _ rfl rfl HAP.out ?_) | fail)
    rw [<- HW6.out]
    clear m5 m6 HAP HW6
    go_wp2_with fail
    go_roundw
    case rel => exact ⟨j + 1, _, by go_num, hlt, HT6⟩
    case measure => simp [intOf]; omega
  ·have hlt' : ¬ (j : Int) < (n3 : Int) := int_nlt hlt
   have HTk : Hid (Tb w1 wr vR x (.slice none 0 0) (A.filter (fR o)) (B.filter (fN o)) []) := by have := HT.out; rw [List.take_of_length_le (by have := HN3.out; omega)] at this; exact this
   have c01 : wr.cell? ⟨w.heap.size, 2, none⟩ = some (.slice a5 n5 c5) := by rw [cell_of_row _ _ _ _ _ _ (HR0.out wr HT.out.bel)]; rfl
   generalize x = vN at HTk HT
   go_upto_region 13 with fail
   go_loopw [8] (fun i wr => ∃ (j : Nat) (x : Value), i = .int .i64 (j : Int) /\ j <= n5 /\ Hid (Tb w1 wr vR vN x (A.filter (fR o)) (B.filter (fN o)) ((C.take j).filter (fF o)))) (fun i _ => n5 - (intOf i).toNat)
   case atStart => exact ⟨0, (.slice none 0 0), rfl, Nat.zero_le _, HTk⟩
   case round =>
   obtain ⟨j, x, rfl, hj, HT⟩ := hrel
   have c00 : wr.cell? ⟨w.heap.size, 2, none⟩ = some (.slice a5 n5 c5) := by rw [cell_of_row _ _ _ _ _ _ (HR0.out wr HT.out.bel)]; rfl
   by_cases hlt : j < n5
   ·have hlt' : (j : Int) < (n5 : Int) := int_lt hlt
    have hj0 : decide ((j : Int) < 0) = false := by simp
    have hj1 : (0 : Int) <= (j : Int) := by omega
    obtain ⟨p, HP⟩ : ∃ p, Hid (C[j]? = some p) := ⟨_, hid (List.getElem?_eq_getElem (by have := HN5.out; omega))⟩
    obtain ⟨g, hg0, hg, hcl⟩ := HZ.out.at HP.out
    cases hg0
    have HG := hid hg
    have HCL := hid hcl
    have hu : ∀ t2 : Beh wr, Below w1.heap.size w1 t2.wd := fun t2 => HT.out.bel.trans (t2.ok.mono HT.out.bel.size)
    have kc : ∀ t2 : Beh wr, t2.wd.cell? ⟨w.heap.size, 2, none⟩ = some (.slice (some ⟨g, 0, none⟩) n5 c5) := fun t2 => by rw [cell_of_row _ _ _ _ _ _ (HR0.out t2.wd (hu t2))]; rfl
    have ko : ∀ t2 : Beh wr, t2.wd.cell? ⟨w.heap.size + 1, 0, none⟩ = some (.int .i64 o.kind) := fun t2 => by rw [cell_of_row _ _ _ _ _ _ (HRO.out t2.wd (hu t2))]; rfl
    have k0 : ∀ t2 : Beh wr, t2.wd.cell? ⟨g, j * 7, none⟩ = some (.int .u8 (p.mac.b0 : Int)) := fun t2 => ((HCL.out t2.wd ((hu t2).block g HG.out)).1 0 (by decide)).1
    have k1 : ∀ t2 : Beh wr, t2.wd.cell? ⟨g, j * 7 + 1, none⟩ = some (.int .u8 (p.mac.b1 : Int)) := fun t2 => ((HCL.out t2.wd ((hu t2).block g HG.out)).1 1 (by decide)).1
    have k2 : ∀ t2 : Beh wr, t2.wd.cell? ⟨g, j * 7 + 2, none⟩ = some (.int .u8 (p.mac.b2 : Int)) := fun t2 => ((HCL.out t2.wd ((hu t2).block g HG.out)).1 2 (by decide)).1
    have k3 : ∀ t2 : Beh wr, t2.wd.cell? ⟨g, j * 7 + 3, none⟩ = some (.int .u8 (p.mac.b3 : Int)) := fun t2 => ((HCL.out t2.wd ((hu t2).block g HG.out)).1 3 (by decide)).1
    have k4 : ∀ t2 : Beh wr, t2.wd.cell? ⟨g, j * 7 + 4, none⟩ = some (.int .u8 (p.mac.b4 : Int)) := fun t2 => ((HCL.out t2.wd ((hu t2).block g HG.out)).1 4 (by decide)).1
    have k5 : ∀ t2 : Beh wr, t2.wd.cell? ⟨g, j * 7 + 5, none⟩ = some (.int .u8 (p.mac.b5 : Int)) := fun t2 => ((HCL.out t2.wd ((hu t2).block g HG.out)).1 5 (by decide)).1
    have m12 : ∀ t2 : Beh wr, t2.wd.cell? ⟨w.heap.size + 1, 12, none⟩ = some (.int .u8 (o.f.mac.b0 : Int)) := fun t2 => by rw [cell_of_row _ _ _ _ _ _ (HRO.out t2.wd (hu t2))]; rfl
    have m13 : ∀ t2 : Beh wr, t2.wd.cell? ⟨w.heap.size + 1, 13, none⟩ = some (.int .u8 (o.f.mac.b1 : Int)) := fun t2 => by rw [cell_of_row _ _ _ _ _ _ (HRO.out t2.wd (hu t2))]; rfl
    have m14 : ∀ t2 : Beh wr, t2.wd.cell? ⟨w.heap.size + 1, 14, none⟩ = some (.int .u8 (o.f.mac.b2 : Int)) := fun t2 => by rw [cell_of_row _ _ _ _ _ _ (HRO.out t2.wd (hu t2))]; rfl
    have m15 : ∀ t2 : Beh wr, t2.wd.cell? ⟨w.heap.size + 1, 15, none⟩ = some (.int .u8 (o.f.mac.b3 : Int)) := fun t2 => by rw [cell_of_row _ _ _ _ _ _ (HRO.out t2.wd (hu t2))]; rfl
    have m16 : ∀ t2 : Beh wr, t2.wd.cell? ⟨w.heap.size + 1, 16, none⟩ = some (.int .u8 (o.f.mac.b4 : Int)) := fun t2 => by rw [cell_of_row _ _ _ _ _ _ (HRO.out t2.wd (hu t2))]; rfl
    have m17 : ∀ t2 : Beh wr, t2.wd.cell? ⟨w.heap.size + 1, 17, none⟩ = some (.int .u8 (o.f.mac.b5 : Int)) := fun t2 => by rw [cell_of_row _ _ _ _ _ _ (HRO.out t2.wd (hu t2))]; rfl
    clear hcl hg hu
    by_cases hk5 : o.kind < 5
    focus
     have HF : Hid (fF o p = true) := by unfold Hid fF; rw [decide_eq_true hk5]; rfl
     go_upto_region 15 with fail
     refine wp_region_beh (by kernel_rfl) (by kernel_rfl) ?_
     repeat (go_big_quiet_step (fail))
     refine wpQuiet_nil ?_
     rintro _ ⟨t, rfl⟩
     have HTt := hid (HT.out.more t.ok)
     clear kc ko k0 k1 k2 k3 k4 k5 m12 m13 m14 m15 m16 m17
    rotate_left
    by_cases hq : p.mac = o.f.mac
    focus
     have HF : Hid (fF o p = false) := by unfold Hid fF; rw [decide_eq_false hk5, decide_eq_false (fun h => h hq)]; rfl
     have heq := eqM_t o.f.mac
     rw [hq] at k0 k1 k2 k3 k4 k5
     clear hq
     go_upto_region 15 with fail
     refine wp_region_beh (by kernel_rfl) (by kernel_rfl) ?_
     repeat (go_big_quiet_step (fail))
     refine wpQuiet_nil ?_
     rintro _ ⟨t, rfl⟩
     have HTt := hid (HT.out.more t.ok)
     clear kc ko k0 k1 k2 k3 k4 k5 m12 m13 m14 m15 m16 m17 heq
     have HT6 : Hid (Tb w1 t.wd vR vN x (A.filter (fR o)) (B.filter (fN o)) ((C.take (j + 1)).filter (fF o))) := by unfold Hid; rw [filt_no HP.out HF.out]; exact HTt.out
     clear HTt HF
     go_wp2_with fail
     go_roundw
     case rel => exact ⟨j + 1, _, by go_num, hlt, HT6⟩
     case measure => simp [intOf]; omega
    focus
     have HF : Hid (fF o p = true) := by unfold Hid fF; rw [decide_eq_true hq, Bool.or_true]
     have heq := eqM_f hq
     clear hq
     go_upto_region 15 with fail
     refine wp_region_beh (by kernel_rfl) (by kernel_rfl) ?_
     repeat (go_big_quiet_step (fail))
     refine wpQuiet_nil ?_
     rintro _ ⟨t, rfl⟩
     have HTt := hid (HT.out.more t.ok)
     clear kc ko k0 k1 k2 k3 k4 k5 m12 m13 m14 m15 m16 m17 heq
    all_goals
     obtain ⟨ax, nx, cx, rfl, HNX, -, -⟩ := HTt.out.f.shape
     generalize t.wd = u at *
     clear c00
     go_upto_region 16 with fail
     refine wp_region_mono' 8 (fun i => ([100, 101, 102, 103, 104, 105, 106, 107] : List Tmp).getD i 0) (FB7 [.pointer (some ⟨w1.heap.size + 1, 2, none⟩), .slice ax nx cx, .pointer (some ⟨w.heap.size, 2, none⟩), .slice (some ⟨g, 0, none⟩) n5 c5, .int .i64 (j : Int), .pointer (some ⟨g, j * 7, none⟩), .agg p.cells] p.cells 44 u.heap.size) (by kernel_rfl) (by kernel_rfl) (FB7.keeps _ _ _ _) ?_ ?_
     ·simp only [List.take_succ_cons, List.take_zero, stepsOk]
      refine ⟨?_, ?_, ?_, ?_, ?_, ?_, ?_, ?_, trivial⟩
      ·intro a y vs hb hold hdep
       exact fb7_still (.pointer (some ⟨w1.heap.size + 1, 2, none⟩)) (ex_field _ ⟨w1.heap.size + 1, 0, none⟩ (.tmp 5) 2 _ rfl (hold 5 (dlM (L := [100, 101, 102, 103, 104, 105, 106, 107]) (by decide))) (by kernel_rfl)) rfl (by decide) rfl hb
      ·intro a y vs hb hold hdep
       have hc := (HTt.out.more hb).cells.2.2
       exact fb7_still (.slice ax nx cx) (ex_load _ ⟨w1.heap.size + 1, 2, none⟩ (.tmp 100) _ rfl (FB7.dep (hdep ⟨0, .data⟩ (by simp) rfl (by decide)) (by decide) rfl) (by simp [go_sem, hc])) rfl (by decide) rfl hb
      ·intro a y vs hb hold hdep
       exact fb7_still (.pointer (some ⟨w.heap.size, 2, none⟩)) (ex_field _ ⟨w.heap.size, 0, none⟩ (.tmp 2) 2 _ rfl (hold 2 (dlM (L := [100, 101, 102, 103, 104, 105, 106, 107]) (by decide))) (by kernel_rfl)) rfl (by decide) rfl hb
      ·intro a y vs hb hold hdep
       have hc : y.cell? ⟨w.heap.size, 2, none⟩ = some (.slice (some ⟨g, 0, none⟩) n5 c5) := by rw [cell_of_row _ _ _ _ _ _ (HR0.out y (HTt.out.more hb).bel)]; rfl
       exact fb7_still (.slice (some ⟨g, 0, none⟩) n5 c5) (ex_load _ ⟨w.heap.size, 2, none⟩ (.tmp 102) _ rfl (FB7.dep (hdep ⟨2, .data⟩ (by simp) rfl (by decide)) (by decide) rfl) (by simp [go_sem, hc])) rfl (by decide) rfl hb
      ·intro a y vs hb hold hdep
       exact fb7_still (.int .i64 (j : Int)) (ex_move (.tmp 8) _ rfl (hold 8 (dlM (L := [100, 101, 102, 103, 104, 105, 106, 107]) (by decide)))) rfl (by decide) rfl hb
      ·intro a y vs hb hold hdep
       exact fb7_still (.pointer (some ⟨g, j * 7, none⟩)) (ex_index _ (.tmp 103) (.tmp 104) _ _ _ rfl (FB7.dep (hdep ⟨3, .data⟩ (by simp) rfl (by decide)) (by decide) rfl) (FB7.dep (hdep ⟨4, .data⟩ (by simp) rfl (by decide)) (by decide) rfl) (idxF hlt y)) rfl (by decide) rfl hb
      ·intro a y vs hb hold hdep
       exact fb7_still (.agg p.cells) (ex_load _ ⟨g, j * 7, none⟩ (.tmp 105) _ rfl (FB7.dep (hdep ⟨5, .data⟩ (by simp) rfl (by decide)) (by decide) rfl) (HCL.out y ((HTt.out.more hb).bel.block g HG.out)).2) rfl (by decide) rfl hb
      ·intro a y vs hb hold hdep
       have e8 : a.eval (.tmp 106) = .agg p.cells := (FB7.dep (hdep ⟨6, .data⟩ (by simp) rfl (by decide)) (by decide) rfl)
       have hb' : Below y.heap.size y (y.alloc (.cells p.cells 44)) := bR.alloc nL _
       exact wp_val (ex_bsE 49 1 #[(0, .tmp 106)] #[(0, .agg p.cells)] _ rfl (by simp only [List.map_toArray, List.map_cons, List.map_nil, e8]) (build1F p y)) ⟨_, rfl, ⟨fun _ => ⟨y.heap.size, rfl, hb.size, heap_alloc_new y _⟩, fun h => absurd rfl h⟩, hb.trans (hb'.mono hb.size), hb'⟩
     intro vs y hb hF
     have e0 : vs 0 = .pointer (some ⟨w1.heap.size + 1, 2, none⟩) := (hF 0 (by decide)).is (by decide) rfl
     have e1 : vs 1 = .slice ax nx cx := (hF 1 (by decide)).is (by decide) rfl
     have e2 : vs 2 = .pointer (some ⟨w.heap.size, 2, none⟩) := (hF 2 (by decide)).is (by decide) rfl
     have e3 : vs 3 = .slice (some ⟨g, 0, none⟩) n5 c5 := (hF 3 (by decide)).is (by decide) rfl
     have e4 : vs 4 = .int .i64 (j : Int) := (hF 4 (by decide)).is (by decide) rfl
     have e5 : vs 5 = .pointer (some ⟨g, j * 7, none⟩) := (hF 5 (by decide)).is (by decide) rfl
     have e6 : vs 6 = .agg p.cells := (hF 6 (by decide)).is (by decide) rfl
     obtain ⟨b7, e7, -, hr7⟩ := (hF 7 (by decide)).1 rfl
     clear hF
     simp only [List.drop_succ_cons, List.drop_zero, puts, List.range, List.range.loop, List.foldr, if_true, List.getD_cons_zero, List.getD_cons_succ, e0, e1, e2, e3, e4, e5, e6, e7, Act.put, List.setIfInBounds_toArray, List.set_cons_zero, List.set_cons_succ]
     clear e0 e1 e2 e3 e4 e5 e6 e7
     have HTY := hid (HTt.out.more hb)
     have hfl : ((C.take j).filter (fF o)).length <= 256 := Nat.le_trans (List.length_filter_le _ _) (by rw [List.length_take]; have := HN5.out; omega)
     obtain ⟨v', w5, hap, ho5, hg5, -⟩ := append_one (K := kF) 49 p b7 HTY.out.f hr7 HTY.out.bel.size (by omega)
     obtain ⟨g', n', c', rfl, -⟩ := own_some ho5
     have hk5 : Me.Keeps (fun k => Value.ownBlock (.slice ax nx cx) = some k) y w5 := Me.Keeps.grown hg5 fun _ e => e
     have HAP : Hid ((Builtin.append_ #[49, 49] 49 #[.slice ax nx cx, .slice (some ⟨b7, 0, none⟩) 1 1]).run Tryz.prog y = .ok (.slice (some ⟨g', 0, none⟩) n' c') w5) := hap
     obtain ⟨w6, HW6⟩ : ∃ w6, Hid (w6 = w5.setCell ⟨w1.heap.size + 1, 2, none⟩ (.slice (some ⟨g', 0, none⟩) n' c')) := ⟨_, rfl⟩
     have HT6 : Hid (Tb w1 w6 vR vN (.slice (some ⟨g', 0, none⟩) n' c') (A.filter (fR o)) (B.filter (fN o)) ((C.take (j + 1)).filter (fF o))) := by
      unfold Hid
      rw [HW6.out, filt_yes HP.out HF.out]
      exact HTY.out.setF hk5 ho5
     have r5 : w5.heap[w1.heap.size + 1]? = _ := (hk5.block _ HTY.out.lt fun e => (HTY.out.apart.2.2 _ e).2.1 rfl).trans HTY.out.row
     obtain ⟨v5, m5⟩ : ∃ v, w5.cell? ⟨w1.heap.size + 1, 2, none⟩ = some v := ⟨_, crw r5 rfl⟩
     have m6 : w5.frozen? ⟨w1.heap.size + 1, 2, none⟩ = false := frozen_of_row _ _ _ _ _ r5
     clear hap ho5 hg5 hk5 r5 hb hr7 HTY HTt HCL HG hfl HT
     go_upto_region 14 with (first | (at_builtin; refine wpList_append_run _ rfl (.tmp 101) (.tmp 107) 49 49 rfl _ _ rfl rfl HAP.out ?_) | fail)
     rw [<- HW6.out]
     clear m5 m6 HAP HW6
     go_wp2_with fail
     go_roundw
     case rel => exact ⟨j + 1, _, by go_num, hlt, HT6⟩
     case measure => simp [intOf]; omega
   ·have hlt' : ¬ (j : Int) < (n5 : Int) := int_nlt hlt
    have HTF : Hid (Tb w1 wr vR vN x (A.filter (fR o)) (B.filter (fN o)) (C.filter (fF o))) := by have := HT.out; rw [List.take_of_length_le (by have := HN5.out; omega)] at this; exact this
    obtain ⟨d1, m1, k1, hx1, -, -, -⟩ := HTF.out.r.shape
    obtain ⟨d2, m2, k2, hx2, -, -, -⟩ := HTF.out.n.shape
    obtain ⟨d3, m3, k3, hx3, -, -, -⟩ := HTF.out.f.shape
    subst hx1 hx2 hx3
    have e0 := HTF.out.cells.1
    have e1 := HTF.out.cells.2.1
    have e2 := HTF.out.cells.2.2
    have HZC : Hid ((#[Value.slice d1 m1 k1, .slice d2 m2 k2, .slice d3 m3 k3] : Array Value).all (·.oneCell') = true) := by unfold Hid; simp [Value.oneCell']
    clear hlt hj HT
    go_wp2_with (first | (refine wpList_stB rfl 51 (.tmp 4) (.tmp 110) rfl w1.heap.size #[.slice d1 m1 k1, .slice d2 m2 k2, .slice d3 m3 k3] rfl rfl tbZ HTF.out.res (by kernel_rfl) rfl HZC.out ?_; intro w9 hbt hr9) | fail)
    have u0 : w9.cell? ⟨w1.heap.size, 0, none⟩ = some (.slice d1 m1 k1) := crw hr9 rfl
    have u1 : w9.cell? ⟨w1.heap.size, 1, none⟩ = some (.slice d2 m2 k2) := crw hr9 rfl
    have u2 : w9.cell? ⟨w1.heap.size, 2, none⟩ = some (.slice d3 m3 k3) := crw hr9 rfl
    have hk9 : Me.Keeps (fun k => k = w1.heap.size) wr w9 := ⟨hbt.os, hbt.tape, hbt.output, hbt.size, fun k hk hn => hbt.block k hk hn⟩
    have hb9 : Below w1.heap.size w1 w9 := keeps_below HTF.out.bel hk9 fun k e => by omega
    obtain ⟨p1, p2, p3⟩ := HTF.out.apart
    refine bodyPost_ret (v := .agg #[.slice d1 m1 k1, .slice d2 m2 k2, .slice d3 m3 k3]) (by simp [results, Tryz.results33, go_sem, u0, u1, u2]) rfl ⟨_, rfl, ⟨_, _, _, rfl, (HTF.out.r.keeps hk9 fun k e => (p1 k e).1).low (Nat.zero_le _), (HTF.out.n.keeps hk9 fun k e => (p2 k e).1).low (Nat.zero_le _), (HTF.out.f.keeps hk9 fun k e => (p3 k e).1).low (Nat.zero_le _)⟩, HB1.out.trans (hb9.mono HB1.out.size)⟩
end Go.Proofs.YtpdnnikkaojnkaaGreat.Rt
