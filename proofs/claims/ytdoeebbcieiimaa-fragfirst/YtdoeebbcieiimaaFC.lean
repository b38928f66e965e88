import Derived.Test.YtdoeebbcieiimaaFB
import Derived.Test.YtdoeebbcieiimaaCB
namespace Go.Proofs.Ytdoeebbcieiimaa
open Go.ChangeShapes Go.WideShapes Go.ChangeAt Go.RowKit
set_option maxHeartbeats 1000000
set_option maxRecDepth 100000

/-- A world behind calls that made memory and wrote none of the elder. -/
structure Beh (w : World) where
  wd : World
  ok : Below w.heap.size w wd

instance (w : World) : Nonempty (Beh w) := ⟨⟨w, Below.refl _ _⟩⟩

theorem wp_region_beh {P : Program} {id : Nat} {Q : Exit → Act → World → Prop} {a : Act} {w : World} {l : List Oper} (hm : P.follows .mixedOrders = true) (hB : Region.lexB .any l.toArray = true)
    (h : wpQuiet P l.toArray (fun w' => ∃ u : Beh w, w' = u.wd) (fun a' => ∀ w', (∃ u : Beh w, w' = u.wd) → Q .normal a' w') l a) : (Code.region id l.toArray true).wp P Q a w :=
  wp_region_quiet (C := fun w' => ∃ u : Beh w, w' = u.wd) hm hB ⟨⟨_, below_drewN (Below.refl _ _) 1⟩, rfl⟩ (by simpa using h)

theorem Calls.beh {P : Program} {f : FuncId} {args : Array Value} {w : World} {u : Beh w} {v : Value}
    (h : Calls P f args u.wd fun e w' => e = .returned v ∧ Below u.wd.heap.size u.wd w') : Calls P f args u.wd fun e w'' => e = .returned v ∧ ∃ u' : Beh w, w'' = u'.wd :=
  h.mono fun _ w' ⟨he, hb⟩ => ⟨he, ⟨w', u.ok.trans (hb.mono u.ok.size)⟩, rfl⟩

theorem quiet_ld {P : Program} {C : World → Prop} {a : Act} {o : Oper} {v : Value} {K : Act → Prop} (T : TypeId) (p : Addr) (x : Operand) (ho : o.op = .load T x) (hx : a.eval x = .pointer (some p))
    (hr : ∀ w, C w → (Instr.loadAt T (.pointer (some p))).run P w = .ok v w) (h : K (a.put o.dst v)) : o.quiet P a C K := by
  refine ⟨v, fun w hw => ?_, h⟩
  unfold Oper.quietAt execOp
  simp only [ho, hx, Sem.run_bind, hr w hw, Result.andThen_ok, Sem.run_pure]
  exact ⟨rfl, rfl⟩

theorem wpQuiet_ld {P : Program} {ops : Array Oper} {C : World → Prop} {Q : Act → Prop} {a : Act} {o : Oper} {rest : List Oper} {v : Value} (T : TypeId) (p : Addr) (x : Operand) (ho : o.op = .load T x) (hx : a.eval x = .pointer (some p))
    (hr : ∀ w, C w → (Instr.loadAt T (.pointer (some p))).run P w = .ok v w) (hw : Region.wanted o (yielded ops a.tmps) = true) (h : wpQuiet P ops C Q rest (a.put o.dst v)) : wpQuiet P ops C Q (o :: rest) a :=
  wpQuiet_step fun K hK => by rw [if_pos hw]; exact quiet_ld T p x ho hx hr (hK _ h)

def setAll (cs : Array Value) : Nat → List Value → Array Value
  | _, [] => cs
  | o, v :: vs => setAll (cs.setIfInBounds o v) (o + 1) vs

theorem sets_row {b : Nat} {t : TypeId} : ∀ (vs : List Value) (o : Nat) (w : World) (cs : Array Value), w.heap[b]? = some (.cells cs t (0, 0)) → (w.setCells b o vs).heap[b]? = some (.cells (setAll cs o vs) t (0, 0))
  | [], _, _, _, h => h
  | v :: vs, o, w, cs, h => by
    rw [World.setCells]
    exact sets_row vs (o + 1) _ _ (set_row h)

theorem But.sets (g : Nat) : ∀ (vs : List Value) (o : Nat) (w : World), But g w (w.setCells g o vs)
  | [], _, w => But.refl g w
  | v :: vs, o, w => by
    rw [World.setCells]
    exact (But.set g o w v).trans (But.sets g vs (o + 1) _)

theorem there_le {u : World} {n k : Nat} {C : Array Value} {t : TypeId} (hb : u.heap[n]? = some (.cells C t (0, 0))) (hk : k ≤ C.size) : u.there n 0 k := fun i hi => by
  refine ⟨?_, frozen_of_row _ _ _ _ _ hb⟩
  rw [cell_of_row _ _ _ _ _ _ hb, Array.getElem?_eq_getElem (by omega)]
  rfl

theorem setAll_pk (h0 h' : Hd) (vo vo' vb : Value) : setAll (pkCells h0 vo vb) 0 (hdCells h' vo').toList = pkCells h' vo' vb := by simp [setAll, pkCells, hdCells]

/-- A header goes into a packet's block. -/
theorem wpList_stH {ops : Array Oper} {rest : List Oper} {o : Oper} {a : Act} {w : World} {Q : Exit → Act → World → Prop} (hgd : o.guard = none) (x y : Operand) (ho : o.op = .store 27 x y)
    (g : Nat) (h' : Hd) (ao : Option Addr) (n c : Nat) (hx : a.eval x = .pointer (some ⟨g, 0, none⟩)) (hy : a.eval y = .agg (hdCells h' (.slice ao n c)))
    (t : TypeId) (h0 : Hd) (vo vb : Value) (hg : w.heap[g]? = some (.cells (pkCells h0 vo vb) t (0, 0)))
    (h : ∀ w', w'.heap[g]? = some (.cells (pkCells h' (.slice ao n c) vb) t (0, 0)) → But g w w' → wpList Try.prog ops Q rest (a.put o.dst undef) w') : wpList Try.prog ops Q (o :: rest) a w := by
  have hall := all_hd h' ao n c
  have hsz : (hdCells h' (.slice ao n c)).size = 10 := rfl
  have hset := setAll_pk h0 h' vo (.slice ao n c) vb
  generalize hdCells h' (.slice ao n c) = cr at *
  have hth : w.there g 0 cr.size := there_le hg (by rw [hsz]; exact (by decide : 10 ≤ 11))
  refine wpList_store_mid hgd 27 x y ho g 0 cr hx hy hth (by rw [hsz]; exact sz27) hall (h _ ?_ (But.sets _ _ _ _))
  rw [sets_row _ _ _ _ hg, hset]

theorem headSize_any (h : Hd) (vo : Value) (w : World) (hv : SeesB w vo h.opts) (hl : h.opts.length ≤ 140737488355328) :
    Calls Try.prog 53 #[.agg (hdCells h vo)] w fun e w' => e = .returned (.int .i64 ((20 + h.opts.length : Nat) : Int)) ∧ Below w.heap.size w w' := by
  obtain ⟨w1, hw1⟩ : ∃ w1, w1 = w.alloc (.cells (hdCells h vo) 27) := ⟨_, rfl⟩
  have hb1 : Below w.heap.size w w1 := by rw [hw1]; exact (Below.refl _ _).alloc (Nat.le_refl _) _
  have c9 : w1.cell? ⟨w.heap.size, 9, none⟩ = some vo := by rw [cell_of_row _ _ _ _ _ _ (show w1.heap[w.heap.size]? = some (.cells (hdCells h vo) 27) by rw [hw1]; exact heap_alloc_new w _)]; rfl
  obtain ⟨ao, n, cap, rfl, HN, hn1, hn2⟩ := hv.shape
  have hnl : n ≤ 140737488355328 := by have := HN.out; omega
  have HW1 := hid hw1
  have HB1 := hid hb1
  clear hw1 hb1 hv hl
  generalize hdCells h (.slice ao n cap) = cs at *
  go_enter Try.func53, Try.ntmps53
  go_upto_region 1 with fail
  rw [← HW1.out]
  go_wp2_with fail
  go_ret
  exact ⟨ret_int (by rw [← HN.out]; omega), HB1.out⟩

theorem size_any (h : Hd) (vo vb : Value) (B : List Nat) (w : World) (hv : SeesB w vo h.opts) (hvb : SeesB w vb B) (hl : h.opts.length ≤ 140737488355328) (hlb : B.length ≤ 140737488355328) :
    Calls Try.prog 26 #[.agg (pkCells h vo vb)] w fun e w' => e = .returned (.int .i64 ((20 + h.opts.length + B.length : Nat) : Int)) ∧ Below w.heap.size w w' := by
  obtain ⟨w1, hw1⟩ : ∃ w1, w1 = w.alloc (.cells (pkCells h vo vb) 29) := ⟨_, rfl⟩
  have hb1 : Below w.heap.size w w1 := by rw [hw1]; exact (Below.refl _ _).alloc (Nat.le_refl _) _
  have hs1 : w1.heap.size = w.heap.size + 1 := by rw [hw1]; simp
  have hk : ∀ u : Beh w1, u.wd.heap[w.heap.size]? = some (.cells (pkCells h vo vb) 29) := fun u => below_keeps u.ok (by rw [hw1]; exact heap_alloc_new w _) (by omega)
  have HH : Hid (∀ u : Beh w1, Calls Try.prog 53 #[.agg (hdCells h vo)] u.wd fun e w' => e = .returned (.int .i64 ((20 + h.opts.length : Nat) : Int)) ∧ ∃ u' : Beh w1, w' = u'.wd) := fun u => Calls.beh (headSize_any h vo u.wd (hv.below (hb1.trans (u.ok.mono hb1.size))) (by omega))
  have HQ1 : Hid (∀ x : World, (∃ u : Beh w1, x = u.wd) → (Instr.loadAt 27 (.pointer (some ⟨w.heap.size, 0, none⟩))).run Try.prog x = .ok (.agg (hdCells h vo)) x) := fun x hx => by
    obtain ⟨u, rfl⟩ := hx
    exact pk_loadH (hk u)
  have c10 : ∀ u : Beh w1, u.wd.cell? ⟨w.heap.size, 10, none⟩ = some vb := fun u => pk_at (hk u) 10 (by omega)
  obtain ⟨ab, nb, capb, rfl, HNB, hnb1, hnb2⟩ := hvb.shape
  have HW1 := hid hw1
  have HB1 := hid hb1
  have hnb : nb ≤ 140737488355328 := by have := HNB.out; omega
  rw [← HNB.out]
  clear hw1 hb1 hv hvb hk hs1 hlb
  generalize h.opts.length = no at *
  generalize hdCells h vo = ch at *
  generalize pkCells h vo (.slice ab nb capb) = cs at *
  go_enter Try.func26, Try.ntmps26
  go_upto_region 1 with fail
  rw [← HW1.out]
  refine wp_region_beh (by kernel_rfl) (by kernel_rfl) ?_
  repeat (first
    | (refine wpQuiet_ld 27 ⟨w.heap.size, 0, none⟩ (.tmp 3) (by rfl) (by rfl) HQ1.out (by rfl) ?_; simp only [Act.put, List.setIfInBounds_toArray, List.set_cons_zero, List.set_cons_succ])
    | (go_big_quiet_step (first | (go_at_call 53; exact HH.out _) | fail)))
  refine wpQuiet_nil ?_
  rintro _ ⟨u, rfl⟩
  go_wp2_with fail
  go_ret
  exact ⟨ret_int (by omega), HB1.out.trans (u.ok.mono HB1.out.size)⟩

theorem fault_any (h : Hd) (vo vb : Value) (B : List Nat) (w : World) (hok : h.Ok) (hvo : SeesB w vo h.opts) (hvb : SeesB w vb B) (hlo : h.opts.length ≤ 140737488355328) (hlb : B.length ≤ 140737488355328) :
    Calls Try.prog 25 #[.agg (pkCells h vo vb)] w fun e w' => e = .returned (.int .i64 (refE h B.length)) ∧ Below w.heap.size w w' := by
  obtain ⟨w1, hw1⟩ : ∃ w1, w1 = w.alloc (.cells (pkCells h vo vb) 29) := ⟨_, rfl⟩
  have hb1 : Below w.heap.size w w1 := by rw [hw1]; exact (Below.refl _ _).alloc (Nat.le_refl _) _
  have HL := hid (pk_load (show w1.heap[w.heap.size]? = some (.cells (pkCells h vo vb) 29) by rw [hw1]; exact heap_alloc_new w _))
  have HC := hid (build_code h vo vb B w1 hok (hvo.below hb1) (hvb.below hb1) hlo hlb)
  have HW1 := hid hw1
  have HB1 := hid hb1
  clear hw1 hb1 hvo hvb hlo hlb
  generalize refE h B.length = E at *
  generalize pkCells h vo vb = cs at *
  go_enter Try.func25, Try.ntmps25
  go_upto_region 1 with fail
  rw [← HW1.out]
  go_wp2_with (first | (refine wpList_ld 29 ⟨w.heap.size, 0, none⟩ (.tmp 1) rfl rfl HL.out rfl ?_) | fail)
  refine HC.out.mono ?_
  rintro _ w2 ⟨a2, n2, c2, rfl, _, hb2⟩
  go_wp2_with fail
  go_ret
  exact ⟨rfl, HB1.out.trans (hb2.mono HB1.out.size)⟩

set_option maxHeartbeats 2000000 in
/-- fresh: the packet in new memory. -/
theorem fresh_any (h : Hd) (vo vb : Value) (B : List Nat) (w : World) (hvo : SeesB w vo h.opts) (hvb : SeesB w vb B) (hlo : h.opts.length ≤ 1099511627776) (hlb : B.length ≤ 1099511627776) :
    Calls Try.prog 37 #[.agg (pkCells h vo vb)] w fun e w' => ∃ vo' vb', e = .returned (.agg (pkCells h vo' vb')) ∧ OwnB w' (w.heap.size + 2) vo' h.opts ∧ OwnB w' (w.heap.size + 2) vb' B ∧ Below w.heap.size w w' := by
  obtain ⟨w1, hw1⟩ : ∃ w1, w1 = (w.alloc (.cells (pkCells h vo vb) 29)).alloc (.cells Z29 29) := ⟨_, rfl⟩
  have hs1 : w1.heap.size = w.heap.size + 2 := by rw [hw1]; simp
  have hb1 : Below w.heap.size w w1 := by rw [hw1]; exact ((Below.refl _ _).alloc (Nat.le_refl _) _).alloc (by simp) _
  have hk0 : w1.heap[w.heap.size]? = some (.cells (pkCells h vo vb) 29) := by
    have h1 : Below (w.heap.size + 1) (w.alloc (.cells (pkCells h vo vb) 29)) w1 := by rw [hw1]; exact (Below.refl _ _).alloc (by simp) _
    rw [h1.block _ (by omega)]
    exact heap_alloc_new w _
  have hk1 : w1.heap[w.heap.size + 1]? = some (.cells Z29 29) := by
    have := heap_alloc_new (w.alloc (.cells (pkCells h vo vb) 29)) (.cells Z29 29)
    rw [World.size_alloc] at this
    rw [hw1]; exact this
  have HF := hid (freshHead_any h vo w1 (hvo.below hb1) hlo)
  have HL1 := hid (pk_loadH hk0)
  have HVB := hid hvb
  have HLB := hid hlb
  obtain ⟨ab, nb, capb, rfl, HNB, hnb1, hnb2⟩ := hvb.shape
  have HW1 := hid hw1
  have HB1 := hid hb1
  have HK0 := hid hk0
  have HK1 := hid hk1
  have HS1 := hid hs1
  clear hw1 hb1 hk0 hk1 hvo hvb hlo hs1 hlb
  obtain ⟨cs, hcs⟩ : ∃ cs, cs = pkCells h vo (.slice ab nb capb) := ⟨_, rfl⟩
  rw [← hcs] at HW1
  rw [← hcs]
  obtain ⟨ch, hch⟩ : ∃ ch, ch = hdCells h vo := ⟨_, rfl⟩
  rw [← hch] at HF HL1
  clear hcs hch
  go_enter Try.func37, Try.ntmps37
  go_upto_region 1 with fail
  have e0 : (w.alloc (.cells cs 29)).alloc (.cells Z29 29) = w1 := HW1.out.symm
  unfold Z29 at e0
  rw [e0]
  clear e0
  go_wp2_with (first | (refine wpList_ld 27 ⟨w.heap.size, 0, none⟩ (.tmp 3) rfl rfl HL1.out rfl ?_) | fail)
  refine HF.out.mono ?_
  rintro _ w2 ⟨v', rfl, ho, hb2⟩
  obtain ⟨a2, c2, rfl⟩ := ho.shape
  have HO := hid ho
  have HB2 := hid hb2
  clear ho hb2 HL1 HF
  have HK2 := hid (below_keeps HB2.out HK0.out (by have := HS1.out; omega))
  go_wp2_with (first | (refine wpList_stH rfl (.tmp 6) (.tmp 5) rfl w.heap.size h a2 h.opts.length c2 rfl rfl 29 h vo (.slice ab nb capb) HK2.out ?_) | fail)
  intro w3 hk3 hbut3
  have c10 := pk_at hk3 10 (by omega)
  have HK3 := hid hk3
  have HU3 := hid hbut3
  have hb3 : Below w.heap.size w w3 := by
    refine hbut3.below (HB1.out.trans (HB2.out.mono HB1.out.size)) ?_ (Nat.le_refl _)
    have h1 := HB2.out.size; have h2 := HS1.out; omega
  have HF2 := hid (freshBytes_any _ B w3 (HVB.out.below hb3) HLB.out)
  have HB3 := hid hb3
  clear hk3 hbut3 hb3
  have c10 : w3.cell? ⟨w.heap.size, 10, none⟩ = some (.slice ab nb capb) := c10
  go_wp2_with fail
  refine HF2.out.mono ?_
  rintro _ w4 ⟨v', rfl, ho, hb4⟩
  obtain ⟨a4, c4, rfl⟩ := ho.shape
  have HO4 := hid ho
  have HB4 := hid hb4
  clear ho hb4 c10 HF2
  have hsz3 : w.heap.size + 2 ≤ w3.heap.size := by have h1 := HB2.out.size; have h2 := HS1.out; have h3 := HU3.out.size; omega
  have HSZ3 := hid hsz3
  clear hsz3
  have HK4 := hid (below_keeps HB4.out HK3.out (by have := HSZ3.out; omega))
  go_wp2_with (first | (refine wpList_st1 rfl 22 (.tmp 10) (.tmp 9) rfl w.heap.size 10 (.slice a4 B.length c4) rfl rfl rfl 29 _ (pkCells h (.slice a2 h.opts.length c2) (.slice a4 B.length c4)) HK4.out size22 (by show 10 < 11; decide) rfl ?_) | fail)
  intro w5 hk5 hbut5
  have HL5 := hid (pk_load hk5)
  have HU5 := hid hbut5
  clear hk5 hbut5
  have HK6 : Hid (w5.heap[w.heap.size + 1]? = some (.cells Z29 29)) := HU5.out.keeps (below_keeps HB4.out (HU3.out.keeps (below_keeps HB2.out HK1.out (by have := HS1.out; omega)) (by omega)) (by have := HSZ3.out; omega)) (by omega)
  obtain ⟨cr, hcr⟩ : ∃ cr, cr = pkCells h (.slice a2 h.opts.length c2) (.slice a4 B.length c4) := ⟨_, rfl⟩
  have HCR := hid hcr
  have HALL : Hid (cr.all (·.oneCell') = true) := by unfold Hid; rw [hcr]; exact all_pk _ _ _ _ _ _ _
  have HSZ : Hid (cr.size = 11) := by unfold Hid; rw [hcr]; rfl
  rw [← hcr] at HL5
  clear hcr
  go_wp2_with (first | (refine wpList_ld 29 ⟨w.heap.size, 0, none⟩ (.tmp 1) rfl rfl HL5.out rfl ?_) | (refine wpList_st rfl 29 (.tmp 2) (.tmp 11) rfl (w.heap.size + 1) cr rfl rfl 29 Z29 HK6.out (by rw [HSZ.out]; exact sz29) (by rw [HSZ.out]; rfl) HALL.out ?_) | fail)
  intro w7 hk7 hbut7
  rw [HCR.out] at hk7
  have HL7 := hid (pk_var hk7)
  go_wp2_with fail
  refine bodyPost_ret (v := .agg (pkCells h (.slice a2 h.opts.length c2) (.slice a4 B.length c4))) (by simp [results, Try.results37, asAddr, HL7.out]) rfl ?_
  have hB4 : Below w.heap.size w w4 := HB3.out.trans (HB4.out.mono HB3.out.size)
  have hB5 := HU5.out.below hB4 hB4.size (Nat.le_refl _)
  have hB7 := hbut7.below hB5 hB5.size (by omega)
  refine ⟨_, _, rfl, ?_, ?_, hB7⟩
  · have h1 := HO.out
    rw [HS1.out] at h1
    exact OwnB.but (OwnB.but (OwnB.below (OwnB.but (OwnB.low (b' := w.heap.size + 2) h1 (by omega)) HU3.out (by omega)) HB4.out) HU5.out (by omega)) hbut7 (by omega)
  · exact OwnB.but (OwnB.but (OwnB.low (b' := w.heap.size + 2) HO4.out HSZ3.out) HU5.out (by omega)) hbut7 (by omega)
end Go.Proofs.Ytdoeebbcieiimaa
