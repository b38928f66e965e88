import Derived.Test.YtkkfioebpppffaaGreatDoorYFlN
import Derived.Test.YtkkfioebpppffaaGreatDoorEN
import Derived.Test.YtkkfioebpppffaaGreatDoorYVRO
namespace Go.Proofs.YtkkfioebpppffaaGreatDoor.Fl
open Go.Proofs.YtkkfioebpppffaaGreatDoor Go.ChangeShapes Go.WideShapes Go.ChangeAt Go.RowKit Go.Maps N
set_option maxHeartbeats 4000000
set_option maxRecDepth 100000

theorem wpStill_val {P : Program} {ops : Array Oper} {Q : Act → Prop} {a : Act} {w : World} {rest : List Oper} {o : Oper} {v : Value} (hw : Region.wanted o (yielded ops a.tmps) = true)
    (hr : (execOp a.eval o).run P w = .ok (.value v) w) (h : wpStill P ops w Q rest (a.put o.dst v)) : wpStill P ops w Q (o :: rest) a := by
  refine wpStill_step fun K hK => ?_
  rw [if_pos hw]
  unfold Oper.still
  rw [hr, Oper.stillUpon_value]
  exact hK _ h

theorem TAt.look {w : World} {b : Nat} {lim : Int} {q : Raw} {p : Pl} (h : TAt w b lim q p) {t : Tu} (ht : t.Ok) :
    (Instr.lookup 58 (.map (some p.nb)) (.agg t.cells) true).run Tryz.prog w = .ok (.tuple #[.int .i64 ((q.f t).getD 0), .bool (q.f t).isSome]) w := h.nm.look (k := t) ht
theorem TAt.flow {w : World} {b : Nat} {lim : Int} {q : Raw} {p : Pl} (h : TAt w b lim q p) {k : Int} (hk : Tm.In64 k) :
    (Instr.lookup 59 (.map (some p.fb)) (.int .i64 k) false).run Tryz.prog w = .ok (.agg ((q.g k).getD zFw).cells) w := h.fm.look1 (k := k) (wf64 hk)

theorem holds_any (w : World) (b : Nat) (lim : Int) (q : Raw) (p : Pl) (t : Tu) (h : TAt w b lim q p) (ht : t.Ok) :
    Calls Tryz.prog 24 #[.pointer (some ⟨b, 0, none⟩), .agg t.cells] w fun e w' => e = .returned (.bool (q.f t).isSome) ∧ Below w.heap.size w w' := by
  obtain ⟨w0, HW0⟩ : ∃ w0, Hid (w0 = w.alloc (.cells t.cells 37)) := ⟨_, rfl⟩
  have hb0 : Below w.heap.size w w0 := by rw [HW0.out]; exact (Below.refl _ _).alloc (Nat.le_refl _) _
  obtain ⟨g0, HG0⟩ : ∃ g, Hid (g = w.heap.size) := ⟨_, rfl⟩
  have r3 : w0.heap[g0]? = some (.cells t.cells 37 (0, 0)) := by rw [HW0.out, HG0.out]; exact heap_alloc_new w _
  have h0 := h.below hb0
  have HTA : Hid (∀ u, Below w0.heap.size w0 u → u.cell? ⟨b, 2, none⟩ = some (.map (some p.nb)) ∧ (Instr.loadAt 37 (.pointer (some ⟨g0, 0, none⟩))).run Tryz.prog u = .ok (.agg t.cells) u ∧ (Instr.lookup 58 (.map (some p.nb)) (.agg t.cells) true).run Tryz.prog u = .ok (.tuple #[.int .i64 ((q.f t).getD 0), .bool (q.f t).isSome]) u) := fun u hu =>
    ⟨(h0.below hu).cells rfl, load_tu (below_keeps hu r3 (Array.getElem?_eq_some_iff.1 r3).1), (h0.below hu).look ht⟩
  have HB0 := hid hb0
  generalize p.nb = nb at *
  generalize (q.f t).isSome = r at *
  generalize (q.f t).getD 0 = n at *
  generalize t.cells = tc at *
  clear h ht hb0 r3 h0
  go_enter Tryz.func24, Tryz.ntmps24
  go_upto_region 1 with fail
  rw [← HW0.out, ← HG0.out]
  refine wp_region_guarded' 10 (fun i => ([8, 9, 10, 11, 12, 13, 7, 14, 15, 5] : List Tmp).getD i 0) (Vs [.pointer (some ⟨b, 0, none⟩), .pointer (some ⟨b, 0, none⟩), .pointer (some ⟨b, 2, none⟩), .map (some nb), .agg tc, .tuple #[.int .i64 n, .bool r], .tuple #[.int .i64 n, .bool r], .int .i64 n, .bool r, .int .i64 n]) (fun u => Below w0.heap.size w0 u) (fun _ u u' => Below u.heap.size u u') (by kernel_rfl) (by kernel_rfl) ⟨rfl, rfl, rfl, Nat.le_refl _, fun _ _ => rfl⟩ (fun _ _ _ _ _ _ h _ _ => h) ?_ ?_
  · simp only [List.take_succ_cons, List.take_zero, stepsG]
    refine ⟨?_, ?_, ?_, ?_, ?_, ?_, ?_, ?_, ?_, ?_, trivial⟩
    · intro a u vs hI hold hdep
      exact opAt_plain rfl (wp_still (ex_move (.tmp 0) _ rfl (hold 0 (dlM (L := [8, 9, 10, 11, 12, 13, 7, 14, 15, 5]) (by decide)))) rfl rfl hI)
    · intro a u vs hI hold hdep
      exact opAt_plain rfl (wp_still (ex_nil ⟨b, 0, none⟩ (.tmp 8) rfl (Vs.dep (hdep ⟨0, .data⟩ (by simp) rfl (by decide)) rfl)) rfl rfl hI)
    · intro a u vs hI hold hdep
      exact opAt_plain rfl (wp_still (ex_field _ ⟨b, 0, none⟩ (.tmp 9) 2 _ rfl (Vs.dep (hdep ⟨1, .data⟩ (by simp) rfl (by decide)) rfl) (fld_t2 b u)) rfl rfl hI)
    · intro a u vs hI hold hdep
      exact opAt_plain rfl (wp_still (ex_load _ ⟨b, 2, none⟩ (.tmp 10) _ rfl (Vs.dep (hdep ⟨2, .data⟩ (by simp) rfl (by decide)) rfl) (ld_mapT (HTA.out u hI).1)) rfl rfl hI)
    · intro a u vs hI hold hdep
      exact opAt_plain rfl (wp_still (ex_load _ ⟨g0, 0, none⟩ (.tmp 3) _ rfl (hold 3 (dlM (L := [8, 9, 10, 11, 12, 13, 7, 14, 15, 5]) (by decide))) ((HTA.out u hI).2.1)) rfl rfl hI)
    · intro a u vs hI hold hdep
      exact opAt_plain rfl (wp_still (ex_lookup _ (.tmp 11) (.tmp 12) true _ _ _ rfl (Vs.dep (hdep ⟨3, .data⟩ (by simp) rfl (by decide)) rfl) (Vs.dep (hdep ⟨4, .data⟩ (by simp) rfl (by decide)) rfl) ((HTA.out u hI).2.2)) rfl rfl hI)
    · intro a u vs hI hold hdep
      exact opAt_plain rfl (wp_still (ex_move (.tmp 13) _ rfl (Vs.dep (hdep ⟨5, .data⟩ (by simp) rfl (by decide)) rfl)) rfl rfl hI)
    · intro a u vs hI hold hdep
      exact opAt_plain rfl (wp_still (ex_extract (.tmp 7) 0 _ _ rfl (Vs.dep (hdep ⟨6, .data⟩ (by simp) rfl (by decide)) rfl) rfl) rfl rfl hI)
    · intro a u vs hI hold hdep
      exact opAt_plain rfl (wp_still (ex_extract (.tmp 7) 1 _ _ rfl (Vs.dep (hdep ⟨6, .data⟩ (by simp) rfl (by decide)) rfl) rfl) rfl rfl hI)
    · intro a u vs hI hold hdep
      exact opAt_plain rfl (wp_still (ex_assign (.tmp 14) _ rfl (Vs.dep (hdep ⟨7, .data⟩ (by simp) rfl (by decide)) rfl)) rfl rfl hI)
  intro vs u hI hF
  have e0 : vs 0 = .pointer (some ⟨b, 0, none⟩) := (Option.some.inj (hF 0 (by decide))).symm
  have e1 : vs 1 = .pointer (some ⟨b, 0, none⟩) := (Option.some.inj (hF 1 (by decide))).symm
  have e2 : vs 2 = .pointer (some ⟨b, 2, none⟩) := (Option.some.inj (hF 2 (by decide))).symm
  have e3 : vs 3 = .map (some nb) := (Option.some.inj (hF 3 (by decide))).symm
  have e4 : vs 4 = .agg tc := (Option.some.inj (hF 4 (by decide))).symm
  have e5 : vs 5 = .tuple #[.int .i64 n, .bool r] := (Option.some.inj (hF 5 (by decide))).symm
  have e6 : vs 6 = .tuple #[.int .i64 n, .bool r] := (Option.some.inj (hF 6 (by decide))).symm
  have e7 : vs 7 = .int .i64 n := (Option.some.inj (hF 7 (by decide))).symm
  have e8 : vs 8 = .bool r := (Option.some.inj (hF 8 (by decide))).symm
  have e9 : vs 9 = .int .i64 n := (Option.some.inj (hF 9 (by decide))).symm
  clear hF
  simp only [List.drop_succ_cons, List.drop_zero, puts, List.range, List.range.loop, List.foldr, if_true, List.getD_cons_zero, List.getD_cons_succ, e0, e1, e2, e3, e4, e5, e6, e7, e8, e9, Act.put, List.setIfInBounds_toArray, List.set_cons_zero, List.set_cons_succ]
  clear e0 e1 e2 e3 e4 e5 e6 e7 e8 e9
  have HBU := hid (HB0.out.trans (hI.mono HB0.out.size))
  clear hI
  go_wp2_with fail
  go_ret
  exact ⟨rfl, HBU.out⟩

/-- An empty one. -/
def q0 : Raw := ⟨0, fun _ => none, 0, fun _ => none, 0, []⟩

theorem new_good (n : Int) (w : World) (h1 : 1 ≤ n) (h2 : n ≤ 65536) (ht : TabF w) :
    Calls Tryz.prog 5 #[.int .i64 n] w fun e w' => ∃ b F, e = .returned (.tuple #[.pointer (some ⟨b, 0, none⟩), .int .i64 0]) ∧ St w' b n q0 F ∧ (∀ k, F k → w.heap.size ≤ k) ∧ Below w.heap.size w w' := by
  have HN := hid (Tm.new_good n w h1 h2)
  have HT := hid ht
  have hmm := @run_makeMap Tryz.prog
  have HFIN : Hid (∀ (w1 : World) (tb tbm : Nat), Tm.Tm w1 tb tbm none n [] → w.heap.size ≤ tb → w.heap.size ≤ tbm → Below w.heap.size w w1 → ∀ w4 : World, w4 = ((w1.alloc (.map #[] 0)).alloc (.map #[] 0)).alloc (.cells #[.int .i64 n, .int .i64 0, .map (some w1.heap.size), .map (some (w1.heap.size + 1)), .pointer (some ⟨tb, 0, none⟩)] 61) → ∃ b F, b = w1.heap.size + 2 ∧ St w4 b n q0 F ∧ (∀ k, F k → w.heap.size ≤ k) ∧ Below w.heap.size w w4) := fun w1 tb tbm tm l1 l2 hb w4 hw4 => by
    obtain ⟨wa, hwa⟩ : ∃ wa, wa = w1.alloc (.map #[] 0) := ⟨_, rfl⟩
    obtain ⟨wb, hwb⟩ : ∃ wb, wb = wa.alloc (.map #[] 0) := ⟨_, rfl⟩
    have sa : wa.heap.size = w1.heap.size + 1 := by rw [hwa]; simp
    have sb : wb.heap.size = w1.heap.size + 2 := by rw [hwb, World.size_alloc, sa]
    have ba : Below w1.heap.size w1 wa := by rw [hwa]; exact (Below.refl _ _).alloc (Nat.le_refl _) _
    have bb : Below wa.heap.size wa wb := by rw [hwb]; exact (Below.refl _ _).alloc (Nat.le_refl _) _
    rw [← hwa, ← hwb] at hw4
    have bc : Below wb.heap.size wb w4 := by rw [hw4]; exact (Below.refl _ _).alloc (Nat.le_refl _) _
    have hnm : Mq.MapG gT wa w1.heap.size (fun _ => none) 0 := by rw [hwa]; exact Mq.MapG.made gT w1
    have hfm : Mq.MapG gF wb (w1.heap.size + 1) (fun _ => none) 0 := by
      have := Mq.MapG.made gF wa
      rw [← hwb, sa] at this; exact this
    have hrow : w4.heap[w1.heap.size + 2]? = some (.cells #[.int .i64 n, .int .i64 0, .map (some w1.heap.size), .map (some (w1.heap.size + 1)), .pointer (some ⟨tb, 0, none⟩)] 61 (0, 0)) := by
      have := heap_alloc_new wb (.cells #[.int .i64 n, .int .i64 0, .map (some w1.heap.size), .map (some (w1.heap.size + 1)), .pointer (some ⟨tb, 0, none⟩)] 61)
      rw [← hw4, sb] at this; exact this
    have bwa := hb.trans (ba.mono hb.size)
    have bwb := bwa.trans (bb.mono bwa.size)
    have bw4 := bwb.trans (bc.mono bwb.size)
    have t1 := tm.below ba
    have t2 := t1.below bb
    have t3 := t2.below bc
    have hlt := tm.lt
    have htl := tab_lt HT.out
    have hfp : ∀ k, fpT (w1.heap.size + 2) ⟨w1.heap.size, w1.heap.size + 1, tb, tbm, none⟩ k → w.heap.size ≤ k := fun k e => by
      have := hb.size
      rcases e with rfl | rfl | rfl | e
      · omega
      · exact this
      · show w.heap.size ≤ w1.heap.size + 1; omega
      · have e' : k = tb ∨ k = tbm := by simpa [pT, Tm.fp] using e
        rcases e' with rfl | rfl
        · exact l1
        · exact l2
    have hnp : ∀ k, w1.heap.size ≤ k → ¬ pT ⟨w1.heap.size, w1.heap.size + 1, tb, tbm, none⟩ k := fun k hk e => by
      have := hlt k e; omega
    refine ⟨_, _, rfl, ⟨⟨w1.heap.size, w1.heap.size + 1, tb, tbm, none⟩, ⟨hrow, (hnm.kept (bb.block _ (by omega))).kept (bc.block _ (by omega)), hfm.kept (bc.block _ (by omega)), t3, HT.out.below bw4, ?_⟩, fun k => Iff.rfl⟩, hfp, bw4⟩
    exact ⟨by show w1.heap.size + 2 ≠ w1.heap.size; omega, by show w1.heap.size + 2 ≠ w1.heap.size + 1; omega, hnp _ (by omega), by show w1.heap.size ≠ w1.heap.size + 1; omega, hnp _ (Nat.le_refl _), hnp _ (by show w1.heap.size ≤ w1.heap.size + 1; omega), fun k e e2 => by
      have := hfp k e
      have := htl k e2
      omega⟩
  clear ht
  go_enter Tryz.func5, Tryz.ntmps5
  go_wp2_with fail
  refine HN.out.mono ?_
  rintro _ w1 ⟨tb, tbm, rfl, tm, l1, l2, l3, hb1⟩
  obtain ⟨w4, HW4⟩ : ∃ w4, Hid (w4 = ((w1.alloc (.map #[] 0)).alloc (.map #[] 0)).alloc (.cells #[.int .i64 n, .int .i64 0, .map (some w1.heap.size), .map (some (w1.heap.size + 1)), .pointer (some ⟨tb, 0, none⟩)] 61)) := ⟨_, rfl⟩
  have HE := hid (HFIN.out w1 tb tbm tm l1 l2 hb1 w4 HW4.out)
  clear tm l1 l2 l3 hb1
  go_wp2_with fail
  obtain ⟨b, F, hb, hs, hf, hbw⟩ := HE.out
  rw [← HW4.out]
  refine bodyPost_ret (results_tmp2 Tryz.results5 _ _ _) rfl ⟨b, F, ?_, hs, hf, hbw⟩
  rw [hb]
  rfl

theorem new_bad (n : Int) (w : World) (h : n < 1 ∨ 65536 < n) :
    Calls Tryz.prog 5 #[.int .i64 n] w fun e w' => e = .returned (.tuple #[.pointer none, .int .i64 1]) ∧ w' = w := by
  have HN := hid (Tm.new_bad n w h)
  clear h
  go_enter Tryz.func5, Tryz.ntmps5
  go_wp2_with fail
  refine HN.out.mono ?_
  rintro _ _ ⟨rfl, e⟩
  obtain rfl := e.symm
  go_wp2_with fail
  refine bodyPost_ret (results_tmp2 Tryz.results5 _ _ _) rfl ⟨rfl, rfl⟩
end Go.Proofs.YtkkfioebpppffaaGreatDoor.Fl
