import Derived.Test.YtpdnnikkaojnkaaGreatYQA
import Derived.Test.YtpdnnikkaojnkaaGreatYLH
namespace Go.Proofs.YtpdnnikkaojnkaaGreat.Rt
open Go.Proofs.YtpdnnikkaojnkaaGreat Go.ChangeShapes Go.WideShapes Go.ChangeAt Go.RowKit Go.Maps Tri N
set_option maxHeartbeats 4000000
set_option maxRecDepth 100000
@[reducible] def kO : Rk Opv where
  eT := 46
  sT := 24
  z := 19
  bs := 56
  cs := Opv.cells
  zero := .agg opZ
  len x := rfl
  one x := by simp [Opv.cells, Value.oneCell']
  zp := by decide
  bp := by decide
  us := by kernel_rfl
  el := by kernel_rfl
  info := by kernel_rfl
  zs := rfl
  ue := ⟨_, Tryz.underlying46, rfl⟩
theorem wpList_bdO {ops : Array Oper} {Q : Exit → Act → World → Prop} {a : Act} {w : World} {rest : List Oper} {o : Oper} {v : Value} (T : TypeId) (parts : Array (Nat × Operand)) (ps : Array (Nat × Value)) (ho : o.op = .build T parts) (hp : (parts.map fun (i, x) => (i, a.eval x)) = ps)
    (hr : (Instr.build T ps).run Tryz.prog w = .ok v w) (hw : Region.wanted o (yielded ops a.tmps) = true) (h : wpList Tryz.prog ops Q rest (a.put o.dst v) w) : wpList Tryz.prog ops Q (o :: rest) a w := by
  refine wpList_step fun K hK => ?_
  rw [if_pos hw]
  unfold Oper.wp execOp
  simp only [ho, hp, Sem.run_bind, hr, Result.andThen_ok, Sem.run_pure]
  exact hK _ _ h
theorem build1Q (o : Opv) (u : World) : (Instr.buildSlice 24 1 #[(0, .agg o.cells)]).run Tryz.prog u = .ok (.slice (some ⟨u.heap.size, 0, none⟩) 1 1) (u.alloc (.cells o.cells 46)) := by kernel_rfl
theorem wpList_bsO {ops : Array Oper} {Q : Exit → Act → World → Prop} {a : Act} {w : World} {rest : List Oper} {o : Oper} (hgd : o.guard = none) (x : Opv) (s : Operand) (ho : o.op = .buildSlice 24 1 #[(0, s)]) (hs : a.eval s = .agg x.cells)
    (h : ∀ w', Below w.heap.size w w' → w'.heap[w.heap.size]? = some (.cells x.cells 46) → wpList Tryz.prog ops Q rest (a.put o.dst (.slice (some ⟨w.heap.size, 0, none⟩) 1 1)) w') : wpList Tryz.prog ops Q (o :: rest) a w :=
  wpList_plain hgd fun _ hK => wp_val (ex_bsE 24 1 #[(0, s)] #[(0, .agg x.cells)] _ ho (by simp only [List.map_toArray, List.map_cons, List.map_nil, hs]) (build1Q x w)) (hK _ _ (h _ ((Below.refl _ _).alloc (Nat.le_refl _) _) (heap_alloc_new w _)))
theorem wpList_apO {ops : Array Oper} {Q : Exit → Act → World → Prop} {a : Act} {w : World} {rest : List Oper} {o : Oper} (hgd : o.guard = none) (d s : Operand) (ho : o.op = .call { callee := .builtin .append, args := #[d, s], argTypes := #[24, 24] }) {B : Nat} {v : Value} {L : List Opv} (x : Opv) (b : Nat) {T : TypeId} (hd : a.eval d = v) (hs : a.eval s = .slice (some ⟨b, 0, none⟩) 1 1)
    (hv : Own kO w B v L) (hb : w.heap[b]? = some (.cells x.cells T)) (hB : B ≤ w.heap.size) (hbig : L.length + 1 ≤ 1073741824)
    (h : ∀ g' n' c' w', Own kO w' B (.slice (some ⟨g', 0, none⟩) n' c') (L ++ [x]) → w.grownBy w' v.ownBlock → wpList Tryz.prog ops Q rest (a.put o.dst (.slice (some ⟨g', 0, none⟩) n' c')) w') : wpList Tryz.prog ops Q (o :: rest) a w := by
  obtain ⟨v', w', hr, ho', hg, -⟩ := append_one (K := kO) o.type x b hv hb hB hbig
  obtain ⟨g', n', c', rfl, -⟩ := own_some ho'
  exact wpList_append_run w hgd d s _ _ ho v _ hd hs hr (h _ _ _ _ ho' hg)
theorem grown_below {w w4 w5 : World} {B : Nat} {r : Option Nat} (hb : Below B w w4) (hB : B ≤ w4.heap.size) (hg : w4.grownBy w5 r) (hr : ∀ q, r = some q → B ≤ q) : Below B w w5 :=
  hb.trans ((Me.Keeps.grown (S := fun k => r = some k) hg fun _ e => e).below hB hr)
theorem bldF (e : Fd) (u : World) : (Instr.build 46 #[(0, .int .i64 5), (3, .agg e.cells)]).run Tryz.prog u = .ok (.agg (opF e).cells) u := by kernel_rfl
theorem bldR (e : Vt) (u : World) : (Instr.build 46 #[(0, .int .i64 1), (1, .agg e.cells)]).run Tryz.prog u = .ok (.agg (opR e).cells) u := by kernel_rfl
theorem bldN (e : Nb) (u : World) : (Instr.build 46 #[(0, .int .i64 3), (2, .agg e.cells)]).run Tryz.prog u = .ok (.agg (opN e).cells) u := by kernel_rfl
theorem rev_step {α β : Type} (f : α → β) {L : List α} {k : Nat} {e : α} (h : L[k]? = some e) : ((L.drop k).reverse).map f = ((L.drop (k + 1)).reverse).map f ++ [f e] := by
  obtain ⟨hk, rfl⟩ := List.getElem?_eq_some_iff.1 h
  rw [List.drop_eq_getElem_cons hk, List.reverse_cons, List.map_append, List.map_cons, List.map_nil]
theorem puts_any (w : World) (x1 y1 z1 : Value) (A : List Vt) (B : List Nb) (C : List Fd) (hx : Own kR w 0 x1 A) (hy : Own kN w 0 y1 B) (hz : Own kF w 0 z1 C) (hA : A.length ≤ 256) (hB : B.length ≤ 256) (hC : C.length ≤ 256) :
    Calls Tryz.prog 9 #[.agg #[x1, y1, z1]] w fun e w' => ∃ v, e = .returned v ∧ Own kO w' w.heap.size v (putsL A B C) ∧ Below w.heap.size w w' := by
  obtain ⟨a1, n1, c1, rfl, HN1, -, -⟩ := hx.shape
  obtain ⟨a3, n3, c3, rfl, HN3, -, -⟩ := hy.shape
  obtain ⟨a5, n5, c5, rfl, HN5, -, -⟩ := hz.shape
  have l1 : n1 ≤ 256 := by rw [HN1.out]; exact hA
  have l3 : n3 ≤ 256 := by rw [HN3.out]; exact hB
  have l5 : n5 ≤ 256 := by rw [HN5.out]; exact hC
  obtain ⟨w1, HW1⟩ : ∃ w1, Hid (w1 = w.alloc (.cells #[.slice a1 n1 c1, .slice a3 n3 c3, .slice a5 n5 c5] 51)) := ⟨_, rfl⟩
  have hb1 : Below w.heap.size w w1 := by rw [HW1.out]; exact (Below.refl _ _).alloc (Nat.le_refl _) _
  have r1 : w1.heap[w.heap.size]? = some (.cells #[.slice a1 n1 c1, .slice a3 n3 c3, .slice a5 n5 c5] 51) := by rw [HW1.out]; exact heap_alloc_new w _
  have HR1 : Hid (∀ u : World, Below w1.heap.size w1 u → u.heap[w.heap.size]? = some (.cells #[.slice a1 n1 c1, .slice a3 n3 c3, .slice a5 n5 c5] 51)) := fun u hu => below_keeps hu r1 (Array.getElem?_eq_some_iff.1 r1).1
  have HX := hid (hx.below hb1)
  have HY := hid (hy.below hb1)
  have HZ := hid (hz.below hb1)
  have HB1 := hid hb1
  have c0 : w1.cell? ⟨w.heap.size, 2, none⟩ = some (.slice a5 n5 c5) := by rw [cell_of_row _ _ _ _ _ _ r1]; rfl
  have HO0 : Hid (Own kO w1 w1.heap.size (.slice none 0 0) []) := Own.nil _ _
  clear hx hy hz hA hB hC hb1 r1
  have hw5 : IntKind.i64.wrap ((n5 : Int) - 1) = (n5 : Int) - 1 := by rw [IntKind.wrap_i64]; omega
  go_enter Tryz.func9, Tryz.ntmps9
  go_upto_region 1 with fail
  rw [← HW1.out]
  clear HW1
  go_upto_region 3 with fail
  go_loopw [3, 4] (fun lv i wx => ∃ (j : Nat) (x : Int) (a' : Option Addr) (n' c' : Nat), lv = .slice a' n' c' ∧ i = .int .i64 x ∧ Hid (x = (j : Int) - 1) ∧ j ≤ n5 ∧ Hid (Own kO wx w1.heap.size (.slice a' n' c') (((C.drop j).reverse).map opF)) ∧ Hid (Below w1.heap.size w1 wx)) (fun _ i _ => (intOf i + 1).toNat)
  case atStart => exact ⟨n5, _, _, _, _, rfl, rfl, rfl, Nat.le_refl _, by have := HO0; rw [List.drop_of_length_le (by rw [← HN5.out]; exact Nat.le_refl _)]; exact this, Below.refl _ _⟩
  case round =>
  obtain ⟨j, x, a', n', c', rfl, rfl, HX0, hj, HO, HB⟩ := hrel
  cases j with
  | succ k =>
    obtain rfl : x = (k : Int) := by rw [HX0.out]; omega
    clear HX0
    have hk1 : (k : Int) < (n5 : Int) := by omega
    have hk0 : (0 : Int) ≤ (k : Int) := by omega
    obtain ⟨p, HP⟩ : ∃ p, Hid (C[k]? = some p) := ⟨_, hid (List.getElem?_eq_getElem (by have := HN5.out; omega))⟩
    obtain ⟨g, rfl, hg, hat⟩ := HZ.out.at HP.out
    have HLD := hid (hat wr (HB.out.block g hg)).2
    have rr := HR1.out wr HB.out
    have d0 : wr.cell? ⟨w.heap.size, 2, none⟩ = some (.slice (some ⟨g, 0, none⟩) n5 c5) := by rw [cell_of_row _ _ _ _ _ _ rr]; rfl
    have HLEN : Hid ((((C.drop (k + 1)).reverse).map opF).length + 1 ≤ 1073741824) := by have := HN1.out; have := HN3.out; have := HN5.out; unfold Hid; simp only [List.length_map, List.length_reverse, List.length_drop]; omega
    have hw : IntKind.i64.wrap ((k : Int) - 1) = (k : Int) - 1 := by rw [IntKind.wrap_i64]; omega
    clear hat rr
    go_upto_region 4 with (first | (refine wpList_ld 44 ⟨g, k * 7, none⟩ (.tmp 19) rfl rfl HLD.out rfl ?_) | (refine wpList_bdO 46 #[(0, .const (.int .i64 5)), (3, .tmp 20)] #[(0, .int .i64 5), (3, .agg p.cells)] rfl (by simp only [List.map_toArray, List.map_cons, List.map_nil]; rfl) (bldF p _) rfl ?_) | (go_simp; refine wpList_bsO rfl (opF p) (.tmp 21) rfl rfl ?_; intro w4 hb4 hr4) | (at_builtin; go_simp; refine wpList_apO rfl (.tmp 15) (.tmp 22) rfl (opF p) wr.heap.size rfl rfl (HO.out.below hb4) hr4 (Nat.le_trans HB.out.size hb4.size) HLEN.out ?_; intro g' n2 c2 w5 ho5 hg5) | fail)
    have HO5 : Hid (Own kO w5 w1.heap.size (.slice (some ⟨g', 0, none⟩) n2 c2) (((C.drop k).reverse).map opF)) := by unfold Hid; rw [rev_step opF HP.out]; exact ho5
    have HB5 : Hid (Below w1.heap.size w1 w5) := HB.out.trans (grown_below (hb4.mono HB.out.size) (Nat.le_trans HB.out.size hb4.size) hg5 fun q hq => (HO.out.lt hq).1)
    clear ho5 hg5 hb4 hr4 HO HB d0 HLD HLEN
    go_wp2_with fail
    go_roundw
    case rel => exact ⟨k, _, _, _, _, rfl, by go_num, rfl, by omega, HO5, HB5⟩
    case measure => simp [intOf]
  | zero =>
    obtain rfl : x = -1 := by rw [HX0.out]; rfl
    clear HX0 hj
    have rr := HR1.out wr HB.out
    have d1 : wr.cell? ⟨w.heap.size, 0, none⟩ = some (.slice a1 n1 c1) := by rw [cell_of_row _ _ _ _ _ _ rr]; rfl
    have hw1 : IntKind.i64.wrap ((n1 : Int) - 1) = (n1 : Int) - 1 := by rw [IntKind.wrap_i64]; omega
    clear rr
    go_upto_region 7 with fail
    go_loopw [3, 5] (fun lv i wx => ∃ (j : Nat) (x : Int) (a' : Option Addr) (n' c' : Nat), lv = .slice a' n' c' ∧ i = .int .i64 x ∧ Hid (x = (j : Int) - 1) ∧ j ≤ n1 ∧ Hid (Own kO wx w1.heap.size (.slice a' n' c') ((C.reverse.map opF) ++ ((A.drop j).reverse).map opR)) ∧ Hid (Below w1.heap.size w1 wx)) (fun _ i _ => (intOf i + 1).toNat)
    case atStart => exact ⟨n1, _, _, _, _, rfl, rfl, rfl, Nat.le_refl _, by have := HO; rw [List.drop_zero] at this; rw [List.drop_of_length_le (by rw [← HN1.out]; exact Nat.le_refl _)]; simpa using this, HB⟩
    case round =>
    obtain ⟨j, x, a', n', c', rfl, rfl, HX0, hj, HO, HB⟩ := hrel
    cases j with
    | succ k =>
      obtain rfl : x = (k : Int) := by rw [HX0.out]; omega
      clear HX0
      have hk1 : (k : Int) < (n1 : Int) := by omega
      have hk0 : (0 : Int) ≤ (k : Int) := by omega
      obtain ⟨p, HP⟩ : ∃ p, Hid (A[k]? = some p) := ⟨_, hid (List.getElem?_eq_getElem (by have := HN1.out; omega))⟩
      obtain ⟨g, rfl, hg, hat⟩ := HX.out.at HP.out
      have HLD := hid (hat wr (HB.out.block g hg)).2
      have rr := HR1.out wr HB.out
      have d0 : wr.cell? ⟨w.heap.size, 0, none⟩ = some (.slice (some ⟨g, 0, none⟩) n1 c1) := by rw [cell_of_row _ _ _ _ _ _ rr]; rfl
      have HLEN : Hid (((C.reverse.map opF) ++ ((A.drop (k + 1)).reverse).map opR).length + 1 ≤ 1073741824) := by have := HN1.out; have := HN3.out; have := HN5.out; unfold Hid; simp only [List.length_append, List.length_map, List.length_reverse, List.length_drop]; omega
      have hw : IntKind.i64.wrap ((k : Int) - 1) = (k : Int) - 1 := by rw [IntKind.wrap_i64]; omega
      clear hat rr
      go_upto_region 8 with (first | (refine wpList_ld 38 ⟨g, k * 4, none⟩ (.tmp 36) rfl rfl HLD.out rfl ?_) | (refine wpList_bdO 46 #[(0, .const (.int .i64 1)), (1, .tmp 37)] #[(0, .int .i64 1), (1, .agg p.cells)] rfl (by simp only [List.map_toArray, List.map_cons, List.map_nil]; rfl) (bldR p _) rfl ?_) | (go_simp; refine wpList_bsO rfl (opR p) (.tmp 38) rfl rfl ?_; intro w4 hb4 hr4) | (at_builtin; go_simp; refine wpList_apO rfl (.tmp 32) (.tmp 39) rfl (opR p) wr.heap.size rfl rfl (HO.out.below hb4) hr4 (Nat.le_trans HB.out.size hb4.size) HLEN.out ?_; intro g' n2 c2 w5 ho5 hg5) | fail)
      have HO5 : Hid (Own kO w5 w1.heap.size (.slice (some ⟨g', 0, none⟩) n2 c2) ((C.reverse.map opF) ++ ((A.drop k).reverse).map opR)) := by unfold Hid; rw [rev_step opR HP.out, ← List.append_assoc]; exact ho5
      have HB5 : Hid (Below w1.heap.size w1 w5) := HB.out.trans (grown_below (hb4.mono HB.out.size) (Nat.le_trans HB.out.size hb4.size) hg5 fun q hq => (HO.out.lt hq).1)
      clear ho5 hg5 hb4 hr4 HO HB d0 HLD HLEN
      go_wp2_with fail
      go_roundw
      case rel => exact ⟨k, _, _, _, _, rfl, by go_num, rfl, by omega, HO5, HB5⟩
      case measure => simp [intOf]
    | zero =>
      obtain rfl : x = -1 := by rw [HX0.out]; rfl
      clear HX0 hj
      have rr := HR1.out wr HB.out
      have d1 : wr.cell? ⟨w.heap.size, 1, none⟩ = some (.slice a3 n3 c3) := by rw [cell_of_row _ _ _ _ _ _ rr]; rfl
      have hw3 : IntKind.i64.wrap ((n3 : Int) - 1) = (n3 : Int) - 1 := by rw [IntKind.wrap_i64]; omega
      clear rr
      go_upto_region 11 with fail
      go_loopw [3, 6] (fun lv i wx => ∃ (j : Nat) (x : Int) (a' : Option Addr) (n' c' : Nat), lv = .slice a' n' c' ∧ i = .int .i64 x ∧ Hid (x = (j : Int) - 1) ∧ j ≤ n3 ∧ Hid (Own kO wx w1.heap.size (.slice a' n' c') (((C.reverse.map opF) ++ (A.reverse.map opR)) ++ ((B.drop j).reverse).map opN)) ∧ Hid (Below w1.heap.size w1 wx)) (fun _ i _ => (intOf i + 1).toNat)
      case atStart => exact ⟨n3, _, _, _, _, rfl, rfl, rfl, Nat.le_refl _, by have := HO; rw [List.drop_zero] at this; rw [List.drop_of_length_le (by rw [← HN3.out]; exact Nat.le_refl _)]; simpa using this, HB⟩
      case round =>
      obtain ⟨j, x, a', n', c', rfl, rfl, HX0, hj, HO, HB⟩ := hrel
      cases j with
      | succ k =>
        obtain rfl : x = (k : Int) := by rw [HX0.out]; omega
        clear HX0
        have hk1 : (k : Int) < (n3 : Int) := by omega
        have hk0 : (0 : Int) ≤ (k : Int) := by omega
        obtain ⟨p, HP⟩ : ∃ p, Hid (B[k]? = some p) := ⟨_, hid (List.getElem?_eq_getElem (by have := HN3.out; omega))⟩
        obtain ⟨g, rfl, hg, hat⟩ := HY.out.at HP.out
        have HLD := hid (hat wr (HB.out.block g hg)).2
        have rr := HR1.out wr HB.out
        have d0 : wr.cell? ⟨w.heap.size, 1, none⟩ = some (.slice (some ⟨g, 0, none⟩) n3 c3) := by rw [cell_of_row _ _ _ _ _ _ rr]; rfl
        have HLEN : Hid ((((C.reverse.map opF) ++ (A.reverse.map opR)) ++ ((B.drop (k + 1)).reverse).map opN).length + 1 ≤ 1073741824) := by have := HN1.out; have := HN3.out; have := HN5.out; unfold Hid; simp only [List.length_append, List.length_map, List.length_reverse, List.length_drop]; omega
        have hw : IntKind.i64.wrap ((k : Int) - 1) = (k : Int) - 1 := by rw [IntKind.wrap_i64]; omega
        clear hat rr
        go_upto_region 12 with (first | (refine wpList_ld 42 ⟨g, k * 7, none⟩ (.tmp 53) rfl rfl HLD.out rfl ?_) | (refine wpList_bdO 46 #[(0, .const (.int .i64 3)), (2, .tmp 54)] #[(0, .int .i64 3), (2, .agg p.cells)] rfl (by simp only [List.map_toArray, List.map_cons, List.map_nil]; rfl) (bldN p _) rfl ?_) | (go_simp; refine wpList_bsO rfl (opN p) (.tmp 55) rfl rfl ?_; intro w4 hb4 hr4) | (at_builtin; go_simp; refine wpList_apO rfl (.tmp 49) (.tmp 56) rfl (opN p) wr.heap.size rfl rfl (HO.out.below hb4) hr4 (Nat.le_trans HB.out.size hb4.size) HLEN.out ?_; intro g' n2 c2 w5 ho5 hg5) | fail)
        have HO5 : Hid (Own kO w5 w1.heap.size (.slice (some ⟨g', 0, none⟩) n2 c2) (((C.reverse.map opF) ++ (A.reverse.map opR)) ++ ((B.drop k).reverse).map opN)) := by unfold Hid; rw [rev_step opN HP.out, ← List.append_assoc]; exact ho5
        have HB5 : Hid (Below w1.heap.size w1 w5) := HB.out.trans (grown_below (hb4.mono HB.out.size) (Nat.le_trans HB.out.size hb4.size) hg5 fun q hq => (HO.out.lt hq).1)
        clear ho5 hg5 hb4 hr4 HO HB d0 HLD HLEN
        go_wp2_with fail
        go_roundw
        case rel => exact ⟨k, _, _, _, _, rfl, by go_num, rfl, by omega, HO5, HB5⟩
        case measure => simp [intOf]
      | zero =>
        obtain rfl : x = -1 := by rw [HX0.out]; rfl
        clear HX0 hj
        have HFIN : Hid (Own kO wr w.heap.size (.slice a' n' c') (putsL A B C) ∧ Below w.heap.size w wr) := by
          have h := HO.out
          rw [List.drop_zero] at h
          refine ⟨?_, HB1.out.trans (HB.out.mono HB1.out.size)⟩
          unfold putsL
          rw [← List.append_assoc]
          exact h.low HB1.out.size
        clear HO HB
        go_wp2_with fail
        go_ret
        exact ⟨_, rfl, HFIN.out.1, HFIN.out.2⟩
end Go.Proofs.YtpdnnikkaojnkaaGreat.Rt
