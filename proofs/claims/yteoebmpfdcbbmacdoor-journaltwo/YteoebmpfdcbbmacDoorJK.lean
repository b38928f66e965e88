/-
  take: the walk.
-/
import Derived.Test.YteoebmpfdcbbmacDoorJJ
namespace Go.Proofs.YteoebmpfdcbbmacDoor
open Go.ChangeShapes Go.WideShapes Go.ChangeAt Go.RowKit Jn N
set_option maxHeartbeats 4000000
set_option maxRecDepth 100000

theorem load_sl {u : World} {p : Addr} {ao : Option Addr} {n c : Nat} (h : u.cell? p = some (.slice ao n c)) : (Instr.loadAt 22 (.pointer (some p))).run Tryd.prog u = .ok (.slice ao n c) u := by
  simp [Instr.loadAt, go_sem, h]
theorem load_in {u : World} {p : Addr} {x : Int} (h : u.cell? p = some (.int .i64 x)) : (Instr.loadAt 3 (.pointer (some p))).run Tryd.prog u = .ok (.int .i64 x) u := by
  simp [Instr.loadAt, go_sem, h]
theorem field_wr (b : Nat) (u : World) : (Instr.fieldAt 101 (.pointer (some ⟨b, 0, none⟩)) 0).run Tryd.prog u = .ok (.pointer (some ⟨b, 0, none⟩)) u ∧ (Instr.fieldAt 101 (.pointer (some ⟨b, 0, none⟩)) 1).run Tryd.prog u = .ok (.pointer (some ⟨b, 1, none⟩)) u ∧ (Instr.fieldAt 101 (.pointer (some ⟨b, 0, none⟩)) 2).run Tryd.prog u = .ok (.pointer (some ⟨b, 2, none⟩)) u := ⟨by kernel_rfl, by kernel_rfl, by kernel_rfl⟩
theorem idx_areas (q ar : Nat) (h : ar < 2) (u : World) : (Instr.indexAt 65 (.pointer (some ⟨q, 0, none⟩)) (.int .i64 (ar : Int))).run Tryd.prog u = .ok (.pointer (some ⟨q, ar, none⟩)) u := by
  obtain rfl | rfl : ar = 0 ∨ ar = 1 := by omega
  · kernel_rfl
  · kernel_rfl
theorem ex_nil {P : Program} {o : Oper} {a : Act} {w : World} (p : Addr) (x : Operand) (ho : o.op = .nilCheck x) (hx : a.eval x = .pointer (some p)) : (execOp a.eval o).run P w = .ok (.value (.pointer (some p))) w := by
  unfold execOp
  simp only [ho, hx]
  rfl
theorem wp_append' {P : Program} {o : Oper} {a : Act} {w : World} {K : Act → World → Prop} {Q : Exit → Act → World → Prop} (d s : Operand) (t t' : TypeId)
    (ho : o.op = .call { callee := .builtin .append, args := #[d, s], argTypes := #[t, t'] }) (v u : Value) (hd : a.eval d = v) (hs : a.eval s = u) {v' : Value} {w' : World}
    (hr : (Builtin.append_ #[t, t'] o.type #[v, u]).run P w = .ok v' w') (h : K (a.put o.dst v') w') : o.wp P a w K Q := by
  unfold Oper.wp execOp
  simp only [ho, resolve, invoke, builtin, Sem.run_bind, Sem.run_pure, Result.andThen_ok, List.map_toArray, List.map_cons, List.map_nil, hd, hs, hr]
  exact h

/-- What the append of a drawn statement left: its value at place i. -/
def TkV (W : World) (g m : Nat) (L : List Nat) (v : Value) (u : World) : Prop := ∃ g' c', v = .slice (some ⟨g', 0, none⟩) m c' ∧ OwnB u 0 v L ∧ (g' = g ∨ g' = W.heap.size)
def Ft (x : Nat) (lst : List Value) (T : Value → World → Prop) (i : Nat) (v : Value) (u : World) : Prop := (i ≠ x → lst[i]? = some v) ∧ (i = x → T v u)
def It (x : Nat) (S : Nat → Prop) (W : World) (p : Nat → Bool) (u : World) : Prop := Keeps S W u ∧ (p x = false → u = { W with drawn := W.drawn + 1 })
def Rt (x j : Nat) (u u' : World) : Prop := j ≠ x → u' = u
theorem Ft.keeps {x : Nat} {lst : List Value} {T : Value → World → Prop} {S : Nat → Prop} {W : World} : ∀ i j v p (w w' : World), i ≠ j → Ft x lst T i v w → It x S W p w → Rt x j w w' → Ft x lst T i v w' := by
  intro i j v p w w' hij hf _ hr
  refine ⟨hf.1, fun e => ?_⟩
  rw [hr (fun h => hij (e.trans h.symm))]
  exact hf.2 e
theorem wp_stillT {P : Program} {o : Oper} {a : Act} {S : Nat → Prop} {W u : World} {Q : Exit → Act → World → Prop} {x : Nat} {lst : List Value} {T : Value → World → Prop} {p : Nat → Bool} {i : Nat} {t : Tmp} {v : Value} (hr : (execOp a.eval o).run P u = .ok (.value v) u) (ht : o.dst = some t) (hi : i ≠ x) (hv : lst[i]? = some v) (hI : It x S W p u) :
    o.wp P a u (fun a' w' => ∃ v', a' = a.put (some t) v' ∧ Ft x lst T i v' w' ∧ It x S W (fun j => if j = i then true else p j) w' ∧ Rt x i u w') Q :=
  wp_val hr (by rw [ht]; exact ⟨v, rfl, ⟨fun _ => hv, fun e => absurd e hi⟩, ⟨hI.1, fun h => hI.2 (by simpa [Ne.symm hi] using h)⟩, fun _ => rfl⟩)
theorem Ft.dep {x : Nat} {lst : List Value} {T : Value → World → Prop} {a : Act} {t : Operand} {y z : Value} {i : Nat} {w : World} (h : a.eval t = y ∧ Ft x lst T i y w) (hi : i ≠ x) (hz : lst[i]? = some z) : a.eval t = z := by
  have h2 := h.2.1 hi
  rw [hz] at h2
  rw [h.1]
  exact (Option.some.inj h2).symm

theorem take_any (q ar pl kp g n cap : Nat) (cs : Array Value) (T : TypeId) (L X : List Nat) (vb : Value) (w : World) (hq : w.heap[q]? = some (.cells cs T (0, 0))) (hT : T ≠ 5) (har : ar < 2) (hcs : cs[ar]? = some (.slice (some ⟨g, 0, none⟩) n cap)) (hv : OwnB w 0 (.slice (some ⟨g, 0, none⟩) n cap) L) (hvb : SeesB w vb X) (hpl : pl ≤ L.length) (hk0 : 0 < kp) (hkx : kp ≤ X.length) (hsm : pl + kp ≤ 1099511627776) :
    Calls Tryd.prog 52 #[.pointer (some ⟨q, 0, none⟩), .agg #[.int .i64 (ar : Int), .int .i64 (pl : Int), vb], .int .i64 (kp : Int)] w fun e w' => ∃ g' c', e = .returned (.tuple #[]) ∧ w'.heap[q]? = some (.cells (cs.setIfInBounds ar (.slice (some ⟨g', 0, none⟩) (pl + kp) c')) T (0, 0)) ∧ OwnB w' 0 (.slice (some ⟨g', 0, none⟩) (pl + kp) c') (L.take pl ++ X.take kp) ∧ (g' = g ∨ w.heap.size ≤ g') ∧ Keeps (fun k => k = q ∨ k = g) w w' := by
  obtain ⟨pa, pn, pc, rfl, HPN, hpn1, hpn2⟩ := hvb.shape
  obtain ⟨hn, hnc, hcm, hglt⟩ := hv.lenB
  unfold maxLen at hpn2 hcm
  have hgq := hv.ne_of hq hT
  have hqlt := (Array.getElem?_eq_some_iff.1 hq).1
  obtain ⟨xb, HXB⟩ : ∃ xb, Hid (xb = w.heap.size) := ⟨_, rfl⟩
  obtain ⟨W, HW⟩ : ∃ W, Hid (W = w.alloc (.cells #[.int .i64 (ar : Int), .int .i64 (pl : Int), .slice pa pn pc] 101)) := ⟨_, rfl⟩
  have hbW : Below w.heap.size w W := by rw [HW.out]; exact (Below.refl _ _).alloc (Nat.le_refl _) _
  have hrW : W.heap[xb]? = some (.cells #[.int .i64 (ar : Int), .int .i64 (pl : Int), .slice pa pn pc] 101 (0, 0)) := by rw [HW.out, HXB.out]; exact heap_alloc_new w _
  have hsW : W.heap.size = w.heap.size + 1 := by rw [HW.out]; simp
  have hqW : W.heap[q]? = some (.cells cs T (0, 0)) := below_keeps hbW hq hqlt
  have hxg : xb ≠ g := by rw [HXB.out]; omega
  have hvW := hv.below hbW
  obtain ⟨pa2, HS2, hcut2⟩ := (hvb.below hbW).high kp (kp : Int) rfl (by have := HPN.out; omega)
  have hcut1 := cut_hi g 0 n cap pl (pl : Int) rfl (by omega)
  have hidx := idx_areas q ar har
  have XR := hid (fun (u : World) (hu : Keeps (At1 g) W u) => (hu.block xb (by rw [hsW, HXB.out]; omega) hxg).trans hrW)
  have QR := hid (fun (u : World) (hu : Keeps (At1 g) W u) => (hu.block q (by omega) (Ne.symm hgq)).trans hqW)
  have x0 : ∀ u : World, Keeps (At1 g) W u → u.cell? ⟨xb, 0, none⟩ = some (.int .i64 (ar : Int)) := fun u hu => by rw [cell_of_row _ _ _ _ _ _ (XR.out u hu)]; rfl
  have x1 : ∀ u : World, Keeps (At1 g) W u → u.cell? ⟨xb, 1, none⟩ = some (.int .i64 (pl : Int)) := fun u hu => by rw [cell_of_row _ _ _ _ _ _ (XR.out u hu)]; rfl
  have x2 : ∀ u : World, Keeps (At1 g) W u → u.cell? ⟨xb, 2, none⟩ = some (.slice pa pn pc) := fun u hu => by rw [cell_of_row _ _ _ _ _ _ (XR.out u hu)]; rfl
  have xq : ∀ u : World, Keeps (At1 g) W u → u.cell? ⟨q, ar, none⟩ = some (.slice (some ⟨g, 0, none⟩) n cap) := fun u hu => by rw [cell_of_row _ _ _ _ _ _ (QR.out u hu)]; exact hcs
  have HAP : Hid (∃ g' c' w', (Builtin.append_ #[22, 22] 22 #[.slice (some ⟨g, 0, none⟩) pl cap, .slice pa2 kp pc]).run Tryd.prog { W with drawn := W.drawn + 1 } = .ok (.slice (some ⟨g', 0, none⟩) (pl + kp) c') w' ∧ OwnB w' 0 (.slice (some ⟨g', 0, none⟩) (pl + kp) c') (L.take pl ++ X.take kp) ∧ Keeps (At1 g) W w' ∧ (g' = g ∨ g' = W.heap.size)) := by
    have hb0 : Below W.heap.size W { W with drawn := W.drawn + 1 } := ⟨rfl, rfl, rfl, Nat.le_refl _, fun _ _ => rfl⟩
    have hl2 : (X.take kp).length = kp := by rw [List.length_take]; omega
    obtain ⟨g', c', w', h1, h2, h3, h4⟩ := append_front { W with drawn := W.drawn + 1 } 22 g n cap pl L (X.take kp) pa2 kp pc (hvW.below hb0) (by omega) (HS2.out.below hb0) (by omega) (by omega)
    exact ⟨g', c', w', h1, h2, (Keeps.of hb0).trans h3, h4⟩
  have HEND : Hid (∀ (u : World) (g' c' : Nat), Keeps (At1 g) W u → OwnB u 0 (.slice (some ⟨g', 0, none⟩) (pl + kp) c') (L.take pl ++ X.take kp) → (g' = g ∨ g' = W.heap.size) → (u.setCell ⟨q, ar, none⟩ (.slice (some ⟨g', 0, none⟩) (pl + kp) c')).heap[q]? = some (.cells (cs.setIfInBounds ar (.slice (some ⟨g', 0, none⟩) (pl + kp) c')) T (0, 0)) ∧ OwnB (u.setCell ⟨q, ar, none⟩ (.slice (some ⟨g', 0, none⟩) (pl + kp) c')) 0 (.slice (some ⟨g', 0, none⟩) (pl + kp) c') (L.take pl ++ X.take kp) ∧ (g' = g ∨ w.heap.size ≤ g') ∧ Keeps (fun k => k = q ∨ k = g) w (u.setCell ⟨q, ar, none⟩ (.slice (some ⟨g', 0, none⟩) (pl + kp) c'))) := by
    intro u g' c' hu ho hg'
    have hk : Keeps (At1 q) u (u.setCell ⟨q, ar, none⟩ (.slice (some ⟨g', 0, none⟩) (pl + kp) c')) := (Keeps.refl (At1 q) u).set ⟨q, ar, none⟩ rfl _
    refine ⟨set_cells (QR.out u hu), ho.keeps hk (fun k hk e => ?_), ?_, ?_⟩
    · simp [Value.ownBlock] at hk
      exact ho.ne_of (QR.out u hu) hT (hk.trans e)
    · rcases hg' with h | h
      · exact .inl h
      · exact .inr (by omega)
    · exact ((Keeps.of hbW).trans (hu.mono (fun k _ e => .inr e))).trans (hk.mono (fun k _ e => .inl e))
  have hrow := QR.out
  clear hq hcs hv hvb hqW hrW hvW
  go_enter Tryd.func52, Tryd.ntmps52
  go_upto_region 1 with fail
  rw [← HW.out, ← HXB.out]
  refine wp_region_gen' 18 (fun i => 6 + i) (Ft 16 [.pointer (some ⟨q, 0, none⟩), .pointer (some ⟨xb, 0, none⟩), .int .i64 (ar : Int), .pointer (some ⟨q, 0, none⟩), .pointer (some ⟨xb, 0, none⟩), .int .i64 (ar : Int), .pointer (some ⟨q, 0, none⟩), .pointer (some ⟨q, ar, none⟩), .slice (some ⟨g, 0, none⟩) n cap, .pointer (some ⟨xb, 1, none⟩), .int .i64 (pl : Int), .slice (some ⟨g, 0, none⟩) pl cap, .pointer (some ⟨xb, 2, none⟩), .slice pa pn pc, .int .i64 (kp : Int), .slice pa2 kp pc, .bool false, .pointer (some ⟨q, 0, none⟩)] (TkV W g (pl + kp) (L.take pl ++ X.take kp))) (It 16 (At1 g) W) (Rt 16) (by kernel_rfl) (by kernel_rfl) ⟨⟨rfl, rfl, rfl, Nat.le_refl _, fun _ _ _ => rfl⟩, fun _ => rfl⟩ Ft.keeps ?_ ?_
  · simp only [List.take_succ_cons, List.take_zero, stepsG]
    refine ⟨?_, ?_, ?_, ?_, ?_, ?_, ?_, ?_, ?_, ?_, ?_, ?_, ?_, ?_, ?_, ?_, ?_, ?_, trivial⟩
    · intro aa u vs p hI hp hold hdep
      exact wp_stillT (ex_move (.tmp 0) _ rfl (hold 0 (fun j _ => low (by decide)))) rfl (by decide) rfl hI
    · intro aa u vs p hI hp hold hdep
      exact wp_stillT (ex_field _ ⟨xb, 0, none⟩ (.tmp 4) 0 _ rfl (hold 4 (fun j _ => low (by decide))) (field_wr xb u).1) rfl (by decide) rfl hI
    · intro aa u vs p hI hp hold hdep
      have h1 := Ft.dep (hdep ⟨1, .data⟩ (by simp) rfl (by decide)) (by decide) rfl
      exact wp_stillT (ex_load _ ⟨xb, 0, none⟩ (.tmp 7) _ rfl h1 (load_in (x0 u hI.1))) rfl (by decide) rfl hI
    · intro aa u vs p hI hp hold hdep
      exact wp_stillT (ex_move (.tmp 0) _ rfl (hold 0 (fun j _ => low (by decide)))) rfl (by decide) rfl hI
    · intro aa u vs p hI hp hold hdep
      exact wp_stillT (ex_field _ ⟨xb, 0, none⟩ (.tmp 4) 0 _ rfl (hold 4 (fun j _ => low (by decide))) (field_wr xb u).1) rfl (by decide) rfl hI
    · intro aa u vs p hI hp hold hdep
      have h1 := Ft.dep (hdep ⟨4, .data⟩ (by simp) rfl (by decide)) (by decide) rfl
      exact wp_stillT (ex_load _ ⟨xb, 0, none⟩ (.tmp 10) _ rfl h1 (load_in (x0 u hI.1))) rfl (by decide) rfl hI
    · intro aa u vs p hI hp hold hdep
      have h1 := Ft.dep (hdep ⟨3, .data⟩ (by simp) rfl (by decide)) (by decide) rfl
      exact wp_stillT (ex_nil ⟨q, 0, none⟩ (.tmp 9) rfl h1) rfl (by decide) rfl hI
    · intro aa u vs p hI hp hold hdep
      have h1 := Ft.dep (hdep ⟨6, .data⟩ (by simp) rfl (by decide)) (by decide) rfl
      have h2 := Ft.dep (hdep ⟨5, .data⟩ (by simp) rfl (by decide)) (by decide) rfl
      exact wp_stillT (ex_index _ (.tmp 12) (.tmp 11) _ _ _ rfl h1 h2 (hidx u)) rfl (by decide) rfl hI
    · intro aa u vs p hI hp hold hdep
      have h1 := Ft.dep (hdep ⟨7, .data⟩ (by simp) rfl (by decide)) (by decide) rfl
      exact wp_stillT (ex_load _ ⟨q, ar, none⟩ (.tmp 13) _ rfl h1 (load_sl (xq u hI.1))) rfl (by decide) rfl hI
    · intro aa u vs p hI hp hold hdep
      exact wp_stillT (ex_field _ ⟨xb, 0, none⟩ (.tmp 4) 1 _ rfl (hold 4 (fun j _ => low (by decide))) (field_wr xb u).2.1) rfl (by decide) rfl hI
    · intro aa u vs p hI hp hold hdep
      have h1 := Ft.dep (hdep ⟨9, .data⟩ (by simp) rfl (by decide)) (by decide) rfl
      exact wp_stillT (ex_load _ ⟨xb, 1, none⟩ (.tmp 15) _ rfl h1 (load_in (x1 u hI.1))) rfl (by decide) rfl hI
    · intro aa u vs p hI hp hold hdep
      have h1 := Ft.dep (hdep ⟨8, .data⟩ (by simp) rfl (by decide)) (by decide) rfl
      have h2 := Ft.dep (hdep ⟨10, .data⟩ (by simp) rfl (by decide)) (by decide) rfl
      exact wp_stillT (ex_high _ (.tmp 14) (.tmp 16) _ _ _ rfl h1 h2 (hcut1 u)) rfl (by decide) rfl hI
    · intro aa u vs p hI hp hold hdep
      exact wp_stillT (ex_field _ ⟨xb, 0, none⟩ (.tmp 4) 2 _ rfl (hold 4 (fun j _ => low (by decide))) (field_wr xb u).2.2) rfl (by decide) rfl hI
    · intro aa u vs p hI hp hold hdep
      have h1 := Ft.dep (hdep ⟨12, .data⟩ (by simp) rfl (by decide)) (by decide) rfl
      exact wp_stillT (ex_load _ ⟨xb, 2, none⟩ (.tmp 18) _ rfl h1 (load_sl (x2 u hI.1))) rfl (by decide) rfl hI
    · intro aa u vs p hI hp hold hdep
      exact wp_stillT (ex_move (.tmp 2) _ rfl (hold 2 (fun j _ => low (by decide)))) rfl (by decide) rfl hI
    · intro aa u vs p hI hp hold hdep
      have h1 := Ft.dep (hdep ⟨13, .data⟩ (by simp) rfl (by decide)) (by decide) rfl
      have h2 := Ft.dep (hdep ⟨14, .data⟩ (by simp) rfl (by decide)) (by decide) rfl
      exact wp_stillT (ex_high _ (.tmp 19) (.tmp 20) _ _ _ rfl h1 h2 (hcut2 u)) rfl (by decide) rfl hI
    · intro aa u vs p hI hp hold hdep
      have h1 := Ft.dep (hdep ⟨11, .data⟩ (by simp) rfl (by decide)) (by decide) rfl
      have h2 := Ft.dep (hdep ⟨15, .data⟩ (by simp) rfl (by decide)) (by decide) rfl
      obtain ⟨g', c', w', hr, ho, hk, hg'⟩ := HAP.out
      obtain rfl := hI.2 hp
      exact wp_append' (.tmp 17) (.tmp 21) 22 22 rfl _ _ h1 h2 hr ⟨_, rfl, ⟨fun e => absurd rfl e, fun _ => ⟨g', c', rfl, ho, hg'⟩⟩, ⟨hk, fun h => by simp at h⟩, fun e => absurd rfl e⟩
    · intro aa u vs p hI hp hold hdep
      have h1 := Ft.dep (hdep ⟨0, .data⟩ (by simp) rfl (by decide)) (by decide) rfl
      exact wp_stillT (ex_nil ⟨q, 0, none⟩ (.tmp 6) rfl h1) rfl (by decide) rfl hI
  · intro vs p u hI hp hF
    obtain ⟨g', c', e16, ho, hg'⟩ := (hF 16 (by decide)).2 rfl
    rw [e16] at ho
    have e2 : vs 2 = .int .i64 (ar : Int) := (Option.some.inj ((hF 2 (by decide)).1 (by decide))).symm
    have e17 : vs 17 = .pointer (some ⟨q, 0, none⟩) := (Option.some.inj ((hF 17 (by decide)).1 (by decide))).symm
    have HE := hid (HEND.out u g' c' hI.1 ho hg')
    have cq := xq u hI.1
    have fq : u.frozen? ⟨q, ar, none⟩ = false := frozen_of_row _ _ _ _ _ (hrow u hI.1)
    generalize vs 0 = y0
    generalize vs 1 = y1
    generalize vs 3 = y3
    generalize vs 4 = y4
    generalize vs 5 = y5
    generalize vs 6 = y6
    generalize vs 7 = y7
    generalize vs 8 = y8
    generalize vs 9 = y9
    generalize vs 10 = y10
    generalize vs 11 = y11
    generalize vs 12 = y12
    generalize vs 13 = y13
    generalize vs 14 = y14
    generalize vs 15 = y15
    simp only [List.drop_succ_cons, List.drop_zero, puts, List.range, List.range.loop, List.foldr, if_true, Act.put, e2, e16, e17, Nat.reduceAdd, List.setIfInBounds_toArray, List.set_cons_succ, List.set_cons_zero]
    clear e2 e16 e17 hF hp ho x0 x1 x2 xq hcut1 hcut2 hrow
    go_wp2_with fail
    exact bodyPost_end (results_none Tryd.results52 _ _ _) rfl ⟨g', c', rfl, HE.out⟩
end Go.Proofs.YteoebmpfdcbbmacDoor
