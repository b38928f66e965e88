/-
  The tale's tell: an Append.
-/
import Derived.Test.YteoebmpfdcbbmabDoorNC
import Derived.Test.YteoebmpfdcbbmabDoorNE
namespace Go.Proofs.YteoebmpfdcbbmabDoor
open Go.ChangeShapes Go.WideShapes Go.ChangeAt Go.RowKit Jn N
set_option maxHeartbeats 4000000
set_option maxRecDepth 100000

/-- A journal and its tale at rest: so many points, generations and writes at most. -/
def Tst (w u : World) (S : Nat → Prop) (p : Nat) (l : Lg) (q : Nat) (R : List (List Nat)) (P : Pts) (N : Nat) : Prop :=
  ∃ C vG vP vR Gs X Gc, TaX w u S p l q C vG vP vR Gs X Gc R P l.size (dirt l.ws) ∧ Gs[Gc.length]? = some vR ∧ Gs.length = Gc.length + 1 ∧ Tl l R P ∧ X.length ≤ N ∧ Gs.length ≤ N ∧ l.ws.length ≤ N
theorem Tst.jr {w u : World} {S : Nat → Prop} {p : Nat} {l : Lg} {q : Nat} {R : List (List Nat)} {P : Pts} {N : Nat} (h : Tst w u S p l q R P N) : Jr w u S p l := by
  obtain ⟨C, vG, vP, vR, Gs, X, Gc, h, -⟩ := h
  exact h.jr
theorem Tst.tl {w u : World} {S : Nat → Prop} {p : Nat} {l : Lg} {q : Nat} {R : List (List Nat)} {P : Pts} {N : Nat} (h : Tst w u S p l q R P N) : Tl l R P := by
  obtain ⟨C, vG, vP, vR, Gs, X, Gc, -, -, -, h, -⟩ := h
  exact h
theorem Tst.ws {w u : World} {S : Nat → Prop} {p : Nat} {l : Lg} {q : Nat} {R : List (List Nat)} {P : Pts} {N : Nat} (h : Tst w u S p l q R P N) : l.ws.length ≤ N := by
  obtain ⟨C, vG, vP, vR, Gs, X, Gc, -, -, -, -, -, -, h⟩ := h
  exact h
theorem Tst.more {w u : World} {S : Nat → Prop} {p : Nat} {l : Lg} {q : Nat} {R : List (List Nat)} {P : Pts} {N M : Nat} (h : Tst w u S p l q R P N) (hM : N ≤ M) : Tst w u S p l q R P M := by
  obtain ⟨C, vG, vP, vR, Gs, X, Gc, h1, h2, h3, h4, h5, h6, h7⟩ := h
  exact ⟨C, vG, vP, vR, Gs, X, Gc, h1, h2, h3, h4, by omega, by omega, by omega⟩
theorem Tst.below {w u u' : World} {S : Nat → Prop} {p : Nat} {l : Lg} {q : Nat} {R : List (List Nat)} {P : Pts} {N : Nat} (h : Tst w u S p l q R P N) (hb : Below u.heap.size u u') : Tst w u' S p l q R P N := by
  obtain ⟨C, vG, vP, vR, Gs, X, Gc, h1, h2⟩ := h
  exact ⟨C, vG, vP, vR, Gs, X, Gc, h1.below hb, h2⟩
theorem Tst.left {w u u' : World} {S : Nat → Prop} {p : Nat} {l : Lg} {q : Nat} {R : List (List Nat)} {P : Pts} {N : Nat} (h : Tst w u S p l q R P N) (hl : Left u u' S p l) : Tst w u' (NewS S u.heap.size u') p l q R P N := by
  obtain ⟨C, vG, vP, vR, Gs, X, Gc, h1, h2⟩ := h
  exact ⟨C, vG, vP, vR, Gs, X, Gc, h1.left hl, h2⟩
def opv (k : Int) (v vs : Value) (z : Int) : Array Value := #[.int .i64 k, v, vs, .int .i64 z]

set_option maxHeartbeats 16000000 in
theorem tell_app {w u : World} {S : Nat → Prop} {p : Nat} {l : Lg} {q : Nat} {R : List (List Nat)} {P : Pts} {N : Nat} (h : Tst w u S p l q R P N) (ht : TabN w) {v vs : Value} {r : List Nat} {z : Int} (hv : SeesB w v r) (hvs : ∃ a n c, vs = .slice a n c) (hN : N + 1 ≤ 2500000000000) (hrl : r.length ≤ 140737488355328) :
    Calls Tryd.prog 27 #[.pointer (some ⟨q, 0, none⟩), .pointer (some ⟨p, 0, none⟩), .agg (opv 1 v vs z)] u fun e u' => e = .returned (.bool true) ∧ ∃ S' l' R' P', Tst w u' S' p l' q R' P' (N + 1) ∧ Nxt l l' := by
  obtain ⟨u0, hu0⟩ : ∃ u0, u0 = u.alloc (.cells (opv 1 v vs z) 54) := ⟨_, rfl⟩
  have hb0 : Below u.heap.size u u0 := by rw [hu0]; exact (Below.refl _ _).alloc (Nat.le_refl _) _
  have hr0 : u0.heap[u.heap.size]? = some (.cells (opv 1 v vs z) 54 (0, 0)) := by rw [hu0]; exact heap_alloc_new u _
  unfold opv at hr0 hu0 ⊢
  have H0 := h.below hb0
  have hSl : ∀ k, S k → k < u.heap.size := h.jr.log.lt
  have HV : Hid (∀ u', Below w.heap.size w u' → SeesB u' v r) := fun u' hb => hv.below hb
  obtain ⟨vs1, vs2, vs3, rfl⟩ := hvs
  obtain ⟨av, nv, cv, rfl, HNV, hv1, hv2⟩ := hv.shape
  unfold maxLen at hv2
  have hnv : nv ≤ 140737488355328 := by have := HNV.out; omega
  have HU0 := hid hu0
  have HT := hid ht
  have z0 : u0.cell? ⟨u.heap.size, 0, none⟩ = some (.int .i64 1) := by rw [cell_of_row _ _ _ _ _ _ hr0]; rfl
  have z1 : u0.cell? ⟨u.heap.size, 1, none⟩ = some (.slice av nv cv) := by rw [cell_of_row _ _ _ _ _ _ hr0]; rfl
  have hbl : u.heap.size < u0.heap.size := (Array.getElem?_eq_some_iff.1 hr0).1
  obtain ⟨b, hbb⟩ : ∃ b, b = u.heap.size := ⟨_, rfl⟩
  have HKB : Hid (∀ u1 l', Left u0 u1 S p l' → u1.heap[b]? = some (.cells #[.int .i64 1, .slice av nv cv, .slice vs1 vs2 vs3, .int .i64 z] 54 (0, 0))) := fun u1 l' hl => by
    rw [hbb]
    exact (hl.kp.block _ hbl (fun e => by have := hSl _ e; omega)).trans hr0
  have HA : Hid (Calls Tryd.prog 23 #[.pointer (some ⟨p, 0, none⟩), .slice av nv cv] u0 fun e w' => e = .returned (.int .i64 ((appE l r : Nat) : Int)) ∧ Left u0 w' S p (appL l r)) := append_any S p l _ r u0 H0.jr.log H0.jr.ok (hv.below H0.jr.be) (by have := h.ws; omega) (ht.below H0.jr.be ht.2) (H0.jr.pos ht)
  have HH := hid H0
  have hbl' : b < u0.heap.size := by omega
  rw [← hbb] at z0 z1
  obtain ⟨ls, HLS⟩ : ∃ ls, ls = l.size := ⟨_, rfl⟩
  have hls : ls ≤ 1048576 := by rw [HLS]; exact H0.jr.ok.high
  have HNU : Hid (Tst w u S p l q R P N) := h
  have HBB := hid hbb
  clear h hu0 ht hv hr0 hb0 H0 hSl hbl hbb
  by_cases hlong : 65536 < nv
  · as_aux_lemma =>
      have hE : appE l r = 2 := by unfold appE; rw [if_pos (by have := HNV.out; omega)]
      have hLl : appL l r = l := by unfold appL; rw [hE]; rfl
      rw [hE, hLl] at HA
      go_enter Tryd.func27, Tryd.ntmps27
      go_upto_region 1 with fail
      rw [← HU0.out, ← HBB.out]
      go_wp2_with fail
      refine HA.out.mono ?_
      rintro _ u1 ⟨rfl, hl1⟩
      have H1 := hid (HH.out.left hl1)
      have hr1 := HKB.out u1 _ hl1
      have y1 : u1.cell? ⟨b, 1, none⟩ = some (.slice av nv cv) := by rw [cell_of_row _ _ _ _ _ _ hr1]; rfl
      have hbl1 := (Array.getElem?_eq_some_iff.1 hr1).1
      clear hl1 hr1 HA HKB
      go_wp2_with fail
      go_ret
      exact ⟨rfl, _, _, _, _, H1.out.more (by omega), .inl rfl⟩
  · by_cases hfull : 1048576 < ls + (12 + nv)
    · as_aux_lemma =>
        have hE : appE l r = 4 := by unfold appE; rw [if_neg (by have := HNV.out; omega), if_pos (by have := HNV.out; omega)]
        have hLl : appL l r = l := by unfold appL; rw [hE]; rfl
        rw [hE, hLl] at HA
        go_enter Tryd.func27, Tryd.ntmps27
        go_upto_region 1 with fail
        rw [← HU0.out, ← HBB.out]
        go_wp2_with fail
        refine HA.out.mono ?_
        rintro _ u1 ⟨rfl, hl1⟩
        have H1 := hid (HH.out.left hl1)
        have hr1 := HKB.out u1 _ hl1
        have y1 : u1.cell? ⟨b, 1, none⟩ = some (.slice av nv cv) := by rw [cell_of_row _ _ _ _ _ _ hr1]; rfl
        have hbl1 := (Array.getElem?_eq_some_iff.1 hr1).1
        obtain ⟨C, vG, vP, vR, Gs, X, Gc, hT, -⟩ := H1.out
        obtain ⟨-, -, -, c3, -, -⟩ := ta_cells hT.row
        have hql := hT.lt.1
        rw [← HLS] at c3
        have q1 : (1048576 : Int) < (ls : Int) + (12 + (nv : Int)) := by omega
        clear hl1 hr1 HA HKB hT
        go_wp2_with fail
        go_ret
        exact ⟨rfl, _, _, _, _, H1.out.more (by omega), .inl rfl⟩
    · as_aux_lemma =>
        have hE : appE l r = 0 := by unfold appE; rw [if_neg (by have := HNV.out; omega), if_neg (by have := HNV.out; omega)]
        have hLl : appL l r = l.app r := by unfold appL; rw [if_pos hE]
        rw [hE, hLl] at HA
        go_enter Tryd.func27, Tryd.ntmps27
        go_upto_region 1 with fail
        rw [← HU0.out, ← HBB.out]
        go_wp2_with fail
        refine HA.out.mono ?_
        rintro _ u1 ⟨rfl, hl1⟩
        have hr1 := HKB.out u1 _ hl1
        have y1 : u1.cell? ⟨b, 1, none⟩ = some (.slice av nv cv) := by rw [cell_of_row _ _ _ _ _ _ hr1]; rfl
        have hbl1 := (Array.getElem?_eq_some_iff.1 hr1).1
        obtain ⟨C, vG, vP, vR, Gs, X, Gc, hX0, hset, hgl, hTl, bX, bG, bW⟩ := HH.out
        have hX1 := hX0.left hl1
        obtain ⟨S1, hS1⟩ : ∃ S1, S1 = NewS S u0.heap.size u1 := ⟨_, rfl⟩
        rw [← hS1] at hX1
        obtain ⟨-, -, c2, c3, c4, cf⟩ := ta_cells hX1.row
        have hql := hX1.lt.1
        obtain ⟨Vs, hV, hVl, hVf⟩ := hX1.fr
        obtain ⟨ar, nr, cr, rfl, HNR, hcr1, hcr2⟩ := hV.shape
        obtain ⟨ds, HDS⟩ : ∃ ds, ds = dirt l.ws := ⟨_, rfl⟩
        have hds : ds ≤ 1048576 * 2500000000000 := by have h1 := hX0.jr.ok.ws.le; rw [HDS]; omega
        have hnrB : nr ≤ 1000000 := by
          have h1 := hTl.sd.w.le
          have h2 := len_base R
          have h3 := HNR.out
          omega
        rw [← HLS, ← HDS] at hX1
        rw [← HLS] at c3
        rw [← HDS] at c4
        obtain ⟨i0, hi0, hz0, hz1, hz2⟩ := info_parts infoS
        have HI := hid hi0
        have hC3 : nr + 1 ≤ maxLen := by unfold maxLen; omega
        have hC : (nr + 1) * 24 ≤ 140737488355328 := by omega
        have HCL : Hid (Calls Tryd.prog 13 #[.slice av nv cv] u1.drew fun e w' => ∃ a n c, e = .returned (.slice a n c) ∧ OwnB w' u1.heap.size (.slice a n c) r ∧ Below u1.heap.size u1 w') := by
          refine (clone_any (.slice av nv cv) r u1.drew (HV.out _ (below_drew hX1.jr.be)) (by have := HNV.out; omega)).mono ?_
          rintro e w' ⟨v', rfl, h1, h2⟩
          have hb2 : Below u1.heap.size u1 w' := ⟨h2.os, h2.tape, h2.output, h2.size, h2.block⟩
          rcases h1.2 with ⟨rfl, h3⟩ | ⟨g, cap, cur, rfl, h3⟩
          · exact ⟨_, _, _, rfl, h1, hb2⟩
          · exact ⟨_, _, _, rfl, h1, hb2⟩
        have HRO : Hid (∀ w1, Below u1.heap.size u1 w1 → w1.heap[q]? = some (taRow vG vP (.slice ar nr cr) ls ds)) := fun w1 hb => (hX1.below hb).row
        have HRA : Hid (∀ w1 x, Below u1.heap.size u1 w1 → (w1.alloc (.cells #[x] 24)).heap[q]? = some (taRow vG vP (.slice ar nr cr) ls ds)) := fun w1 x hb => ((hX1.below hb).below ((Below.refl _ _).alloc (Nat.le_refl _) _)).row
        have HOWN : Hid (∀ w1 x, Below u1.heap.size u1 w1 → (w1.alloc (.cells #[x] 24)).ownsRow w.heap.size 24 1 (.slice ar nr cr) nr Vs) := fun w1 x hb => by
          have := (hV.below hb).below ((Below.refl _ _).alloc (Nat.le_refl _) (.cells #[x] 24))
          unfold OwnS at this
          rw [← HNR.out] at this
          exact this
        have HNEW : Hid (∀ (w1 : World) (x : Value) (i : Nat) y, [x][i]? = some y → (w1.alloc (.cells #[x] 24)).cell? ((⟨w1.heap.size, 0, none⟩ : Addr).add i) = some y) := fun w1 x => World.news_of_block (heap_alloc_new w1 _)
        have HB4 : Hid (∀ w1 x, Below u1.heap.size u1 w1 → w.heap.size ≤ (w1.alloc (.cells #[x] 24)).heap.size) := fun w1 x hb => by
          rw [World.size_alloc]
          have := hX1.jr.be.size
          have := hb.size
          omega
        have HROW : Hid (∀ (w1 w6 : World) x, Below u1.heap.size u1 w1 → (w1.alloc (.cells #[x] 24)).grownBy w6 (Value.ownBlock (.slice ar nr cr)) → w6.heap[q]? = some (taRow vG vP (.slice ar nr cr) ls ds)) := fun w1 w6 x hb hg => by
          have h2 := (hX1.below hb).below ((Below.refl _ _).alloc (Nat.le_refl _) (.cells #[x] 24))
          exact (hg.block q h2.lt.1 (fun e => h2.ne.2.2.1 e.symm)).trans h2.row
        have HFIN : Hid (∀ (w1 w6 : World) (a : Option Addr) (n c g6 cap6 : Nat), OwnB w1 u1.heap.size (.slice a n c) r → Below u1.heap.size u1 w1 → w6.ownsRow w.heap.size 24 1 (.slice (some ⟨g6, 0, none⟩) (nr + 1) cap6) (nr + 1) (Vs ++ [.slice a n c]) → (w1.alloc (.cells #[.slice a n c] 24)).grownBy w6 (Value.ownBlock (.slice ar nr cr)) → (Value.ownBlock (.slice ar nr cr) = some g6 ∨ g6 = w1.heap.size + 1) →
            ∃ C', TaX w (((w6.setCell ⟨q, 2, none⟩ (.slice (some ⟨g6, 0, none⟩) (nr + 1) cap6)).setCell ⟨q, 3, none⟩ (.int .i64 ((ls : Int) + (12 + (nv : Int))))).setCell ⟨q, 4, none⟩ (.int .i64 ((ds : Int) + (12 + (nv : Int))))) S1 p (l.app r) q C' vG vP (.slice (some ⟨g6, 0, none⟩) (nr + 1) cap6) Gs X Gc (R ++ [r]) P (ls + (12 + nv)) (ds + (12 + nv))) := by
          intro w1 w6 a n c g6 cap6 ho hb how hg hat
          have hbA : Below w1.heap.size w1 (w1.alloc (.cells #[.slice a n c] 24)) := (Below.refl _ _).alloc (Nat.le_refl _) _
          have hbW : Below u1.heap.size u1 (w1.alloc (.cells #[.slice a n c] 24)) := hb.trans (hbA.mono hb.size)
          obtain ⟨C', hC'⟩ := hX1.add hbW hVl hVf ((ho.sees (HV.out _ hX1.jr.be).bytes).below hbA) (fun a' n' c' e => by
            have h1 := World.ownsRow.lt ho a'.block (by simp at e; obtain ⟨rfl, -, -⟩ := e; rcases ho.2 with ⟨e2, -⟩ | ⟨g, cap, cur, e2, -⟩ <;> simp at e2 <;> rw [e2.1] <;> rfl)
            have h2 := hbA.size
            omega) (by unfold OwnS; rw [List.length_append, ← HNR.out]; exact how) hg (hat.imp id (fun e => by rw [World.size_alloc]; omega))
          have hr := hC'.row
          unfold taRow at hr
          have hr7 := set_cells (i := 4) (v := .int .i64 ((ds : Int) + (12 + (nv : Int)))) (set_cells (i := 3) (v := .int .i64 ((ls : Int) + (12 + (nv : Int)))) hr)
          refine ⟨C', hC'.nums (((Keeps.refl (At1 q) _).set ⟨q, 3, none⟩ rfl _).set ⟨q, 4, none⟩ rfl _) (hr7.trans ?_)⟩
          unfold taRow
          rw [show ((ls + (12 + nv) : Nat) : Int) = (ls : Int) + (12 + (nv : Int)) by omega, show ((ds + (12 + nv) : Nat) : Int) = (ds : Int) + (12 + (nv : Int)) by omega]
          rfl
        have HEND : Hid (∀ u2 C' vG' vP' vR' Gs' X', TaX w u2 S1 p (l.app r) q C' vG' vP' vR' Gs' X' Gc (R ++ [r]) (P ++ [(ds + (12 + nv), R ++ [r])]) (ls + (12 + nv)) (ds + (12 + nv)) → Gs'[Gc.length]? = some vR' → Gs'.length = Gc.length + 1 → X'.length = X.length + 1 → Tst w u2 S1 p (l.app r) q (R ++ [r]) (P ++ [(ds + (12 + nv), R ++ [r])]) (N + 1)) := by
          intro u2 C' vG' vP' vR' Gs' X' h1 h2 h3 h4
          have e1 : (l.app r).size = ls + (12 + nv) := by show l.size + (12 + r.length) = _; rw [HLS, HNV.out]
          have e2 : dirt (l.app r).ws = ds + (12 + nv) := by
            show dirt (l.ws ++ [_]) = _
            rw [dirt_append, HDS, HNV.out]
            simp [dirt, frame_len]
          refine ⟨C', vG', vP', vR', Gs', X', Gc, by rw [e1, e2]; exact h1, h2, h3, ?_, by omega, by omega, by show (l.ws ++ [_]).length ≤ _; simp; omega⟩
          have := hTl.app (r := r) (by have := HNV.out; omega) (by have := HNV.out; omega)
          rw [← HDS, ← HNV.out] at this
          exact this
        have HNX : Hid (Nxt l (l.app r)) := .inr (.inl ⟨r, by have := HNV.out; omega, (HV.out _ hX1.jr.be).bytes, by have := HNV.out; omega, rfl⟩)
        have hbX : X.length + 1 ≤ 4000000000000 := by omega
        have hbG : Gs.length ≤ 4000000000000 := by omega
        have HGL := hid hgl
        have q1 : ¬ (1048576 : Int) < (ls : Int) + (12 + (nv : Int)) := by omega
        clear hX0 hl1 hr1 HA HKB hX1 hS1 hV hVl hVf hset hTl HNR hi0 HLS HDS bX bG bW hE hLl HH HNU hgl
        go_upto_region 9 with fail
        go_region_law (first
          | (go_simp; go_at_call 13; refine HCL.out.mono ?_; rintro _ w1 ⟨xa, xn, xc, rfl, hxo, hxb⟩; have HXO := hid hxo; have HXB := hid hxb; clear hxo hxb; obtain ⟨-, -, y2, -, -, yf⟩ := ta_cells (HRO.out w1 HXB.out); obtain ⟨-, -, y3, -, -, yg⟩ := ta_cells (HRA.out w1 (.slice xa xn xc) HXB.out))
          | (refine step_append_lies _ (by rfl) _ _ _ (by rfl) w.heap.size 24 i0 (.slice none 0 0) 1 24 (by kernel_rfl) HI.out hz0 hz1 hz2 rfl (by omega) (.slice ar nr cr) nr Vs (by rfl) (HOWN.out w1 _ HXB.out) ⟨w1.heap.size, 0, none⟩ 1 1 [.slice xa xn xc] (by rfl) (by rfl) (HNEW.out w1 _) (by simp [Value.oneCell']) (by omega) hC3 hC (HB4.out w1 _ HXB.out) (w1.heap.size + 1) (World.size_alloc _ _) ?_; intro g6 cap6 w6 hown6 hgrow hat6 hlt6; obtain ⟨-, -, k2, k3, k4, kf⟩ := ta_cells (HROW.out w1 w6 _ HXB.out hgrow))
          | fail)
        all_goals (
          obtain ⟨C', hE⟩ := HFIN.out w1 w6 xa xn xc g6 cap6 HXO.out HXB.out hown6 hgrow hat6
          have HNO := hid (note_some hE HGL.out hbX hbG)
          clear hown6 hgrow hat6 hlt6 hE
          go_wp2_with fail
          refine HNO.out.mono ?_
          rintro _ u9 ⟨rfl, vG', vP', Gs', X', h1, h2, h3, h4⟩
          have HTS := hid (HEND.out u9 _ _ _ _ _ _ h1 h2 h3 h4)
          clear h1 h2 h3 h4
          go_wp2_with fail
          go_ret
          exact ⟨rfl, _, _, _, _, HTS.out, HNX.out⟩)
end Go.Proofs.YteoebmpfdcbbmabDoor
