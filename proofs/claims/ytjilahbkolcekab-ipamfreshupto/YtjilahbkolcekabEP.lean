/-
  The reference: List.
-/
import Derived.Test.YtjilahbkolcekabEO
namespace Go.Proofs.Ytjilahbkolcekab
open Go.ChangeShapes Go.WideShapes Go.ChangeAt Go.RowKit Go.Maps Tri
set_option maxHeartbeats 4000000
set_option maxRecDepth 100000

theorem listR_any (w : World) (rb : Nat) (vp : Value) (s : Ist) (h : RfAt w rb vp s) :
    Calls Try.prog 36 #[.pointer (some ⟨rb, 0, none⟩)] w fun e w' => ∃ v L, e = .returned v ∧ OwnD w' w.heap.size v L ∧ Srt L s.S ∧ Below w.heap.size w w' := by
  obtain ⟨av, nv, cv, rfl, HN, hnc, hcap, hnil⟩ := h.own.shape
  have HR := hid h
  have hle : nv ≤ 1024 := by have := h.ok.le; have := HN.out; omega
  have HC : ∀ u : World, Below w.heap.size w u → u.cell? ⟨rb, 2, none⟩ = some (.slice av nv cv) := fun u hu => (h.below hu).cells.2.2.1
  have HAT : ∀ (i : Nat) (p : Pod), s.S[i]? = some p → ∃ g, av = some ⟨g, 0, none⟩ ∧ Hid (∀ u : World, Below w.heap.size w u → u.cell? ⟨g, i * 2, none⟩ = some (.string p.nm) ∧ u.cell? ⟨g, i * 2 + 1, none⟩ = some (.int .u32 (p.ad : Int))) := fun i p hi => by
    obtain ⟨g, e, hg, hcl⟩ := h.own.at hi
    exact ⟨g, e, fun u hu => ⟨(hcl u (hu.block g hg)).1, (hcl u (hu.block g hg)).2.1⟩⟩
  clear h hcap hnil
  go_enter Try.func36, Try.ntmps36
  go_upto_region 3 with fail
  go_loopw [3, 4] (fun l i wr => ∃ (j : Nat) (A : List Pod), i = .int .i64 (j : Int) ∧ j ≤ nv ∧ Hid (OwnD wr w.heap.size l A) ∧ Hid (Srt A (s.S.take j)) ∧ Hid (Below w.heap.size w wr)) (fun _ i _ => nv - (intOf i).toNat)
  case atStart => exact ⟨0, [], rfl, Nat.zero_le _, OwnD.nil _ _, ⟨List.Perm.refl _, List.Pairwise.nil⟩, Below.refl _ _⟩
  case round =>
    obtain ⟨j, A, rfl, hj, HO, HS, HB⟩ := hrel
    have c2 := HC wr HB.out
    by_cases hlt : j < nv
    · have hlt' : (j : Int) < (nv : Int) := int_lt hlt
      obtain ⟨p, HX⟩ : ∃ p, Hid (s.S[j]? = some p) := ⟨_, hid (List.getElem?_eq_getElem (by have := HN.out; omega))⟩
      obtain ⟨g, rfl, HCL⟩ := HAT j p HX.out
      obtain ⟨d0, d1⟩ := HCL.out wr HB.out
      have HAL : Hid (A.length = j) := by
        have := HS.out.1.length_eq
        rw [List.length_take] at this
        have := HN.out
        unfold Hid; omega
      obtain ⟨w2, HW2⟩ : ∃ w2, Hid (w2 = wr.alloc (.cells #[.string p.nm, .int .u32 (p.ad : Int)] 80)) := ⟨_, rfl⟩
      have hb2 : Below wr.heap.size wr w2 := by rw [HW2.out]; exact (Below.refl _ _).alloc (Nat.le_refl _) _
      have r2 : w2.heap[wr.heap.size]? = some (.cells #[.string p.nm, .int .u32 (p.ad : Int)] 80 (0, 0)) := by rw [HW2.out]; exact heap_alloc_new wr _
      obtain ⟨v', w3, hap, ho3, hg3, -⟩ := append_pod w2 49 w.heap.size u3 A p wr.heap.size (HO.out.below hb2) (by rw [cell_of_row _ _ _ _ _ _ r2]; rfl) (by rw [cell_of_row _ _ _ _ _ _ r2]; rfl) (Nat.le_trans HB.out.size hb2.size) (by have := HAL.out; omega)
      have HB3 : Hid (Below w.heap.size w w3) := (HB.out.trans (hb2.mono HB.out.size)).trans ((Keeps.grown (S := fun k => Value.ownBlock u3 = some k) hg3 fun k e => e).below (Nat.le_trans HB.out.size hb2.size) fun k e => (World.ownsRow.lt HO.out k e).1)
      obtain ⟨g', n', cap', rfl, hn'⟩ := own_some ho3
      have HO3 : Hid (OwnD w3 w.heap.size (.slice (some ⟨g', 0, none⟩) n' cap') (insA A A.length p)) := by unfold Hid; rw [insA_end]; exact ho3
      have HN3 : Hid (n' = A.length + 1) := by unfold Hid; rw [hn']; simp
      have hn3 : n' ≤ 1025 := by have := HN3.out; have := HAL.out; omega
      have HNJ : Hid (n' = j + 1) := by have := HN3.out; have := HAL.out; unfold Hid; omega
      have HAP := hid hap
      have HPA : Hid (∀ q ∈ A, q.ad ≠ p.ad) := fun q hq e => by
        have hq2 : q ∈ s.S.take j := HS.out.1.mem_iff.1 hq
        have hnd := HR.out.ok.an
        have : q = p := nod_inj hnd (List.mem_of_mem_take hq2) (List.mem_of_getElem? HX.out) e
        subst this
        obtain ⟨m, hm, e2⟩ := List.mem_iff_getElem.1 hq2
        have hml : m < j := by rw [List.length_take] at hm; omega
        rw [List.getElem_take] at e2
        have h1 := (List.pairwise_iff_getElem.1 (nodup_of_map hnd)) m j (by rw [List.length_take] at hm; omega) (by have := HN.out; omega) hml
        have h2 := (List.getElem?_eq_some_iff.1 HX.out).2
        exact h1 (by rw [e2, h2])
      have HT1 : Hid (s.S.take (j + 1) = s.S.take j ++ [p]) := take_snoc HX.out
      have HCC := hid HC
      clear hb2 r2 hap ho3 hg3 hn' HAT HCL HC
      go_upto_region 6 with (first | (at_builtin; rw [← HW2.out]; refine wpList_append_run _ rfl _ _ 49 49 rfl _ _ rfl rfl HAP.out ?_) | fail)
      clear d0 d1 c2
      go_upto_region 7 with fail
      go_loopw [5] (fun i wx => ∃ k : Nat, i = .int .i64 (k : Int) ∧ k ≤ j ∧ Hid (OwnD wx w.heap.size (.slice (some ⟨g', 0, none⟩) n' cap') (insA A k p)) ∧ Hid (∀ q ∈ A.drop k, p.ad < q.ad) ∧ Hid (Below w.heap.size w wx)) (fun i _ => (intOf i).toNat)
      case atStart => exact ⟨j, rfl, Nat.le_refl _, by rw [← HAL.out]; exact HO3, fun q hq => absurd hq (by rw [← HAL.out]; simp), HB3⟩
      case round =>
        obtain ⟨k, rfl, hk, HOk, HHI, HBk⟩ := hrel
        have HFIN : (∀ m q, k = m + 1 → A[m]? = some q → q.ad < p.ad) → Hid (Srt (insA A k p) (s.S.take (j + 1))) := fun hlo => by
          unfold Hid; rw [HT1.out]
          exact ⟨insA_perm.trans (HS.out.1.append_right [p]), insA_srt (by have := HAL.out; omega) HS.out.2 hlo HHI.out⟩
        cases k with
        | zero =>
          have HF := HFIN (fun m q e => absurd e (by omega))
          clear HFIN
          go_upto_region 7 with fail
          refine wp_region_beh (by kernel_rfl) (by kernel_rfl) ?_
          repeat (go_big_quiet_step (fail))
          refine wpQuiet_nil ?_
          rintro _ ⟨t, rfl⟩
          have HBt : Hid (Below w.heap.size w t.wd) := HBk.out.trans (t.ok.mono HBk.out.size)
          have HOt := hid (HOk.out.below t.ok)
          go_wp2_with fail
          go_roundw
          case rel => exact ⟨j + 1, _, by go_num, hlt, HOt, HF, HBt⟩
          case measure => simp [intOf]; omega
        | succ m =>
          obtain ⟨q, HQ⟩ : ∃ q, Hid (A[m]? = some q) := ⟨_, hid (List.getElem?_eq_getElem (by have := HAL.out; omega))⟩
          have HI0 : Hid ((insA A (m + 1) p)[m + 1]? = some p) := insA_at (by have := HAL.out; omega)
          have HI1 : Hid ((insA A (m + 1) p)[m]? = some q) := by unfold Hid; rw [insA_ahead (by have := HAL.out; omega)]; exact HQ.out
          obtain ⟨g1, e1, hg1, hcl1⟩ := HOk.out.at HI0.out
          obtain ⟨g2, e2, hg2, hcl2⟩ := HOk.out.at HI1.out
          simp only [Option.some.injEq, Addr.mk.injEq, and_true] at e1 e2
          subst e1
          subst e2
          have ku : ∀ t : Beh wr, t.wd.heap[g']? = wr.heap[g']? := fun t => t.ok.block g' hg1
          have k1 : ∀ t : Beh wr, t.wd.cell? ⟨g', (m + 1) * 2 + 1, none⟩ = some (.int .u32 (p.ad : Int)) := fun t => (hcl1 t.wd (ku t)).2.1
          have k2 : ∀ t : Beh wr, t.wd.cell? ⟨g', m * 2 + 1, none⟩ = some (.int .u32 (q.ad : Int)) := fun t => (hcl2 t.wd (ku t)).2.1
          have km1 : (((m + 1 : Nat) : Int) - 1) = (m : Int) := by omega
          have km2 : IntKind.i64.wrap (((m + 1 : Nat) : Int) - 1) = (m : Int) := by rw [IntKind.wrap_i64]; omega
          have km3 : (0 : Int) < ((m + 1 : Nat) : Int) := by omega
          have km4 : ((m + 1 : Nat) : Int) < (n' : Int) := by have := HNJ.out; omega
          have km5 : (m : Int) < (n' : Int) := by have := HNJ.out; omega
          have km6 : ¬ ((m + 1 : Nat) : Int) < 0 := by omega
          have HNEQ : Hid (q.ad ≠ p.ad) := HPA.out q (List.mem_of_getElem? HQ.out)
          obtain ⟨k1n, HK1N⟩ : ∃ k1n, Hid (k1n = m + 1) := ⟨_, rfl⟩
          rw [← HK1N.out] at hk HOk HHI HFIN HI0 HI1 hcl1 k1 km1 km2 km3 km4 km6 ⊢
          have km7 : 0 < k1n := by have := HK1N.out; omega
          have hkn : k1n ≤ n' := by have := HNJ.out; omega
          by_cases hpq : p.ad < q.ad
          · have hpq' : (p.ad : Int) < (q.ad : Int) := int_lt hpq
            have HHI2 : Hid (∀ q2 ∈ A.drop m, p.ad < q2.ad) := fun q2 hq2 => by
              rw [List.drop_eq_getElem_cons (List.getElem?_eq_some_iff.1 HQ.out).1, (List.getElem?_eq_some_iff.1 HQ.out).2] at hq2
              rcases List.mem_cons.1 hq2 with rfl | hq2
              · exact hpq
              · rw [HK1N.out] at HHI; exact HHI.out q2 hq2
            clear HFIN hpq
            go_upto_region 7 with fail
            refine wp_region_beh (by kernel_rfl) (by kernel_rfl) ?_
            repeat (go_big_quiet_step (fail))
            refine wpQuiet_nil ?_
            rintro _ ⟨t, rfl⟩
            have HBt : Hid (Below w.heap.size w t.wd) := HBk.out.trans (t.ok.mono HBk.out.size)
            have HOt := hid (HOk.out.below t.ok)
            clear k1 k2 ku hcl1 hcl2 hg1 hg2
            generalize t.wd = u at *
            obtain ⟨u1, HU1⟩ : ∃ u1, Hid (u1 = u.alloc (.cells #[.string p.nm, .int .u32 (p.ad : Int)] 80)) := ⟨_, rfl⟩
            have hb1 : Below u.heap.size u u1 := by rw [HU1.out]; exact (Below.refl _ _).alloc (Nat.le_refl _) _
            have r1 : u1.heap[u.heap.size]? = some (.cells #[.string p.nm, .int .u32 (p.ad : Int)] 80 (0, 0)) := by rw [HU1.out]; exact heap_alloc_new u _
            have HO1 := hid (HOt.out.below hb1)
            obtain ⟨_, e1, hg1, hcl1⟩ := HOt.out.at HI0.out
            simp only [Option.some.injEq, Addr.mk.injEq, and_true] at e1
            subst e1
            obtain ⟨_, e2, hg2, hcl2⟩ := HOt.out.at HI1.out
            simp only [Option.some.injEq, Addr.mk.injEq, and_true] at e2
            subst e2
            have HG1 := hid hg1
            obtain ⟨a0, a1, -, -⟩ := hcl1 u rfl
            have hu1 : u1.heap[g']? = u.heap[g']? := hb1.block g' hg1
            obtain ⟨b0, b1, b2, b3⟩ := hcl2 u1 hu1
            obtain ⟨s0, s1, s2, s3⟩ := hcl1 u1 hu1
            go_upto_region 10 with fail
            rw [← HU1.out]
            clear a0 a1
            go_upto_region 11 with fail
            obtain ⟨u2, HU2⟩ : ∃ u2, Hid (u2 = (u1.setCell ⟨g', k1n * 2, none⟩ (.string q.nm)).setCell ⟨g', k1n * 2 + 1, none⟩ (.int .u32 (q.ad : Int))) := ⟨_, rfl⟩
            have HKL : Hid (k1n < (insA A k1n p).length) := (List.getElem?_eq_some_iff.1 HI0.out).1
            have HO2 : Hid (OwnD u2 w.heap.size (.slice (some ⟨g', 0, none⟩) n' cap') ((insA A k1n p).set k1n q)) := by unfold Hid; rw [HU2.out]; exact HO1.out.put HKL.out q
            have K2 : Hid (Keeps (fun k => k = g') u1 u2) := by
              unfold Hid; rw [HU2.out]
              exact Keeps.set (S := fun k => k = g') (Keeps.set (S := fun k => k = g') (Keeps.refl _ _) ⟨g', k1n * 2, none⟩ rfl _) ⟨g', k1n * 2 + 1, none⟩ rfl _
            have HGL : Hid (w.heap.size ≤ g' ∧ g' < u.heap.size) := ⟨(World.ownsRow.lt HOt.out g' rfl).1, HG1.out⟩
            have r2 : u2.heap[u.heap.size]? = some (.cells #[.string p.nm, .int .u32 (p.ad : Int)] 80 (0, 0)) := (K2.out.block u.heap.size (Array.getElem?_eq_some_iff.1 r1).1 (by have := HGL.out; omega)).trans r1
            have x0 : u2.cell? ⟨u.heap.size, 0, none⟩ = some (.string p.nm) := by rw [cell_of_row _ _ _ _ _ _ r2]; rfl
            have x1 : u2.cell? ⟨u.heap.size, 1, none⟩ = some (.int .u32 (p.ad : Int)) := by rw [cell_of_row _ _ _ _ _ _ r2]; rfl
            have HI2 : Hid (((insA A k1n p).set k1n q)[m]? = some q) := by
              unfold Hid; rw [List.getElem?_set_ne (by have := HK1N.out; omega)]; exact HI1.out
            obtain ⟨_, e3, hg3, hcl3⟩ := HO2.out.at HI2.out
            simp only [Option.some.injEq, Addr.mk.injEq, and_true] at e3
            subst e3
            obtain ⟨y0, y1, y2, y3⟩ := hcl3 u2 rfl
            obtain ⟨u3, HU3⟩ : ∃ u3, Hid (u3 = (u2.setCell ⟨g', m * 2, none⟩ (.string p.nm)).setCell ⟨g', m * 2 + 1, none⟩ (.int .u32 (p.ad : Int))) := ⟨_, rfl⟩
            have HO3 : Hid (OwnD u3 w.heap.size (.slice (some ⟨g', 0, none⟩) n' cap') (insA A m p)) := by
              have h1 := HO2.out.put (List.getElem?_eq_some_iff.1 HI2.out).1 p
              rw [HK1N.out, insA_swap HQ.out, ← HU3.out] at h1
              exact h1
            have K3 : Hid (Keeps (fun k => k = g') u2 u3) := by
              unfold Hid; rw [HU3.out]
              exact Keeps.set (S := fun k => k = g') (Keeps.set (S := fun k => k = g') (Keeps.refl _ _) ⟨g', m * 2, none⟩ rfl _) ⟨g', m * 2 + 1, none⟩ rfl _
            have HB3' : Hid (Below w.heap.size w u3) := by
              have h1 := HBt.out.size
              have h2 := hb1.size
              exact (HBt.out.trans (hb1.mono h1)).trans ((K2.out.trans K3.out).below (by omega) fun k e => by have := HGL.out; omega)
            have HMJ : Hid (m ≤ j) := by have := HK1N.out; unfold Hid; omega
            rw [← HU2.out]
            clear b0 b1 b2 b3 s0 s1 s2 s3 hcl1 hcl2 hcl3 hg1 hg2 hg3 hu1 r1 r2 hb1
            go_upto_region 8 with fail
            rw [← HU3.out]
            clear x0 x1 y0 y1 y2 y3
            go_wp2_with fail
            go_roundw
            case rel => exact ⟨m, rfl, HMJ.out, HO3, HHI2, HB3'⟩
            case measure => simp [intOf]; have := HK1N.out; omega
          · have hpq' : decide ((p.ad : Int) < (q.ad : Int)) = false := by rw [decide_eq_false_iff_not]; omega
            have HF := HFIN (fun m2 q2 e hq2 => by
              have : m2 = m := by have := HK1N.out; omega
              subst this
              rw [HQ.out] at hq2
              cases hq2
              have := HNEQ.out
              omega)
            clear HFIN
            go_upto_region 7 with fail
            refine wp_region_beh (by kernel_rfl) (by kernel_rfl) ?_
            repeat (go_big_quiet_step (fail))
            refine wpQuiet_nil ?_
            rintro _ ⟨t, rfl⟩
            have HBt : Hid (Below w.heap.size w t.wd) := HBk.out.trans (t.ok.mono HBk.out.size)
            have HOt := hid (HOk.out.below t.ok)
            clear k1 k2 ku
            go_wp2_with fail
            go_roundw
            case rel => exact ⟨j + 1, _, by go_num, hlt, HOt, HF, HBt⟩
            case measure => simp [intOf]; omega
    · have hlt' : ¬ (j : Int) < (nv : Int) := int_nlt hlt
      have HE : Hid (Srt A s.S) := by
        have := HS.out
        rw [List.take_of_length_le (by have := HN.out; omega)] at this
        exact this
      go_wp2_with fail
      go_ret
      exact ⟨_, rfl, A, HO.out, HE.out, HB.out⟩
end Go.Proofs.Ytjilahbkolcekab
