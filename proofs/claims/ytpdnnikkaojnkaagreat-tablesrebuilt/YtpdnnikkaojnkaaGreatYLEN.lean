import Derived.Test.YtpdnnikkaojnkaaGreatYLE
namespace Go.Proofs.YtpdnnikkaojnkaaGreat.Rt
open Go.Proofs.YtpdnnikkaojnkaaGreat Go.ChangeShapes Go.WideShapes Go.ChangeAt Go.RowKit Go.Maps Tri N
set_option maxHeartbeats 4000000
set_option maxRecDepth 100000
theorem neighR_any (w : World) {m : Nat} {v : Vs} {s : Ks} (o : Opv) (h : Rf w m v s) (ho : o.Ok) (hk : o.kind = 3 ∨ o.kind = 4) :
    Calls Tryz.prog 79 #[.pointer (some ⟨m, 0, none⟩), .agg o.cells] w fun e w' => e = .returned (.int .i64 (oneE s o)) ∧ ∃ v', RTurn w w' m v (oneS s o) v' := by
  obtain ⟨vr, vn, vf⟩ := v
  obtain ⟨w1, HW1⟩ : ∃ w1, Hid (w1 = w.alloc (.cells o.cells 46)) := ⟨_, rfl⟩
  have hb1 : Below w.heap.size w w1 := by rw [HW1.out]; exact (Below.refl _ _).alloc (Nat.le_refl _) _
  have hop : OpB w1 w.heap.size o := by unfold OpB; rw [HW1.out]; exact heap_alloc_new w _
  have HOP := hid hop
  have HR := hid (h.below hb1)
  have HB1 := hid hb1
  have HOK := hid (h.ok.one ho)
  have HOO := hid ho
  obtain ⟨E, HE⟩ : ∃ E, Hid (E = oneE s o) := ⟨_, rfl⟩
  obtain ⟨S, HS⟩ : ∃ S, Hid (S = oneS s o) := ⟨_, rfl⟩
  rw [← HE.out, ← HS.out]
  rw [← HS.out] at HOK
  obtain ⟨av, nv, cv, hv, HN, hnc, hcm⟩ := h.n.shape
  obtain rfl : vn = .slice av nv cv := hv
  have hle : nv ≤ 256 := by have := h.ok.nl; have := HN.out; omega
  obtain ⟨cp, HCP⟩ : ∃ cp, Hid (cp = s.cn) := ⟨_, rfl⟩
  unfold maxLen at hcm
  have HOPW : Hid (∀ u : World, Below w1.heap.size w1 u → OpB u w.heap.size o) := fun u hu => hop.below hu
  have HGL : Hid (w.heap.size < w1.heap.size) := (Array.getElem?_eq_some_iff.1 hop).1
  clear h hb1 hop ho
  have c0 : w1.cell? ⟨w.heap.size, 0, none⟩ = some (.int .i64 o.kind) := HOP.out.kind
  have c5 : w1.cell? ⟨w.heap.size, 5, none⟩ = some (.int .u32 (o.n.ip : Int)) := by rw [cell_of_row _ _ _ _ _ _ HOP.out]; rfl
  have c6 : w1.cell? ⟨w.heap.size, 6, none⟩ = some (.int .u8 (o.n.mac.b0 : Int)) := by rw [cell_of_row _ _ _ _ _ _ HOP.out]; rfl
  have c7 : w1.cell? ⟨w.heap.size, 7, none⟩ = some (.int .u8 (o.n.mac.b1 : Int)) := by rw [cell_of_row _ _ _ _ _ _ HOP.out]; rfl
  have c8 : w1.cell? ⟨w.heap.size, 8, none⟩ = some (.int .u8 (o.n.mac.b2 : Int)) := by rw [cell_of_row _ _ _ _ _ _ HOP.out]; rfl
  have c9 : w1.cell? ⟨w.heap.size, 9, none⟩ = some (.int .u8 (o.n.mac.b3 : Int)) := by rw [cell_of_row _ _ _ _ _ _ HOP.out]; rfl
  have c10 : w1.cell? ⟨w.heap.size, 10, none⟩ = some (.int .u8 (o.n.mac.b4 : Int)) := by rw [cell_of_row _ _ _ _ _ _ HOP.out]; rfl
  have c11 : w1.cell? ⟨w.heap.size, 11, none⟩ = some (.int .u8 (o.n.mac.b5 : Int)) := by rw [cell_of_row _ _ _ _ _ _ HOP.out]; rfl
  have HA : Hid (Calls Tryz.prog 66 #[.pointer (some ⟨m, 0, none⟩), .int .u32 (o.n.ip : Int)] w1 fun e w' => e = .returned (.int .i64 (pz (ix Nb.ip s.N o.n.ip))) ∧ Below w1.heap.size w1 w') := (neighAt_any w1 o.n.ip HR.out).mono fun e w' h => ⟨h.1, h.2 ▸ Below.refl _ _⟩
  go_enter Tryz.func79, Tryz.ntmps79
  go_upto_region 1 with fail
  rw [← HW1.out]
  clear HW1
  go_wp2_with fail
  refine HA.out.mono ?_
  rintro _ w3 ⟨rfl, hb3⟩
  have HB3 : Hid (Below w1.heap.size w1 w3) := hb3
  clear hb3 HA c5 c6 c7 c8 c9 c10 c11 c0
  rcases hk with hk | hk
  · have HK1 := hid hk
    have HR3 := hid (HR.out.below HB3.out)
    have HO3 : Hid (Own kN w3 0 (.slice av nv cv) s.N) := HR3.out.n
    have HBW : Hid (Below w.heap.size w w3) := HB1.out.trans (HB3.out.mono HB1.out.size)
    have hop3 := HOPW.out w3 HB3.out
    have k0 : w3.cell? ⟨w.heap.size, 0, none⟩ = some (.int .i64 3) := by rw [← hk]; exact hop3.kind
    have m1 : w3.cell? ⟨m, 1, none⟩ = some (.slice av nv cv) := HR3.out.cells.2.1
    have HSAME : Hid (RTurn w w3 m ⟨vr, .slice av nv cv, vf⟩ s ⟨vr, .slice av nv cv, vf⟩) := (RTurn.same (v := ⟨vr, .slice av nv cv, vf⟩) HR.out HB3.out).behind HB1.out
    cases hix : ix Nb.ip s.N o.n.ip with
    | some j =>
      have HEE := hid (putN_some (s := s) hk hix)
      obtain ⟨e0, he0, -⟩ := ix_some hix
      obtain ⟨g, rfl, hg, -⟩ := atN HO3.out he0
      have hjl : j < nv := by have := (List.getElem?_eq_some_iff.1 he0).1; have := HN.out; omega
      have HJL : Hid (j < s.N.length) := by have := HN.out; unfold Hid; omega
      have hj1 : (j : Int) < (nv : Int) := int_lt hjl
      have hj2 : ¬ (j : Int) < 0 := by omega
      have hj3 : (0 : Int) ≤ (j : Int) := by omega
      have b5 : w3.cell? ⟨w.heap.size, 5, none⟩ = some (.int .u32 (o.n.ip : Int)) := by rw [cell_of_row _ _ _ _ _ _ hop3]; rfl
      have b6 : w3.cell? ⟨w.heap.size, 6, none⟩ = some (.int .u8 (o.n.mac.b0 : Int)) := by rw [cell_of_row _ _ _ _ _ _ hop3]; rfl
      have b7 : w3.cell? ⟨w.heap.size, 7, none⟩ = some (.int .u8 (o.n.mac.b1 : Int)) := by rw [cell_of_row _ _ _ _ _ _ hop3]; rfl
      have b8 : w3.cell? ⟨w.heap.size, 8, none⟩ = some (.int .u8 (o.n.mac.b2 : Int)) := by rw [cell_of_row _ _ _ _ _ _ hop3]; rfl
      have b9 : w3.cell? ⟨w.heap.size, 9, none⟩ = some (.int .u8 (o.n.mac.b3 : Int)) := by rw [cell_of_row _ _ _ _ _ _ hop3]; rfl
      have b10 : w3.cell? ⟨w.heap.size, 10, none⟩ = some (.int .u8 (o.n.mac.b4 : Int)) := by rw [cell_of_row _ _ _ _ _ _ hop3]; rfl
      have b11 : w3.cell? ⟨w.heap.size, 11, none⟩ = some (.int .u8 (o.n.mac.b5 : Int)) := by rw [cell_of_row _ _ _ _ _ _ hop3]; rfl
      have HTH : Hid (w3.drew.there g (j * 7) 7) := (HO3.out.below (below_drewN (Below.refl _ _) 1)).there HJL.out
      obtain ⟨zz, HZ⟩ : ∃ zz : Array Value, Hid (zz = o.n.cells) := ⟨_, rfl⟩
      have HZS : Hid (zz.size = 7) := by unfold Hid; rw [HZ.out]; rfl
      have HTZ : Hid (w3.drew.there g (j * 7) zz.size) := by unfold Hid; rw [HZS.out]; exact HTH.out
      have HINF : Hid ((Tryz.prog.info? 42).map (·.size) = some zz.size) := by unfold Hid; rw [HZS.out]; kernel_rfl
      have HONE : Hid (zz.all (·.oneCell') = true) := by unfold Hid; rw [HZ.out]; exact one_cells o.n
      obtain ⟨w4, HW4⟩ : ∃ w4, Hid (w4 = World.setCells { heap := w3.heap, tape := w3.tape, drawn := w3.drawn + 1, os := w3.os, output := w3.output } g (j * 7) zz.toList) := ⟨_, rfl⟩
      have HTU : Hid (RTurn w w4 m ⟨vr, .slice (some ⟨g, 0, none⟩) nv cv, vf⟩ { s with N := s.N.set j o.n } ⟨vr, .slice (some ⟨g, 0, none⟩) nv cv, vf⟩) := by
        have hd : Below w3.heap.size w3 w3.drew := below_drewN (Below.refl _ _) 1
        have h1 := (HO3.out.below hd).put HJL.out o.n
        have h2 : Me.Keeps (fun k => k = g) w3.drew w4 := by rw [HW4.out]; exact (setCells_heap _ _ _).2
        have h3 : Own kN w4 0 (.slice (some ⟨g, 0, none⟩) nv cv) (s.N.set j o.n) := by rw [HW4.out, HZ.out]; exact h1
        exact ((HR3.out.below hd).putN rfl h2 h3 (by rw [← HEE.out.2, ← HS.out]; exact HOK.out)).behind (HBW.out.trans (hd.mono HBW.out.size))
      simp only [pz]
      clear hop3 hix he0 hg HO3 HTH
      go_upto_region 7 with fail
      refine wp_region_still_tail 8 (by kernel_rfl) (by kernel_rfl) ?_
      simp only [List.take_succ_cons, List.take_zero, List.drop_succ_cons, List.drop_zero]
      iterate 8 still_step
      refine wpStill_nil ?_
      refine wpList_store_mid rfl 42 (.tmp 42) (.tmp 41) rfl g (j * 7) zz rfl (by rw [HZ.out]; rfl) HTZ.out HINF.out HONE.out ?_
      rw [← HW4.out]
      clear b5 b6 b7 b8 b9 b10 b11 k0 m1 HTZ HINF HONE HZS HZ HW4
      go_wp2_with fail
      go_ret
      exact ⟨ret_int (by rw [HE.out, HEE.out.1]), _, by rw [HS.out, HEE.out.2]; exact HTU.out⟩
    | none =>
      have hm0 : ∀ t : Beh w3, t.wd.cell? ⟨m, 1, none⟩ = some (.slice av nv cv) := fun t => (HR3.out.below t.ok).cells.2.1
      have hm3 : ∀ t : Beh w3, t.wd.cell? ⟨m, 4, none⟩ = some (.int .i64 (cp : Int)) := fun t => by rw [HCP.out]; exact (HR3.out.below t.ok).cells.2.2.2.2.1
      have HOP3 := hid hop3
      by_cases hfl : cp ≤ nv
      · have HEE := hid (putN_full (s := s) hk hix (by rw [← HCP.out, ← HN.out]; exact hfl))
        have hfl' : (cp : Int) ≤ (nv : Int) := by omega
        simp only [pz]
        clear hop3 hix hfl
        go_upto_region 9 with fail
        refine wp_region_beh (by kernel_rfl) (by kernel_rfl) ?_
        repeat (go_big_quiet_step (fail))
        refine wpQuiet_nil ?_
        rintro _ ⟨t, rfl⟩
        have HT := hid (HSAME.out.then t.ok)
        clear hm0 hm3 m1 k0
        go_wp2_with fail
        go_ret
        exact ⟨ret_int (by rw [HE.out, HEE.out.1]), _, by rw [HS.out, HEE.out.2]; exact HT.out⟩
      · have HEE := hid (putN_new (s := s) hk hix (by rw [← HCP.out, ← HN.out]; exact hfl))
        have hfl' : ¬ (cp : Int) ≤ (nv : Int) := by omega
        simp only [pz]
        clear hop3 hix hfl
        go_upto_region 9 with fail
        refine wp_region_beh (by kernel_rfl) (by kernel_rfl) ?_
        repeat (go_big_quiet_step (fail))
        refine wpQuiet_nil ?_
        rintro _ ⟨t, rfl⟩
        have HR4 := hid (HR3.out.below t.ok)
        have HO4 := hid (HO3.out.below t.ok)
        have HBT : Hid (Below w.heap.size w t.wd) := HBW.out.trans (t.ok.mono HBW.out.size)
        have hop3 := HOP3.out.below t.ok
        have n1 : t.wd.cell? ⟨m, 1, none⟩ = some (.slice av nv cv) := hm0 t
        clear hm0 hm3 m1 k0 HO3 HR3 HOP3 HSAME
        generalize t.wd = u at *
        have b5 : u.cell? ⟨w.heap.size, 5, none⟩ = some (.int .u32 (o.n.ip : Int)) := by rw [cell_of_row _ _ _ _ _ _ hop3]; rfl
        have b6 : u.cell? ⟨w.heap.size, 6, none⟩ = some (.int .u8 (o.n.mac.b0 : Int)) := by rw [cell_of_row _ _ _ _ _ _ hop3]; rfl
        have b7 : u.cell? ⟨w.heap.size, 7, none⟩ = some (.int .u8 (o.n.mac.b1 : Int)) := by rw [cell_of_row _ _ _ _ _ _ hop3]; rfl
        have b8 : u.cell? ⟨w.heap.size, 8, none⟩ = some (.int .u8 (o.n.mac.b2 : Int)) := by rw [cell_of_row _ _ _ _ _ _ hop3]; rfl
        have b9 : u.cell? ⟨w.heap.size, 9, none⟩ = some (.int .u8 (o.n.mac.b3 : Int)) := by rw [cell_of_row _ _ _ _ _ _ hop3]; rfl
        have b10 : u.cell? ⟨w.heap.size, 10, none⟩ = some (.int .u8 (o.n.mac.b4 : Int)) := by rw [cell_of_row _ _ _ _ _ _ hop3]; rfl
        have b11 : u.cell? ⟨w.heap.size, 11, none⟩ = some (.int .u8 (o.n.mac.b5 : Int)) := by rw [cell_of_row _ _ _ _ _ _ hop3]; rfl
        have n1b : (u.alloc (.cells #[.int .u32 (o.n.ip : Int), .int .u8 (o.n.mac.b0 : Int), .int .u8 (o.n.mac.b1 : Int), .int .u8 (o.n.mac.b2 : Int), .int .u8 (o.n.mac.b3 : Int), .int .u8 (o.n.mac.b4 : Int), .int .u8 (o.n.mac.b5 : Int)] 42)).cell? ⟨m, 1, none⟩ = some (.slice av nv cv) := (Below.cell ((Below.refl _ _).alloc (Nat.le_refl _) _) (p := ⟨m, 1, none⟩) (HR4.out.lt (.inl rfl))).trans n1
        obtain ⟨w4, HW4⟩ : ∃ w4, Hid (w4 = (u.alloc (.cells #[.int .u32 (o.n.ip : Int), .int .u8 (o.n.mac.b0 : Int), .int .u8 (o.n.mac.b1 : Int), .int .u8 (o.n.mac.b2 : Int), .int .u8 (o.n.mac.b3 : Int), .int .u8 (o.n.mac.b4 : Int), .int .u8 (o.n.mac.b5 : Int)] 42)).drew) := ⟨_, rfl⟩
        have hb4 : Below u.heap.size u w4 := by rw [HW4.out]; exact below_drewN ((Below.refl _ _).alloc (Nat.le_refl _) _) 1
        have r4 : w4.heap[u.heap.size]? = some (.cells o.n.cells 42 (0, 0)) := by rw [HW4.out]; exact heap_alloc_new u _
        obtain ⟨v', w5, hap, ho5, hg5, hn5⟩ := append_one (K := kN) 48 o.n u.heap.size (HO4.out.below hb4) r4 (Nat.zero_le _) (by have := HN.out; omega)
        obtain ⟨av', nv', cv', rfl, -, -, -⟩ := ho5.shape
        have hk5 : Me.Keeps (fun k => Value.ownBlock (.slice av nv cv) = some k) u w5 := (Me.Keeps.of hb4).trans (Me.Keeps.grown hg5 fun k e => e)
        have HAP : Hid ((Builtin.append_ #[48, 48] 48 #[.slice av nv cv, .slice (some ⟨u.heap.size, 0, none⟩) 1 1]).run Tryz.prog w4 = .ok (.slice av' nv' cv') w5) := hap
        obtain ⟨w6, HW6⟩ : ∃ w6, Hid (w6 = w5.setCell ⟨m, 1, none⟩ (.slice av' nv' cv')) := ⟨_, rfl⟩
        have HTU : Hid (RTurn w w6 m ⟨vr, .slice av nv cv, vf⟩ { s with N := s.N ++ [o.n] } ⟨vr, .slice av' nv' cv', vf⟩) := by
          unfold Hid
          rw [HW6.out]
          exact (HR4.out.storeN (x := .slice av' nv' cv') hk5 ho5 (fun k e => (hn5 k e).imp id fun h => Nat.le_trans hb4.size h) (by rw [← HEE.out.2, ← HS.out]; exact HOK.out)).behind HBT.out
        have r5 : w5.heap[m]? = some (.cells (rkC ⟨vr, .slice av nv cv, vf⟩ s) 142) := (hk5.block m (HR4.out.lt (.inl rfl)) HR4.out.apart.2.1).trans HR4.out.row
        obtain ⟨v5, m5⟩ : ∃ v, w5.cell? ⟨m, 1, none⟩ = some v := ⟨_, by rw [cell_of_row _ _ _ _ _ _ r5]; rfl⟩
        have m6 : w5.frozen? ⟨m, 1, none⟩ = false := frozen_of_row _ _ _ _ _ r5
        clear hop3 hb4 r4 hap ho5 hg5 hn5 hk5 r5 HO4 HR4
        go_upto_region 11 with fail
        go_region_law (first | (rw [← HW4.out]; refine step_append_run rfl _ _ _ _ rfl _ _ rfl rfl HAP.out ?_))
        all_goals (
          rw [← HW6.out]
          clear b5 b6 b7 b8 b9 b10 b11 n1 n1b m5 m6
          go_wp2_with fail
          go_ret
          exact ⟨ret_int (by rw [HE.out, HEE.out.1]), _, by rw [HS.out, HEE.out.2]; exact HTU.out⟩)
  · have HK1 := hid hk
    have HR3 := hid (HR.out.below HB3.out)
    have HO3 : Hid (Own kN w3 0 (.slice av nv cv) s.N) := HR3.out.n
    have HBW : Hid (Below w.heap.size w w3) := HB1.out.trans (HB3.out.mono HB1.out.size)
    have hop3 := HOPW.out w3 HB3.out
    have k0 : w3.cell? ⟨w.heap.size, 0, none⟩ = some (.int .i64 4) := by rw [← hk]; exact hop3.kind
    have m1 : w3.cell? ⟨m, 1, none⟩ = some (.slice av nv cv) := HR3.out.cells.2.1
    have HSAME : Hid (RTurn w w3 m ⟨vr, .slice av nv cv, vf⟩ s ⟨vr, .slice av nv cv, vf⟩) := (RTurn.same (v := ⟨vr, .slice av nv cv, vf⟩) HR.out HB3.out).behind HB1.out
    cases hix : ix Nb.ip s.N o.n.ip with
    | none =>
      have HEE := hid (delN_none (s := s) hk hix)
      simp only [pz]
      clear hop3 hix
      go_wp2_with fail
      go_ret
      exact ⟨ret_int (by rw [HE.out, HEE.out.1]), _, by rw [HS.out, HEE.out.2]; exact HSAME.out⟩
    | some j =>
      have HEE := hid (delN_some (s := s) hk hix)
      obtain ⟨e0, he0, -⟩ := ix_some hix
      obtain ⟨g, rfl, hg, -⟩ := atN HO3.out he0
      have hjl : j < nv := by have := (List.getElem?_eq_some_iff.1 he0).1; have := HN.out; omega
      have HJL : Hid (j < s.N.length) := by have := HN.out; unfold Hid; omega
      have hj1 : (j : Int) < (nv : Int) := int_lt hjl
      have hj2 : ¬ (j : Int) < 0 := by omega
      have hj3 : (0 : Int) ≤ (j : Int) := by omega
      obtain ⟨A, hA1, HAA⟩ : ∃ A : Addr, (if cv = j + 1 then some (⟨g, 0, none⟩ : Addr) else some ⟨g, (j + 1) * 7, none⟩) = some A ∧ (j + 1 < nv → A = ⟨g, (j + 1) * 7, none⟩) := by
        by_cases e : cv = j + 1
        · exact ⟨_, if_pos e, fun h => by omega⟩
        · exact ⟨_, if_neg e, fun _ => rfl⟩
      have hdr : Below w3.heap.size w3 w3.drew := below_drewN (Below.refl _ _) 1
      obtain ⟨w4, hap, ho4, hg4, hs4⟩ := erase_run (K := kN) 48 (HO3.out.below hdr) HJL.out HN.out HAA
      have HAP : Hid ((Builtin.append_ #[48, 48] 48 #[.slice (some ⟨g, 0, none⟩) j cv, .slice (some A) (nv - (j + 1)) (cv - (j + 1))]).run Tryz.prog w3.drew = .ok (.slice (some ⟨g, 0, none⟩) (j + (nv - (j + 1))) cv) w4) := hap
      have HK4 : Hid (Me.Keeps (fun k => Value.ownBlock (.slice (some ⟨g, 0, none⟩) nv cv) = some k) w3 w4) := (Me.Keeps.of hdr).trans (Me.Keeps.grown hg4 fun k e => e)
      have HTU : Hid (RTurn w (w4.setCell ⟨m, 1, none⟩ (.slice (some ⟨g, 0, none⟩) (j + (nv - (j + 1))) cv)) m ⟨vr, .slice (some ⟨g, 0, none⟩) nv cv, vf⟩ { s with N := s.N.eraseIdx j } ⟨vr, .slice (some ⟨g, 0, none⟩) (j + (nv - (j + 1))) cv, vf⟩) := (HR3.out.storeN (x := .slice (some ⟨g, 0, none⟩) (j + (nv - (j + 1))) cv) HK4.out ho4 (fun k e => .inl e) (by rw [← HEE.out.2, ← HS.out]; exact HOK.out)).behind HBW.out
      have hr4 : w4.heap[m]? = some (.cells (rkC ⟨vr, .slice (some ⟨g, 0, none⟩) nv cv, vf⟩ s) 142) := (HK4.out.block m (HR3.out.lt (.inl rfl)) HR3.out.apart.2.1).trans HR3.out.row
      obtain ⟨v2, e2⟩ : ∃ v, w4.cell? ⟨m, 1, none⟩ = some v := ⟨_, by rw [cell_of_row _ _ _ _ _ _ hr4]; rfl⟩
      have e3 : w4.frozen? ⟨m, 1, none⟩ = false := frozen_of_row _ _ _ _ _ hr4
      have hw1 : IntKind.i64.wrap ((j : Int) + 1) = (j : Int) + 1 := by rw [IntKind.wrap_i64]; omega
      have hw2 : ((j : Int) + 1).toNat = j + 1 := by omega
      have hw3 : (j : Int) + 1 ≤ (nv : Int) := by omega
      have hw4 : (0 : Int) ≤ (j : Int) + 1 := by omega
      have hw5 : j ≤ cv := by omega
      simp only [pz]
      clear hop3 hix he0 hg hdr hap ho4 hg4 hs4 HAA HK4 hr4 HO3
      go_upto_region 4 with fail
      go_region_law (first | (refine step_append_run rfl _ _ _ _ rfl _ _ rfl rfl HAP.out ?_) | fail)
      all_goals (
        go_wp2_with fail
        go_ret
        exact ⟨ret_int (by rw [HE.out, HEE.out.1]), _, by rw [HS.out, HEE.out.2]; exact HTU.out⟩)
end Go.Proofs.YtpdnnikkaojnkaaGreat.Rt
