import Derived.Test.YthbjfbalgejndaaTD
namespace Go.Proofs.Ythbjfbalgejndaa
open Go.ChangeShapes Go.WideShapes Go.ChangeAt Go.RowKit Go.Maps H
set_option maxHeartbeats 1000000
set_option maxRecDepth 100000

theorem sink_any (b bm g cap p : Nat) (lim : Int) (L : List Dl) (f : Int → Option Nat) (c : Nat) (d : Dl) (w : World) (hm : Mm w b bm g cap lim L f c) (hH : Hole L.length (at' L) f p d) (hup0 : ∀ i, E i p → Le (at' L i) d) :
    Calls Try.prog 36 #[.pointer (some ⟨b, 0, none⟩), .int .i64 (p : Int), .agg #[.int .i64 d.1, .int .i64 d.2]] w fun e w' => ∃ q M h, e = .returned (.int .i64 ((q : Nat) : Int)) ∧ Way w w' b bm g cap lim c L.length (upd (at' L) p d) f d q M h ∧ (∀ i, E i q → Le (at' M i) d) ∧ (∀ k, E q k → k < L.length → Le d (at' M k)) := by
  obtain ⟨hl1, hl2, hl3⟩ := hm.lt
  have hn6 := hm.room.1
  obtain ⟨w1, hw1⟩ : ∃ w1, w1 = w.alloc (.cells #[.int .i64 d.1, .int .i64 d.2] 67) := ⟨_, rfl⟩
  have hf1 : Fr [g, bm] w w1 := by rw [hw1]; exact Fr.alloc _ _ _
  have hs1 : w1.heap.size = w.heap.size + 1 := by rw [hw1]; simp
  have hf1' : Fr [] w w1 := by rw [hw1]; exact Fr.alloc _ _ _
  have hm1 : Mm w1 b bm g cap lim L f c := hm.fr hf1' (by simp) (by simp) (by simp)
  have hbx : w1.heap[w.heap.size]? = some (.cells #[.int .i64 d.1, .int .i64 d.2] 67 (0, 0)) := by rw [hw1]; exact heap_alloc_new w _
  have HBOX : Hid (∀ wr, Fr [g, bm] w1 wr → ∀ u : Beh wr, u.wd.cell? ⟨w.heap.size, 0, none⟩ = some (.int .i64 d.1) ∧ u.wd.cell? ⟨w.heap.size, 1, none⟩ = some (.int .i64 d.2)) := fun wr hf u => by
    have h1 : wr.heap[w.heap.size]? = _ := (hf.block w.heap.size (by omega) (by simp; omega)).trans hbx
    have h2 : u.wd.heap[w.heap.size]? = _ := (u.ok.block w.heap.size (Array.getElem?_eq_some_iff.1 h1).1).trans h1
    exact ⟨by rw [cell_of_row _ _ _ _ _ _ h2]; rfl, by rw [cell_of_row _ _ _ _ _ _ h2]; rfl⟩
  have HW1 := hid hw1
  have HF1 := hid hf1
  have HW0 : Hid (Way w1 w1 b bm g cap lim c L.length (upd (at' L) p d) f d p L f ∧ ∀ i, E i p → Le (at' L i) d) := ⟨⟨hm1, rfl, hH, fun _ => Iff.rfl, rfl, Fr.refl _ _⟩, hup0⟩
  obtain ⟨n, hn⟩ : ∃ n, n = L.length := ⟨_, rfl⟩
  rw [← hn] at hn6 HW0 ⊢
  have hp := hH.lt
  rw [← hn] at hp
  generalize upd (at' L) p d = h0 at HW0 ⊢
  clear hw1 hs1 hf1 hf1' hm hm1 hbx hH hn hl1 hl2 hl3 hup0
  go_enter Try.func36, Try.ntmps36
  go_upto_region 1 with fail
  rw [← HW1.out]
  go_loopw [1] (fun i wv => ∃ (q : Nat) (M : List Dl) (h : Int → Option Nat) (wr : World), wr = wv ∧ i = .int .i64 q ∧ q < n ∧ Hid (Way w1 wr b bm g cap lim c n h0 f d q M h ∧ ∀ i, E i q → Le (at' M i) d)) (fun i _ => n - (intOf i).toNat)
  case atStart => exact ⟨p, L, f, _, rfl, rfl, hp, HW0⟩
  case round =>
    clear HW0
    obtain ⟨q, M, h, u0, rfl, rfl, hq, HWU⟩ := hrel
    obtain ⟨W, hup⟩ := HWU.out
    have HW := hid W
    have HUP := hid hup
    have HFIN : Hid (∀ wr, Below u0.heap.size u0 wr → (∀ k, E q k → k < n → Le d (at' M k)) → ∃ q' M' h', Ending.returned (.int .i64 (q : Int)) = Ending.returned (.int .i64 ((q' : Nat) : Int)) ∧ Way w wr b bm g cap lim c n h0 f d q' M' h' ∧ (∀ i, E i q' → Le (at' M' i) d) ∧ (∀ k, E q' k → k < n → Le d (at' M' k))) := fun wr hb hdn =>
      ⟨q, M, h, rfl, ⟨HW.out.mm.sees ⟨wr, hb⟩, HW.out.len, HW.out.hole, HW.out.mem, HW.out.own, (HF1.out.trans HW.out.fr).trans (Fr.of_below hb _)⟩, hup, hdn⟩
    obtain ⟨fb1, fb2, fb3⟩ := fb_facts M q
    rw [HW.out.len] at fb2 fb3
    have HFC := firstBelow_any b bm g cap q lim M h c u0 HW.out.mm (by rw [HW.out.len]; exact hq)
    generalize fb M q = k at *
    have hkq : q < k := by unfold E at fb1; omega
    have hk2 : k ≤ 2 * q + 2 := by unfold E at fb1; omega
    have HFC := hid HFC
    clear HWU W hup
    go_wp2_with fail
    refine HFC.out.mono ?_
    rintro _ u1 ⟨rfl, hb1⟩
    have HS : Hid (Mm u1 b bm g cap lim M h c) := HW.out.mm.sees ⟨u1, hb1⟩
    have HB1 := hid hb1
    have q1 : ∀ u : Beh u1, u.wd.cell? ⟨b, 1, none⟩ = some (.slice (some ⟨g, 0, none⟩) n cap) := fun u => by rw [← HW.out.len]; exact (HS.out.sees u).at1
    have hfr1 : Fr [g, bm] w1 u1 := HW.out.fr.trans (Fr.of_below hb1 _)
    have x0 : ∀ u : Beh u1, u.wd.cell? ⟨w.heap.size, 0, none⟩ = some (.int .i64 d.1) := fun u => (HBOX.out _ hfr1 u).1
    have x1 : ∀ u : Beh u1, u.wd.cell? ⟨w.heap.size, 1, none⟩ = some (.int .i64 d.2) := fun u => (HBOX.out _ hfr1 u).2
    have HFR1 := hid hfr1
    clear hb1 hfr1 HFC
    by_cases hkn : k < n
    · have c0 : ∀ u : Beh u1, u.wd.cell? ⟨g, k * 2, none⟩ = some (.int .i64 (at' M k).1) := fun u => ((HS.out.sees u).own.cell _ (by rw [HW.out.len]; exact hkn)).1
      have c1 : ∀ u : Beh u1, u.wd.cell? ⟨g, k * 2 + 1, none⟩ = some (.int .i64 (at' M k).2) := fun u => ((HS.out.sees u).own.cell _ (by rw [HW.out.len]; exact hkn)).2
      have HA : Hid (∀ u : Beh u1, Calls Try.prog 41 #[.agg #[.int .i64 (at' M k).1, .int .i64 (at' M k).2], .agg #[.int .i64 d.1, .int .i64 d.2]] u.wd fun e w' => e = .returned (.bool (decide (Lt (at' M k) d))) ∧ ∃ u' : Beh u1, w' = u'.wd) := fun u => Calls.beh (ahead_any _ _ _)
      have hqg : decide (n ≤ k) = false := by simp; omega
      by_cases hlt : Lt (at' M k) d
      · rw [decide_eq_true hlt] at HA
        have hin : In64 (at' M k).1 ∧ In64 (at' M k).2 := HW.out.mm.dom _ (List.mem_iff_getElem?.2 ⟨k, at_get (by rw [HW.out.len]; exact hkn)⟩)
        have HP : Hid (∀ u : Beh u1, Calls Try.prog 37 #[.pointer (some ⟨b, 0, none⟩), .int .i64 (q : Int), .agg #[.int .i64 (at' M k).1, .int .i64 (at' M k).2]] u.wd fun e w' => e = .returned (.tuple #[]) ∧ Way w1 w' b bm g cap lim c n h0 f d k (M.set q (at' M k)) (put h (at' M k).1 q) ∧ ∀ i, E i k → Le (at' (M.set q (at' M k)) i) d) := fun u => by
          have hsome : (h (at' M k).1).isSome = true := by rw [HW.out.hole.place k hkn (by omega)]; rfl
          refine (put_any b bm g cap q lim M h c (at' M k) u.wd (HS.out.sees u) (by rw [HW.out.len]; exact hq) hin (.inl hsome)).mono ?_
          rintro e w' ⟨rfl, hm', hf'⟩
          have hdn := HW.out.hole.down fb1 hkn (fb2 hkn)
          refine ⟨rfl, HW.out.step hkn (by omega) hdn.1 hdn.2 hm' (((Fr.of_below HB1.out _).trans (Fr.of_below u.ok _)).trans hf'), fun i hi => ?_⟩
          obtain rfl : i = q := E.uniq hi fb1
          rw [at_set (by rw [HW.out.len]; exact hq), upd_same]
          exact hlt.le
        clear hlt hin fb1 fb2 fb3
        generalize (at' M k).1 = y0 at c0 HA HP
        generalize (at' M k).2 = y1 at c1 HA HP
        go_upto_region 2 with fail
        refine wp_region_beh (by kernel_rfl) (by kernel_rfl) ?_
        repeat (go_big_quiet_step (first | (go_at_call 41; exact HA.out _)))
        refine wpQuiet_nil ?_
        rintro _ ⟨u, rfl⟩
        go_wp2_with fail
        refine (HP.out u).mono ?_
        rintro _ w5 ⟨rfl, hW5⟩
        go_wp2_with fail
        go_roundw
        case rel => exact ⟨k, _, _, _, rfl, rfl, hkn, hW5⟩
        case measure => simp [intOf]; omega
      · rw [decide_eq_false hlt] at HA
        have HDN : Hid (∀ j, E q j → j < n → Le d (at' M j)) := fun j hj hjn => Le.trans hlt (fb2 hkn j hj hjn)
        clear hlt fb1 fb2 fb3
        generalize (at' M k).1 = y0 at c0 HA
        generalize (at' M k).2 = y1 at c1 HA
        go_upto_region 2 with fail
        refine wp_region_beh (by kernel_rfl) (by kernel_rfl) ?_
        repeat (go_big_quiet_step (first | (go_at_call 41; exact HA.out _)))
        refine wpQuiet_nil ?_
        rintro _ ⟨u, rfl⟩
        go_wp2_with fail
        go_ret
        exact HFIN.out _ (HB1.out.trans (u.ok.mono HB1.out.size)) HDN.out
    · have hqg : decide (n ≤ k) = true := by simp; omega
      have HDN : Hid (∀ j, E q j → j < n → Le d (at' M j)) := fun j hj hjn => absurd (fb3 (by omega) j hj) (by omega)
      clear fb1 fb2 fb3
      go_upto_region 2 with fail
      refine wp_region_beh (by kernel_rfl) (by kernel_rfl) ?_
      repeat (go_big_quiet_step (fail))
      refine wpQuiet_nil ?_
      rintro _ ⟨u, rfl⟩
      go_wp2_with fail
      go_ret
      exact HFIN.out _ (HB1.out.trans (u.ok.mono HB1.out.size)) HDN.out

/-- What settle leaves. -/
structure Settled (w w' : World) (b bm g cap : Nat) (lim : Int) (c n : Nat) (h0 : Nat → Dl) (M : List Dl) (h : Int → Option Nat) : Prop where
  mm : Mm w' b bm g cap lim M h c
  len : M.length = n
  heap : Heap n (at' M) h
  mem : ∀ x, Mem n (at' M) x ↔ Mem n h0 x
  fr : Fr [g, bm] w w'

theorem settle_any (b bm g cap p : Nat) (lim : Int) (L : List Dl) (f : Int → Option Nat) (c : Nat) (d : Dl) (w : World) (hm : Mm w b bm g cap lim L f c) (hH : Hole L.length (at' L) f p d) (hd : In64 d.1 ∧ In64 d.2) (hc : (f d.1).isSome = true ∨ c < 65536) :
    Calls Try.prog 26 #[.pointer (some ⟨b, 0, none⟩), .int .i64 (p : Int), .agg #[.int .i64 d.1, .int .i64 d.2]] w fun e w' => e = .returned (.tuple #[]) ∧ ∃ M h, Settled w w' b bm g cap lim (if (f d.1).isSome then c else c + 1) L.length (upd (at' L) p d) M h := by
  obtain ⟨hl1, hl2, hl3⟩ := hm.lt
  have hn6 := hm.room.1
  obtain ⟨w1, hw1⟩ : ∃ w1, w1 = w.alloc (.cells #[.int .i64 d.1, .int .i64 d.2] 67) := ⟨_, rfl⟩
  have hf1 : Fr [g, bm] w w1 := by rw [hw1]; exact Fr.alloc _ _ _
  have hs1 : w1.heap.size = w.heap.size + 1 := by rw [hw1]; simp
  have hf1' : Fr [] w w1 := by rw [hw1]; exact Fr.alloc _ _ _
  have hm1 : Mm w1 b bm g cap lim L f c := hm.fr hf1' (by simp) (by simp) (by simp)
  have hbx : w1.heap[w.heap.size]? = some (.cells #[.int .i64 d.1, .int .i64 d.2] 67 (0, 0)) := by rw [hw1]; exact heap_alloc_new w _
  have HBOX : Hid (∀ wr, Fr [g, bm] w1 wr → wr.cell? ⟨w.heap.size, 0, none⟩ = some (.int .i64 d.1) ∧ wr.cell? ⟨w.heap.size, 1, none⟩ = some (.int .i64 d.2)) := fun wr hf => by
    have h1 : wr.heap[w.heap.size]? = _ := (hf.block w.heap.size (by omega) (by simp; omega)).trans hbx
    exact ⟨by rw [cell_of_row _ _ _ _ _ _ h1]; rfl, by rw [cell_of_row _ _ _ _ _ _ h1]; rfl⟩
  have HW1 := hid hw1
  have HF1 := hid hf1
  have HRI := hid (rise_any b bm g cap p lim L f c d w1 hm1 hH)
  obtain ⟨x0, x1⟩ := HBOX.out w1 (Fr.refl _ _)
  have hp := hH.lt
  have HC := hid hc
  have HD := hid hd
  obtain ⟨c', hc'⟩ : ∃ c', c' = if (f d.1).isSome then c else c + 1 := ⟨_, rfl⟩
  rw [← hc']
  have HC' := hid hc'
  clear hw1 hs1 hf1 hf1' hm hm1 hbx hH hl1 hl2 hl3 hc hd hc'
  go_enter Try.func26, Try.ntmps26
  go_upto_region 1 with fail
  rw [← HW1.out]
  go_wp2_with fail
  refine HRI.out.mono ?_
  rintro _ w2 ⟨q, M, h, rfl, W, hup⟩
  have HSI := hid (sink_any b bm g cap q lim M h c d w2 W.mm (by rw [W.len]; exact W.hole) hup)
  have HW2 := hid W
  obtain ⟨y0, y1⟩ := HBOX.out w2 W.fr
  have hq : q < L.length := W.hole.lt
  clear W hup x0 x1 HRI
  go_wp2_with fail
  refine HSI.out.mono ?_
  rintro _ w3 ⟨r, N, k, rfl, W, hup, hdn⟩
  rw [HW2.out.len] at W hdn
  have hfr : Fr [g, bm] w1 w3 := HW2.out.fr.trans W.fr
  have hkd : k d.1 = f d.1 := W.own.trans HW2.out.own
  have HPU := put_any b bm g cap r lim N k c d w3 W.mm (by rw [W.len]; exact W.hole.lt) HD.out (by rw [hkd]; exact HC.out)
  rw [hkd, ← HC'.out] at HPU
  have HPU := hid HPU
  obtain ⟨z0, z1⟩ := HBOX.out w3 hfr
  have HW3 := hid W
  have HFR := hid hfr
  have HUP := hid hup
  have HDN := hid hdn
  have hr : r < L.length := W.hole.lt
  clear W hup hdn hfr hkd y0 y1 HSI
  go_wp2_with fail
  refine HPU.out.mono ?_
  rintro _ w4 ⟨rfl, hm4, hf4⟩
  go_wp2_with fail
  refine bodyPost_end (results_none Try.results26 _ _ _) rfl ⟨rfl, _, _, hm4, ?_, ?_, ?_, (HF1.out.trans HFR.out).trans hf4⟩
  · rw [List.length_set]; exact HW3.out.len
  · rw [at_set (by rw [HW3.out.len]; exact hr)]
    exact HW3.out.hole.fill HUP.out HDN.out
  · intro x
    rw [at_set (by rw [HW3.out.len]; exact hr)]
    exact (HW3.out.mem x).trans (HW2.out.mem x)
end Go.Proofs.Ythbjfbalgejndaa
