import Derived.Test.YtdoeebbcieiimaaTmTD
import Derived.Maps.AppendAt
import Derived.Test.YtdoeebbcieiimaaAsM
import Derived.Test.YtdoeebbcieiimaaAsE
import Derived.StillTailTactics
import Derived.Lib.AppendZerosOnto
import Derived.StillTail
import Derived.OrdersIn
import Derived.TacticsIn
import Derived.Sort.CutIn
namespace Go.Proofs.Ytdoeebbcieiimaa.Tm
open Go.ChangeShapes Go.WideShapes Go.ChangeAt Go.RowKit Go.Maps H
set_option maxHeartbeats 1000000
set_option maxRecDepth 100000

theorem sink_any (b bm g cap p : Nat) (lim : Int) (L : List Dl) (f : Int → Option Nat) (c : Nat) (d : Dl) (w : World) (hm : Mm w b bm g cap lim L f c) (hH : Hole L.length (at' L) f p d) (hup0 : ∀ i, E i p → Le (at' L i) d) :
    Calls Try.prog 114 #[.pointer (some ⟨b, 0, none⟩), .int .i64 (p : Int), .agg #[.int .i64 d.1, .int .i64 d.2]] w fun e w' => ∃ q M h, e = .returned (.int .i64 ((q : Nat) : Int)) ∧ Way w w' b bm g cap lim c L.length (upd (at' L) p d) f d q M h ∧ (∀ i, E i q → Le (at' M i) d) ∧ (∀ k, E q k → k < L.length → Le d (at' M k)) := by
  obtain ⟨hl1, hl2, hl3⟩ := hm.lt
  have hn6 := hm.room.1
  obtain ⟨w1, hw1⟩ : ∃ w1, w1 = w.alloc (.cells #[.int .i64 d.1, .int .i64 d.2] 135) := ⟨_, rfl⟩
  have hf1 : Fr [g, bm] w w1 := by rw [hw1]; exact Fr.alloc _ _ _
  have hs1 : w1.heap.size = w.heap.size + 1 := by rw [hw1]; simp
  have hf1' : Fr [] w w1 := by rw [hw1]; exact Fr.alloc _ _ _
  have hm1 : Mm w1 b bm g cap lim L f c := hm.fr hf1' (by simp) (by simp) (by simp)
  have hbx : w1.heap[w.heap.size]? = some (.cells #[.int .i64 d.1, .int .i64 d.2] 135 (0, 0)) := by rw [hw1]; exact heap_alloc_new w _
  have HBOX : Hid (∀ wr, Fr [g, bm] w1 wr → ∀ u : Beh wr, u.wd.cell? ⟨w.heap.size, 0, none⟩ = some (.int .i64 d.1) ∧ u.wd.cell? ⟨w.heap.size, 1, none⟩ = some (.int .i64 d.2)) := fun wr hf u => by
    have h1 : wr.heap[w.heap.size]? = _ := (hf.block w.heap.size (by omega) (by simp; omega)).trans hbx
    have h2 : u.wd.heap[w.heap.size]? = _ := (u.ok.block w.heap.size (Array.getElem?_eq_some_iff.1 h1).1).trans h1
    exact ⟨by rw [cell_of_row _ _ _ _ _ _ h2]; rfl, by rw [cell_of_row _ _ _ _ _ _ h2]; rfl⟩
  have HW1 := hid hw1
  have HF1 := hid hf1
  have HW0 : Hid (Way w1 w1 b bm g cap lim c L.length (upd (at' L) p d) f d p L f ∧ ∀ i, E i p → Le (at' L i) d) := ⟨⟨hm1, rfl, hH, fun _ => Iff.rfl, rfl, Fr.refl _ _⟩, hup0⟩
  obtain ⟨n, hn⟩ : ∃ n, n = L.length := ⟨_, rfl⟩
  rw [← hn] at hn6 HW0 ⊢
  have hp := hH.lt
  rw [← hn] at hp
  generalize upd (at' L) p d = h0 at HW0 ⊢
  clear hw1 hs1 hf1 hf1' hm hm1 hbx hH hn hl1 hl2 hl3 hup0
  go_enter Try.func114, Try.ntmps114
  go_upto_region 1 with fail
  rw [← HW1.out]
  go_loopw [1] (fun i wv => ∃ (q : Nat) (M : List Dl) (h : Int → Option Nat) (wr : World), wr = wv ∧ i = .int .i64 q ∧ q < n ∧ Hid (Way w1 wr b bm g cap lim c n h0 f d q M h ∧ ∀ i, E i q → Le (at' M i) d)) (fun i _ => n - (intOf i).toNat)
  case atStart => exact ⟨p, L, f, _, rfl, rfl, hp, HW0⟩
  case round =>
    clear HW0
    obtain ⟨q, M, h, u0, rfl, rfl, hq, HWU⟩ := hrel
    obtain ⟨W, hup⟩ := HWU.out
    have HW := hid W
    have HUP := hid hup
    have HFIN : Hid (∀ wr, Below u0.heap.size u0 wr → (∀ k, E q k → k < n → Le d (at' M k)) → ∃ q' M' h', Ending.returned (.int .i64 (q : Int)) = Ending.returned (.int .i64 ((q' : Nat) : Int)) ∧ Way w wr b bm g cap lim c n h0 f d q' M' h' ∧ (∀ i, E i q' → Le (at' M' i) d) ∧ (∀ k, E q' k → k < n → Le d (at' M' k))) := fun wr hb hdn =>
      ⟨q, M, h, rfl, ⟨HW.out.mm.sees ⟨wr, hb⟩, HW.out.len, HW.out.hole, HW.out.mem, HW.out.own, (HF1.out.trans HW.out.fr).trans (Fr.of_below hb _)⟩, hup, hdn⟩
    obtain ⟨fb1, fb2, fb3⟩ := fb_facts M q
    rw [HW.out.len] at fb2 fb3
    have HFC := firstBelow_any b bm g cap q lim M h c u0 HW.out.mm (by rw [HW.out.len]; exact hq)
    generalize fb M q = k at *
    have hkq : q < k := by unfold E at fb1; omega
    have hk2 : k ≤ 2 * q + 2 := by unfold E at fb1; omega
    have HFC := hid HFC
    clear HWU W hup
    go_wp2_with fail
    refine HFC.out.mono ?_
    rintro _ u1 ⟨rfl, hb1⟩
    have HS : Hid (Mm u1 b bm g cap lim M h c) := HW.out.mm.sees ⟨u1, hb1⟩
    have HB1 := hid hb1
    have q1 : ∀ u : Beh u1, u.wd.cell? ⟨b, 1, none⟩ = some (.slice (some ⟨g, 0, none⟩) n cap) := fun u => by rw [← HW.out.len]; exact (HS.out.sees u).at1
    have hfr1 : Fr [g, bm] w1 u1 := HW.out.fr.trans (Fr.of_below hb1 _)
    have x0 : ∀ u : Beh u1, u.wd.cell? ⟨w.heap.size, 0, none⟩ = some (.int .i64 d.1) := fun u => (HBOX.out _ hfr1 u).1
    have x1 : ∀ u : Beh u1, u.wd.cell? ⟨w.heap.size, 1, none⟩ = some (.int .i64 d.2) := fun u => (HBOX.out _ hfr1 u).2
    have HFR1 := hid hfr1
    clear hb1 hfr1 HFC
    by_cases hkn : k < n
    · have c0 : ∀ u : Beh u1, u.wd.cell? ⟨g, k * 2, none⟩ = some (.int .i64 (at' M k).1) := fun u => ((HS.out.sees u).own.cell _ (by rw [HW.out.len]; exact hkn)).1
      have c1 : ∀ u : Beh u1, u.wd.cell? ⟨g, k * 2 + 1, none⟩ = some (.int .i64 (at' M k).2) := fun u => ((HS.out.sees u).own.cell _ (by rw [HW.out.len]; exact hkn)).2
      have HA : Hid (∀ u : Beh u1, Calls Try.prog 121 #[.agg #[.int .i64 (at' M k).1, .int .i64 (at' M k).2], .agg #[.int .i64 d.1, .int .i64 d.2]] u.wd fun e w' => e = .returned (.bool (decide (Lt (at' M k) d))) ∧ ∃ u' : Beh u1, w' = u'.wd) := fun u => Calls.beh (ahead_any _ _ _)
      have hqg : decide (n ≤ k) = false := by simp; omega
      by_cases hlt : Lt (at' M k) d
      · rw [decide_eq_true hlt] at HA
        have hin : In64 (at' M k).1 ∧ In64 (at' M k).2 := HW.out.mm.dom _ (List.mem_iff_getElem?.2 ⟨k, at_get (by rw [HW.out.len]; exact hkn)⟩)
        have HP : Hid (∀ u : Beh u1, Calls Try.prog 115 #[.pointer (some ⟨b, 0, none⟩), .int .i64 (q : Int), .agg #[.int .i64 (at' M k).1, .int .i64 (at' M k).2]] u.wd fun e w' => e = .returned (.tuple #[]) ∧ Way w1 w' b bm g cap lim c n h0 f d k (M.set q (at' M k)) (put h (at' M k).1 q) ∧ ∀ i, E i k → Le (at' (M.set q (at' M k)) i) d) := fun u => by
          have hsome : (h (at' M k).1).isSome = true := by rw [HW.out.hole.place k hkn (by omega)]; rfl
          refine (put_any b bm g cap q lim M h c (at' M k) u.wd (HS.out.sees u) (by rw [HW.out.len]; exact hq) hin (.inl hsome)).mono ?_
          rintro e w' ⟨rfl, hm', hf'⟩
          have hdn := HW.out.hole.down fb1 hkn (fb2 hkn)
          refine ⟨rfl, HW.out.step hkn (by omega) hdn.1 hdn.2 hm' (((Fr.of_below HB1.out _).trans (Fr.of_below u.ok _)).trans hf'), fun i hi => ?_⟩
          obtain rfl : i = q := E.uniq hi fb1
          rw [at_set (by rw [HW.out.len]; exact hq), upd_same]
          exact hlt.le
        clear hlt hin fb1 fb2 fb3
        generalize (at' M k).1 = y0 at c0 HA HP
        generalize (at' M k).2 = y1 at c1 HA HP
        go_upto_region 2 with fail
        refine wp_region_beh (by kernel_rfl) (by kernel_rfl) ?_
        repeat (go_big_quiet_step (first | (go_at_call 121; exact HA.out _)))
        refine wpQuiet_nil ?_
        rintro _ ⟨u, rfl⟩
        go_wp2_with fail
        refine (HP.out u).mono ?_
        rintro _ w5 ⟨rfl, hW5⟩
        go_wp2_with fail
        go_roundw
        case rel => exact ⟨k, _, _, _, rfl, rfl, hkn, hW5⟩
        case measure => simp [intOf]; omega
      · rw [decide_eq_false hlt] at HA
        have HDN : Hid (∀ j, E q j → j < n → Le d (at' M j)) := fun j hj hjn => Le.trans hlt (fb2 hkn j hj hjn)
        clear hlt fb1 fb2 fb3
        generalize (at' M k).1 = y0 at c0 HA
        generalize (at' M k).2 = y1 at c1 HA
        go_upto_region 2 with fail
        refine wp_region_beh (by kernel_rfl) (by kernel_rfl) ?_
        repeat (go_big_quiet_step (first | (go_at_call 121; exact HA.out _)))
        refine wpQuiet_nil ?_
        rintro _ ⟨u, rfl⟩
        go_wp2_with fail
        go_ret
        exact HFIN.out _ (HB1.out.trans (u.ok.mono HB1.out.size)) HDN.out
    · have hqg : decide (n ≤ k) = true := by simp; omega
      have HDN : Hid (∀ j, E q j → j < n → Le d (at' M j)) := fun j hj hjn => absurd (fb3 (by omega) j hj) (by omega)
      clear fb1 fb2 fb3
      go_upto_region 2 with fail
      refine wp_region_beh (by kernel_rfl) (by kernel_rfl) ?_
      repeat (go_big_quiet_step (fail))
      refine wpQuiet_nil ?_
      rintro _ ⟨u, rfl⟩
      go_wp2_with fail
      go_ret
      exact HFIN.out _ (HB1.out.trans (u.ok.mono HB1.out.size)) HDN.out

/-- What settle leaves. -/
structure Settled (w w' : World) (b bm g cap : Nat) (lim : Int) (c n : Nat) (h0 : Nat → Dl) (M : List Dl) (h : Int → Option Nat) : Prop where
  mm : Mm w' b bm g cap lim M h c
  len : M.length = n
  heap : Heap n (at' M) h
  mem : ∀ x, Mem n (at' M) x ↔ Mem n h0 x
  fr : Fr [g, bm] w w'

theorem settle_any (b bm g cap p : Nat) (lim : Int) (L : List Dl) (f : Int → Option Nat) (c : Nat) (d : Dl) (w : World) (hm : Mm w b bm g cap lim L f c) (hH : Hole L.length (at' L) f p d) (hd : In64 d.1 ∧ In64 d.2) (hc : (f d.1).isSome = true ∨ c < 65536) :
    Calls Try.prog 94 #[.pointer (some ⟨b, 0, none⟩), .int .i64 (p : Int), .agg #[.int .i64 d.1, .int .i64 d.2]] w fun e w' => e = .returned (.tuple #[]) ∧ ∃ M h, Settled w w' b bm g cap lim (if (f d.1).isSome then c else c + 1) L.length (upd (at' L) p d) M h := by
  obtain ⟨hl1, hl2, hl3⟩ := hm.lt
  have hn6 := hm.room.1
  obtain ⟨w1, hw1⟩ : ∃ w1, w1 = w.alloc (.cells #[.int .i64 d.1, .int .i64 d.2] 135) := ⟨_, rfl⟩
  have hf1 : Fr [g, bm] w w1 := by rw [hw1]; exact Fr.alloc _ _ _
  have hs1 : w1.heap.size = w.heap.size + 1 := by rw [hw1]; simp
  have hf1' : Fr [] w w1 := by rw [hw1]; exact Fr.alloc _ _ _
  have hm1 : Mm w1 b bm g cap lim L f c := hm.fr hf1' (by simp) (by simp) (by simp)
  have hbx : w1.heap[w.heap.size]? = some (.cells #[.int .i64 d.1, .int .i64 d.2] 135 (0, 0)) := by rw [hw1]; exact heap_alloc_new w _
  have HBOX : Hid (∀ wr, Fr [g, bm] w1 wr → wr.cell? ⟨w.heap.size, 0, none⟩ = some (.int .i64 d.1) ∧ wr.cell? ⟨w.heap.size, 1, none⟩ = some (.int .i64 d.2)) := fun wr hf => by
    have h1 : wr.heap[w.heap.size]? = _ := (hf.block w.heap.size (by omega) (by simp; omega)).trans hbx
    exact ⟨by rw [cell_of_row _ _ _ _ _ _ h1]; rfl, by rw [cell_of_row _ _ _ _ _ _ h1]; rfl⟩
  have HW1 := hid hw1
  have HF1 := hid hf1
  have HRI := hid (rise_any b bm g cap p lim L f c d w1 hm1 hH)
  obtain ⟨x0, x1⟩ := HBOX.out w1 (Fr.refl _ _)
  have hp := hH.lt
  have HC := hid hc
  have HD := hid hd
  obtain ⟨c', hc'⟩ : ∃ c', c' = if (f d.1).isSome then c else c + 1 := ⟨_, rfl⟩
  rw [← hc']
  have HC' := hid hc'
  clear hw1 hs1 hf1 hf1' hm hm1 hbx hH hl1 hl2 hl3 hc hd hc'
  go_enter Try.func94, Try.ntmps94
  go_upto_region 1 with fail
  rw [← HW1.out]
  go_wp2_with fail
  refine HRI.out.mono ?_
  rintro _ w2 ⟨q, M, h, rfl, W, hup⟩
  have HSI := hid (sink_any b bm g cap q lim M h c d w2 W.mm (by rw [W.len]; exact W.hole) hup)
  have HW2 := hid W
  obtain ⟨y0, y1⟩ := HBOX.out w2 W.fr
  have hq : q < L.length := W.hole.lt
  clear W hup x0 x1 HRI
  go_wp2_with fail
  refine HSI.out.mono ?_
  rintro _ w3 ⟨r, N, k, rfl, W, hup, hdn⟩
  rw [HW2.out.len] at W hdn
  have hfr : Fr [g, bm] w1 w3 := HW2.out.fr.trans W.fr
  have hkd : k d.1 = f d.1 := W.own.trans HW2.out.own
  have HPU := put_any b bm g cap r lim N k c d w3 W.mm (by rw [W.len]; exact W.hole.lt) HD.out (by rw [hkd]; exact HC.out)
  rw [hkd, ← HC'.out] at HPU
  have HPU := hid HPU
  obtain ⟨z0, z1⟩ := HBOX.out w3 hfr
  have HW3 := hid W
  have HFR := hid hfr
  have HUP := hid hup
  have HDN := hid hdn
  have hr : r < L.length := W.hole.lt
  clear W hup hdn hfr hkd y0 y1 HSI
  go_wp2_with fail
  refine HPU.out.mono ?_
  rintro _ w4 ⟨rfl, hm4, hf4⟩
  go_wp2_with fail
  refine bodyPost_end (results_none Try.results94 _ _ _) rfl ⟨rfl, _, _, hm4, ?_, ?_, ?_, (HF1.out.trans HFR.out).trans hf4⟩
  · rw [List.length_set]; exact HW3.out.len
  · rw [at_set (by rw [HW3.out.len]; exact hr)]
    exact HW3.out.hole.fill HUP.out HDN.out
  · intro x
    rw [at_set (by rw [HW3.out.len]; exact hr)]
    exact (HW3.out.mem x).trans (HW2.out.mem x)
end Go.Proofs.Ytdoeebbcieiimaa.Tm

namespace Go.Proofs.Ytdoeebbcieiimaa.Tm.H

theorem E.lt {i j : Nat} (h : E i j) : i < j := by unfold E at h; omega

theorem upd_congr {n : Nat} {h h' : Nat → Dl} (e : ∀ i, i < n → h' i = h i) (p : Nat) (d : Dl) : ∀ i, i < n → upd h' p d i = upd h p d i := fun i hi => by
  unfold upd; split
  · rfl
  · exact e i hi

theorem Hole.congr {n : Nat} {h h' : Nat → Dl} {f : Int → Option Nat} {p : Nat} {d : Dl} (H : Hole n h f p d) (e : ∀ i, i < n → h' i = h i) : Hole n h' f p d := by
  have eu := upd_congr e p d
  refine ⟨H.lt, fun i j hi hj hij => H.inj i j hi hj (by rw [← eu i hi, ← eu j hj]; exact hij), fun i hi hp => by rw [e i hi]; exact H.place i hi hp, fun x k hx => ?_, fun i j hij hj h1 h2 => ?_, fun i c h1 h2 hc => ?_⟩
  · obtain ⟨i, hi, ei⟩ := H.dom x k hx
    exact ⟨i, hi, by rw [eu i hi]; exact ei⟩
  · have := hij.lt
    rw [e i (by omega), e j hj]; exact H.edge i j hij hj h1 h2
  · have h3 := h1.lt
    have h4 := H.lt
    rw [e i (by omega), e c hc]; exact H.byp i c h1 h2 hc

theorem Heap.congr {n : Nat} {h h' : Nat → Dl} {f : Int → Option Nat} (H : Heap n h f) (e : ∀ i, i < n → h' i = h i) : Heap n h' f := by
  refine ⟨fun i j hi hj hij => H.inj i j hi hj (by rw [← e i hi, ← e j hj]; exact hij), fun i hi => by rw [e i hi]; exact H.place i hi, fun x k hx => ?_, fun i j hij hj => ?_⟩
  · obtain ⟨hk, ek⟩ := H.dom x k hx
    exact ⟨hk, by rw [e k hk]; exact ek⟩
  · have := hij.lt
    rw [e i (by omega), e j hj]; exact H.edge i j hij hj

theorem Mem.congr {n : Nat} {h h' : Nat → Dl} (e : ∀ i, i < n → h' i = h i) (x : Dl) : Mem n h' x ↔ Mem n h x :=
  ⟨fun ⟨i, hi, hx⟩ => ⟨i, hi, by rw [← e i hi]; exact hx⟩, fun ⟨i, hi, hx⟩ => ⟨i, hi, by rw [e i hi]; exact hx⟩⟩

theorem Rep.congr {n : Nat} {h h' : Nat → Dl} {S : List Dl} (R : Rep n h S) (e : ∀ i, i < n → h' i = h i) : Rep n h' S := ⟨R.sorted, fun x => (Mem.congr e x).trans (R.mem x)⟩

theorem at_take {L : List Dl} {n i : Nat} (hi : i < n) : at' (L.take n) i = at' L i := by
  unfold at'
  rw [List.getD_eq_getElem?_getD, List.getD_eq_getElem?_getD, List.getElem?_take_of_lt hi]
end Go.Proofs.Ytdoeebbcieiimaa.Tm.H
namespace Go.Proofs.Ytdoeebbcieiimaa.Tm
open Go.ChangeShapes Go.WideShapes Go.ChangeAt Go.RowKit Go.Maps H
set_option maxHeartbeats 1000000
set_option maxRecDepth 100000

theorem cut_end (g n cap e : Nat) (he : e ≤ n) (hc : n ≤ cap) (u : World) : (Instr.sliceAt 116 (.slice (some ⟨g, 0, none⟩) n cap) none (some (.int .i64 (e : Int))) none).run Try.prog u = .ok (.slice (some ⟨g, 0, none⟩) e cap) u := by
  have hu : Try.prog.underlying 116 = some (.slice (Try.prog.elem 116)) := by kernel_rfl
  have hsz : (sizeOf (Try.prog.elem 116)).run Try.prog u = .ok 2 u := by kernel_rfl
  rw [run_sliceAt_slice (h := hu), run_slice_h (ht := hu) (h0 := by omega) (h2 := by omega), hsz]
  simp [Result.andThen, sliced, Addr.add]

/-- What take leaves. -/
structure Taken (w w' : World) (b bm g cap : Nat) (lim : Int) (L : List Dl) (p : Nat) (M : List Dl) (h : Int → Option Nat) : Prop where
  mm : Mm w' b bm g cap lim M h M.length
  len : M.length + 1 = L.length
  heap : Heap M.length (at' M) h
  rep : ∀ S, Rep L.length (at' L) S → Rep M.length (at' M) (drp (at' L p).1 S)
  fr : Fr [b, g, bm] w w'

theorem take_any (b bm g cap p : Nat) (lim : Int) (L : List Dl) (f : Int → Option Nat) (w : World) (hm : Mm w b bm g cap lim L f L.length) (hH : Heap L.length (at' L) f) (hp : p < L.length) :
    Calls Try.prog 90 #[.pointer (some ⟨b, 0, none⟩), .int .i64 (p : Int)] w fun r w' => r = .returned (.tuple #[]) ∧ ∃ M h, Taken w w' b bm g cap lim L p M h := by
  obtain ⟨hl1, hl2, hl3⟩ := hm.lt
  obtain ⟨hn1, hn2, hn3⟩ := hm.ne
  have hn6 := hm.room.1
  obtain ⟨e, he⟩ : ∃ e, L.length = e + 1 := ⟨L.length - 1, by omega⟩
  have hcap : e + 1 ≤ cap := by obtain ⟨_, _, h, _⟩ := hm.own; omega
  -- the last one, in a box
  obtain ⟨w1, hw1⟩ : ∃ w1, w1 = w.alloc (.cells #[.int .i64 (at' L e).1, .int .i64 (at' L e).2] 135) := ⟨_, rfl⟩
  have hbx : w1.heap[w.heap.size]? = some (.cells #[.int .i64 (at' L e).1, .int .i64 (at' L e).2] 135 (0, 0)) := by rw [hw1]; exact heap_alloc_new w _
  have hf1 : Fr [b, g, bm] w w1 := by rw [hw1]; exact Fr.alloc _ _ _
  have hf1' : Fr [] w w1 := by rw [hw1]; exact Fr.alloc _ _ _
  have hs1 : w.heap.size < w1.heap.size := (Array.getElem?_eq_some_iff.1 hbx).1
  have hm1 : Mm w1 b bm g cap lim L f L.length := hm.fr hf1' (by simp) (by simp) (by simp)
  -- the map without it
  have hin : ∀ i, i < L.length → In64 (at' L i).1 ∧ In64 (at' L i).2 := fun i hi => hm.dom _ (List.mem_iff_getElem?.2 ⟨i, at_get hi⟩)
  have hfp : f (at' L p).1 = some p := hH.place p hp
  have hmd : MapF w1.drew bm f L.length := hm1.map.kept rfl
  obtain ⟨w2, hrun, hm2, ht2⟩ := hmd.drop (hin p hp).1 (by rw [hfp]; rfl) 0
  have hg2 := ht2.grown
  have hsz : w1.drew.heap.size = w1.heap.size := rfl
  have hf2 : Fr [b, g, bm] w w2 := hf1.drew.turned ht2 (by simp)
  have hb2 : w2.heap[b]? = w1.heap[b]? := hg2.block b (by rw [hsz]; exact hm1.lt.1) (by simpa using hn1)
  have hgg2 : w2.heap[g]? = w1.heap[g]? := hg2.block g (by rw [hsz]; exact hm1.lt.2.1) (by simpa using hn3)
  have hx2 : w2.heap[w.heap.size]? = w1.heap[w.heap.size]? := hg2.block _ (by rw [hsz]; exact hs1) (by simp; omega)
  have hr2 : RowD w2 g cap L := hm1.own.kept hgg2
  have hrow2 := hb2.trans hm1.row
  -- the last place emptied, the list cut
  obtain ⟨w3, hw3⟩ : ∃ w3, w3 = (w2.setCell ⟨g, e * 2, none⟩ (.int .i64 0)).setCell ⟨g, e * 2 + 1, none⟩ (.int .i64 0) := ⟨_, rfl⟩
  have hr3 : RowD w3 g cap (L.set e (0, 0)) := by rw [hw3]; exact hr2.set e (0, 0) (by omega)
  have hf3 : Fr [g] w2 w3 := by rw [hw3]; exact ((Fr.refl [g] w2).set (by simp)).set (by simp)
  have hlt2 : w1.heap.size ≤ w2.heap.size := hg2.size
  have hb3 : w3.heap[b]? = _ := (hf3.block b (by omega) (by simpa using hn2.symm)).trans hrow2
  have hm3 : MapF w3 bm (del f (at' L p).1) (L.length - 1) := hm2.kept (hf3.block bm hm2.lt (by simpa using hn3.symm))
  have hx3 : w3.heap[w.heap.size]? = _ := (hf3.block w.heap.size (by omega) (by simp; omega)).trans (hx2.trans hbx)
  obtain ⟨w4, hw4⟩ : ∃ w4, w4 = w3.setCell ⟨b, 1, none⟩ (.slice (some ⟨g, 0, none⟩) e cap) := ⟨_, rfl⟩
  have hf4 : Fr [b] w3 w4 := by rw [hw4]; exact (Fr.refl [b] w3).set (by simp)
  have hb4 : w4.heap[b]? = some (.cells #[.int .i64 lim, .slice (some ⟨g, 0, none⟩) e cap, .map (some bm)] 118 (0, 0)) := by
    rw [hw4]; exact heap_setCell_same w3 b 1 _ 118 _ hb3
  have hlt3 : w2.heap.size ≤ w3.heap.size := hf3.size
  have hx4 : w4.heap[w.heap.size]? = _ := (hf4.block w.heap.size (by omega) (by simp; omega)).trans hx3
  have hlen4 : (L.take e).length = e := by rw [List.length_take]; omega
  have hm4 : Mm w4 b bm g cap lim (L.take e) (del f (at' L p).1) e := by
    refine ⟨by rw [hlen4]; exact hb4, ?_, ?_, fun x hx => hm.dom x (List.mem_of_mem_take hx), by rw [hlen4]; omega⟩
    · have := (hr3.take e).kept (hf4.block g hr3.lt (by simpa using hn2))
      rwa [List.take_set_of_le (by omega)] at this
    · have := hm3.kept (hf4.block bm hm3.lt (by simpa using hn1.symm))
      rwa [show L.length - 1 = e by omega] at this
  have hfr4 : Fr [b, g, bm] w w4 := (hf2.trans (hf3.mono (by simp))).trans (hf4.mono (by simp))
  have eT : ∀ i, i < e → at' (L.take e) i = at' L i := fun i hi => at_take hi
  -- what settle is to do
  have HSE : Hid (p < e → Calls Try.prog 94 #[.pointer (some ⟨b, 0, none⟩), .int .i64 (p : Int), .agg #[.int .i64 (at' L e).1, .int .i64 (at' L e).2]] w4 fun r w' => r = .returned (.tuple #[]) ∧ ∃ M h, Taken w w' b bm g cap lim L p M h) := fun hpe => by
    have hHo : Hole (L.take e).length (at' (L.take e)) (del f (at' L p).1) p (at' L e) := by
      rw [hlen4]
      rw [he] at hH
      exact (hH.hole_take hpe).congr eT
    have hne : (at' L e).1 ≠ (at' L p).1 := fun h => by
      have := hH.inj e p (by omega) (by omega) h
      omega
    have hsome : (del f (at' L p).1 (at' L e).1).isSome = true := by
      unfold del
      rw [if_neg hne, hH.place e (by omega)]; rfl
    have := settle_any b bm g cap p lim (L.take e) (del f (at' L p).1) e (at' L e) w4 hm4 hHo (hin e (by omega)) (.inl hsome)
    rw [hsome, if_pos rfl, hlen4] at this
    refine this.mono ?_
    rintro r w' ⟨rfl, M, h, hs⟩
    refine ⟨rfl, M, h, by rw [hs.len]; exact hs.mm, by rw [hs.len, he], by rw [hs.len]; exact hs.heap, fun S hS => ?_, hfr4.trans (hs.fr.mono (by simp))⟩
    rw [he] at hS hH
    rw [hs.len]
    exact hS.took hH.inj hpe (fun x => (hs.mem x).trans (Mem.congr (upd_congr eT p _) x))
  have HNO : Hid (p = e → ∃ M h, Taken w w4 b bm g cap lim L p M h) := fun hpe => by
    refine ⟨L.take e, del f (at' L p).1, by rw [hlen4]; exact hm4, by rw [hlen4, he], ?_, fun S hS => ?_, hfr4⟩
    · rw [hlen4, hpe]
      rw [he] at hH
      exact hH.pop.congr eT
    · rw [hlen4, hpe]
      rw [he] at hS hH
      exact (hS.popped hH.inj).congr eT
  -- the cells
  have k1 : w.cell? ⟨b, 1, none⟩ = some (.slice (some ⟨g, 0, none⟩) (e + 1) cap) := by rw [← he]; exact hm.at1
  obtain ⟨y0, y1⟩ := hm.own.cell e (by omega)
  have k1' : w1.cell? ⟨b, 1, none⟩ = some (.slice (some ⟨g, 0, none⟩) (e + 1) cap) := by rw [← he]; exact hm1.at1
  have k2' : w1.cell? ⟨b, 2, none⟩ = some (.map (some bm)) := hm1.at2
  have z0 := (hm1.own.cell p hp).1
  have k1'' : w2.cell? ⟨b, 1, none⟩ = some (.slice (some ⟨g, 0, none⟩) (e + 1) cap) := by rw [cell_of_row _ _ _ _ _ _ hrow2, he]; rfl
  obtain ⟨v0, v1⟩ := hr2.cell e (by omega)
  have g0 := hr2.free (e * 2)
  have g1 := hr2.free (e * 2 + 1)
  have k13 : w3.cell? ⟨b, 1, none⟩ = some (.slice (some ⟨g, 0, none⟩) (e + 1) cap) := by rw [cell_of_row _ _ _ _ _ _ hb3, he]; rfl
  have fb3 : w3.frozen? ⟨b, 1, none⟩ = false := frozen_of_row _ _ _ _ _ hb3
  have x0 : w4.cell? ⟨w.heap.size, 0, none⟩ = some (.int .i64 (at' L e).1) := by rw [cell_of_row _ _ _ _ _ _ hx4]; rfl
  have x1 : w4.cell? ⟨w.heap.size, 1, none⟩ = some (.int .i64 (at' L e).2) := by rw [cell_of_row _ _ _ _ _ _ hx4]; rfl
  have hcut := cut_end g (e + 1) cap e (by omega) hcap
  have e1 : (((e + 1 : Nat)) : Int) - 1 = (e : Int) := by omega
  have HW1 := hid hw1
  have HW3 := hid hw3
  have HW4 := hid hw4
  rw [he] at hp hn6
  generalize (at' L e).1 = l0 at *
  generalize (at' L e).2 = l1 at *
  generalize (at' L p).1 = i0 at *
  clear hw1 hw3 hw4 hbx hf1 hf1' hs1 hm hm1 hin hfp hmd hm2 ht2 hg2 hsz hf2 hb2 hgg2 hx2 hr2 hrow2 hr3 hf3 hlt2 hb3 hm3 hx3 hf4 hb4 hlt3 hx4 hlen4 hm4 hfr4 eT hH he hl1 hl2 hl3
  go_enter Try.func90, Try.ntmps90
  go_upto_region 2 with fail
  rw [← HW1.out]
  clear k1 y0 y1
  go_wp2
  go_region
  clear k1' k2' z0 hrun
  go_upto_region 4 with fail
  rw [← HW3.out]
  clear k1'' v0 v1 g0 g1
  go_upto_region 5 with fail
  rw [← HW4.out]
  clear k13 fb3
  by_cases hpe : p < e
  · go_wp2_with fail
    refine (HSE.out hpe).mono ?_
    rintro _ w5 ⟨rfl, M, h, ht⟩
    go_wp2_with fail
    exact bodyPost_end (results_none Try.results90 _ _ _) rfl ⟨rfl, M, h, ht⟩
  · obtain ⟨M, h, ht⟩ := HNO.out (by omega)
    go_wp2_with fail
    exact bodyPost_end (results_none Try.results90 _ _ _) rfl ⟨rfl, M, h, ht⟩
end Go.Proofs.Ytdoeebbcieiimaa.Tm

namespace Go.Proofs.Ytdoeebbcieiimaa.Tm
open Go.ChangeShapes Go.WideShapes Go.ChangeAt Go.RowKit Go.Maps H
set_option maxHeartbeats 1000000
set_option maxRecDepth 100000

/-- A Timers at rest: it lies at b, its map at bm, its row at go; it holds S. -/
structure Tm (w : World) (b bm : Nat) (go : Option Nat) (lim : Int) (S : List Dl) : Prop where
  ex : ∃ v L f, w.heap[b]? = some (.cells #[.int .i64 lim, v, .map (some bm)] 118 (0, 0)) ∧ w.ownsRow 0 135 2 v L.length (ds L) ∧ v.ownBlock = go ∧ MapF w bm f L.length ∧ (∀ x ∈ L, In64 x.1 ∧ In64 x.2) ∧ Heap L.length (at' L) f ∧ Rep L.length (at' L) S
  lo : 1 ≤ lim
  hi : lim ≤ 65536
  fits : (S.length : Int) ≤ lim

def fp (b bm : Nat) (go : Option Nat) : List Nat := b :: bm :: go.toList

theorem rowD_iff {w : World} {g cap : Nat} {L : List Dl} : RowD w g cap L ↔ w.ownsRow 0 135 2 (.slice (some ⟨g, 0, none⟩) L.length cap) L.length (ds L) := by
  constructor
  · rintro ⟨cur, h1, h2, h3, h4, h5⟩
    exact ⟨ds_len L, .inr ⟨g, cap, cur, rfl, Nat.zero_le _, h1, h2, h3, h4, h5⟩⟩
  · rintro ⟨_, ⟨h, _⟩ | ⟨g', cap', cur, h, _, h1, h2, h3, h4, h5⟩⟩
    · cases h
    · cases h
      exact ⟨cur, h1, h2, h3, h4, h5⟩

/-- Empty and new, or with a row. -/
theorem Tm.cases {w : World} {b bm : Nat} {go : Option Nat} {lim : Int} {S : List Dl} (h : Tm w b bm go lim S) :
    (go = none ∧ S = [] ∧ ∃ f, w.heap[b]? = some (.cells #[.int .i64 lim, .slice none 0 0, .map (some bm)] 118 (0, 0)) ∧ MapF w bm f 0 ∧ ∀ x, f x = none) ∨
    (∃ g cap L f, go = some g ∧ Mm w b bm g cap lim L f L.length ∧ Heap L.length (at' L) f ∧ Rep L.length (at' L) S ∧ S.length = L.length) := by
  obtain ⟨v, L, f, hr, ho, hg, hm, hd, hH, hR⟩ := h.ex
  have hlen := hR.len hH.inj
  have h1 := h.lo
  have h2 := h.hi
  have h3 := h.fits
  rcases ho.2 with ⟨rfl, hn⟩ | ⟨g, cap, cur, rfl, hb, hgg, hnc, hcm, hcs, ht⟩
  · have hL : L = [] := List.eq_nil_of_length_eq_zero hn
    subst hL
    refine .inl ⟨hg.symm, List.eq_nil_of_length_eq_zero hlen, f, hr, hm, fun x => ?_⟩
    cases hx : f x with
    | none => rfl
    | some k => have := (hH.dom x k hx).1; simp at this
  · refine .inr ⟨g, cap, L, f, hg.symm, ⟨hr, ⟨cur, hgg, hnc, hcm, hcs, ht⟩, hm, hd, by omega, by omega⟩, hH, hR, hlen⟩

theorem Tm.mk' {w : World} {b bm g cap : Nat} {lim : Int} {S L : List Dl} {f : Int → Option Nat} (hm : Mm w b bm g cap lim L f L.length) (hH : Heap L.length (at' L) f) (hR : Rep L.length (at' L) S) (h1 : 1 ≤ lim) (h2 : lim ≤ 65536) (h3 : (L.length : Int) ≤ lim) : Tm w b bm (some g) lim S :=
  ⟨⟨_, L, f, hm.row, rowD_iff.1 hm.own, rfl, hm.map, hm.dom, hH, hR⟩, h1, h2, by rw [hR.len hH.inj]; exact h3⟩

theorem Tm.lt {w : World} {b bm : Nat} {go : Option Nat} {lim : Int} {S : List Dl} (h : Tm w b bm go lim S) : ∀ x ∈ fp b bm go, x < w.heap.size := by
  intro x hx
  rcases h.cases with ⟨rfl, _, f, hr, hm, _⟩ | ⟨g, cap, L, f, rfl, hm, _⟩
  · simp [fp] at hx
    rcases hx with rfl | rfl
    · exact (Array.getElem?_eq_some_iff.1 hr).1
    · exact hm.lt
  · simp [fp] at hx
    rcases hx with rfl | rfl | rfl
    · exact hm.lt.1
    · exact hm.lt.2.2
    · exact hm.lt.2.1

/-- It stays while other blocks are written. -/
theorem Tm.fr {w w' : World} {F : List Nat} {b bm : Nat} {go : Option Nat} {lim : Int} {S : List Dl} (h : Tm w b bm go lim S) (hf : Fr F w w') (hd : ∀ x ∈ fp b bm go, x ∉ F) : Tm w' b bm go lim S := by
  have hlt := h.lt
  refine ⟨?_, h.lo, h.hi, h.fits⟩
  obtain ⟨v, L, f, hr, ho, hg, hm, hdm, hH, hR⟩ := h.ex
  refine ⟨v, L, f, (hf.block b (hlt b (by simp [fp])) (hd b (by simp [fp]))).trans hr, ?_, hg, hm.kept (hf.block bm (hlt bm (by simp [fp])) (hd bm (by simp [fp]))), hdm, hH, hR⟩
  refine ⟨ho.1, ?_⟩
  rcases ho.2 with hn | ⟨g, cap, cur, rfl, hb, hgg, rest⟩
  · exact .inl hn
  · have hgo : go = some g := hg.symm
    exact .inr ⟨g, cap, cur, rfl, hb, (hf.block g (hlt g (by simp [fp, hgo])) (hd g (by simp [fp, hgo]))).trans hgg, rest⟩

theorem Tm.below {w w' : World} {b bm : Nat} {go : Option Nat} {lim : Int} {S : List Dl} (h : Tm w b bm go lim S) (hb : Below w.heap.size w w') : Tm w' b bm go lim S :=
  h.fr (Fr.of_below hb []) (by simp)

theorem Tm.sorted {w : World} {b bm : Nat} {go : Option Nat} {lim : Int} {S : List Dl} (h : Tm w b bm go lim S) : S.Pairwise Lt := by
  obtain ⟨v, L, f, hr, ho, hg, hm, hd, hH, hR⟩ := h.ex
  exact hR.sorted

theorem Tm.ids {w : World} {b bm : Nat} {go : Option Nat} {lim : Int} {S : List Dl} (h : Tm w b bm go lim S) : ∀ x ∈ S, ∀ y ∈ S, x.1 = y.1 → x = y := by
  obtain ⟨v, L, f, hr, ho, hg, hm, hd, hH, hR⟩ := h.ex
  exact hR.ids hH.inj

theorem Tm.in64 {w : World} {b bm : Nat} {go : Option Nat} {lim : Int} {S : List Dl} (h : Tm w b bm go lim S) : ∀ x ∈ S, In64 x.1 ∧ In64 x.2 := by
  obtain ⟨v, L, f, hr, ho, hg, hm, hd, hH, hR⟩ := h.ex
  intro x hx
  obtain ⟨i, hi, rfl⟩ := (hR.mem x).2 hx
  exact hd _ (List.mem_iff_getElem?.2 ⟨i, at_get hi⟩)

theorem new_good (n : Int) (w : World) (h1 : 1 ≤ n) (h2 : n ≤ 65536) :
    Calls Try.prog 33 #[.int .i64 n] w fun e w' => ∃ b bm, e = .returned (.tuple #[.pointer (some ⟨b, 0, none⟩), .int .i64 0]) ∧ Tm w' b bm none n [] ∧ w.heap.size ≤ b ∧ w.heap.size ≤ bm ∧ b ≠ bm ∧ Below w.heap.size w w' := by
  have hmm := @run_makeMap Try.prog
  obtain ⟨w1, hw1⟩ : ∃ w1, w1 = w.alloc (.map #[] 0) := ⟨_, rfl⟩
  obtain ⟨w2, hw2⟩ : ∃ w2, w2 = w1.alloc (.cells #[.int .i64 n, .slice none 0 0, .map (some w.heap.size)] 118) := ⟨_, rfl⟩
  have hs1 : w1.heap.size = w.heap.size + 1 := by rw [hw1]; simp
  have hm1 : MapF w1 w.heap.size (fun _ => none) 0 := by rw [hw1]; exact MapF.made w
  have hb1 : Below w.heap.size w w1 := by rw [hw1]; exact (Below.refl _ _).alloc (Nat.le_refl _) _
  have hb2 : Below w1.heap.size w1 w2 := by rw [hw2]; exact (Below.refl _ _).alloc (Nat.le_refl _) _
  have hr : w2.heap[w.heap.size + 1]? = some (.cells #[.int .i64 n, .slice none 0 0, .map (some w.heap.size)] 118 (0, 0)) := by
    have := heap_alloc_new w1 (.cells #[.int .i64 n, .slice none 0 0, .map (some w.heap.size)] 118)
    rw [← hw2, hs1] at this
    exact this
  have HT : Hid (Tm w2 (w.heap.size + 1) w.heap.size none n []) := by
    refine ⟨⟨.slice none 0 0, [], fun _ => none, hr, World.ownsRow_nil _ _ _ _, rfl, hm1.kept (hb2.block _ (by omega)), by simp, ?_, ?_⟩, h1, h2, by simp; omega⟩
    · exact ⟨fun i j hi => absurd hi (by simp), fun i hi => absurd hi (by simp), fun x k hx => (by cases hx), fun i j _ hj => absurd hj (by simp)⟩
    · exact ⟨List.Pairwise.nil, fun x => by simp [Mem]⟩
  have HB : Hid (Below w.heap.size w w2) := hb1.trans (hb2.mono hb1.size)
  have HW : Hid (w2 = (w.alloc (.map #[] 0)).alloc (.cells #[.int .i64 n, .slice none 0 0, .map (some w.heap.size)] 118)) := by unfold Hid; rw [hw2, hw1]
  clear hw1 hw2 hs1 hm1 hb1 hb2 hr
  go_enter Try.func33, Try.ntmps33
  go_wp2_with fail
  rw [← HW.out]
  go_ret2
  exact ⟨w.heap.size + 1, w.heap.size, rfl, HT.out, by omega, by omega, by omega, HB.out⟩

theorem new_bad (n : Int) (w : World) (h : n < 1 ∨ 65536 < n) :
    Calls Try.prog 33 #[.int .i64 n] w fun e w' => e = .returned (.tuple #[.pointer none, .int .i64 1]) ∧ w' = w := by
  by_cases h1 : n < 1
  · go_enter Try.func33, Try.ntmps33
    go_wp2_with fail
    go_ret2
    exact ⟨rfl, rfl⟩
  · have h2 : 65536 < n := by omega
    go_enter Try.func33, Try.ntmps33
    go_wp2_with fail
    go_ret2
    exact ⟨rfl, rfl⟩

/-- When's answer. -/
def whenS (S : List Dl) (i : Int) : Int × Int := match S.find? (fun x => x.1 == i) with
  | some d => (d.2, 0)
  | none => (0, 3)

theorem whenS_held {S : List Dl} (hids : ∀ x ∈ S, ∀ y ∈ S, x.1 = y.1 → x = y) {d : Dl} (hd : d ∈ S) : whenS S d.1 = (d.2, 0) := by
  unfold whenS
  cases h : S.find? (fun x => x.1 == d.1) with
  | none =>
    have := List.find?_eq_none.1 h d hd
    simp at this
  | some x =>
    have h1 := List.mem_of_find?_eq_some h
    have h2 := List.find?_some h
    simp at h2
    rw [hids x h1 d hd h2]

theorem whenS_free {S : List Dl} {i : Int} (h : ∀ x ∈ S, x.1 ≠ i) : whenS S i = (0, 3) := by
  unfold whenS
  rw [List.find?_eq_none.2 (fun x hx => by simpa using h x hx)]

theorem when_any (b bm : Nat) (go : Option Nat) (lim : Int) (S : List Dl) (i : Int) (w : World) (hT : Tm w b bm go lim S) (hi : In64 i) :
    Calls Try.prog 50 #[.pointer (some ⟨b, 0, none⟩), .int .i64 i] w fun e w' => e = .returned (.tuple #[.int .i64 (whenS S i).1, .int .i64 (whenS S i).2]) ∧ w' = w := by
  have hids := hT.ids
  rcases hT.cases with ⟨rfl, rfl, f, hr, hm, hf⟩ | ⟨g, cap, L, f, rfl, hm, hH, hR, hl⟩
  · have k2 : w.cell? ⟨b, 2, none⟩ = some (.map (some bm)) := by rw [cell_of_row _ _ _ _ _ _ hr]; rfl
    have hlk := hm.look hi
    rw [hf i] at hlk
    rw [whenS_free (by simp)]
    simp only [Option.getD_none, Option.isSome_none, Int.ofNat_zero] at hlk ⊢
    clear hT hr hm hf hids
    go_enter Try.func50, Try.ntmps50
    go_wp2_with fail
    go_ret2
    exact ⟨rfl, rfl⟩
  · have k2 := hm.at2
    have k1 := hm.at1
    have hlk := hm.map.look hi
    have hn6 := hm.room.1
    cases hfi : f i with
    | none =>
      rw [hfi] at hlk
      rw [whenS_free (hR.free hH hfi)]
      simp only [Option.getD_none, Option.isSome_none, Int.ofNat_zero] at hlk ⊢
      generalize L.length = n at k1 hn6
      clear hT hm hids hH hR hl hfi
      go_enter Try.func50, Try.ntmps50
      go_wp2_with fail
      go_ret2
      exact ⟨rfl, rfl⟩
    | some k =>
      rw [hfi] at hlk
      obtain ⟨h1, h2, h3⟩ := hR.held hH hfi
      have hw := whenS_held hids h3
      rw [h2] at hw
      rw [hw]
      simp only [Option.getD_some, Option.isSome_some] at hlk ⊢
      obtain ⟨c0, c1⟩ := hm.own.cell k h1
      generalize (at' L k).2 = y at *
      generalize L.length = n at *
      clear hT hm hids hH hR hl hfi h2 h3 hw
      go_enter Try.func50, Try.ntmps50
      go_wp2_with fail
      go_ret2
      exact ⟨rfl, rfl⟩

/-- Next's answer. -/
def nextS : List Dl → Value
  | [] => .tuple #[.int .i64 0, .int .i64 0, .int .i64 3]
  | d :: _ => .tuple #[.int .i64 d.1, .int .i64 d.2, .int .i64 0]

theorem next_any (b bm : Nat) (go : Option Nat) (lim : Int) (S : List Dl) (w : World) (hT : Tm w b bm go lim S) :
    Calls Try.prog 68 #[.pointer (some ⟨b, 0, none⟩)] w fun e w' => e = .returned (nextS S) ∧ Below w.heap.size w w' := by
  rcases hT.cases with ⟨rfl, rfl, f, hr, hm, _⟩ | ⟨g, cap, L, f, rfl, hm, hH, hR, hl⟩
  · have k1 : w.cell? ⟨b, 1, none⟩ = some (.slice none 0 0) := by rw [cell_of_row _ _ _ _ _ _ hr]; rfl
    clear hT hr hm
    go_enter Try.func68, Try.ntmps68
    go_wp2_with fail
    go_ret3
    exact ⟨rfl, Below.refl _ _⟩
  · have k1 := hm.at1
    have hn6 := hm.room.1
    by_cases h0 : L.length = 0
    · rw [h0] at k1
      have hS : S = [] := List.eq_nil_of_length_eq_zero (by omega)
      subst hS
      clear hT hm hH hR hl h0
      go_enter Try.func68, Try.ntmps68
      go_wp2_with fail
      go_ret3
      exact ⟨rfl, Below.refl _ _⟩
    · obtain ⟨T, rfl⟩ := hR.head hH (by omega)
      obtain ⟨c0, c1⟩ := hm.own.cell 0 (by omega)
      rw [Nat.zero_mul] at c0 c1
      rw [Nat.zero_add] at c1
      have hq : ((L.length : Int) == 0) = false := by rw [beq_eq_false_iff_ne]; omega
      have hpos : 0 < L.length := by omega
      show Calls Try.prog 68 _ w fun e w' => e = .returned (.tuple #[.int .i64 (at' L 0).1, .int .i64 (at' L 0).2, .int .i64 0]) ∧ _
      generalize (at' L 0).1 = x at *
      generalize (at' L 0).2 = y at *
      generalize L.length = n at *
      clear hT hm hH hR hl h0
      go_enter Try.func68, Try.ntmps68
      go_wp2
      go_region
      go_wp2
      go_ret3
      exact ⟨rfl, below_drew (Below.refl _ _)⟩
end Go.Proofs.Ytdoeebbcieiimaa.Tm

namespace Go.Proofs.Ytdoeebbcieiimaa.Tm
open Go.ChangeShapes Go.WideShapes Go.ChangeAt Go.RowKit Go.Maps H
set_option maxHeartbeats 1000000
set_option maxRecDepth 100000

def hasS (S : List Dl) (i : Int) : Bool := S.any (fun x => x.1 == i)

theorem hasS_true {S : List Dl} {d : Dl} (h : d ∈ S) : hasS S d.1 = true := by
  unfold hasS; rw [List.any_eq_true]; exact ⟨d, h, by simp⟩
theorem hasS_false {S : List Dl} {i : Int} (h : ∀ x ∈ S, x.1 ≠ i) : hasS S i = false := by
  unfold hasS; rw [List.any_eq_false]; exact fun x hx => by simpa using h x hx

theorem drop_any (b bm : Nat) (go : Option Nat) (lim : Int) (S : List Dl) (i : Int) (w : World) (hT : Tm w b bm go lim S) (hi : In64 i) :
    Calls Try.prog 61 #[.pointer (some ⟨b, 0, none⟩), .int .i64 i] w fun e w' => e = .returned (.int .i64 (if hasS S i then 0 else 3)) ∧ Tm w' b bm go lim (drp i S) ∧ Fr (fp b bm go) w w' := by
  have h1 := hT.lo
  have h2 := hT.hi
  have h3 := hT.fits
  rcases hT.cases with ⟨rfl, rfl, f, hr, hm, hf⟩ | ⟨g, cap, L, f, rfl, hm, hH, hR, hl⟩
  · have k2 : w.cell? ⟨b, 2, none⟩ = some (.map (some bm)) := by rw [cell_of_row _ _ _ _ _ _ hr]; rfl
    have hlk := hm.look hi
    rw [hf i] at hlk
    simp only [Option.getD_none, Option.isSome_none, Int.ofNat_zero] at hlk
    rw [hasS_false (by simp)]
    have HT : Hid (Tm w b bm none lim (drp i [])) := hT
    clear hT hr hm hf
    go_enter Try.func61, Try.ntmps61
    go_wp2_with fail
    go_ret
    exact ⟨rfl, HT.out, Fr.refl _ _⟩
  · have k2 := hm.at2
    have hlk := hm.map.look hi
    cases hfi : f i with
    | none =>
      rw [hfi] at hlk
      simp only [Option.getD_none, Option.isSome_none, Int.ofNat_zero] at hlk
      have hfr := hR.free hH hfi
      rw [hasS_false hfr, drp_self hfr]
      have HT := hid hT
      clear hT hm hH hR hl hfi hfr
      go_enter Try.func61, Try.ntmps61
      go_wp2_with fail
      go_ret
      exact ⟨rfl, HT.out, Fr.refl _ _⟩
    | some k =>
      rw [hfi] at hlk
      simp only [Option.getD_some, Option.isSome_some] at hlk
      obtain ⟨hk1, hk2, hk3⟩ := hR.held hH hfi
      have hhas := hasS_true hk3
      rw [hk2] at hhas
      rw [hhas]
      have HTK := hid (take_any b bm g cap k lim L f w hm hH hk1)
      have HEND : Hid (∀ w' M h, Taken w w' b bm g cap lim L k M h → Tm w' b bm (some g) lim (drp i S) ∧ Fr (fp b bm (some g)) w w') := fun w' M h ht => by
        have hl' := ht.len
        refine ⟨Tm.mk' ht.mm ht.heap (by rw [← hk2]; exact ht.rep S hR) h1 h2 (by omega), ht.fr.mono (by simp [fp])⟩
      clear hT hm hH hR hl hfi hhas hk1 hk2 hk3
      go_enter Try.func61, Try.ntmps61
      go_wp2_with fail
      refine HTK.out.mono ?_
      rintro _ w2 ⟨rfl, M, h, ht⟩
      go_wp2_with fail
      go_ret
      exact ⟨rfl, HEND.out _ _ _ ht⟩

theorem info67 : (Try.prog.info? 135).map (fun i => (i.zero, i.size, i.bytes)) = some (some (.agg #[.int .i64 0, .int .i64 0]), 2, 16) := by kernel_rfl

theorem at_snoc (L : List Dl) : ∀ i, i < L.length + 1 → at' (L ++ [(0, 0)]) i = at' L i := fun i hi => by
  unfold at'
  rw [List.getD_eq_getElem?_getD, List.getD_eq_getElem?_getD]
  by_cases h : i < L.length
  · rw [List.getElem?_append_left h]
  · have e : L[i]? = none := List.getElem?_eq_none (by omega)
    rw [List.getElem?_append_right (by omega), show i - L.length = 0 by omega, e]
    rfl

theorem Fr.grown {F : List Nat} {a b c : World} (h : Fr F a b) {row : Option Nat} (hg : b.grownBy c row) (hr : ∀ k, row = some k → k ∈ F ∨ a.heap.size ≤ k) : Fr F a c :=
  ⟨hg.os.trans h.os, hg.tape.trans h.tape, hg.output.trans h.output, Nat.le_trans h.size hg.size, fun j hj hn => (hg.block j (Nat.lt_of_lt_of_le hj h.size) (fun e => by rcases hr j e.symm with h | h; exact hn h; omega)).trans (h.block j hj hn)⟩

theorem set_held (b bm : Nat) (g cap : Nat) (lim : Int) (S L : List Dl) (f : Int → Option Nat) (i a : Int) (k : Nat) (w : World) (hm : Mm w b bm g cap lim L f L.length) (hH : Heap L.length (at' L) f) (hR : Rep L.length (at' L) S) (h1 : 1 ≤ lim) (h2 : lim ≤ 65536) (h3 : (L.length : Int) ≤ lim) (hi : In64 i) (ha : In64 a) (hf : f i = some k) :
    Calls Try.prog 71 #[.pointer (some ⟨b, 0, none⟩), .int .i64 i, .int .i64 a] w fun e w' => e = .returned (.int .i64 0) ∧ Tm w' b bm (some g) lim (setS S (i, a)) ∧ Fr (fp b bm (some g)) w w' := by
  have k2 := hm.at2
  have hlk := hm.map.look hi
  rw [hf] at hlk
  simp only [Option.getD_some, Option.isSome_some] at hlk
  obtain ⟨hk1, hk2, hk3⟩ := hR.held hH hf
  have hHo := hH.hole_at hk1 (i, a) hk2.symm
  have HSE := settle_any b bm g cap k lim L f L.length (i, a) w hm hHo ⟨hi, ha⟩ (.inl (by rw [hf]; rfl))
  rw [show (f (i, a).1).isSome = true by rw [show (i, a).1 = i from rfl, hf]; rfl, if_pos rfl] at HSE
  have HSE := hid HSE
  have HEND : Hid (∀ w' M h, Settled w w' b bm g cap lim L.length L.length (upd (at' L) k (i, a)) M h → Tm w' b bm (some g) lim (setS S (i, a)) ∧ Fr (fp b bm (some g)) w w') := fun w' M h hs => by
    refine ⟨Tm.mk' (L := M) (f := h) (by rw [hs.len]; exact hs.mm) (by rw [hs.len]; exact hs.heap) (by rw [hs.len]; exact hR.moved hH.inj hk1 hk2.symm hs.mem) h1 h2 (by rw [hs.len]; exact h3), hs.fr.mono (by simp [fp])⟩
  clear hm hH hR hf hk1 hk2 hk3 hHo h3
  go_enter Try.func71, Try.ntmps71
  go_wp2_with fail
  refine HSE.out.mono ?_
  rintro _ w2 ⟨rfl, M, h, hs⟩
  go_wp2_with fail
  go_ret
  exact ⟨rfl, HEND.out _ _ _ hs⟩

/-- Set of an id that is not held. -/
theorem set_new (b bm : Nat) (ao : Option Addr) (cap n : Nat) (lim : Int) (S L : List Dl) (f : Int → Option Nat) (i a : Int) (w : World)
    (hr : w.heap[b]? = some (.cells #[.int .i64 lim, .slice ao n cap, .map (some bm)] 118 (0, 0))) (ho : w.ownsRow 0 135 2 (.slice ao n cap) n (ds L)) (hn : n = L.length) (hmp : MapF w bm f n) (hdm : ∀ x ∈ L, In64 x.1 ∧ In64 x.2)
    (hH : Heap L.length (at' L) f) (hR : Rep L.length (at' L) S) (h1 : 1 ≤ lim) (h2 : lim ≤ 65536) (hi : In64 i) (ha : In64 a) (hf : f i = none) (hroom : (n : Int) < lim) :
    Calls Try.prog 71 #[.pointer (some ⟨b, 0, none⟩), .int .i64 i, .int .i64 a] w fun e w' => ∃ go', e = .returned (.int .i64 0) ∧ Tm w' b bm go' lim (setS S (i, a)) ∧ (∀ x ∈ go'.toList, x ∈ (Value.slice ao n cap).ownBlock.toList ∨ w.heap.size ≤ x) ∧ Fr (fp b bm (Value.slice ao n cap).ownBlock) w w' := by
  obtain ⟨i0, hi0, hz0, hz1, hz2⟩ := info_parts info67
  have HI : Hid (Try.prog.info? 135 = some i0) := hi0
  have k0 : w.cell? ⟨b, 0, none⟩ = some (.int .i64 lim) := by rw [cell_of_row _ _ _ _ _ _ hr]; rfl
  have k1 : w.cell? ⟨b, 1, none⟩ = some (.slice ao n cap) := by rw [cell_of_row _ _ _ _ _ _ hr]; rfl
  have k2 : w.cell? ⟨b, 2, none⟩ = some (.map (some bm)) := by rw [cell_of_row _ _ _ _ _ _ hr]; rfl
  have hlk := hmp.look hi
  rw [hf] at hlk
  simp only [Option.getD_none, Option.isSome_none, Int.ofNat_zero] at hlk
  have hbl : b < w.heap.size := (Array.getElem?_eq_some_iff.1 hr).1
  have hml := hmp.lt
  have hne : (Value.slice ao n cap).ownBlock ≠ some b ∧ (Value.slice ao n cap).ownBlock ≠ some bm ∧ b ≠ bm := by
    obtain ⟨D, ⟨es, clock, hmm, _⟩, _⟩ := hmp
    have hbm : b ≠ bm := fun e => by rw [e, hmm] at hr; cases hr
    rcases ho.2 with ⟨e, _⟩ | ⟨g, cap', cur, e, _, hg, _⟩
    · rw [e]; exact ⟨by simp [Value.ownBlock], by simp [Value.ownBlock], hbm⟩
    · rw [e]
      refine ⟨fun e2 => ?_, fun e2 => ?_, hbm⟩
      · simp [Value.ownBlock] at e2; rw [e2, hr] at hg; cases hg
      · simp [Value.ownBlock] at e2; rw [e2, hmm] at hg; cases hg
  have hrl := ho.lt
  have HO := hid ho
  -- behind the append, the slice stored
  have HREST : Hid (∀ (o : Obj) v' w3, w3.ownsRow 0 135 2 v' (n + 1) (ds L ++ [.int .i64 0, .int .i64 0]) → ((w.alloc o).drew).grownBy w3 (Value.slice ao n cap).ownBlock → (v'.ownBlock = (Value.slice ao n cap).ownBlock ∨ v'.ownBlock = some (w.heap.size + 1)) →
      w3.heap[b]? = some (.cells #[.int .i64 lim, .slice ao n cap, .map (some bm)] 118 (0, 0)) ∧ (v' ≠ .slice none 0 0 → ∃ g' cap', v' = .slice (some ⟨g', 0, none⟩) (n + 1) cap' ∧
      Calls Try.prog 94 #[.pointer (some ⟨b, 0, none⟩), .int .i64 (n : Int), .agg #[.int .i64 i, .int .i64 a]] (w3.setCell ⟨b, 1, none⟩ v') fun e w' => e = .returned (.tuple #[]) ∧ ∃ go', Tm w' b bm go' lim (setS S (i, a)) ∧ (∀ x ∈ go'.toList, x ∈ (Value.slice ao n cap).ownBlock.toList ∨ w.heap.size ≤ x) ∧ Fr (fp b bm (Value.slice ao n cap).ownBlock) w w')) := fun o v' w3 ho3 hg3 hloc => by
    have hsz : (w.alloc o).drew.heap.size = w.heap.size + 1 := World.size_alloc w o
    have hfa : Fr (fp b bm (Value.slice ao n cap).ownBlock) w (w.alloc o).drew := by
      exact (Fr.alloc (fp b bm (Value.slice ao n cap).ownBlock) w o).drew
    have hfa' : Fr [] w (w.alloc o).drew := by
      exact (Fr.alloc [] w o).drew
    have hf3 : Fr (fp b bm (Value.slice ao n cap).ownBlock) w w3 := hfa.grown hg3 (fun k hk => .inl (by simp [fp, hk]))
    have hb3 : w3.heap[b]? = some (.cells #[.int .i64 lim, .slice ao n cap, .map (some bm)] 118 (0, 0)) := by
      rw [hg3.block b (by omega) (fun e => hne.1 e.symm)]
      exact (hfa'.block b hbl (by simp)).trans hr
    have hmp3 : MapF w3 bm f n := hmp.kept ((hg3.block bm (by omega) (fun e => hne.2.1 e.symm)).trans (hfa'.block bm hml (by simp)))
    refine ⟨hb3, fun hv' => ?_⟩
    have hds : ds L ++ [.int .i64 0, .int .i64 0] = ds (L ++ [(0, 0)]) := by rw [ds_append]; rfl
    rw [hds] at ho3
    rcases ho3.2 with ⟨e, _⟩ | ⟨g', cap', cur, rfl, _, hgg, hnc, hcm, hcs, ht⟩
    · exact absurd e hv'
    · refine ⟨g', cap', rfl, ?_⟩
      have hlen : (L ++ [((0 : Int), (0 : Int))]).length = n + 1 := by rw [List.length_append, hn]; rfl
      have hgb : g' ≠ b := fun e => by rw [e, hb3] at hgg; cases hgg
      have hgm : g' ≠ bm := fun e => by
        obtain ⟨D, ⟨es, clock, hmm, _⟩, _⟩ := hmp3
        rw [e, hmm] at hgg; cases hgg
      have hf4 : Fr [b] w3 (w3.setCell ⟨b, 1, none⟩ (.slice (some ⟨g', 0, none⟩) (n + 1) cap')) := (Fr.refl [b] w3).set (by simp)
      have hbl3 : b < w3.heap.size := (Array.getElem?_eq_some_iff.1 hb3).1
      have hm4 : Mm (w3.setCell ⟨b, 1, none⟩ (.slice (some ⟨g', 0, none⟩) (n + 1) cap')) b bm g' cap' lim (L ++ [(0, 0)]) f n := by
        refine ⟨?_, ?_, hmp3.kept (hf4.block bm hmp3.lt (by simpa using hne.2.2.symm)), fun x hx => ?_, by omega⟩
        · rw [hlen]; exact heap_setCell_same w3 b 1 _ 118 _ hb3
        · refine RowD.kept (w := w3) ⟨cur, hgg, by rw [hlen]; exact hnc, hcm, hcs, by rw [hlen]; exact ht⟩ (hf4.block g' (Array.getElem?_eq_some_iff.1 hgg).1 (by simpa using hgb))
        · rcases List.mem_append.1 hx with hx | hx
          · exact hdm x hx
          · rw [List.mem_singleton.1 hx]; exact ⟨⟨by decide, by decide⟩, ⟨by decide, by decide⟩⟩
      have hHo : Hole (L ++ [((0 : Int), (0 : Int))]).length (at' (L ++ [(0, 0)])) f n (i, a) := by
        rw [hlen, hn]
        exact (hH.hole_end (i, a) hf).congr (at_snoc L)
      have := settle_any b bm g' cap' n lim (L ++ [(0, 0)]) f n (i, a) _ hm4 hHo ⟨hi, ha⟩ (.inr (by omega))
      rw [show (f (i, a).1).isSome = false by rw [show (i, a).1 = i from rfl, hf]; rfl, if_neg (by simp), hlen] at this
      refine this.mono ?_
      rintro e w' ⟨rfl, M, h, hs⟩
      refine ⟨rfl, some g', Tm.mk' (L := M) (f := h) (by rw [hs.len]; exact hs.mm) (by rw [hs.len]; exact hs.heap) ?_ h1 h2 (by rw [hs.len]; omega), fun x hx => ?_, ?_⟩
      · rw [hs.len, hn]
        have hm' := hs.mem
        rw [hn] at hm'
        exact hR.came hH hf (fun x => (hm' x).trans (Mem.congr (upd_congr (at_snoc L) _ _) x))
      · simp at hx
        subst hx
        rcases hloc with h | h
        · have hgo : (Value.slice ao n cap).ownBlock = some x := h.symm
          left; rw [hgo]; simp
        · right
          have hg' : x = w.heap.size + 1 := Option.some.inj h
          omega
      · refine (hf3.trans' (hf4.mono (G := fp b bm (Value.slice ao n cap).ownBlock) (by simp [fp])) (fun x hx => .inl hx)).trans' hs.fr (fun x hx => ?_)
        simp at hx
        rcases hx with rfl | rfl
        · rcases hloc with h | h
          · have hgo : (Value.slice ao n cap).ownBlock = some x := h.symm
            left; simp [fp, hgo]
          · right
            have hg' : x = w.heap.size + 1 := Option.some.inj h
            omega
        · left; simp [fp]
  have hq : decide (lim ≤ (n : Int)) = false := by simp; omega
  have hn6 : n < 65536 := by omega
  have hBS : 0 ≤ w.heap.size := Nat.zero_le _
  have HB1 : Hid (w.frozen? ⟨b, 1, none⟩ = false) := frozen_of_row _ _ _ _ _ hr
  clear hr ho hmp hdm hH hR hf hbl hml hne hrl hi0 hn
  go_enter Try.func71, Try.ntmps71
  go_wp2
  go_region
  go_wp2_with (at_builtin; refine wpList_append_own_at _ rfl _ _ 116 rfl 0 135 i0 (.agg #[.int .i64 0, .int .i64 0]) 2 16 Try.underlying116 HI.out hz0 hz1 hz2 rfl (by decide) _ _ _ rfl (HO.out.alloc _).drew ⟨w.heap.size, 0, none⟩ 1 1 [.int .i64 0, .int .i64 0] rfl rfl ?c1 ?c2 ?c3 ?c4 ?c5 ?_)
  case c1 =>
    intro j u hj
    have hb := heap_alloc_new w (.cells #[.int .i64 0, .int .i64 0] 135)
    have key : ∀ j, (w.alloc (.cells #[.int .i64 0, .int .i64 0] 135)).drew.cell? ⟨w.heap.size, j, none⟩ = (#[Value.int .i64 0, Value.int .i64 0] : Array Value)[j]? := fun j => cell_of_row _ _ _ _ _ _ hb
    match j, hj with
    | 0, hj => cases hj; exact key 0
    | 1, hj => cases hj; exact key 1
  case c2 => intro u hu; simp at hu; rw [hu]; rfl
  case c3 => unfold maxLen; omega
  case c4 => omega
  case c5 => exact Nat.zero_le _
  intro v' w3 ho3 hg3 hnil hloc
  obtain ⟨hb3, hcalls⟩ := HREST.out _ v' w3 ho3 hg3 hloc
  have hv' : v' ≠ .slice none 0 0 := hnil
  obtain ⟨g', cap', rfl, hc⟩ := hcalls hv'
  have HC := hid hc
  have k3 : w3.cell? ⟨b, 1, none⟩ = some (.slice ao n cap) := by rw [cell_of_row _ _ _ _ _ _ hb3]; rfl
  have f3 : w3.frozen? ⟨b, 1, none⟩ = false := frozen_of_row _ _ _ _ _ hb3
  clear ho3 hg3 hnil hloc hb3 hcalls hv' hc HREST HO k0 k1 k2 hlk HB1
  go_wp2_with fail
  refine HC.out.mono ?_
  rintro _ w5 ⟨rfl, go', hT, g1, g2⟩
  go_wp2_with fail
  go_ret
  exact ⟨go', rfl, hT, g1, g2⟩

theorem set_full (b bm : Nat) (ao : Option Addr) (cap n : Nat) (lim : Int) (f : Int → Option Nat) (i a : Int) (w : World)
    (hr : w.heap[b]? = some (.cells #[.int .i64 lim, .slice ao n cap, .map (some bm)] 118 (0, 0))) (hmp : MapF w bm f n) (hi : In64 i) (hf : f i = none) (hroom : ¬ (n : Int) < lim) :
    Calls Try.prog 71 #[.pointer (some ⟨b, 0, none⟩), .int .i64 i, .int .i64 a] w fun e w' => e = .returned (.int .i64 4) ∧ Below w.heap.size w w' := by
  have k0 : w.cell? ⟨b, 0, none⟩ = some (.int .i64 lim) := by rw [cell_of_row _ _ _ _ _ _ hr]; rfl
  have k1 : w.cell? ⟨b, 1, none⟩ = some (.slice ao n cap) := by rw [cell_of_row _ _ _ _ _ _ hr]; rfl
  have k2 : w.cell? ⟨b, 2, none⟩ = some (.map (some bm)) := by rw [cell_of_row _ _ _ _ _ _ hr]; rfl
  have hlk := hmp.look hi
  rw [hf] at hlk
  simp only [Option.getD_none, Option.isSome_none, Int.ofNat_zero] at hlk
  have hq : decide (lim ≤ (n : Int)) = true := by simp; omega
  clear hr hmp hf
  go_enter Try.func71, Try.ntmps71
  go_wp2
  go_region
  go_wp2
  go_ret
  exact ⟨rfl, below_drew (Below.refl _ _)⟩

/-- Set's answer, and what is held behind it. -/
def setE (S : List Dl) (lim i : Int) : Int := if hasS S i = true ∨ (S.length : Int) < lim then 0 else 4
def setR (S : List Dl) (lim : Int) (d : Dl) : List Dl := if hasS S d.1 = true ∨ (S.length : Int) < lim then setS S d else S

theorem set_any (b bm : Nat) (go : Option Nat) (lim : Int) (S : List Dl) (i a : Int) (w : World) (hT : Tm w b bm go lim S) (hi : In64 i) (ha : In64 a) :
    Calls Try.prog 71 #[.pointer (some ⟨b, 0, none⟩), .int .i64 i, .int .i64 a] w fun e w' => ∃ go', e = .returned (.int .i64 (setE S lim i)) ∧ Tm w' b bm go' lim (setR S lim (i, a)) ∧ (∀ x ∈ go'.toList, x ∈ go.toList ∨ w.heap.size ≤ x) ∧ Fr (fp b bm go) w w' := by
  have h1 := hT.lo
  have h2 := hT.hi
  have h3 := hT.fits
  obtain ⟨v, L, f, hr, ho, hg, hm, hd, hH, hR⟩ := hT.ex
  have hlen := hR.len hH.inj
  obtain ⟨ao, cap, rfl⟩ : ∃ ao cap, v = .slice ao L.length cap := by
    rcases ho.2 with ⟨rfl, hn⟩ | ⟨g, cap, cur, rfl, _⟩
    · exact ⟨none, 0, by rw [hn]⟩
    · exact ⟨_, _, rfl⟩
  unfold setE setR
  cases hf : f i with
  | some k =>
    obtain ⟨hk1, hk2, hk3⟩ := hR.held hH hf
    have hhas := hasS_true hk3
    rw [hk2] at hhas
    rw [if_pos (.inl hhas), if_pos (.inl hhas)]
    rcases hT.cases with ⟨_, hS, _⟩ | ⟨g, cap', L', f', hgo, hm', hH', hR', hl'⟩
    · rw [hS] at hk3; cases hk3
    · have hf' : ∃ k', f' i = some k' := by
        obtain ⟨j, hj, ej⟩ := (hR'.mem _).2 hk3
        exact ⟨j, by rw [← hk2, ← ej]; exact hH'.place j hj⟩
      obtain ⟨k', hf'⟩ := hf'
      subst hgo
      refine (set_held b bm g cap' lim S L' f' i a k' w hm' hH' hR' h1 h2 (by omega) hi ha hf').mono ?_
      rintro e w' ⟨he, hT', hfr⟩
      exact ⟨some g, he, hT', fun x hx => .inl hx, hfr⟩
  | none =>
    have hfr := hR.free hH hf
    have hhas := hasS_false hfr
    by_cases hroom : (L.length : Int) < lim
    · rw [if_pos (.inr (by omega)), if_pos (.inr (by omega))]
      have := set_new b bm ao cap L.length lim S L f i a w hr ho rfl hm hd hH hR h1 h2 hi ha hf hroom
      rw [hg] at this
      exact this
    · have hno : ¬ (hasS S i = true ∨ (S.length : Int) < lim) := by rw [hhas]; simp; omega
      rw [if_neg hno, if_neg hno]
      refine (set_full b bm ao cap L.length lim f i a w hr hm hi hf hroom).mono ?_
      rintro e w' ⟨he, hb⟩
      exact ⟨go, he, hT.below hb, fun x hx => .inl hx, Fr.of_below hb _⟩
end Go.Proofs.Ytdoeebbcieiimaa.Tm

namespace Go.Proofs.Ytdoeebbcieiimaa
open Go.ChangeShapes Go.WideShapes Go.ChangeAt Go.RowKit
set_option maxHeartbeats 2000000
set_option maxRecDepth 100000

def keyH (h : Hd) : Key := ⟨h.src, h.dst, h.proto, h.id⟩
theorem keyH_ok {h : Hd} (hok : h.Ok) : (keyH h).Ok := ⟨hok.src, hok.dst, hok.proto, hok.id⟩

def keyC (k : Key) : Array Value := #[.int .u32 (k.src : Int), .int .u32 (k.dst : Int), .int .u8 (k.proto : Int), .int .u16 (k.id : Int)]
theorem keyV_eq (k : Key) : keyV k = .agg (keyC k) := rfl
theorem sz90 : (Try.prog.info? 90).map (·.size) = some 4 := by kernel_rfl
theorem und90 : ∃ fs, Try.prog.underlying 90 = some (.struct fs) := ⟨_, Try.underlying90⟩
def Z90 : Array Value := #[.int .u32 0, .int .u32 0, .int .u8 0, .int .u16 0]

theorem key_var {u : World} {n : Nat} {k : Key} {t : TypeId} (hb : u.heap[n]? = some (.cells (keyC k) t)) : (loadVar 90 ⟨n, 0, none⟩).run Try.prog u = .ok (.agg (keyC k)) u := by
  obtain ⟨fs, hu⟩ := und90
  refine run_loadVar_mid u n 0 90 (keyC k).toList (.struct fs) (fun j v hv => ?_) hu rfl (by rw [sz90]; rfl)
  rw [Nat.zero_add, cell_of_row u _ _ _ _ _ hb, ← hv, Array.getElem?_toList]

theorem key_load {u : World} {n : Nat} {k : Key} {t : TypeId} (hb : u.heap[n]? = some (.cells (keyC k) t)) : (Instr.loadAt 90 (.pointer (some ⟨n, 0, none⟩))).run Try.prog u = .ok (.agg (keyC k)) u := by
  obtain ⟨fs, hu⟩ := und90
  refine run_loadAt_mid u n 0 90 (keyC k).toList (.struct fs) (fun j v hv => ?_) hu rfl (by rw [sz90]; rfl)
  rw [Nat.zero_add, cell_of_row u _ _ _ _ _ hb, ← hv, Array.getElem?_toList]

theorem keyOf_any (h : Hd) (vo : Value) (w : World) :
    Calls Try.prog 34 #[.agg (hdCells h vo)] w fun e w' => e = .returned (.agg (keyC (keyH h))) ∧ Below w.heap.size w w' := by
  obtain ⟨w1, hw1⟩ : ∃ w1, w1 = (w.alloc (.cells (hdCells h vo) 27)).alloc (.cells Z90 90) := ⟨_, rfl⟩
  have hs1 : w1.heap.size = w.heap.size + 2 := by rw [hw1]; simp
  have hb1 : Below w.heap.size w w1 := by rw [hw1]; exact ((Below.refl _ _).alloc (Nat.le_refl _) _).alloc (by simp) _
  have hk0 : w1.heap[w.heap.size]? = some (.cells (hdCells h vo) 27) := by
    have h1 : Below (w.heap.size + 1) (w.alloc (.cells (hdCells h vo) 27)) w1 := by rw [hw1]; exact (Below.refl _ _).alloc (by simp) _
    rw [h1.block _ (by omega)]
    exact heap_alloc_new w _
  have hk1 : w1.heap[w.heap.size + 1]? = some (.cells Z90 90) := by
    have := heap_alloc_new (w.alloc (.cells (hdCells h vo) 27)) (.cells Z90 90)
    rw [World.size_alloc] at this
    rw [hw1]; exact this
  have c7 : w1.cell? ⟨w.heap.size, 7, none⟩ = some (.int .u32 (h.src : Int)) := by rw [cell_of_row _ _ _ _ _ _ hk0]; rfl
  have c8 : w1.cell? ⟨w.heap.size, 8, none⟩ = some (.int .u32 (h.dst : Int)) := by rw [cell_of_row _ _ _ _ _ _ hk0]; rfl
  have c6 : w1.cell? ⟨w.heap.size, 6, none⟩ = some (.int .u8 (h.proto : Int)) := by rw [cell_of_row _ _ _ _ _ _ hk0]; rfl
  have c1 : w1.cell? ⟨w.heap.size, 1, none⟩ = some (.int .u16 (h.id : Int)) := by rw [cell_of_row _ _ _ _ _ _ hk0]; rfl
  have HK1 := hid hk1
  have HW1 := hid hw1
  have HB1 := hid hb1
  have HS1 := hid hs1
  have HE : Hid (keyC (keyH h) = #[.int .u32 (h.src : Int), .int .u32 (h.dst : Int), .int .u8 (h.proto : Int), .int .u16 (h.id : Int)]) := rfl
  obtain ⟨kc, hkc⟩ : ∃ kc, kc = keyC (keyH h) := ⟨_, rfl⟩
  have HKC := hid hkc
  have HLV : Hid (∀ u : World, u.heap[w.heap.size + 1]? = some (.cells kc 90) → (loadVar 90 ⟨w.heap.size + 1, 0, none⟩).run Try.prog u = .ok (.agg kc) u) := fun u hu => by rw [hkc] at hu ⊢; exact key_var hu
  have HAL : Hid (kc.all (·.oneCell') = true) := by unfold Hid; rw [hkc]; simp [keyC, Value.oneCell']
  have HSZ : Hid (kc.size = 4) := by unfold Hid; rw [hkc]; rfl
  rw [← hkc] at HE ⊢
  generalize h.src = s at *
  generalize h.dst = t at *
  generalize h.proto = p at *
  generalize h.id = i at *
  generalize hdCells h vo = cs at *
  clear hw1 hb1 hs1 hk0 hk1 hkc
  go_enter Try.func34, Try.ntmps34
  go_upto_region 1 with fail
  have e0 : (w.alloc (.cells cs 27)).alloc (.cells Z90 90) = w1 := HW1.out.symm
  unfold Z90 at e0
  rw [e0]
  clear e0
  go_wp2_with (first | (refine wpList_st rfl 90 (.tmp 2) (.tmp 11) rfl (w.heap.size + 1) kc rfl (by rw [HE.out]; rfl) 90 Z90 HK1.out (by rw [HSZ.out]; exact sz90) (by rw [HSZ.out]; rfl) HAL.out ?_) | fail)
  intro w5 hk5 hbut5
  have HL5 := hid (HLV.out _ hk5)
  have hbF := hbut5.below HB1.out (by have := HS1.out; omega) (by omega)
  go_wp2_with fail
  refine bodyPost_ret (v := .agg kc) (by simp [results, Try.results34, asAddr, HL5.out]) rfl ?_
  exact ⟨rfl, hbF⟩

def isWh (h : Hd) : Bool := decide (h.off = 0) && !h.mf

theorem isWhole_any (h : Hd) (vo vb : Value) (w : World) :
    Calls Try.prog 35 #[.agg (pkCells h vo vb)] w fun e w' => e = .returned (.bool (isWh h)) ∧ Below w.heap.size w w' := by
  obtain ⟨w1, hw1⟩ : ∃ w1, w1 = w.alloc (.cells (pkCells h vo vb) 29) := ⟨_, rfl⟩
  have hb1 : Below w.heap.size w w1 := by rw [hw1]; exact (Below.refl _ _).alloc (Nat.le_refl _) _
  have hk1 : w1.heap[w.heap.size]? = some (.cells (pkCells h vo vb) 29) := by rw [hw1]; exact heap_alloc_new w _
  have c4 : w1.cell? ⟨w.heap.size, 4, none⟩ = some (.int .i64 h.off) := pk_at hk1 4 (by omega)
  have c3 : w1.cell? ⟨w.heap.size, 3, none⟩ = some (.bool h.mf) := pk_at hk1 3 (by omega)
  have HW1 := hid hw1
  have HB1 := hid hb1
  obtain ⟨R, hR⟩ : ∃ R, R = isWh h := ⟨_, rfl⟩
  have HR : Hid (R = (decide (h.off = 0) && !h.mf)) := hR
  rw [← hR]
  generalize h.off = o at *
  generalize h.mf = m at *
  generalize pkCells h vo vb = cs at *
  clear hw1 hb1 hk1 hR
  by_cases h0 : o = 0
  · subst h0
    cases m with
    | true =>
      have HE : Hid (R = false) := by unfold Hid; rw [HR.out]; rfl
      go_enter Try.func35, Try.ntmps35
      go_upto_region 1 with fail
      rw [← HW1.out]
      go_wp2_with fail
      go_ret
      exact ⟨ret_bool (by rw [HE.out]), HB1.out⟩
    | false =>
      have HE : Hid (R = true) := by unfold Hid; rw [HR.out]; rfl
      go_enter Try.func35, Try.ntmps35
      go_upto_region 1 with fail
      rw [← HW1.out]
      go_wp2_with fail
      go_ret
      exact ⟨ret_bool (by rw [HE.out]), HB1.out⟩
  · have q : (o == 0) = false := by simp [h0]
    have HE : Hid (R = false) := by unfold Hid; rw [HR.out]; simp [h0]
    go_enter Try.func35, Try.ntmps35
    go_upto_region 1 with fail
    rw [← HW1.out]
    go_wp2_with fail
    go_ret
    exact ⟨ret_bool (by rw [HE.out]), HB1.out⟩

/-- An assembler at rest: its block, its map, its timers. -/
structure AsmAt (w : World) (a : Nat) (room life now last : Int) (bm : Nat) (f : Key → Option Nat) (c : Nat) (tb tm : Nat) (tg : Option Nat) (S : List Tm.H.Dl) : Prop where
  blk : w.heap[a]? = some (.cells #[.int .i64 room, .int .i64 life, .int .i64 now, .int .i64 last, .map (some bm), .pointer (some ⟨tb, 0, none⟩)] 88)
  map : MapK w bm f c
  tim : Tm.Tm w tb tm tg room S

def fpA (a bm tb tm : Nat) (tg : Option Nat) : List Nat := a :: bm :: Tm.fp tb tm tg

theorem newA_good (room life : Int) (w : World) (r1 : 1 ≤ room) (r2 : room ≤ 256) (l1 : 1 ≤ life) (l2 : life ≤ 1099511627776) :
    Calls Try.prog 14 #[.int .i64 room, .int .i64 life] w fun e w' => ∃ a bm tb tm, e = .returned (.tuple #[.pointer (some ⟨a, 0, none⟩), .int .i64 0]) ∧ AsmAt w' a room life 0 0 bm (fun _ => none) 0 tb tm none [] ∧ (∀ x ∈ fpA a bm tb tm none, w.heap.size ≤ x) ∧ (fpA a bm tb tm none).Nodup ∧ Below w.heap.size w w' := by
  have hmm := @run_makeMap Try.prog
  have HN := hid (Tm.new_good room w r1 (by omega))
  go_enter Try.func14, Try.ntmps14
  go_wp2_with fail
  refine HN.out.mono ?_
  rintro _ w1 ⟨tb, tm, rfl, hT, q1, q2, q3, hb1⟩
  have HT := hid hT
  have HB1 := hid hb1
  have HQ : Hid (w.heap.size ≤ tb ∧ w.heap.size ≤ tm ∧ tb ≠ tm) := ⟨q1, q2, q3⟩
  clear hT hb1 q1 q2 q3 HN
  go_wp2_with fail
  obtain ⟨w2, hw2⟩ : ∃ w2, w2 = w1.alloc (.map #[] 0) := ⟨_, rfl⟩
  obtain ⟨w3, hw3⟩ : ∃ w3, w3 = w2.alloc (.cells #[.int .i64 room, .int .i64 life, .int .i64 0, .int .i64 0, .map (some w1.heap.size), .pointer (some ⟨tb, 0, none⟩)] 88) := ⟨_, rfl⟩
  have hs2 : w2.heap.size = w1.heap.size + 1 := by rw [hw2]; simp
  have hb2 : Below w1.heap.size w1 w2 := by rw [hw2]; exact (Below.refl _ _).alloc (Nat.le_refl _) _
  have hb3 : Below w2.heap.size w2 w3 := by rw [hw3]; exact (Below.refl _ _).alloc (Nat.le_refl _) _
  have hk3 : w3.heap[w1.heap.size + 1]? = some (.cells #[.int .i64 room, .int .i64 life, .int .i64 0, .int .i64 0, .map (some w1.heap.size), .pointer (some ⟨tb, 0, none⟩)] 88) := by
    have := heap_alloc_new w2 (.cells #[.int .i64 room, .int .i64 life, .int .i64 0, .int .i64 0, .map (some w1.heap.size), .pointer (some ⟨tb, 0, none⟩)] 88)
    rw [← hw3, hs2] at this
    exact this
  have hm2 : MapK w2 w1.heap.size (fun _ => none) 0 := by rw [hw2]; exact MapK.made w1
  have e3 : (w1.alloc (.map #[] 0)).alloc (.cells #[.int .i64 room, .int .i64 life, .int .i64 0, .int .i64 0, .map (some w1.heap.size), .pointer (some ⟨tb, 0, none⟩)] 88) = w3 := by rw [hw3, hw2]
  rw [e3]
  obtain ⟨q1, q2, q3⟩ := HQ.out
  have hlt := HT.out.lt
  have t1 : tb < w1.heap.size := hlt tb (by simp [Tm.fp])
  have t2 : tm < w1.heap.size := hlt tm (by simp [Tm.fp])
  have hs1 := HB1.out.size
  refine bodyPost_ret (results_tmp2 Try.results14 _ _ _) rfl ?_
  refine ⟨w1.heap.size + 1, w1.heap.size, tb, tm, rfl, ⟨hk3, hm2.kept (hb3.block _ (by omega)), (HT.out.below hb2).below hb3⟩, ?_, ?_, HB1.out.trans ((hb2.trans (hb3.mono hb2.size)).mono HB1.out.size)⟩
  · intro x hx
    simp only [fpA, Tm.fp, List.mem_cons, Option.toList, List.not_mem_nil, or_false] at hx
    rcases hx with rfl | rfl | rfl | rfl <;> omega
  · simp [fpA, Tm.fp]
    omega
end Go.Proofs.Ytdoeebbcieiimaa

namespace Go.Proofs.Ytdoeebbcieiimaa
open Go.ChangeShapes Go.WideShapes Go.ChangeAt Go.RowKit
set_option maxHeartbeats 2000000
set_option maxRecDepth 100000

theorem AsmAt.below {w w' : World} {a : Nat} {room life now last : Int} {bm : Nat} {f : Key → Option Nat} {c tb tm : Nat} {tg : Option Nat} {S : List Tm.H.Dl} (h : AsmAt w a room life now last bm f c tb tm tg S) (hb : Below w.heap.size w w') : AsmAt w' a room life now last bm f c tb tm tg S :=
  ⟨below_keeps hb h.blk (Array.getElem?_eq_some_iff.1 h.blk).1, h.map.kept (hb.block _ h.map.lt), h.tim.below hb⟩

theorem AsmAt.lt {w : World} {a : Nat} {room life now last : Int} {bm : Nat} {f : Key → Option Nat} {c tb tm : Nat} {tg : Option Nat} {S : List Tm.H.Dl} (h : AsmAt w a room life now last bm f c tb tm tg S) : ∀ x ∈ fpA a bm tb tm tg, x < w.heap.size := fun x hx => by
  simp only [fpA, List.mem_cons] at hx
  rcases hx with rfl | rfl | hx
  · exact (Array.getElem?_eq_some_iff.1 h.blk).1
  · exact h.map.lt
  · exact h.tim.lt x hx

theorem AsmAt.cells {w : World} {a : Nat} {room life now last : Int} {bm : Nat} {f : Key → Option Nat} {c tb tm : Nat} {tg : Option Nat} {S : List Tm.H.Dl} (h : AsmAt w a room life now last bm f c tb tm tg S) :
    w.cell? ⟨a, 0, none⟩ = some (.int .i64 room) ∧ w.cell? ⟨a, 1, none⟩ = some (.int .i64 life) ∧ w.cell? ⟨a, 2, none⟩ = some (.int .i64 now) ∧ w.cell? ⟨a, 3, none⟩ = some (.int .i64 last) ∧ w.cell? ⟨a, 4, none⟩ = some (.map (some bm)) ∧ w.cell? ⟨a, 5, none⟩ = some (.pointer (some ⟨tb, 0, none⟩)) :=
  ⟨by rw [cell_of_row _ _ _ _ _ _ h.blk]; rfl, by rw [cell_of_row _ _ _ _ _ _ h.blk]; rfl, by rw [cell_of_row _ _ _ _ _ _ h.blk]; rfl, by rw [cell_of_row _ _ _ _ _ _ h.blk]; rfl, by rw [cell_of_row _ _ _ _ _ _ h.blk]; rfl, by rw [cell_of_row _ _ _ _ _ _ h.blk]; rfl⟩

theorem key_cells {u : World} {n : Nat} {k : Key} {t : TypeId} (hb : u.heap[n]? = some (.cells (keyC k) t)) :
    u.cell? ⟨n, 0, none⟩ = some (.int .u32 (k.src : Int)) ∧ u.cell? ⟨n, 1, none⟩ = some (.int .u32 (k.dst : Int)) ∧ u.cell? ⟨n, 2, none⟩ = some (.int .u8 (k.proto : Int)) ∧ u.cell? ⟨n, 3, none⟩ = some (.int .u16 (k.id : Int)) :=
  ⟨by rw [cell_of_row _ _ _ _ _ _ hb]; rfl, by rw [cell_of_row _ _ _ _ _ _ hb]; rfl, by rw [cell_of_row _ _ _ _ _ _ hb]; rfl, by rw [cell_of_row _ _ _ _ _ _ hb]; rfl⟩

theorem letGo_free (a : Nat) (room life now last : Int) (bm : Nat) (f : Key → Option Nat) (c tb tm : Nat) (tg : Option Nat) (S : List Tm.H.Dl) (k : Key) (w : World) (hA : AsmAt w a room life now last bm f c tb tm tg S) (hk : k.Ok) (hf : f k = none) :
    Calls Try.prog 36 #[.pointer (some ⟨a, 0, none⟩), .agg (keyC k)] w fun e w' => e = .returned (.tuple #[]) ∧ Below w.heap.size w w' := by
  obtain ⟨w1, hw1⟩ : ∃ w1, w1 = w.alloc (.cells (keyC k) 90) := ⟨_, rfl⟩
  have hb1 : Below w.heap.size w w1 := by rw [hw1]; exact (Below.refl _ _).alloc (Nat.le_refl _) _
  have hs1 : w1.heap.size = w.heap.size + 1 := by rw [hw1]; simp
  have hk1 : ∀ u : Beh w1, u.wd.heap[w.heap.size]? = some (.cells (keyC k) 90) := fun u => below_keeps u.ok (by rw [hw1]; exact heap_alloc_new w _) (by omega)
  have HQ : Hid (∀ x : World, (∃ u : Beh w1, x = u.wd) → (Instr.loadAt 90 (.pointer (some ⟨w.heap.size, 0, none⟩))).run Try.prog x = .ok (.agg (keyC k)) x) := fun x hx => by obtain ⟨u, rfl⟩ := hx; exact key_load (hk1 u)
  have hlook : ∀ u : Beh w1, (Instr.lookup 86 (.map (some bm)) (.agg (keyC k)) true).run Try.prog u.wd = .ok (.tuple #[.pointer none, .bool false]) u.wd := fun u => by
    have := ((hA.below hb1).below u.ok).map.look hk
    rw [hf] at this
    exact this
  have c4 : ∀ u : Beh w1, u.wd.cell? ⟨a, 4, none⟩ = some (.map (some bm)) := fun u => ((hA.below hb1).below u.ok).cells.2.2.2.2.1
  have HW1 := hid hw1
  have HB1 := hid hb1
  generalize keyC k = kc at *
  clear hw1 hb1 hs1 hk1 hA
  go_enter Try.func36, Try.ntmps36
  go_upto_region 1 with fail
  rw [← HW1.out]
  refine wp_region_beh (by kernel_rfl) (by kernel_rfl) ?_
  repeat (first
    | (refine wpQuiet_ld 90 ⟨w.heap.size, 0, none⟩ (.tmp 3) (by rfl) (by rfl) HQ.out (by rfl) ?_; simp only [Act.put, List.setIfInBounds_toArray, List.set_cons_zero, List.set_cons_succ])
    | (go_big_quiet_step (fail)))
  refine wpQuiet_nil ?_
  rintro _ ⟨u, rfl⟩
  go_wp2_with fail
  exact bodyPost_end (results_none Try.results36 _ _ _) rfl ⟨rfl, HB1.out.trans (u.ok.mono HB1.out.size)⟩

theorem letGo_held (a : Nat) (room life now last : Int) (bm : Nat) (f : Key → Option Nat) (c tb tm : Nat) (tg : Option Nat) (S : List Tm.H.Dl) (k : Key) (b : Nat) (n : Int) (w : World) (hA : AsmAt w a room life now last bm f c tb tm tg S) (hnd : (fpA a bm tb tm tg).Nodup) (hk : k.Ok) (hf : f k = some b) (hn : w.cell? ⟨b, 0, none⟩ = some (.int .i64 n)) (hn2 : Tm.In64 n) (hbf : b ∉ fpA a bm tb tm tg) :
    Calls Try.prog 36 #[.pointer (some ⟨a, 0, none⟩), .agg (keyC k)] w fun e w' => e = .returned (.tuple #[]) ∧ AsmAt w' a room life now last bm (delK f k) (c - 1) tb tm tg (Tm.H.drp n S) ∧ Tm.Fr (fpA a bm tb tm tg) w w' := by
  obtain ⟨w1, hw1⟩ : ∃ w1, w1 = w.alloc (.cells (keyC k) 90) := ⟨_, rfl⟩
  have hb1 : Below w.heap.size w w1 := by rw [hw1]; exact (Below.refl _ _).alloc (Nat.le_refl _) _
  have hs1 : w1.heap.size = w.heap.size + 1 := by rw [hw1]; simp
  have hk1 : ∀ u : Beh w1, u.wd.heap[w.heap.size]? = some (.cells (keyC k) 90) := fun u => below_keeps u.ok (by rw [hw1]; exact heap_alloc_new w _) (by omega)
  have HQ : Hid (∀ x : World, (∃ u : Beh w1, x = u.wd) → (Instr.loadAt 90 (.pointer (some ⟨w.heap.size, 0, none⟩))).run Try.prog x = .ok (.agg (keyC k)) x) := fun x hx => by obtain ⟨u, rfl⟩ := hx; exact key_load (hk1 u)
  have hlook : ∀ u : Beh w1, (Instr.lookup 86 (.map (some bm)) (.agg (keyC k)) true).run Try.prog u.wd = .ok (.tuple #[.pointer (some ⟨b, 0, none⟩), .bool true]) u.wd := fun u => by
    have := ((hA.below hb1).below u.ok).map.look hk
    rw [hf] at this
    exact this
  have c4 : ∀ u : Beh w1, u.wd.cell? ⟨a, 4, none⟩ = some (.map (some bm)) := fun u => ((hA.below hb1).below u.ok).cells.2.2.2.2.1
  have HBU : Hid (∀ u : Beh w1, Below w.heap.size w u.wd) := fun u => hb1.trans (u.ok.mono hb1.size)
  have HK : Hid (∀ u : Beh w1, u.wd.heap[w.heap.size]? = some (.cells (keyC k) 90)) := hk1
  have hblt : b < w.heap.size := World.block_lt_of_cell? w ⟨b, 0, none⟩ hn
  have HN : Hid (∀ u : Beh w1, u.wd.cell? ⟨b, 0, none⟩ = some (.int .i64 n)) := fun u => ((HBU.out u).cell (p := ⟨b, 0, none⟩) hblt).trans hn
  have HA := hid hA
  have HW1 := hid hw1
  have HB1 := hid hb1
  have HND := hid hnd
  have HBF := hid hbf
  have HN2 := hid hn2
  have HKO := hid hk
  have HFF := hid hf
  obtain ⟨kc, hkc⟩ : ∃ kc, kc = keyC k := ⟨_, rfl⟩
  rw [← hkc] at HW1 HQ hlook ⊢
  clear hw1 hb1 hs1 hk1 hA hnd hn hf hk hn2 hbf hkc
  go_enter Try.func36, Try.ntmps36
  go_upto_region 1 with fail
  rw [← HW1.out]
  refine wp_region_beh (by kernel_rfl) (by kernel_rfl) ?_
  repeat (first
    | (refine wpQuiet_ld 90 ⟨w.heap.size, 0, none⟩ (.tmp 3) (by rfl) (by rfl) HQ.out (by rfl) ?_; simp only [Act.put, List.setIfInBounds_toArray, List.set_cons_zero, List.set_cons_succ])
    | (go_big_quiet_step (fail)))
  refine wpQuiet_nil ?_
  rintro _ ⟨u, rfl⟩
  have hAu := HA.out.below (HBU.out u)
  have hAd : AsmAt u.wd.drew a room life now last bm f c tb tm tg S := hAu.below (below_drew (Below.refl _ _))
  have HDR := hid (Tm.drop_any tb tm tg room S n u.wd.drew hAd.tim HN2.out)
  generalize (if Tm.hasS S n = true then (0 : Int) else 3) = rv at HDR
  have c5 : u.wd.cell? ⟨a, 5, none⟩ = some (.pointer (some ⟨tb, 0, none⟩)) := hAu.cells.2.2.2.2.2
  have cb := HN.out u
  have HAU := hid hAu
  clear hlook c4 HQ hAu hAd
  go_upto_region 3 with fail
  go_cut [] from 16 (fun wx => ∃ x, x = wx ∧ Hid (Tm.Tm x tb tm tg room (Tm.H.drp n S)) ∧ Hid (Tm.Fr (Tm.fp tb tm tg) u.wd x))
  case first =>
    go_region_with (go_at_call 61; refine HDR.out.mono ?_; rintro _ w4 ⟨rfl, hT4, hF4⟩)
    all_goals (
      go_wp2_with fail
      go_meet
      case rel => exact ⟨_, rfl, hT4, ⟨hF4.os, hF4.tape, hF4.output, hF4.size, hF4.block⟩⟩)
  case rest =>
  obtain ⟨x, rfl, HT4, HF4⟩ := hcut
  have hnd := HND.out
  simp only [fpA, Tm.fp, List.nodup_cons, List.mem_cons, not_or] at hnd
  have hin : ∀ y, y ∈ fpA a bm tb tm tg → y < w.heap.size := HA.out.lt
  have hfa : a ∉ Tm.fp tb tm tg := by simp only [Tm.fp, List.mem_cons, not_or]; exact ⟨hnd.1.2.1, hnd.1.2.2.1, hnd.1.2.2.2⟩
  have hfb : bm ∉ Tm.fp tb tm tg := by simp only [Tm.fp, List.mem_cons, not_or]; exact ⟨hnd.2.1.1, hnd.2.1.2.1, hnd.2.1.2.2⟩
  have hsu : w.heap.size ≤ u.wd.heap.size := (HBU.out u).size
  have la : a < w.heap.size := hin a (by simp [fpA])
  have lbm : bm < w.heap.size := hin bm (by simp [fpA])
  have hblk := (HF4.out.block a (by omega) hfa).trans HAU.out.blk
  have c4 : x.cell? ⟨a, 4, none⟩ = some (.map (some bm)) := by rw [cell_of_row _ _ _ _ _ _ hblk]; rfl
  have hMd : MapK x.drew bm f c := HAU.out.map.kept (HF4.out.block bm (by omega) hfb)
  obtain ⟨w5, hrun, hM5, ht5⟩ := hMd.drop HKO.out (by rw [HFF.out]; rfl) 0
  have hkx : x.heap[w.heap.size]? = some (.cells (keyC k) 90) := (HF4.out.block w.heap.size (by have := HK.out u; exact (Array.getElem?_eq_some_iff.1 this).1) (fun h => by have := hin w.heap.size (by simp only [fpA, List.mem_cons]; exact .inr (.inr h)); omega)).trans (HK.out u)
  obtain ⟨e0, e1, e2, e3⟩ := key_cells hkx
  have HM5 := hid hM5
  have HT5 := hid ht5
  have HBL := hid hblk
  have HFA := hid hfa
  have HFB := hid hfb
  unfold keyV at hrun
  clear hM5 ht5 hMd hkx hblk hfa hfb hin HDR cb c5 hnd
  go_upto_region 4 with fail
  go_region
  go_wp2_with fail
  have hFx : Tm.Fr [bm] x w5 := ((Tm.Fr.refl [bm] x).drew).turned HT5.out (by simp)
  have hxu := HF4.out.size
  refine bodyPost_end (results_none Try.results36 _ _ _) rfl ⟨rfl, ⟨?_, HM5.out, HT4.out.fr hFx ?_⟩, ?_⟩
  · have hne : a ≠ bm := fun h => by
      have := HND.out
      simp only [fpA, List.nodup_cons, List.mem_cons, not_or] at this
      exact this.1.1 h
    exact (hFx.block a (by omega) (by simpa using hne)).trans HBL.out
  · intro y hy h
    simp at h
    subst h
    exact HFB.out hy
  · have h1 : Tm.Fr (fpA a bm tb tm tg) w u.wd := Tm.Fr.of_below (HBU.out u) _
    have h2 : Tm.Fr (fpA a bm tb tm tg) u.wd x := HF4.out.mono (fun y hy => by simp only [fpA, List.mem_cons]; exact .inr (.inr hy))
    have h3 : Tm.Fr (fpA a bm tb tm tg) x w5 := hFx.mono (fun y hy => by simp at hy; simp [fpA, hy])
    exact (h1.trans h2).trans h3
end Go.Proofs.Ytdoeebbcieiimaa

namespace Go.Proofs.Ytdoeebbcieiimaa
open Go.ChangeShapes Go.WideShapes Go.ChangeAt Go.RowKit
set_option maxHeartbeats 2000000
set_option maxRecDepth 100000

def spanI (ttl : Nat) (life : Int) : Int := min (max (ttl : Int) 1) life
def untilI (S : List Tm.H.Dl) (num now life : Int) (ttl : Nat) : Int := max (Tm.whenS S num).1 (Tm.aft now (spanI ttl life))

theorem aft_in {a b : Int} (ha : Tm.In64 a) (hb : Tm.In64 b) : Tm.In64 (Tm.aft a b) := by
  obtain ⟨a1, a2⟩ := ha
  obtain ⟨b1, b2⟩ := hb
  unfold Tm.aft
  refine ⟨?_, ?_⟩ <;> split <;> (try split) <;> omega

theorem when_in {S : List Tm.H.Dl} (h : ∀ x ∈ S, Tm.In64 x.1 ∧ Tm.In64 x.2) (i : Int) : Tm.In64 (Tm.whenS S i).1 := by
  unfold Tm.whenS
  split
  · rename_i d hd
    exact (h d (List.mem_of_find?_eq_some hd)).2
  · exact ⟨by decide, by decide⟩

theorem prolong_any (a : Nat) (room life now last : Int) (bm : Nat) (f : Key → Option Nat) (c tb tm : Nat) (tg : Option Nat) (S : List Tm.H.Dl) (b : Nat) (num : Int) (ttl : Nat) (w : World) (hA : AsmAt w a room life now last bm f c tb tm tg S) (hnd : (fpA a bm tb tm tg).Nodup) (hn : w.cell? ⟨b, 0, none⟩ = some (.int .i64 num)) (hn2 : Tm.In64 num) (hbf : b ∉ fpA a bm tb tm tg) (hnow : Tm.In64 now) (hl1 : 1 ≤ life) (hl2 : life ≤ 1099511627776) (ht : ttl < 256) :
    Calls Try.prog 44 #[.pointer (some ⟨a, 0, none⟩), .pointer (some ⟨b, 0, none⟩), .int .u8 (ttl : Int)] w fun e w' => ∃ tg', e = .returned (.tuple #[]) ∧ AsmAt w' a room life now last bm f c tb tm tg' (Tm.setR S room (num, untilI S num now life ttl)) ∧ (∀ x ∈ tg'.toList, x ∈ tg.toList ∨ w.heap.size ≤ x) ∧ Tm.Fr (fpA a bm tb tm tg) w w' := by
  obtain ⟨sp, hsp⟩ : ∃ sp, sp = spanI ttl life := ⟨_, rfl⟩
  have hs1 : 1 ≤ sp := by unfold spanI at hsp; omega
  have hs2 : sp ≤ 255 := by unfold spanI at hsp; omega
  have HSP : Hid (sp = min (max (ttl : Int) 1) life) := hsp
  have hSi : Tm.In64 sp := ⟨by omega, by omega⟩
  obtain ⟨un, hun⟩ : ∃ un, un = (Tm.whenS S num).1 := ⟨_, rfl⟩
  have hui : Tm.In64 un := by rw [hun]; exact when_in hA.tim.in64 num
  obtain ⟨af, haf⟩ : ∃ af, af = Tm.aft now sp := ⟨_, rfl⟩
  have hai : Tm.In64 af := by rw [haf]; exact aft_in hnow hSi
  obtain ⟨U, hU⟩ : ∃ U, U = untilI S num now life ttl := ⟨_, rfl⟩
  have HU : Hid (U = max un af) := by unfold Hid; rw [hU, hun, haf, hsp]; rfl
  have hUi : Tm.In64 U := by have := HU.out; obtain ⟨p1, p2⟩ := hui; obtain ⟨p3, p4⟩ := hai; exact ⟨by omega, by omega⟩
  rw [← hU]
  have HA := hid hA
  obtain ⟨d0, d1, d2, d3, d4, d5⟩ := hA.cells
  have HN := hid hn
  have HND := hid hnd
  have HBF := hid hbf
  have HUI := hid hUi
  have HNI := hid hn2
  have HSI := hid hSi
  have HNW := hid hnow
  have HUN := hid hun
  have HAF := hid haf
  have hblt : b < w.heap.size := World.block_lt_of_cell? w ⟨b, 0, none⟩ hn
  have hwn : ∀ u : Beh w, u.wd.cell? ⟨b, 0, none⟩ = some (.int .i64 num) := fun u => (u.ok.cell (p := ⟨b, 0, none⟩) hblt).trans hn
  have hw5 : ∀ u : Beh w, u.wd.cell? ⟨a, 5, none⟩ = some (.pointer (some ⟨tb, 0, none⟩)) := fun u => (hA.below u.ok).cells.2.2.2.2.2
  have HWH : Hid (∀ u : Beh w, Calls Try.prog 50 #[.pointer (some ⟨tb, 0, none⟩), .int .i64 num] u.wd fun e w' => e = .returned (.tuple #[.int .i64 un, .int .i64 (Tm.whenS S num).2]) ∧ ∃ u' : Beh w, w' = u'.wd) := fun u => by
    refine (Tm.when_any tb tm tg room S num u.wd (hA.below u.ok).tim hn2).mono ?_
    rintro e w' ⟨he, rfl⟩
    exact ⟨by rw [he, hun], u, rfl⟩
  generalize (Tm.whenS S num).2 = un2 at HWH
  clear hA hnd hn hbf hUi hn2 hSi hnow hun haf hU hsp
  go_enter Try.func44, Try.ntmps44
  go_upto_region 0 with fail
  go_cut [6] from 9 (fun s wx => s = .int .i64 sp ∧ wx = w)
  case first =>
    go_wp2_with fail
    all_goals (
      go_meet
      case rel => exact ⟨by rw [HSP.out]; congr 1; omega, rfl⟩)
  case rest =>
  obtain ⟨rfl, ew⟩ := hcut
  obtain rfl := ew.symm
  clear ew
  go_upto_region 1 with fail
  refine wp_region_beh (by kernel_rfl) (by kernel_rfl) ?_
  repeat (go_big_quiet_step (first | (go_at_call 50; exact HWH.out _) | fail))
  refine wpQuiet_nil ?_
  rintro _ ⟨u, rfl⟩
  have hAu := HA.out.below u.ok
  have hAd : AsmAt u.wd.drew a room life now last bm f c tb tm tg S := hAu.below (below_drew (Below.refl _ _))
  have HAFT : Hid (∀ v : World, Calls Try.prog 72 #[.int .i64 now, .int .i64 sp] v fun e w' => e = .returned (.int .i64 af) ∧ w' = v) := fun v => by rw [HAF.out]; exact Tm.after_code now sp v HNW.out HSI.out
  have HSET : Hid (∀ v : World, Below u.wd.heap.size u.wd v → Calls Try.prog 71 #[.pointer (some ⟨tb, 0, none⟩), .int .i64 num, .int .i64 U] v fun e w' => ∃ tg', e = .returned (.int .i64 (Tm.setE S room num)) ∧ Tm.Tm w' tb tm tg' room (Tm.setR S room (num, U)) ∧ (∀ x ∈ tg'.toList, x ∈ tg.toList ∨ v.heap.size ≤ x) ∧ Tm.Fr (Tm.fp tb tm tg) v w') := fun v hv => Tm.set_any tb tm tg room S num U v (hAu.below hv).tim HNI.out HUI.out
  have k5 := hw5 u
  have k0 := hwn u
  have k2 : u.wd.cell? ⟨a, 2, none⟩ = some (.int .i64 now) := hAu.cells.2.2.1
  have HAU := hid hAu
  have HOK := hid u.ok
  generalize Tm.setE S room num = se at HSET
  clear hAd hwn hw5 HWH d0 d1 d2 d3 d4 d5
  have HEND : Hid (∀ (v w5 : World) (tg' : Option Nat), Below u.wd.heap.size u.wd v → Tm.Tm w5 tb tm tg' room (Tm.setR S room (num, U)) → (∀ x ∈ tg'.toList, x ∈ tg.toList ∨ v.heap.size ≤ x) → Tm.Fr (Tm.fp tb tm tg) v w5 → AsmAt w5 a room life now last bm f c tb tm tg' (Tm.setR S room (num, U)) ∧ (∀ x ∈ tg'.toList, x ∈ tg.toList ∨ w.heap.size ≤ x) ∧ Tm.Fr (fpA a bm tb tm tg) w w5) := fun v w5 tg' hv hT5 hg5 hF5 => by
    have hF5' : Tm.Fr (Tm.fp tb tm tg) u.wd w5 := (Tm.Fr.of_below hv _).trans hF5
    have hnd := HND.out
    simp only [fpA, Tm.fp, List.nodup_cons, List.mem_cons, not_or] at hnd
    have hfa : a ∉ Tm.fp tb tm tg := by simp only [Tm.fp, List.mem_cons, not_or]; exact ⟨hnd.1.2.1, hnd.1.2.2.1, hnd.1.2.2.2⟩
    have hfb : bm ∉ Tm.fp tb tm tg := by simp only [Tm.fp, List.mem_cons, not_or]; exact ⟨hnd.2.1.1, hnd.2.1.2.1, hnd.2.1.2.2⟩
    have hin := HAU.out.lt
    refine ⟨⟨(hF5'.block a (hin a (by simp [fpA])) hfa).trans HAU.out.blk, HAU.out.map.kept (hF5'.block bm (hin bm (by simp [fpA])) hfb), hT5⟩, fun x hx => ?_, ?_⟩
    · rcases hg5 x hx with h | h
      · exact .inl h
      · exact .inr (Nat.le_trans HOK.out.size (Nat.le_trans hv.size h))
    · exact (Tm.Fr.of_below HOK.out _).trans (hF5'.mono (fun y hy => by simp only [fpA, List.mem_cons]; exact .inr (.inr hy)))
  by_cases hm : un < af
  · have HUE : Hid (U = af) := by have := HU.out; unfold Hid; omega
    have HSET1 : Hid (∀ v : World, (Below u.wd.heap.size u.wd v ∧ v.cell? ⟨a, 5, none⟩ = some (.pointer (some ⟨tb, 0, none⟩)) ∧ v.cell? ⟨b, 0, none⟩ = some (.int .i64 num) ∧ v.cell? ⟨a, 2, none⟩ = some (.int .i64 now)) → Calls Try.prog 71 #[.pointer (some ⟨tb, 0, none⟩), .int .i64 num, .int .i64 af] v fun e w' => ∃ tg', e = .returned (.int .i64 se) ∧ AsmAt w' a room life now last bm f c tb tm tg' (Tm.setR S room (num, U)) ∧ (∀ x ∈ tg'.toList, x ∈ tg.toList ∨ w.heap.size ≤ x) ∧ Tm.Fr (fpA a bm tb tm tg) w w') := fun v hv => by
      have h1 := HSET.out v hv.1
      rw [HUE.out] at h1
      refine h1.mono ?_
      rintro e w' ⟨tg', he, h2, h3, h4⟩
      rw [← HUE.out] at h2
      exact ⟨tg', he, HEND.out v w' tg' hv.1 h2 h3 h4⟩
    clear HSET HEND
    go_upto_region 2 with fail
    refine wp_region_still_tail 16 (by kernel_rfl) (by kernel_rfl) ?_
    simp only [List.take_succ_cons, List.take_zero, List.drop_succ_cons, List.drop_zero]
    iterate 14 still_step
    still_call (HAFT.out _)
    still_step
    refine wpStill_nil ?_
    go_wp2_with fail
    refine (HSET1.out _ ⟨below_drew (Below.refl _ _), k5, k0, k2⟩).mono ?_
    rintro _ w5 ⟨tg', rfl, hT5, hg5, hF5⟩
    go_wp2_with fail
    exact bodyPost_end (results_none Try.results44 _ _ _) rfl ⟨tg', rfl, hT5, hg5, hF5⟩
  · have HUE : Hid (U = un) := by have := HU.out; unfold Hid; omega
    have HSET1 : Hid (∀ v : World, (Below u.wd.heap.size u.wd v ∧ v.cell? ⟨a, 5, none⟩ = some (.pointer (some ⟨tb, 0, none⟩)) ∧ v.cell? ⟨b, 0, none⟩ = some (.int .i64 num) ∧ v.cell? ⟨a, 2, none⟩ = some (.int .i64 now)) → Calls Try.prog 71 #[.pointer (some ⟨tb, 0, none⟩), .int .i64 num, .int .i64 un] v fun e w' => ∃ tg', e = .returned (.int .i64 se) ∧ AsmAt w' a room life now last bm f c tb tm tg' (Tm.setR S room (num, U)) ∧ (∀ x ∈ tg'.toList, x ∈ tg.toList ∨ w.heap.size ≤ x) ∧ Tm.Fr (fpA a bm tb tm tg) w w') := fun v hv => by
      have h1 := HSET.out v hv.1
      rw [HUE.out] at h1
      refine h1.mono ?_
      rintro e w' ⟨tg', he, h2, h3, h4⟩
      rw [← HUE.out] at h2
      exact ⟨tg', he, HEND.out v w' tg' hv.1 h2 h3 h4⟩
    clear HSET HEND
    go_upto_region 2 with fail
    refine wp_region_still_tail 16 (by kernel_rfl) (by kernel_rfl) ?_
    simp only [List.take_succ_cons, List.take_zero, List.drop_succ_cons, List.drop_zero]
    iterate 14 still_step
    still_call (HAFT.out _)
    still_step
    refine wpStill_nil ?_
    go_wp2_with fail
    refine (HSET1.out _ ⟨below_drew (Below.refl _ _), k5, k0, k2⟩).mono ?_
    rintro _ w5 ⟨tg', rfl, hT5, hg5, hF5⟩
    go_wp2_with fail
    exact bodyPost_end (results_none Try.results44 _ _ _) rfl ⟨tg', rfl, hT5, hg5, hF5⟩
end Go.Proofs.Ytdoeebbcieiimaa

namespace Go.Proofs.Ytdoeebbcieiimaa
open Go.ChangeShapes Go.WideShapes Go.ChangeAt Go.RowKit
set_option maxHeartbeats 2000000
set_option maxRecDepth 100000

theorem row_fr {w w' : World} {F : List Nat} {base e s : Nat} {v : Value} {n : Nat} {xs : List Value} (h : w.ownsRow base e s v n xs) (hF : Tm.Fr F w w') (hne : ∀ g, v.ownBlock = some g → g ∉ F) : w'.ownsRow base e s v n xs := by
  refine ⟨h.1, ?_⟩
  rcases h.2 with hn | ⟨k, cap, cur, rfl, hk, hgg, rest⟩
  · exact .inl hn
  · exact .inr ⟨k, cap, cur, rfl, hk, (hF.block k (Array.getElem?_eq_some_iff.1 hgg).1 (hne k rfl)).trans hgg, rest⟩

/-- A row's block has its own type: it is none of the blocks of other kinds. -/
theorem row_kind {w : World} {base e s : Nat} {v : Value} {n : Nat} {xs : List Value} (h : w.ownsRow base e s v n xs) {g b : Nat} {o : Obj} (hg : v.ownBlock = some g) (hb : w.heap[b]? = some o) (ho : ∀ cur, o ≠ .cells cur e (0, 0)) : g ≠ b := by
  rcases h.2 with ⟨rfl, _⟩ | ⟨k, cap, cur, rfl, hk, hgg, rest⟩
  · cases hg
  · simp [Value.ownBlock] at hg
    subst hg
    rintro rfl
    rw [hgg] at hb
    exact ho cur (Option.some.inj hb).symm

def setNum (d : Dg) (n : Int) : Dg := { d with num := n }

theorem begin_any (a : Nat) (room life now last : Int) (bm : Nat) (f : Key → Option Nat) (c tb tm : Nat) (tg : Option Nat) (S : List Tm.H.Dl) (k : Key) (b : Nat) (d : Dg) (vo vb vh : Value) (w : World) (hA : AsmAt w a room life now last bm f c tb tm tg S) (hnd : (fpA a bm tb tm tg).Nodup) (hk : k.Ok) (hd : DgAt w b d vo vb vh) (hbf : b ∉ fpA a bm tb tm tg) (hc : (c : Int) < room) (hl0 : 0 ≤ last) (hl1 : last ≤ 4611686018427387904) :
    Calls Try.prog 42 #[.pointer (some ⟨a, 0, none⟩), .agg (keyC k), .pointer (some ⟨b, 0, none⟩)] w fun e w' => e = .returned (.tuple #[]) ∧ AsmAt w' a room life now (last + 1) bm (putK f k b) (if (f k).isSome then c else c + 1) tb tm tg S ∧ DgAt w' b (setNum d (last + 1)) vo vb vh ∧ Tm.Fr [b, a, bm] w w' := by
  obtain ⟨w1, hw1⟩ : ∃ w1, w1 = w.alloc (.cells (keyC k) 90) := ⟨_, rfl⟩
  have hb1 : Below w.heap.size w w1 := by rw [hw1]; exact (Below.refl _ _).alloc (Nat.le_refl _) _
  have hs1 : w1.heap.size = w.heap.size + 1 := by rw [hw1]; simp
  have HK : Hid (∀ u : Beh w1, u.wd.heap[w.heap.size]? = some (.cells (keyC k) 90)) := fun u => below_keeps u.ok (by rw [hw1]; exact heap_alloc_new w _) (by omega)
  have HBU : Hid (∀ u : Beh w1, Below w.heap.size w u.wd) := fun u => hb1.trans (u.ok.mono hb1.size)
  have hr256 : room ≤ 65536 := hA.tim.hi
  have hlen : ∀ (u : Beh w1) (ty : TypeId), (Builtin.len_ #[86] ty #[.map (some bm)]).run Try.prog u.wd = .ok (.int .i64 (c : Int)) u.wd := fun u ty => (hA.below (HBU.out u)).map.len ty
  have c4 : ∀ u : Beh w1, u.wd.cell? ⟨a, 4, none⟩ = some (.map (some bm)) := fun u => (hA.below (HBU.out u)).cells.2.2.2.2.1
  have c0 : ∀ u : Beh w1, u.wd.cell? ⟨a, 0, none⟩ = some (.int .i64 room) := fun u => (hA.below (HBU.out u)).cells.1
  have hq : ((c : Int) == room) = false := by simp; omega
  have HA := hid hA
  have HD := hid hd
  have HW1 := hid hw1
  have HND := hid hnd
  have HBF := hid hbf
  have HKO := hid hk
  obtain ⟨c', hc'⟩ : ∃ c', c' = if (f k).isSome = true then c else c + 1 := ⟨_, rfl⟩
  rw [← hc']
  have HC' := hid hc'
  obtain ⟨kc, hkc⟩ : ∃ kc, kc = keyC k := ⟨_, rfl⟩
  rw [← hkc] at HW1 ⊢
  clear hw1 hb1 hs1 hA hnd hk hd hbf hkc hc'
  go_enter Try.func42, Try.ntmps42
  go_upto_region 1 with fail
  rw [← HW1.out]
  refine wp_region_beh (by kernel_rfl) (by kernel_rfl) ?_
  repeat (go_big_quiet_step (fail))
  refine wpQuiet_nil ?_
  rintro _ ⟨u, rfl⟩
  have hAu := HA.out.below (HBU.out u)
  have hDu := HD.out.below (HBU.out u)
  have d3 : u.wd.cell? ⟨a, 3, none⟩ = some (.int .i64 last) := hAu.cells.2.2.2.1
  have HAU := hid hAu
  have HDU := hid hDu
  clear hlen c4 c0 hAu hDu
  have hnd := HND.out
  simp only [fpA, List.nodup_cons, List.mem_cons, not_or] at hnd
  have hbf := HBF.out
  simp only [fpA, List.mem_cons, not_or] at hbf
  have HNE : Hid (b ≠ a ∧ b ≠ bm ∧ a ≠ bm) := ⟨hbf.1, hbf.2.1, hnd.1.1⟩
  go_wp2_with (first | (refine wpList_st1 rfl 3 (.tmp 44) (.tmp 42) rfl a 3 (.int .i64 (last + 1)) rfl rfl rfl 88 _ #[.int .i64 room, .int .i64 life, .int .i64 now, .int .i64 (last + 1), .map (some bm), .pointer (some ⟨tb, 0, none⟩)] HAU.out.blk size3 (by simp) rfl ?_) | fail)
  intro w3 hk3 hbut3
  have d3' : w3.cell? ⟨a, 3, none⟩ = some (.int .i64 (last + 1)) := by rw [cell_of_row _ _ _ _ _ _ hk3]; rfl
  have HK3 := hid hk3
  have HU3 := hid hbut3
  have HDB := hid (hbut3.keeps HDU.out.blk HNE.out.1)
  clear hk3 hbut3 d3 hnd hbf
  go_wp2_with (first | (refine wpList_st1 rfl 3 (.tmp 51) (.tmp 49) rfl b 0 (.int .i64 (last + 1)) rfl rfl rfl 97 _ (dgCells (setNum d (last + 1)) vo vb vh) HDB.out size3 (by show 0 < 15; decide) rfl ?_) | fail)
  intro w4 hk4 hbut4
  have HK4 := hid hk4
  have HU4 := hid hbut4
  have hblk4 := hbut4.keeps HK3.out (Ne.symm HNE.out.1)
  have c4 : w4.cell? ⟨a, 4, none⟩ = some (.map (some bm)) := by rw [cell_of_row _ _ _ _ _ _ hblk4]; rfl
  have hlt : bm < u.wd.heap.size := HAU.out.map.lt
  have hM4 : MapK w4 bm f c := (HAU.out.map.kept (HU3.out.block bm hlt (Ne.symm HNE.out.2.2))).kept (hbut4.block bm (by have := HU3.out.size; omega) (Ne.symm HNE.out.2.1))
  have hMd : MapK w4.drew bm f c := hM4.kept rfl
  obtain ⟨w5, hrun, hM5, ht5⟩ := hMd.store (by omega) HKO.out b
  have hlw : w.heap.size < u.wd.heap.size := (Array.getElem?_eq_some_iff.1 (HK.out u)).1
  have hlta : a < w.heap.size := (Array.getElem?_eq_some_iff.1 HA.out.blk).1
  have hltb : b < w.heap.size := (Array.getElem?_eq_some_iff.1 HD.out.blk).1
  have hkx := hbut4.keeps (HU3.out.keeps (HK.out u) (by omega)) (by omega)
  obtain ⟨e0, e1, e2, e3⟩ := key_cells hkx
  rw [← HC'.out] at hM5
  have HM5 := hid hM5
  have HT5 := hid ht5
  have HB4 := hid hblk4
  unfold keyV at hrun
  clear hM5 ht5 hMd hM4 hkx hblk4 d3' hk4 hbut4
  go_upto_region 7 with fail
  go_region
  go_wp2_with fail
  have hF4 : Tm.Fr [b, a, bm] u.wd w4 := ⟨HU4.out.os.trans HU3.out.os, HU4.out.tape.trans HU3.out.tape, HU4.out.output.trans HU3.out.output, Nat.le_trans HU3.out.size HU4.out.size, fun i hi hn => by
    simp only [List.mem_cons, List.not_mem_nil, or_false, not_or] at hn
    exact (HU4.out.block i (Nat.lt_of_lt_of_le hi HU3.out.size) hn.1).trans (HU3.out.block i hi hn.2.1)⟩
  have hFx : Tm.Fr [bm] w4 w5 := ((Tm.Fr.refl [bm] w4).drew).turned HT5.out (by simp)
  have hF5 : Tm.Fr [b, a, bm] u.wd w5 := hF4.trans (hFx.mono (by simp))
  have hlt4 : a < w4.heap.size := (Array.getElem?_eq_some_iff.1 HB4.out).1
  have hltb4 : b < w4.heap.size := (Array.getElem?_eq_some_iff.1 HK4.out).1
  obtain ⟨es, clock, hmap⟩ : ∃ es clock, u.wd.heap[bm]? = some (.map es clock) := by
    obtain ⟨D, ⟨es, clock, h0, _⟩, _⟩ := HAU.out.map
    exact ⟨es, clock, h0⟩
  have hrow : ∀ (e s n : Nat) (v : Value) (xs : List Value), u.wd.ownsRow 0 e s v n xs → e ≠ 97 → e ≠ 88 → w5.ownsRow 0 e s v n xs := fun e s n v xs hr h1 h2 => by
    refine row_fr hr hF5 (fun g hg hm => ?_)
    simp only [List.mem_cons, List.not_mem_nil, or_false] at hm
    rcases hm with rfl | rfl | rfl
    · exact row_kind hr hg HDU.out.blk (fun cur hc => by cases hc; exact h1 rfl) rfl
    · exact row_kind hr hg HAU.out.blk (fun cur hc => by cases hc; exact h2 rfl) rfl
    · exact row_kind hr hg hmap (fun cur hc => by cases hc) rfl
  have hdd := HDU.out
  refine bodyPost_end (results_none Try.results42 _ _ _) rfl ⟨rfl, ⟨(hFx.block a hlt4 (by simpa using HNE.out.2.2)).trans HB4.out, HM5.out, ?_⟩, ⟨(hFx.block b hltb4 (by simpa using HNE.out.2.1)).trans HK4.out, hrow _ _ _ _ _ hdd.opts (by decide) (by decide), hrow _ _ _ _ _ hdd.body (by decide) (by decide), hrow _ _ _ _ _ hdd.hv (by decide) (by decide), hdd.ob, hdd.bb, hdd.ne, hdd.ol, hdd.bl, hdd.hl, hdd.ll, hdd.cl, hdd.hok⟩, (Tm.Fr.of_below (HBU.out u) _).trans hF5⟩
  refine HAU.out.tim.fr hF5 (fun y hy hm => ?_)
  have hnd := HND.out
  simp only [fpA, List.nodup_cons, List.mem_cons, not_or] at hnd
  have hbf := HBF.out
  simp only [fpA, List.mem_cons, not_or] at hbf
  simp only [List.mem_cons, List.not_mem_nil, or_false] at hm
  rcases hm with rfl | rfl | rfl
  · exact hbf.2.2 hy
  · exact hnd.1.2 hy
  · exact hnd.2.1 hy
end Go.Proofs.Ytdoeebbcieiimaa

namespace Go.Proofs.Ytdoeebbcieiimaa
open Go.ChangeShapes Go.WideShapes Go.ChangeAt Go.RowKit
set_option maxHeartbeats 2000000
set_option maxRecDepth 100000

theorem z_var {u : World} {n : Nat} {t : TypeId} {cs : Array Value} (hb : u.heap[n]? = some (.cells cs t)) (hs : cs.size = 11) : (loadVar 29 ⟨n, 0, none⟩).run Try.prog u = .ok (.agg cs) u := by
  obtain ⟨fs, hu⟩ := und29
  have := run_loadVar_mid u n 0 29 cs.toList (.struct fs) (fun j v hv => by rw [Nat.zero_add, cell_of_row u _ _ _ _ _ hb, ← hv, Array.getElem?_toList]) hu rfl (by rw [sz29, Array.length_toList, hs])
  simpa using this

theorem all_z29 : Z29.all (·.oneCell') = true := by simp [Z29, Value.oneCell']

theorem Fr_but {F : List Nat} {g : Nat} {a b c : World} (h : Tm.Fr F a b) (hb : But g b c) (hg : a.heap.size ≤ g) : Tm.Fr F a c :=
  ⟨hb.os.trans h.os, hb.tape.trans h.tape, hb.output.trans h.output, Nat.le_trans h.size hb.size, fun i hi hn => (hb.block i (Nat.lt_of_lt_of_le hi h.size) (by omega)).trans (h.block i hi hn)⟩

theorem AsmAt.but {w w' : World} {a : Nat} {room life now last : Int} {bm : Nat} {f : Key → Option Nat} {c tb tm : Nat} {tg : Option Nat} {S : List Tm.H.Dl} {g : Nat} (h : AsmAt w a room life now last bm f c tb tm tg S) (hb : But g w w') (hg : g ∉ fpA a bm tb tm tg) : AsmAt w' a room life now last bm f c tb tm tg S := by
  simp only [fpA, List.mem_cons, not_or] at hg
  refine ⟨hb.keeps h.blk (Ne.symm hg.1), h.map.kept (hb.block _ h.map.lt (Ne.symm hg.2.1)), h.tim.fr (F := [g]) ⟨hb.os, hb.tape, hb.output, hb.size, fun i hi hn => hb.block i hi (by simpa using hn)⟩ (fun y hy hm => ?_)⟩
  simp at hm
  subst hm
  exact hg.2.2 hy

/-- The three blocks that finish begins with. -/
theorem finish_pre (k : Key) (h : Hd) (vo vb : Value) (w : World) : ∃ w1, w1 = ((w.alloc (.cells (keyC k) 90)).alloc (.cells (pkCells h vo vb) 29)).alloc (.cells Z29 29) ∧ Below w.heap.size w w1 ∧ w1.heap.size = w.heap.size + 3 ∧ w1.heap[w.heap.size]? = some (.cells (keyC k) 90) ∧ w1.heap[w.heap.size + 1]? = some (.cells (pkCells h vo vb) 29) ∧ w1.heap[w.heap.size + 2]? = some (.cells Z29 29) := by
  refine ⟨_, rfl, (((Below.refl _ _).alloc (Nat.le_refl _) _).alloc (by simp) _).alloc (by simp; omega) _, by simp, ?_, ?_, ?_⟩
  · have h1 : Below (w.heap.size + 1) (w.alloc (.cells (keyC k) 90)) (((w.alloc (.cells (keyC k) 90)).alloc (.cells (pkCells h vo vb) 29)).alloc (.cells Z29 29)) := ((Below.refl _ _).alloc (by simp) _).alloc (by simp) _
    rw [h1.block _ (by omega)]
    exact heap_alloc_new w _
  · have h1 : Below (w.heap.size + 2) ((w.alloc (.cells (keyC k) 90)).alloc (.cells (pkCells h vo vb) 29)) (((w.alloc (.cells (keyC k) 90)).alloc (.cells (pkCells h vo vb) 29)).alloc (.cells Z29 29)) := (Below.refl _ _).alloc (by simp) _
    rw [h1.block _ (by omega)]
    have := heap_alloc_new (w.alloc (.cells (keyC k) 90)) (.cells (pkCells h vo vb) 29)
    rw [World.size_alloc] at this
    exact this
  · have := heap_alloc_new ((w.alloc (.cells (keyC k) 90)).alloc (.cells (pkCells h vo vb) 29)) (.cells Z29 29)
    rw [World.size_alloc, World.size_alloc] at this
    exact this

theorem finish_bad (a : Nat) (k : Key) (h : Hd) (vo vb : Value) (B : List Nat) (w : World) (hok : h.Ok) (hvo : SeesB w vo h.opts) (hvb : SeesB w vb B) (hlo : h.opts.length ≤ 40) (hlb : B.length ≤ 65535) (he : refE h B.length ≠ 0) :
    Calls Try.prog 40 #[.pointer (some ⟨a, 0, none⟩), .agg (keyC k), .agg (pkCells h vo vb)] w fun e w' => e = .returned (.tuple #[.agg Z29, .int .i64 (refE h B.length)]) ∧ Below w.heap.size w w' := by
  obtain ⟨w1, hw1, hb1, hs1, hk0, hk1, hk2⟩ := finish_pre k h vo vb w
  have HL := hid (pk_load hk1)
  have HF := hid (fault_any h vo vb B w1 hok (hvo.below hb1) (hvb.below hb1) (by omega) (by omega))
  have HK2 := hid hk2
  have HW1 := hid hw1
  have HB1 := hid hb1
  have HS1 := hid hs1
  generalize refE h B.length = E at *
  have hq : (E != 0) = true := by simp [he]
  generalize pkCells h vo vb = cs at *
  generalize keyC k = kc at *
  have HSZ : Hid (Z29.size = 11) := rfl
  have HZA : Hid (Z29.all (·.oneCell') = true) := all_z29
  have HZE : Hid (Z29 = #[.int .u8 0, .int .u16 0, .bool false, .bool false, .int .i64 0, .int .u8 0, .int .u8 0, .int .u32 0, .int .u32 0, .slice none 0 0, .slice none 0 0]) := rfl
  clear hw1 hb1 hs1 hk0 hk1 hk2 hvo hvb hok he
  go_enter Try.func40, Try.ntmps40
  go_upto_region 1 with fail
  rw [← HZE.out]
  rw [← HW1.out]
  go_wp2_with (first | (refine wpList_ld 29 ⟨w.heap.size + 1, 0, none⟩ (.tmp 5) rfl rfl HL.out rfl ?_) | fail)
  refine HF.out.mono ?_
  rintro _ w2 ⟨rfl, hb2⟩
  have HK3 := hid (below_keeps hb2 HK2.out (by have := HS1.out; omega))
  obtain ⟨zz, hzz⟩ : ∃ zz, zz = Z29 := ⟨_, rfl⟩
  rw [← hzz] at HK3 HSZ HZA HZE
  have HB2 : Hid (Below w.heap.size w w2) := HB1.out.trans (hb2.mono HB1.out.size)
  have HZZ := hid hzz
  clear hb2 HL HF hzz
  go_wp2_with (first | (refine wpList_st rfl 29 (.tmp 6) (.tmp 13) rfl (w.heap.size + 2) zz rfl (by rw [HZE.out]; rfl) 29 zz HK3.out (by rw [HSZ.out]; exact sz29) rfl HZA.out ?_) | fail)
  intro w5 hk5 hbut5
  have HL5 := hid (z_var hk5 HSZ.out)
  have hbF := hbut5.below HB2.out HB2.out.size (by omega)
  go_wp2_with fail
  refine bodyPost_ret (v := .tuple #[.agg zz, .int .i64 E]) (by simp [results, Try.results40, asAddr, HL5.out]) rfl ?_
  exact ⟨by rw [HZZ.out], hbF⟩

theorem finish_good (a : Nat) (room life now last : Int) (bm : Nat) (f : Key → Option Nat) (c tb tm : Nat) (tg : Option Nat) (S : List Tm.H.Dl) (k : Key) (b : Nat) (n : Int) (h : Hd) (vo vb : Value) (B : List Nat) (w : World) (hok : h.Ok) (hvo : SeesB w vo h.opts) (hvb : SeesB w vb B) (hlo : h.opts.length ≤ 40) (hlb : B.length ≤ 65535) (he : refE h B.length = 0)
    (hA : AsmAt w a room life now last bm f c tb tm tg S) (hnd : (fpA a bm tb tm tg).Nodup) (hk : k.Ok) (hf : f k = some b) (hn : w.cell? ⟨b, 0, none⟩ = some (.int .i64 n)) (hn2 : Tm.In64 n) (hbf : b ∉ fpA a bm tb tm tg) :
    Calls Try.prog 40 #[.pointer (some ⟨a, 0, none⟩), .agg (keyC k), .agg (pkCells h vo vb)] w fun e w' => e = .returned (.tuple #[.agg (pkCells h vo vb), .int .i64 0]) ∧ AsmAt w' a room life now last bm (delK f k) (c - 1) tb tm tg (Tm.H.drp n S) ∧ Tm.Fr (fpA a bm tb tm tg) w w' := by
  obtain ⟨w1, hw1, hb1, hs1, hk0, hk1, hk2⟩ := finish_pre k h vo vb w
  have HL := hid (pk_load hk1)
  have HF := hid (fault_any h vo vb B w1 hok (hvo.below hb1) (hvb.below hb1) (by omega) (by omega))
  rw [he] at HF
  obtain ⟨av, nv, cv, rfl, _, _, _⟩ := hvo.shape
  obtain ⟨ab, nb, cb, rfl, _, _, _⟩ := hvb.shape
  have HALL : Hid ((pkCells h (.slice av nv cv) (.slice ab nb cb)).all (·.oneCell') = true) := all_pk _ _ _ _ _ _ _
  have HSZ : Hid ((pkCells h (.slice av nv cv) (.slice ab nb cb)).size = 11) := rfl
  have HZE : Hid (Z29 = #[.int .u8 0, .int .u16 0, .bool false, .bool false, .int .i64 0, .int .u8 0, .int .u8 0, .int .u32 0, .int .u32 0, .slice none 0 0, .slice none 0 0]) := rfl
  have hblt : b < w.heap.size := World.block_lt_of_cell? w ⟨b, 0, none⟩ hn
  have HLG : Hid (∀ u, Below w.heap.size w u → Calls Try.prog 36 #[.pointer (some ⟨a, 0, none⟩), .agg (keyC k)] u fun e w' => e = .returned (.tuple #[]) ∧ AsmAt w' a room life now last bm (delK f k) (c - 1) tb tm tg (Tm.H.drp n S) ∧ Tm.Fr (fpA a bm tb tm tg) u w') := fun u hu => letGo_held a room life now last bm f c tb tm tg S k b n u (hA.below hu) hnd hk hf ((hu.cell (p := ⟨b, 0, none⟩) hblt).trans hn) hn2 hbf
  have HIN : Hid (∀ x ∈ fpA a bm tb tm tg, x < w.heap.size) := hA.lt
  have HK : Hid (w1.heap[w.heap.size]? = some (.cells (keyC k) 90) ∧ w1.heap[w.heap.size + 1]? = some (.cells (pkCells h (.slice av nv cv) (.slice ab nb cb)) 29) ∧ w1.heap[w.heap.size + 2]? = some (.cells Z29 29)) := ⟨hk0, hk1, hk2⟩
  have HLK : Hid (∀ u, u.heap[w.heap.size]? = some (.cells (keyC k) 90) → (Instr.loadAt 90 (.pointer (some ⟨w.heap.size, 0, none⟩))).run Try.prog u = .ok (.agg (keyC k)) u) := fun u hu => key_load hu
  have HLP : Hid (∀ u, u.heap[w.heap.size + 1]? = some (.cells (pkCells h (.slice av nv cv) (.slice ab nb cb)) 29) → (Instr.loadAt 29 (.pointer (some ⟨w.heap.size + 1, 0, none⟩))).run Try.prog u = .ok (.agg (pkCells h (.slice av nv cv) (.slice ab nb cb))) u) := fun u hu => pk_load hu
  have HW1 := hid hw1
  have HB1 := hid hb1
  have HS1 := hid hs1
  generalize pkCells h (.slice av nv cv) (.slice ab nb cb) = cs at *
  generalize keyC k = kc at *
  clear hw1 hb1 hs1 hk0 hk1 hk2 hvo hvb hok he hA hnd hk hf hn hn2 hbf
  go_enter Try.func40, Try.ntmps40
  go_upto_region 1 with fail
  rw [← HZE.out]
  rw [← HW1.out]
  go_wp2_with (first | (refine wpList_ld 29 ⟨w.heap.size + 1, 0, none⟩ (.tmp 5) rfl rfl HL.out rfl ?_) | fail)
  refine HF.out.mono ?_
  rintro _ w2 ⟨rfl, hb2⟩
  obtain ⟨k0, k1, k2⟩ := HK.out
  have e0 := below_keeps hb2 k0 (by have := HS1.out; omega)
  have e1 := below_keeps hb2 k1 (by have := HS1.out; omega)
  have e2 := below_keeps hb2 k2 (by have := HS1.out; omega)
  have HE : Hid (w2.heap[w.heap.size + 1]? = some (.cells cs 29) ∧ w2.heap[w.heap.size + 2]? = some (.cells Z29 29)) := ⟨e1, e2⟩
  have HB2 : Hid (Below w.heap.size w w2) := HB1.out.trans (hb2.mono HB1.out.size)
  have HL2 := hid (HLK.out _ e0)
  have HG2 := hid (HLG.out _ HB2.out)
  clear k0 k1 k2 e0 e1 e2 hb2 HL HF HLG
  go_wp2_with (first | (refine wpList_ld 90 ⟨w.heap.size, 0, none⟩ (.tmp 4) rfl rfl HL2.out rfl ?_) | fail)
  refine HG2.out.mono ?_
  rintro _ w3 ⟨rfl, hA3, hF3⟩
  have hlt1 : w.heap.size + 1 < w2.heap.size := (Array.getElem?_eq_some_iff.1 HE.out.1).1
  have hlt2 : w.heap.size + 2 < w2.heap.size := (Array.getElem?_eq_some_iff.1 HE.out.2).1
  have hn1 : w.heap.size + 1 ∉ fpA a bm tb tm tg := fun hm => by have := HIN.out _ hm; omega
  have hn2 : w.heap.size + 2 ∉ fpA a bm tb tm tg := fun hm => by have := HIN.out _ hm; omega
  have HL3 := hid (HLP.out _ ((hF3.block _ hlt1 hn1).trans HE.out.1))
  have HK3 := hid ((hF3.block _ hlt2 hn2).trans HE.out.2)
  have HA3 := hid hA3
  have HF3 := hid hF3
  have HN2 := hid hn2
  clear hA3 hF3 hlt1 hlt2 hn1 hn2 HG2 HL2 HLK HLP
  go_wp2_with (first | (refine wpList_ld 29 ⟨w.heap.size + 1, 0, none⟩ (.tmp 5) rfl rfl HL3.out rfl ?_) | (refine wpList_st rfl 29 (.tmp 6) (.tmp 18) rfl (w.heap.size + 2) cs rfl rfl 29 Z29 HK3.out (by rw [HSZ.out]; exact sz29) (by rw [HSZ.out]; rfl) HALL.out ?_) | fail)
  intro w5 hk5 hbut5
  have HL5 := hid (z_var hk5 HSZ.out)
  go_wp2_with fail
  refine bodyPost_ret (v := .tuple #[.agg cs, .int .i64 0]) (by simp [results, Try.results40, asAddr, HL5.out]) rfl ?_
  exact ⟨rfl, HA3.out.but hbut5 HN2.out, Fr_but ((Tm.Fr.of_below HB2.out _).trans HF3.out) hbut5 (by omega)⟩
end Go.Proofs.Ytdoeebbcieiimaa

namespace Go.Proofs.Ytdoeebbcieiimaa
open Go.ChangeShapes Go.WideShapes Go.ChangeAt Go.RowKit
set_option maxHeartbeats 2000000
set_option maxRecDepth 100000

theorem zc_one (z : Value) (n : Nat) : Builtin.zeroCells #[z] n = (List.replicate n z).toArray := by
  apply Array.ext
  · simp [Builtin.zeroCells]
  · intro i h1 h2
    simp [Builtin.zeroCells, Nat.mod_one]

theorem run_append_room_zeros {P : Program} (w : World) (t tn ty e : TypeId) (i : TypeInfo) (z : Value) (kn : IntKind) (ht : P.underlying t = some (.slice e)) (htn : P.underlying tn = some (.int kn)) (hi : P.info? e = some i) (hz : i.zero = some z)
    (hs : i.size = 1) (hb : i.bytes = 1) (hzc : z.cells = #[z]) (hz1 : z.oneCell' = true) (g sLen sCap : Nat) (cur : Array Value) (hg : w.heap[g]? = some (.cells cur e (0, 0)))
    (k : Nat) (h0 : 0 < k) (hk : k ≤ 1000000) (hroom : sLen + k ≤ sCap) (hfit : sLen + k ≤ cur.size) :
    (Builtin.append_ #[t, tn] ty #[.slice (some ⟨g, 0, none⟩) sLen sCap, .int .i64 k]).run P w =
      .ok (.slice (some ⟨g, 0, none⟩) (sLen + k) sCap) (w.setRow g (cur.toList.take sLen ++ List.replicate k z ++ cur.toList.drop (sLen + k)).toArray) := by
  have hk0 : k ≠ 0 := by omega
  have hw : IntKind.i64.wrap (k : Int) = k := by rw [IntKind.wrap_i64]; omega
  have h48i : ¬ (281474976710656 < (k : Int)) := by omega
  have hneg : ¬ ((k : Int) < 0) := by omega
  have hst := run_storeCells_at P g sLen e (List.replicate k z) 0 cur w hg (by simpa using hfit) (fun u hu => by rw [List.eq_of_mem_replicate hu]; exact hz1)
  simp only [Nat.add_zero, List.length_replicate] at hst
  simp [Builtin.append_, run_underlying ht, run_underlying htn, sizeOf, typeInfo, zeroValue, hi, hz, asInt, asIntOf, hw, hneg, hs, hb, hk0, h48i, hroom, hzc, zc_one, Addr.add_lit, hst]

def NewBlk (v v' : Value) (n : Nat) : Prop := v'.ownBlock = v.ownBlock ∨ ∃ g, v'.ownBlock = some g ∧ n ≤ g

theorem run_append_zeros {P : Program} (w : World) (base : Nat) (t tn ty e : TypeId) (i : TypeInfo) (z : Value) (kn : IntKind) (ht : P.underlying t = some (.slice e)) (htn : P.underlying tn = some (.int kn)) (hi : P.info? e = some i) (hz : i.zero = some z)
    (hs : i.size = 1) (hb : i.bytes = 1) (hzc : z.cells = #[z]) (hz1 : z.oneCell' = true) (v : Value) (n : Nat) (xs : List Value) (hown : w.ownsRow base e 1 v n xs)
    (k : Nat) (h0 : 0 < k) (hk : n + k ≤ 1000000) (hbase : base ≤ w.heap.size) :
    ∃ v' w', (Builtin.append_ #[t, tn] ty #[v, .int .i64 k]).run P w = .ok v' w' ∧ w'.ownsRow base e 1 v' (n + k) (xs ++ List.replicate k z) ∧ w.grownBy w' v.ownBlock ∧ NewBlk v v' w.heap.size := by
  have hlen : (xs ++ List.replicate k z).length = (n + k) * 1 := by rw [List.length_append, hown.1, List.length_replicate]; omega
  have hxl : xs.length = n := by have := hown.1; omega
  have grown : ∀ (old : Nat) (row : Option Nat),
      (w.drew.alloc (.cells (xs.toArray ++ Builtin.zeroCells z.cells k ++ Builtin.zeroCells z.cells (grownCap w (n + k) old e - (n + k))) e)).ownsRow base e 1
        (.slice (some ⟨w.heap.size, 0, none⟩) (n + k) (grownCap w (n + k) old e)) (n + k) (xs ++ List.replicate k z) ∧
      w.grownBy (w.drew.alloc (.cells (xs.toArray ++ Builtin.zeroCells z.cells k ++ Builtin.zeroCells z.cells (grownCap w (n + k) old e - (n + k))) e)) row := by
    intro old row
    have hge := grownCap_ge w (n + k) old e
    have hcm : grownCap w (n + k) old e ≤ maxLen := grownCap_le_maxLen w (n + k) old e (by unfold maxLen; omega)
    refine ⟨⟨hlen, .inr ⟨w.heap.size, _, _, rfl, hbase, heap_alloc_new w.drew _, hge, hcm, ?_, ?_⟩⟩, ⟨rfl, rfl, rfl, by simp, fun _ hk _ => heap_alloc_old w.drew _ hk⟩⟩
    · simp only [Array.size_append, List.size_toArray, size_zeroCells, hzc, hxl]
      simp
      omega
    · rw [hzc, zc_one]
      simp only [Array.toList_append, List.append_assoc]
      rw [← List.append_assoc, ← hlen]
      exact List.take_left
  have hfit : ∀ c, c < n + k → Builtin.nextslicecap (n + k) c * i.bytes ≤ 281474976710656 := fun c hc => growslice_fits hc (by rw [hb]; omega)
  rcases hown.2 with ⟨rfl, rfl⟩ | ⟨g, cap, cur, rfl, hbg, hg, hnc, hcm, hcs, htake⟩
  · have hx : xs = [] := List.eq_nil_of_length_eq_zero hxl
    subst hx
    have hr := Lib.run_append_grow_zeros (P := P) w t tn ty e i z .i64 kn ht htn hi hz none 0 0 [] (run_firstCells_none w.drew _ _ _ _) k h0 (by omega) (by omega) (by omega) (by rw [hb]; omega) (hfit 0 (by omega))
    exact ⟨_, _, hr, (grown 0 none).1, (grown 0 _).2, .inr ⟨_, rfl, Nat.le_refl _⟩⟩
  · by_cases hroom : n + k ≤ cap
    · have hr := run_append_room_zeros (P := P) w t tn ty e i z kn ht htn hi hz hs hb hzc hz1 g n cap cur hg k h0 (by omega) hroom (by omega)
      refine ⟨_, _, hr, ⟨hlen, .inr ⟨g, cap, _, rfl, hbg, setRow_heap w g cur _ e _ hg, hroom, hcm, ?_, ?_⟩⟩, ⟨rfl, rfl, rfl, by simp, fun k _ hk => setRow_other w g k _ (fun e => hk (by simp [Value.ownBlock, e]))⟩, .inl rfl⟩
      · simp only [List.size_toArray, List.length_append, List.length_take, List.length_drop, Array.length_toList, List.length_replicate]
        omega
      · rw [Nat.mul_one] at htake
        rw [htake, ← hlen]
        exact List.take_left
    · have holds : ∀ j u, xs[j]? = some u → w.drew.cell? ((⟨g, 0, none⟩ : Addr).add j) = some u := hown.cells (g := g) rfl
      have hr := Lib.run_append_grow_zeros (P := P) w t tn ty e i z .i64 kn ht htn hi hz (some ⟨g, 0, none⟩) n cap xs (run_firstCells_some w.drew i.size n ⟨g, 0, none⟩ n cap xs (by rw [hs, hxl, Nat.mul_one]) holds) k h0 (by omega) (by omega) (by omega) (by rw [hb]; omega) (hfit cap (by omega))
      exact ⟨_, _, hr, (grown cap none).1, (grown cap _).2, .inr ⟨_, rfl, Nat.le_refl _⟩⟩

theorem Try.info4 : (Try.prog.info? 4).map (fun i => (i.zero, i.size, i.bytes)) = some (some (.bool false), 1, 1) := by kernel_rfl

def blkL (v : Value) : List Nat := v.ownBlock.toList

theorem Fr_of_grown {w w' : World} {v : Value} (h : w.grownBy w' v.ownBlock) : Tm.Fr (blkL v) w w' :=
  ⟨h.os, h.tape, h.output, h.size, fun i hi hn => h.block i hi (fun e => hn (by simp [blkL, ← e]))⟩

theorem app_bytes (w : World) (ty : TypeId) (v : Value) (L : List Nat) (hown : OwnB w 0 v L) (k : Nat) (h0 : 0 < k) (hk : L.length + k ≤ 1000000) :
    ∃ v' w', (Builtin.append_ #[22, 3] ty #[v, .int .i64 k]).run Try.prog w = .ok v' w' ∧ OwnB w' 0 v' (L ++ List.replicate k 0) ∧ Tm.Fr (blkL v) w w' ∧ NewBlk v v' w.heap.size := by
  obtain ⟨i0, hi0, hz0, hz1, hz2⟩ := info_parts Try.info5
  obtain ⟨v', w', hr, h1, h2, h3⟩ := run_append_zeros (P := Try.prog) w 0 22 3 ty 5 i0 (.int .u8 0) .i64 Try.underlying22 Try.underlying3 hi0 hz0 hz1 hz2 rfl rfl v L.length (bs L) hown k h0 hk (Nat.zero_le _)
  refine ⟨v', w', hr, ?_, Fr_of_grown h2, h3⟩
  unfold OwnB
  simpa [bs] using h1

theorem app_bools (w : World) (ty : TypeId) (v : Value) (L : List Bool) (hown : OwnH w 0 v L) (k : Nat) (h0 : 0 < k) (hk : L.length + k ≤ 1000000) :
    ∃ v' w', (Builtin.append_ #[61, 3] ty #[v, .int .i64 k]).run Try.prog w = .ok v' w' ∧ OwnH w' 0 v' (L ++ List.replicate k false) ∧ Tm.Fr (blkL v) w w' ∧ NewBlk v v' w.heap.size := by
  obtain ⟨i0, hi0, hz0, hz1, hz2⟩ := info_parts Try.info4
  obtain ⟨v', w', hr, h1, h2, h3⟩ := run_append_zeros (P := Try.prog) w 0 61 3 ty 4 i0 (.bool false) .i64 Try.underlying61 Try.underlying3 hi0 hz0 hz1 hz2 rfl rfl v L.length (bls L) hown k h0 hk (Nat.zero_le _)
  refine ⟨v', w', hr, ?_, Fr_of_grown h2, h3⟩
  unfold OwnH
  simpa [bls] using h1
end Go.Proofs.Ytdoeebbcieiimaa

namespace Go.Proofs.Ytdoeebbcieiimaa
open Go.ChangeShapes Go.WideShapes Go.ChangeAt Go.RowKit
set_option maxHeartbeats 2000000
set_option maxRecDepth 100000

theorem mem_blkL {v : Value} {x : Nat} : x ∈ blkL v ↔ v.ownBlock = some x := by
  unfold blkL; cases v.ownBlock <;> simp [eq_comm]

theorem blk_lt {w : World} {base e s : Nat} {v : Value} {n : Nat} {xs : List Value} (h : w.ownsRow base e s v n xs) {g : Nat} (hg : v.ownBlock = some g) : g < w.heap.size := (h.lt g hg).2

theorem row_apart {w : World} {b1 b2 e1 e2 s1 s2 n1 n2 : Nat} {v1 v2 : Value} {x1 x2 : List Value} (h1 : w.ownsRow b1 e1 s1 v1 n1 x1) (h2 : w.ownsRow b2 e2 s2 v2 n2 x2) (he : e1 ≠ e2) {g : Nat} (hg : v1.ownBlock = some g) : g ∉ blkL v2 := by
  rw [mem_blkL]
  intro hg2
  rcases h1.2 with ⟨rfl, _⟩ | ⟨g1, c1, cur1, rfl, _, hh1, _⟩
  · cases hg
  rcases h2.2 with ⟨rfl, _⟩ | ⟨g2, c2, cur2, rfl, _, hh2, _⟩
  · cases hg2
  simp only [Value.ownBlock] at hg hg2
  cases hg; cases hg2
  rw [hh1] at hh2
  cases hh2
  exact he rfl

theorem DgAt.notb {w : World} {b : Nat} {d : Dg} {vo vb vh : Value} (h : DgAt w b d vo vb vh) : (vo.ownBlock ≠ some b ∧ vb.ownBlock ≠ some b) ∧ vh.ownBlock ≠ some b :=
  ⟨⟨fun e => row_kind h.opts e h.blk (fun cur hc => by cases hc) rfl, fun e => row_kind h.body e h.blk (fun cur hc => by cases hc) rfl⟩, fun e => row_kind h.hv e h.blk (fun cur hc => by cases hc) rfl⟩

theorem DgAt.growB {w w1 w2 : World} {b : Nat} {d : Dg} {vo vb vh vb' : Value} {L : List Nat} (h : DgAt w b d vo vb vh) (ho : OwnB w1 0 vb' L) (hF : Tm.Fr (blkL vb) w w1) (hn : NewBlk vb vb' w.heap.size) (hB : But b w1 w2)
    (hblk : w2.heap[b]? = some (.cells (dgCells { d with body := L } vo vb' vh) 97)) (hl : L.length ≤ 65535) (hbb : ∀ x ∈ L, x < 256) : DgAt w2 b { d with body := L } vo vb' vh ∧ Tm.Fr (b :: blkL vb) w w2 := by
  have hltb : b < w.heap.size := (Array.getElem?_eq_some_iff.1 h.blk).1
  have hF2 : Tm.Fr (b :: blkL vb) w w2 := ⟨hB.os.trans hF.os, hB.tape.trans hF.tape, hB.output.trans hF.output, Nat.le_trans hF.size hB.size, fun i hi hn => by
    simp only [List.mem_cons, not_or] at hn
    exact (hB.block i (Nat.lt_of_lt_of_le hi hF.size) hn.1).trans (hF.block i hi hn.2)⟩
  have hnb := h.notb
  refine ⟨⟨hblk, row_fr h.opts hF2 ?_, ?_, row_fr h.hv hF2 ?_, h.ob, hbb, ?_, h.ol, hl, h.hl, h.ll, h.cl, h.hok⟩, hF2⟩
  · intro g hg hm
    rcases List.mem_cons.1 hm with rfl | hm
    · exact hnb.1.1 hg
    · exact h.ne g hg (mem_blkL.1 hm)
  · have hFb : Tm.Fr [b] w1 w2 := ⟨hB.os, hB.tape, hB.output, hB.size, fun i hi hm => hB.block i hi (by simpa using hm)⟩
    refine row_fr ho hFb (fun g hg hm => ?_)
    simp only [List.mem_cons, List.not_mem_nil, or_false] at hm
    subst hm
    rcases hn with e | ⟨g', e, hle⟩
    · rw [e] at hg; exact hnb.1.2 hg
    · rw [e] at hg; cases hg; omega
  · intro g hg hm
    rcases List.mem_cons.1 hm with rfl | hm
    · exact hnb.2 hg
    · exact row_apart h.hv h.body (by decide) hg hm
  · intro g hg hg'
    rcases hn with e | ⟨g', e, hle⟩
    · rw [e] at hg'; exact h.ne g hg hg'
    · rw [e] at hg'; cases hg'
      have := blk_lt h.opts hg
      omega

theorem DgAt.growH {w w1 w2 : World} {b : Nat} {d : Dg} {vo vb vh vh' : Value} {L : List Bool} (h : DgAt w b d vo vb vh) (ho : OwnH w1 0 vh' L) (hF : Tm.Fr (blkL vh) w w1) (hn : NewBlk vh vh' w.heap.size) (hB : But b w1 w2)
    (hblk : w2.heap[b]? = some (.cells (dgCells { d with hv := L } vo vb vh') 97)) (hl : L.length ≤ 8192) : DgAt w2 b { d with hv := L } vo vb vh' ∧ Tm.Fr (b :: blkL vh) w w2 := by
  have hltb : b < w.heap.size := (Array.getElem?_eq_some_iff.1 h.blk).1
  have hF2 : Tm.Fr (b :: blkL vh) w w2 := ⟨hB.os.trans hF.os, hB.tape.trans hF.tape, hB.output.trans hF.output, Nat.le_trans hF.size hB.size, fun i hi hn => by
    simp only [List.mem_cons, not_or] at hn
    exact (hB.block i (Nat.lt_of_lt_of_le hi hF.size) hn.1).trans (hF.block i hi hn.2)⟩
  have hnb := h.notb
  refine ⟨⟨hblk, row_fr h.opts hF2 ?_, row_fr h.body hF2 ?_, ?_, h.ob, h.bb, h.ne, h.ol, h.bl, hl, h.ll, h.cl, h.hok⟩, hF2⟩
  · intro g hg hm
    rcases List.mem_cons.1 hm with rfl | hm
    · exact hnb.1.1 hg
    · exact row_apart h.opts h.hv (by decide) hg hm
  · intro g hg hm
    rcases List.mem_cons.1 hm with rfl | hm
    · exact hnb.1.2 hg
    · exact row_apart h.body h.hv (by decide) hg hm
  · have hFb : Tm.Fr [b] w1 w2 := ⟨hB.os, hB.tape, hB.output, hB.size, fun i hi hm => hB.block i hi (by simpa using hm)⟩
    refine row_fr ho hFb (fun g hg hm => ?_)
    simp only [List.mem_cons, List.not_mem_nil, or_false] at hm
    subst hm
    rcases hn with e | ⟨g', e, hle⟩
    · rw [e] at hg; exact hnb.2 hg
    · rw [e] at hg; cases hg; omega

theorem size61 : (Try.prog.info? 61).map (·.size) = some 1 := by kernel_rfl

def Dg.reachB (d : Dg) (e : Nat) : Dg := { d with body := d.body ++ List.replicate (e - d.body.length) 0 }
def Dg.reachH (d : Dg) (e : Nat) : Dg := { d with hv := d.hv ++ List.replicate (stepsN e - d.hv.length) false }

theorem DgAt.len12 {w : World} {b : Nat} {d : Dg} {vo vb vh : Value} (h : DgAt w b d vo vb vh) : ∃ ab cb, vb = .slice ab d.body.length cb := h.body.shape
theorem NewBlk.trans {a b c : Value} {n m : Nat} (h1 : NewBlk a b n) (h2 : NewBlk b c m) (h : n ≤ m) : NewBlk a c n := by
  rcases h2 with e | ⟨g, e, hg⟩
  · rcases h1 with e1 | ⟨g, e1, hg⟩
    · exact .inl (e.trans e1)
    · exact .inr ⟨g, e.trans e1, hg⟩
  · exact .inr ⟨g, e, by omega⟩

theorem reach_any (b : Nat) (d : Dg) (vo vb vh : Value) (e : Nat) (w : World) (hd : DgAt w b d vo vb vh) (he : e ≤ 65535) :
    Calls Try.prog 70 #[.pointer (some ⟨b, 0, none⟩), .int .i64 (e : Int)] w fun r w' => r = .returned (.tuple #[]) ∧ ∃ vb' vh', DgAt w' b ((d.reachB e).reachH e) vo vb' vh' ∧ Tm.Fr (b :: (blkL vb ++ blkL vh)) w w' ∧ NewBlk vb vb' w.heap.size ∧ NewBlk vh vh' w.heap.size := by
  obtain ⟨ab, cb, hvb⟩ := hd.len12
  obtain ⟨ah, ch, hvh, hch, hcm⟩ := hd.hv.shape
  obtain ⟨nb, hnb⟩ : ∃ nb, nb = d.body.length := ⟨_, rfl⟩
  obtain ⟨nh, hnh⟩ : ∃ nh, nh = d.hv.length := ⟨_, rfl⟩
  have c12 : w.cell? ⟨b, 12, none⟩ = some (.slice ab nb cb) := by rw [hd.at 12 (by decide), hnb, ← hvb]; rfl
  have hlb : nb ≤ 65535 := by have := hd.bl; omega
  have hlh : nh ≤ 8192 := by have := hd.hl; omega
  have HD := hid hd
  have HVB := hid hvb
  have HVH := hid hvh
  have HNB := hid hnb
  have HNH := hid hnh
  clear hd hvb hvh hnb hnh hch hcm
  go_enter Try.func70, Try.ntmps70
  by_cases hm : nb < e
  · obtain ⟨k, hk⟩ : ∃ k, k = e - nb := ⟨_, rfl⟩
    have hkp : 0 < k := by omega
    obtain ⟨vb1, w1, hr1, ho1, hF1, hn1⟩ := app_bytes w 22 vb d.body HD.out.body k hkp (by have := HD.out.bl; omega)
    rw [HVB.out, ← HNB.out] at hr1
    have hb1 := hF1.block b (Array.getElem?_eq_some_iff.1 HD.out.blk).1 (fun hm => HD.out.notb.1.2 (mem_blkL.1 hm))
    rw [HD.out.blk] at hb1
    have hq : (k : Int) = (e : Int) - (nb : Int) := by omega
    have hm' : (nb : Int) < (e : Int) := by omega
    obtain ⟨ab1, cb1, hs1⟩ := ho1.shape
    have HB1 := hid hb1
    have HO1 := hid ho1
    have HF1 := hid hF1
    have HN1 := hid hn1
    have HR1 := hid hr1
    have HQ := hid hq
    have HK := hid hk
    have ho1c : vb1.oneCell' = true := by rw [hs1]; rfl
    have HC1 := hid ho1c
    clear hb1 ho1 hF1 hn1 hr1 hq hk hs1 ho1c
    go_wp2_with (first | (at_builtin; rw [← HQ.out]; refine Lib.wpList_append_run _ rfl _ _ _ _ rfl _ _ rfl rfl _ _ HR1.out ?_) | (refine wpList_st1 rfl 22 (.tmp 23) (.tmp 21) rfl b 12 vb1 rfl rfl HC1.out 97 _ (dgCells { d with body := d.body ++ List.replicate k 0 } vo vb1 vh) HB1.out size22 (by show 12 < 15; decide) rfl ?_) | fail)
    intro w2 hk2 hbut2
    have hG := HD.out.growB HO1.out HF1.out HN1.out hbut2 hk2 (by rw [List.length_append, List.length_replicate, ← HNB.out]; have := HK.out; omega) (fun x hx => by
      rcases List.mem_append.1 hx with h | h
      · exact HD.out.bb x h
      · rw [List.eq_of_mem_replicate h]; decide)
    obtain ⟨d1, hd1⟩ : ∃ d1, d1 = { d with body := d.body ++ List.replicate k 0 } := ⟨_, rfl⟩
    obtain ⟨vb2, hvb2⟩ : ∃ vb2, vb2 = vb1 := ⟨_, rfl⟩
    rw [← hd1, ← hvb2] at hG
    have HD2 := hid hG.1
    have HD1 : Hid (d1 = d.reachB e) := by unfold Hid; rw [hd1, HK.out, HNB.out]; rfl
    have HH : Hid (d.hv = d1.hv) := by unfold Hid; rw [hd1]
    have HFW : Hid (Tm.Fr (b :: (blkL vb ++ blkL vh)) w w2) := hG.2.mono (fun x hx => by simp only [List.mem_cons, List.mem_append] at hx ⊢; rcases hx with h | h; exact .inl h; exact .inr (.inl h))
    have HNW : Hid (NewBlk vb vb2 w.heap.size) := by unfold Hid; rw [hvb2]; exact HN1.out
    clear hG hk2 hbut2 HB1 HO1 HF1 HN1 HR1 HQ HK HC1 hd1 hvb2 hkp c12
    -- the second half
    have c13 : w2.cell? ⟨b, 13, none⟩ = some (.slice ah nh ch) := by rw [HD2.out.at 13 (by decide), HNH.out, ← HVH.out]; rfl
    by_cases hm2 : nh < stepsN e
    · obtain ⟨k2, hk2⟩ : ∃ k2, k2 = stepsN e - nh := ⟨_, rfl⟩
      have hk2p : 0 < k2 := by omega
      have hkb : nh + k2 ≤ 8192 := by unfold stepsN at hk2; omega
      have hdl : d1.hv.length = nh := by rw [HNH.out, HH.out]
      obtain ⟨vh2, w3, hr2, ho2, hF2, hn2⟩ := app_bools w2 61 vh d1.hv HD2.out.hv k2 hk2p (by omega)
      have hvh2 : vh = .slice ah nh ch := by rw [HNH.out, ← HVH.out]
      rw [hvh2] at hr2
      have hb3 := hF2.block b (Array.getElem?_eq_some_iff.1 HD2.out.blk).1 (fun hm => HD2.out.notb.2 (mem_blkL.1 hm))
      rw [HD2.out.blk] at hb3
      have hq2 : (k2 : Int) = ((e : Int) + 8 - 1) / 8 - (nh : Int) := by unfold stepsN at hk2 hm2; omega
      have hm2' : (nh : Int) < ((e : Int) + 8 - 1) / 8 := by unfold stepsN at hm2; omega
      obtain ⟨ah2, ch2, hs2, _, _⟩ := ho2.shape
      have ho2c : vh2.oneCell' = true := by rw [hs2]; rfl
      have HB3 := hid hb3
      have HO2 := hid ho2
      have HF2 := hid hF2
      have HN2 := hid hn2
      have HR2 := hid hr2
      have HQ2 := hid hq2
      have HK2 := hid hk2
      have HC2 := hid ho2c
      have HDL := hid hdl
      clear hb3 ho2 hF2 hn2 hr2 hq2 hk2 hs2 ho2c hvh2 hdl
      go_wp2_with (first | (at_builtin; rw [← HQ2.out]; refine Lib.wpList_append_run _ rfl _ _ _ _ rfl _ _ rfl rfl _ _ HR2.out ?_) | (refine wpList_st1 rfl 61 (.tmp 44) (.tmp 42) rfl b 13 vh2 rfl rfl HC2.out 97 _ (dgCells { d1 with hv := d1.hv ++ List.replicate k2 false } vo vb2 vh2) HB3.out size61 (by show 13 < 15; decide) rfl ?_) | fail)
      intro w4 hk4 hbut4
      have hG := HD2.out.growH HO2.out HF2.out HN2.out hbut4 hk4 (by rw [List.length_append, List.length_replicate, HDL.out]; exact hkb)
      go_wp2_with fail
      have hE : (d.reachB e).reachH e = { d1 with hv := d1.hv ++ List.replicate k2 false } := by
        rw [← HD1.out]; unfold Dg.reachH; rw [HDL.out, HK2.out]
      refine bodyPost_end (results_none Try.results70 _ _ _) rfl ⟨rfl, vb2, vh2, by rw [hE]; exact hG.1, ?_, HNW.out, ?_⟩
      · refine HFW.out.trans' hG.2 (fun x hx => .inl ?_)
        simp only [List.mem_cons, List.mem_append] at hx ⊢
        rcases hx with h | h
        · exact .inl h
        · exact .inr (.inr h)
      · rcases HN2.out with h | ⟨g, h, hg⟩
        · exact .inl h
        · exact .inr ⟨g, h, Nat.le_trans HFW.out.size hg⟩
    · have hm2' : ¬ ((nh : Int) < ((e : Int) + 8 - 1) / 8) := by unfold stepsN at hm2; omega
      go_wp2_with fail
      have hE : (d.reachB e).reachH e = d1 := by
        rw [← HD1.out]; unfold Dg.reachH
        have hdl : d1.hv.length = nh := by rw [HNH.out, HH.out]
        rw [hdl, Nat.sub_eq_zero_of_le (by omega), List.replicate_zero, List.append_nil]
      refine bodyPost_end (results_none Try.results70 _ _ _) rfl ⟨rfl, vb2, vh, by rw [hE]; exact HD2.out, ?_, HNW.out, .inl rfl⟩
      refine HFW.out.mono (fun x hx => ?_)
      simp only [List.mem_cons, List.mem_append] at hx ⊢
      exact hx
  · have hm' : ¬ ((nb : Int) < (e : Int)) := by omega
    go_upto_region 3 with fail
    obtain ⟨d1, hd1⟩ : ∃ d1, d1 = d := ⟨_, rfl⟩
    obtain ⟨vb2, hvb2⟩ : ∃ vb2, vb2 = vb := ⟨_, rfl⟩
    obtain ⟨w2, hw2⟩ : ∃ w2, w2 = w := ⟨_, rfl⟩
    have HD2 : Hid (DgAt w2 b d1 vo vb2 vh) := by unfold Hid; rw [hd1, hvb2, hw2]; exact HD.out
    have HD1 : Hid (d1 = d.reachB e) := by
      unfold Hid; rw [hd1]; unfold Dg.reachB
      rw [← HNB.out, Nat.sub_eq_zero_of_le (by omega), List.replicate_zero, List.append_nil]
    have HH : Hid (d.hv = d1.hv) := by unfold Hid; rw [hd1]
    have HFW : Hid (Tm.Fr (b :: (blkL vb ++ blkL vh)) w w2) := by unfold Hid; rw [hw2]; exact Tm.Fr.refl _ _
    have HNW : Hid (NewBlk vb vb2 w.heap.size) := by unfold Hid; rw [hvb2]; exact .inl rfl
    rw [← hw2]
    clear hd1 hvb2 c12 hw2
    -- the second half
    have c13 : w2.cell? ⟨b, 13, none⟩ = some (.slice ah nh ch) := by rw [HD2.out.at 13 (by decide), HNH.out, ← HVH.out]; rfl
    by_cases hm2 : nh < stepsN e
    · obtain ⟨k2, hk2⟩ : ∃ k2, k2 = stepsN e - nh := ⟨_, rfl⟩
      have hk2p : 0 < k2 := by omega
      have hkb : nh + k2 ≤ 8192 := by unfold stepsN at hk2; omega
      have hdl : d1.hv.length = nh := by rw [HNH.out, HH.out]
      obtain ⟨vh2, w3, hr2, ho2, hF2, hn2⟩ := app_bools w2 61 vh d1.hv HD2.out.hv k2 hk2p (by omega)
      have hvh2 : vh = .slice ah nh ch := by rw [HNH.out, ← HVH.out]
      rw [hvh2] at hr2
      have hb3 := hF2.block b (Array.getElem?_eq_some_iff.1 HD2.out.blk).1 (fun hm => HD2.out.notb.2 (mem_blkL.1 hm))
      rw [HD2.out.blk] at hb3
      have hq2 : (k2 : Int) = ((e : Int) + 8 - 1) / 8 - (nh : Int) := by unfold stepsN at hk2 hm2; omega
      have hm2' : (nh : Int) < ((e : Int) + 8 - 1) / 8 := by unfold stepsN at hm2; omega
      obtain ⟨ah2, ch2, hs2, _, _⟩ := ho2.shape
      have ho2c : vh2.oneCell' = true := by rw [hs2]; rfl
      have HB3 := hid hb3
      have HO2 := hid ho2
      have HF2 := hid hF2
      have HN2 := hid hn2
      have HR2 := hid hr2
      have HQ2 := hid hq2
      have HK2 := hid hk2
      have HC2 := hid ho2c
      have HDL := hid hdl
      clear hb3 ho2 hF2 hn2 hr2 hq2 hk2 hs2 ho2c hvh2 hdl
      go_wp2_with (first | (at_builtin; rw [← HQ2.out]; refine Lib.wpList_append_run _ rfl _ _ _ _ rfl _ _ rfl rfl _ _ HR2.out ?_) | (refine wpList_st1 rfl 61 (.tmp 44) (.tmp 42) rfl b 13 vh2 rfl rfl HC2.out 97 _ (dgCells { d1 with hv := d1.hv ++ List.replicate k2 false } vo vb2 vh2) HB3.out size61 (by show 13 < 15; decide) rfl ?_) | fail)
      intro w4 hk4 hbut4
      have hG := HD2.out.growH HO2.out HF2.out HN2.out hbut4 hk4 (by rw [List.length_append, List.length_replicate, HDL.out]; exact hkb)
      go_wp2_with fail
      have hE : (d.reachB e).reachH e = { d1 with hv := d1.hv ++ List.replicate k2 false } := by
        rw [← HD1.out]; unfold Dg.reachH; rw [HDL.out, HK2.out]
      refine bodyPost_end (results_none Try.results70 _ _ _) rfl ⟨rfl, vb2, vh2, by rw [hE]; exact hG.1, ?_, HNW.out, ?_⟩
      · refine HFW.out.trans' hG.2 (fun x hx => .inl ?_)
        simp only [List.mem_cons, List.mem_append] at hx ⊢
        rcases hx with h | h
        · exact .inl h
        · exact .inr (.inr h)
      · rcases HN2.out with h | ⟨g, h, hg⟩
        · exact .inl h
        · exact .inr ⟨g, h, Nat.le_trans HFW.out.size hg⟩
    · have hm2' : ¬ ((nh : Int) < ((e : Int) + 8 - 1) / 8) := by unfold stepsN at hm2; omega
      go_wp2_with fail
      have hE : (d.reachB e).reachH e = d1 := by
        rw [← HD1.out]; unfold Dg.reachH
        have hdl : d1.hv.length = nh := by rw [HNH.out, HH.out]
        rw [hdl, Nat.sub_eq_zero_of_le (by omega), List.replicate_zero, List.append_nil]
      refine bodyPost_end (results_none Try.results70 _ _ _) rfl ⟨rfl, vb2, vh, by rw [hE]; exact HD2.out, ?_, HNW.out, .inl rfl⟩
      refine HFW.out.mono (fun x hx => ?_)
      simp only [List.mem_cons, List.mem_append] at hx ⊢
      exact hx
end Go.Proofs.Ytdoeebbcieiimaa

namespace Go.Proofs.Ytdoeebbcieiimaa
open Go.ChangeShapes Go.WideShapes Go.ChangeAt Go.RowKit
set_option maxHeartbeats 1000000

theorem countP_point {L : List Nat} (hn : L.Nodup) {i : Nat} (hi : i ∈ L) {p q : Nat → Bool} (hpi : p i = true) (hqi : q i = false) (hne : ∀ j ∈ L, j ≠ i → q j = p j) : L.countP q + 1 = L.countP p := by
  induction L with
  | nil => cases hi
  | cons x L ih =>
    obtain ⟨hx0, hn'⟩ := List.nodup_cons.1 hn
    by_cases hx : x = i
    · subst hx
      have : L.countP q = L.countP p := List.countP_congr (fun j hj => by rw [hne j (List.mem_cons_of_mem _ hj) (fun e => hx0 (e ▸ hj))])
      rw [List.countP_cons, List.countP_cons, this, hpi, hqi]
      simp
    · have := ih hn' (by rcases List.mem_cons.1 hi with h | h; exact absurd h.symm hx; exact h) (fun j hj => hne j (List.mem_cons_of_mem _ hj))
      rw [List.countP_cons, List.countP_cons, hne x (List.mem_cons_self ..) hx]
      omega

def puts (a0 : Act) (dst : Nat → Tmp) (vs : Nat → Value) (p : Nat → Bool) (L : List Nat) : Act := L.foldr (fun i a => if p i then a.put (some (dst i)) (vs i) else a) a0

theorem puts_congr {a0 : Act} {dst : Nat → Tmp} {vs vs' : Nat → Value} {p p' : Nat → Bool} {L : List Nat} (h : ∀ i ∈ L, p' i = p i ∧ vs' i = vs i) : puts a0 dst vs' p' L = puts a0 dst vs p L := by
  induction L with
  | nil => rfl
  | cons x L ih =>
    have h1 := h x (List.mem_cons_self ..)
    have h2 := ih (fun i hi => h i (List.mem_cons_of_mem _ hi))
    simp only [puts, List.foldr_cons] at h2 ⊢
    rw [h2, h1.1, h1.2]

theorem put_comm (a : Act) {s t : Tmp} (h : s ≠ t) (x y : Value) : (a.put (some s) x).put (some t) y = (a.put (some t) y).put (some s) x := by
  simp only [Act.put]
  rw [Array.setIfInBounds_comm _ _ h]

theorem puts_set {a0 : Act} {dst : Nat → Tmp} {vs vs' : Nat → Value} {p p' : Nat → Bool} {i : Nat} {v : Value} : ∀ {L : List Nat}, L.Nodup → i ∈ L → p i = false → p' i = true → vs' i = v → (∀ j ∈ L, j ≠ i → p' j = p j ∧ vs' j = vs j ∧ dst j ≠ dst i) →
    (puts a0 dst vs p L).put (some (dst i)) v = puts a0 dst vs' p' L
  | [], _, hi, _, _, _, _ => by cases hi
  | x :: L, hn, hi, h1, h2, h3, h => by
    obtain ⟨hx0, hn'⟩ := List.nodup_cons.1 hn
    by_cases hx : x = i
    · subst hx
      have hc : puts a0 dst vs' p' L = puts a0 dst vs p L := puts_congr (fun j hj => by have := h j (List.mem_cons_of_mem _ hj) (fun e => hx0 (e ▸ hj)); exact ⟨this.1, this.2.1⟩)
      simp only [puts, List.foldr_cons] at hc ⊢
      rw [h1, h2, hc, h3]
      rfl
    · have ih := puts_set (a0 := a0) (dst := dst) (v := v) hn' (by rcases List.mem_cons.1 hi with e | e; exact absurd e.symm hx; exact e) h1 h2 h3 (fun j hj => h j (List.mem_cons_of_mem _ hj))
      have hh := h x (List.mem_cons_self ..) hx
      simp only [puts, List.foldr_cons] at ih ⊢
      rw [hh.1, hh.2.1, ← ih]
      cases p x with
      | true => simp only [if_true]; exact put_comm _ hh.2.2 _ _
      | false => rfl

theorem puts_size {a0 : Act} {dst : Nat → Tmp} {vs : Nat → Value} {p : Nat → Bool} {L : List Nat} : (puts a0 dst vs p L).tmps.size = a0.tmps.size := by
  induction L with
  | nil => rfl
  | cons x L ih =>
    simp only [puts, List.foldr_cons] at ih ⊢
    split
    · simp only [Act.put, Array.size_setIfInBounds]; exact ih
    · exact ih

theorem eval_put_ne (a : Act) {s t : Tmp} (h : s ≠ t) (v : Value) : (a.put (some t) v).eval (.tmp s) = a.eval (.tmp s) := by
  simp only [Act.put, Act.eval, Array.getD_eq_getD_getElem?]
  rw [Array.getElem?_setIfInBounds_ne (Ne.symm h)]

theorem eval_put_eq (a : Act) {t : Tmp} (h : t < a.tmps.size) (v : Value) : (a.put (some t) v).eval (.tmp t) = v := by
  simp [Act.put, Act.eval, h]

theorem puts_old {a0 : Act} {dst : Nat → Tmp} {vs : Nat → Value} {p : Nat → Bool} {s : Tmp} {L : List Nat} (h : ∀ j ∈ L, dst j ≠ s) : (puts a0 dst vs p L).eval (.tmp s) = a0.eval (.tmp s) := by
  induction L with
  | nil => rfl
  | cons x L ih =>
    have ih := ih (fun j hj => h j (List.mem_cons_of_mem _ hj))
    simp only [puts, List.foldr_cons] at ih ⊢
    split
    · rw [eval_put_ne _ (Ne.symm (h x (List.mem_cons_self ..)))]; exact ih
    · exact ih

theorem puts_at {a0 : Act} {dst : Nat → Tmp} {vs : Nat → Value} {p : Nat → Bool} {i : Nat} (hsz : dst i < a0.tmps.size) (hp : p i = true) : ∀ {L : List Nat}, i ∈ L → (∀ j ∈ L, j ≠ i → dst j ≠ dst i) → (puts a0 dst vs p L).eval (.tmp (dst i)) = vs i
  | [], hi, _ => by cases hi
  | x :: L, hi, h => by
    by_cases hx : x = i
    · subst hx
      have : dst x < (puts a0 dst vs p L).tmps.size := by rw [puts_size]; exact hsz
      simp only [puts, List.foldr_cons, hp, if_true] at this ⊢
      exact eval_put_eq _ this _
    · have ih := puts_at (vs := vs) hsz hp (L := L) (by rcases List.mem_cons.1 hi with e | e; exact absurd e.symm hx; exact e) (fun j hj => h j (List.mem_cons_of_mem _ hj))
      simp only [puts, List.foldr_cons] at ih ⊢
      split
      · rw [eval_put_ne _ (Ne.symm (h x (List.mem_cons_self ..) hx))]; exact ih
      · exact ih

def canon (m n : Nat) : Array Bool := ((List.range m).map fun i => decide (i < n)).toArray

def monoB (ops : Array Oper) (n : Nat) (dst : Nat → Tmp) (size : Nat) : Bool :=
  decide (n < ops.size) && Region.sinkB .any ops n && Region.chainB .any ops n && Region.seqB .any ops (ops.size - n) n (canon ops.size n) &&
  (List.range n).all (fun i => decide (dst i < size) && ((ops[i]?).map fun o => o.guard.isNone && decide (o.dst = some (dst i)) && o.after.all fun e => decide (e.on < i)).getD false && (List.range n).all fun j => decide (j = i) || decide (dst j ≠ dst i))

theorem wp_region_facts {P : Program} {id : Nat} {Q : Exit → Act → World → Prop} {a0 : Act} {W : World} {l : List Oper} (n : Nat) (dst : Nat → Tmp) (F : Nat → Value → World → Prop) (I : World → Prop) (R : Nat → World → World → Prop) (hm : P.follows .mixedOrders = true) (hB : monoB l.toArray n dst a0.tmps.size = true)
    (hI : I { W with drawn := W.drawn + 1 })
    (hF : ∀ i j v w w', i ≠ j → F i v w → I w → R j w w' → F i v w')
    (hstep : ∀ i o, i < n → l[i]? = some o → ∀ (a : Act) (w : World) (vs : Nat → Value), I w → (∀ s, (∀ j, j < n → dst j ≠ s) → a.eval (.tmp s) = a0.eval (.tmp s)) →
      (∀ e ∈ o.after, Region.binds .any e = true → e.on < n → a.eval (.tmp (dst e.on)) = vs e.on ∧ F e.on (vs e.on) w) →
      o.wp P a w (fun a' w' => ∃ v, a' = a.put (some (dst i)) v ∧ F i v w' ∧ I w' ∧ R i w w') Q)
    (hend : ∀ (vs : Nat → Value) (w : World), I w → (∀ i, i < n → F i (vs i) w) → wpList P l.toArray Q (l.drop n) (puts a0 dst vs (fun _ => true) (List.range n)) w) :
    (Code.region id l.toArray true).wp P Q a0 W := by
  simp only [monoB, Bool.and_eq_true, decide_eq_true_eq, List.all_eq_true, List.mem_range] at hB
  obtain ⟨⟨⟨⟨hn, hs⟩, hc⟩, hseq⟩, hall⟩ := hB
  have hinj : ∀ i, i < n → ∀ j, j < n → j ≠ i → dst j ≠ dst i := fun i hi j hj hne => by
    have := (hall i hi).2 j hj
    simp only [Bool.or_eq_true, decide_eq_true_eq] at this
    exact this.resolve_left hne
  have hop : ∀ i o, i < n → l.toArray[i]? = some o → (o.guard = none ∧ o.dst = some (dst i)) ∧ ∀ e ∈ o.after, e.on < i := fun i o hi ho => by
    have := (hall i hi).1.2
    rw [ho] at this
    simp only [Option.map_some, Option.getD_some, Bool.and_eq_true, Option.isNone_iff_eq_none, decide_eq_true_eq, Array.all_eq_true_iff_forall_mem] at this
    exact this
  refine wp_region_any hm ?_
  have main : ∀ (f : Nat) (listed : Array Bool) (vs : Nat → Value) (w : World), (List.range n).countP (fun j => !listed.getD j false) = f → HeadInv .any l.toArray n listed →
      I w → (∀ i, i < n → listed.getD i false = true → F i (vs i) w) →
      wpAny P .any l.toArray Q (f + (l.toArray.size - n)) listed (puts a0 dst vs (fun i => listed.getD i false) (List.range n)) w := by
    intro f
    induction f with
    | zero =>
      intro listed vs w hcnt inv hb hf
      have hall2 : ∀ i, i < n → listed.getD i false = true := fun i hi => by
        have := List.countP_eq_zero.1 hcnt i (List.mem_range.2 hi)
        simpa using this
      have hcan : listed = canon l.toArray.size n := by
        apply Array.ext
        · rw [inv.size]; simp [canon]
        · intro i h1 h2
          simp only [canon, List.getElem_toArray, List.getElem_map, List.getElem_range]
          by_cases hi : i < n
          · have := hall2 i hi
            simpa [h1, hi] using this
          · have := inv.tail i (by omega) (by rw [inv.size] at h1; exact h1)
            simpa [h1, hi] using this
      have he : puts a0 dst vs (fun i => listed.getD i false) (List.range n) = puts a0 dst vs (fun _ => true) (List.range n) := puts_congr (fun i hi => ⟨hall2 i (List.mem_range.1 hi), rfl⟩)
      rw [he, hcan, Nat.zero_add]
      have hdl : (l.drop n).length = l.toArray.size - n := by simp
      have := wpAny_of_seq (P := P) (ops := l.toArray) (md := .any) (Q' := Q) (l.drop n) n (canon l.toArray.size n) _ w (fun j => by simp [List.getElem?_drop]) (by rw [hdl]; exact hseq) (hend vs w hb (fun i hi => hf i hi (hall2 i hi)))
      rwa [hdl] at this
    | succ f ih =>
      intro listed vs w hcnt inv hb hf
      obtain ⟨i0, hi0, hu0⟩ : ∃ i, i < n ∧ listed.getD i false = false := by
        have hpos : 0 < (List.range n).countP (fun j => !listed.getD j false) := by omega
        obtain ⟨i, hi, hp⟩ := List.countP_pos_iff.1 hpos
        exact ⟨i, List.mem_range.1 hi, by simpa using hp⟩
      have hi0s : i0 < listed.size := by rw [inv.size]; omega
      have hwait := tail_waits hs hc hn inv _ i0 rfl hi0 (getD_in hi0s hu0)
      rw [show f + 1 + (l.toArray.size - n) = (f + (l.toArray.size - n)) + 1 by omega]
      refine ⟨fun h0 => ?_, fun i hi => ?_⟩
      · -- something is ready: the least that is not listed
        exfalso
        have hex : ∃ k, k < n ∧ listed.getD k false = false ∧ ∀ j, j < k → listed.getD j false = true := by
          have : ∀ m, (∃ j, j < m ∧ listed.getD j false = false) → ∃ k, k < m ∧ listed.getD k false = false ∧ ∀ j, j < k → listed.getD j false = true := by
            intro m
            induction m with
            | zero => rintro ⟨j, hj, _⟩; omega
            | succ m ihm =>
              rintro ⟨j, hj, hjf⟩
              by_cases hex : ∃ j, j < m ∧ listed.getD j false = false
              · obtain ⟨k, hk, h1, h2⟩ := ihm hex
                exact ⟨k, by omega, h1, h2⟩
              · refine ⟨m, by omega, ?_, fun j' hj' => ?_⟩
                · have : j = m := by
                    rcases Nat.lt_or_ge j m with h | h
                    · exact absurd ⟨j, h, hjf⟩ hex
                    · omega
                  rw [← this]; exact hjf
                · cases hq : listed.getD j' false with
                  | true => rfl
                  | false => exact absurd ⟨j', hj', hq⟩ hex
          exact this n ⟨i0, hi0, hu0⟩
        obtain ⟨k, hk, hku, hkl⟩ := hex
        have hks : k < l.toArray.size := by omega
        have hr : k ∈ Region.ready .any l.toArray listed := mem_ready.2 ⟨getD_in (by rw [inv.size]; exact hks) hku, _, Array.getElem?_eq_getElem hks, fun e he _ => hkl e.on ((hop k _ hk (Array.getElem?_eq_getElem hks)).2 e he)⟩
        rw [h0] at hr
        cases hr
      · have hin : i < n := by
          rcases Nat.lt_or_ge i n with h | h
          · exact h
          · exact absurd hi (hwait i h)
        obtain ⟨hun, o, ho, hdep⟩ := mem_ready.1 hi
        obtain ⟨⟨hg, hd⟩, _⟩ := hop i o hin ho
        have hiu := getD_both hun
        have his : i < listed.size := by rw [inv.size]; omega
        unfold wpOp
        simp only [ho, Region.wanted, hg, if_true]
        refine .inl ?_
        have H := hstep i o hin (by simpa using ho) (puts a0 dst vs (fun i => listed.getD i false) (List.range n)) w vs hb (fun s hs' => puts_old (fun j hj => hs' j (List.mem_range.1 hj))) (fun e he hbi hen => ⟨puts_at (by have := (hall e.on hen).1.1; simpa using this) (hdep e he hbi) (List.mem_range.2 hen) (fun j hj hne => hinj e.on hen j (List.mem_range.1 hj) hne), hf e.on hen (hdep e he hbi)⟩)
        refine Oper.wp_mono (fun a' w' ⟨v, ha', hfv, hiw, hbw⟩ => ?_) H
        rw [ha', puts_set (vs' := fun j => if j = i then v else vs j) (p' := fun j => (listed.setIfInBounds i true).getD j false) (List.nodup_range) (List.mem_range.2 hin) hiu (by simp [his]) (by simp) (fun j hj hne => ⟨getD_set_ne false (Ne.symm hne), by simp [hne], hinj i hin j (List.mem_range.1 hj) hne⟩)]
        refine ih _ _ w' ?_ (inv.set hi hin) hiw (fun j hj hlj => ?_)
        · have := countP_point (L := List.range n) List.nodup_range (List.mem_range.2 hin) (p := fun j => !listed.getD j false) (q := fun j => !(listed.setIfInBounds i true).getD j false) (by simp only [hiu]; rfl) (by simp [his]) (fun j _ hne => by simp only [getD_set_ne false (Ne.symm hne)])
          omega
        · by_cases hji : j = i
          · subst hji; simpa using hfv
          · simp only [hji, if_false]
            rw [getD_set_ne false (Ne.symm hji)] at hlj
            exact hF j i _ w w' hji (hf j hj hlj) hb hbw
  have inv0 : HeadInv .any l.toArray n (Array.replicate l.toArray.size false) :=
    ⟨by simp, fun j oj _ hl => (by rw [getD_replicate_false] at hl; cases hl), fun t _ ht => getD_in (by simpa using ht) (getD_replicate_false _ _)⟩
  have hcnt : (List.range n).countP (fun j => !(Array.replicate l.toArray.size false).getD j false) = n := by
    rw [List.countP_eq_length.2 (fun j _ => by rw [getD_replicate_false]; rfl), List.length_range]
  have H := main n _ (fun _ => undef) { W with drawn := W.drawn + 1 } hcnt inv0 hI (fun i _ h => by rw [getD_replicate_false] at h; cases h)
  have he : puts a0 dst (fun _ => undef) (fun i => (Array.replicate l.toArray.size false).getD i false) (List.range n) = a0 := by
    have : ∀ L : List Nat, puts a0 dst (fun _ => undef) (fun i => (Array.replicate l.toArray.size false).getD i false) L = a0 := by
      intro L
      induction L with
      | nil => rfl
      | cons x L ih =>
        simp only [puts, List.foldr_cons] at ih ⊢
        rw [getD_replicate_false, ih]
        rfl
    exact this _
  rw [he, show n + (l.toArray.size - n) = l.toArray.size by omega] at H
  exact H
end Go.Proofs.Ytdoeebbcieiimaa

namespace Go.Proofs.Ytdoeebbcieiimaa
open Go.ChangeShapes Go.WideShapes Go.ChangeAt Go.RowKit
set_option maxHeartbeats 2000000
set_option maxRecDepth 100000

theorem wp_call {P : Program} {o : Oper} {a : Act} {w : World} {K : Act → World → Prop} {Q : Exit → Act → World → Prop} (f : FuncId) (xs : Array Operand) (ts : Array TypeId) (ho : o.op = .call { callee := .value (.func f), args := xs, argTypes := ts })
    (hf : ∀ (args : Array Value) (w : World), (callFunc f args).run P w = .ok (.enter f args) w) (vs : Array Value) (hv : xs.map a.eval = vs) (h : Calls P f vs w fun e w' => ∃ v, e = .returned v ∧ K (a.put o.dst v) w') : o.wp P a w K Q := by
  unfold Oper.wp execOp
  simp [ho, resolve, invoke, Act.eval, hv, Deferred.ofValue, hf]
  exact h.mono fun e w' ⟨v, he, hk⟩ => by subst he; exact hk

theorem wp_load {P : Program} {o : Oper} {a : Act} {w : World} {K : Act → World → Prop} {Q : Exit → Act → World → Prop} (T : TypeId) (p : Addr) (x : Operand) (v : Value) (ho : o.op = .load T x) (hx : a.eval x = .pointer (some p))
    (hr : (Instr.loadAt T (.pointer (some p))).run P w = .ok v w) (h : K (a.put o.dst v) w) : o.wp P a w K Q := by
  unfold Oper.wp execOp
  simp only [ho, hx, Sem.run_bind, hr, Result.andThen_ok, Sem.run_pure]
  exact h

theorem wp_nil {P : Program} {o : Oper} {a : Act} {w : World} {K : Act → World → Prop} {Q : Exit → Act → World → Prop} (p : Addr) (x : Operand) (ho : o.op = .nilCheck x) (hx : a.eval x = .pointer (some p))
    (h : K (a.put o.dst (.pointer (some p))) w) : o.wp P a w K Q := by
  unfold Oper.wp execOp
  simp only [ho, hx]
  exact h

/-- The steps of a drawn region, one a goal. -/
def stepsOk (P : Program) (Q : Exit → Act → World → Prop) (a0 : Act) (n : Nat) (dst : Nat → Tmp) (F : Nat → Value → World → Prop) (I : World → Prop) (R : Nat → World → World → Prop) : Nat → List Oper → Prop
  | _, [] => True
  | i, o :: rest => (∀ (a : Act) (w : World) (vs : Nat → Value), I w → (∀ s, (∀ j, j < n → dst j ≠ s) → a.eval (.tmp s) = a0.eval (.tmp s)) →
      (∀ e ∈ o.after, Region.binds .any e = true → e.on < n → a.eval (.tmp (dst e.on)) = vs e.on ∧ F e.on (vs e.on) w) →
      o.wp P a w (fun a' w' => ∃ v, a' = a.put (some (dst i)) v ∧ F i v w' ∧ I w' ∧ R i w w') Q) ∧ stepsOk P Q a0 n dst F I R (i + 1) rest

theorem stepsOk.at {P : Program} {Q : Exit → Act → World → Prop} {a0 : Act} {n : Nat} {dst : Nat → Tmp} {F : Nat → Value → World → Prop} {I : World → Prop} {R : Nat → World → World → Prop} : ∀ (l : List Oper) (k : Nat), stepsOk P Q a0 n dst F I R k l → ∀ (i : Nat) (o : Oper), l[i]? = some o → ∀ (a : Act) (w : World) (vs : Nat → Value), I w → (∀ s, (∀ j, j < n → dst j ≠ s) → a.eval (.tmp s) = a0.eval (.tmp s)) →
      (∀ e ∈ o.after, Region.binds .any e = true → e.on < n → a.eval (.tmp (dst e.on)) = vs e.on ∧ F e.on (vs e.on) w) →
      o.wp P a w (fun a' w' => ∃ v, a' = a.put (some (dst (k + i))) v ∧ F (k + i) v w' ∧ I w' ∧ R (k + i) w w') Q
  | [], _, _, i, o, h => by simp at h
  | x :: l, k, hs, 0, o, h => by
    simp only [List.getElem?_cons_zero, Option.some.injEq] at h
    subst h
    exact hs.1
  | x :: l, k, hs, i + 1, o, h => by
    have := stepsOk.at l (k + 1) hs.2 i o (by simpa using h)
    rw [show k + (i + 1) = k + 1 + i by omega]
    exact this

theorem wp_region_facts' {P : Program} {id : Nat} {Q : Exit → Act → World → Prop} {a0 : Act} {W : World} {l : List Oper} (n : Nat) (dst : Nat → Tmp) (F : Nat → Value → World → Prop) (I : World → Prop) (R : Nat → World → World → Prop) (hm : P.follows .mixedOrders = true) (hB : monoB l.toArray n dst a0.tmps.size = true)
    (hI : I { W with drawn := W.drawn + 1 })
    (hF : ∀ i j v w w', i ≠ j → F i v w → I w → R j w w' → F i v w')
    (hstep : stepsOk P Q a0 n dst F I R 0 (l.take n))
    (hend : ∀ (vs : Nat → Value) (w : World), I w → (∀ i, i < n → F i (vs i) w) → wpList P l.toArray Q (l.drop n) (puts a0 dst vs (fun _ => true) (List.range n)) w) :
    (Code.region id l.toArray true).wp P Q a0 W :=
  wp_region_facts n dst F I R hm hB hI hF (fun i o hi ho => by
    have := hstep.at _ _ i o (by rw [List.getElem?_take_of_lt hi]; exact ho)
    rwa [Nat.zero_add] at this) hend

/-- The same where memory only grows. -/
theorem wp_region_mono' {P : Program} {id : Nat} {Q : Exit → Act → World → Prop} {a0 : Act} {W : World} {l : List Oper} (n : Nat) (dst : Nat → Tmp) (F : Nat → Value → World → Prop) (hm : P.follows .mixedOrders = true) (hB : monoB l.toArray n dst a0.tmps.size = true)
    (hF : ∀ i v w w', F i v w → Below w.heap.size w w' → F i v w')
    (hstep : stepsOk P Q a0 n dst F (fun w => Below W.heap.size W w) (fun _ w w' => Below w.heap.size w w') 0 (l.take n))
    (hend : ∀ (vs : Nat → Value) (w : World), Below W.heap.size W w → (∀ i, i < n → F i (vs i) w) → wpList P l.toArray Q (l.drop n) (puts a0 dst vs (fun _ => true) (List.range n)) w) :
    (Code.region id l.toArray true).wp P Q a0 W :=
  wp_region_facts' n dst F (fun w => Below W.heap.size W w) (fun _ w w' => Below w.heap.size w w') hm hB ⟨rfl, rfl, rfl, Nat.le_refl _, fun _ _ => rfl⟩ (fun i _ v w w' _ hf _ hr => hF i v w w' hf hr) hstep hend

/-- What a step of such a region yields. -/
theorem grown_step {W w w' : World} {a : Act} {t : Tmp} {v : Value} {F : Value → World → Prop} (hW : Below W.heap.size W w) (hf : F v w') (hb : Below w.heap.size w w') : ∃ v', a.put (some t) v = a.put (some t) v' ∧ F v' w' ∧ Below W.heap.size W w' ∧ Below w.heap.size w w' :=
  ⟨v, rfl, hf, hW.trans (hb.mono hW.size), hb⟩
end Go.Proofs.Ytdoeebbcieiimaa

namespace Go.Proofs.Ytdoeebbcieiimaa
open Go.ChangeShapes Go.WideShapes Go.ChangeAt Go.RowKit
set_option maxHeartbeats 2000000
set_option maxRecDepth 100000

theorem load1 {P : Program} {w : World} {p : Addr} {v : Value} {T : TypeId} {d : TypeDesc} (hu : P.underlying T = some d) (hd : (match d with | .struct _ | .array _ _ => true | _ => false) = false) (hc : w.cell? p = some v) : (Instr.loadAt T (.pointer (some p))).run P w = .ok v w := by
  simp [Instr.loadAt, Instr.sureAddr, loadVar, run_isAgg_plain hu hd w, hc]

theorem low {k s j : Nat} (h : s < k) : k + j ≠ s := by omega

def F1 (b N : Nat) (d : Dg) (h : Hd) (vo vb : Value) : Nat → Value → World → Prop
  | 2, v, _ => v = .agg (pkCells h vo vb)
  | 3, v, w => ∃ V, v = .agg (hdCells (headW d h) V) ∧ SeesB w V (headW d h).opts
  | 4, v, w => ∃ V, v = .agg (hdCells (headW d h) V) ∧ OwnB w N V (headW d h).opts
  | _, v, _ => v = .pointer (some ⟨b, 0, none⟩)

theorem F1_keeps {b N : Nat} {d : Dg} {h : Hd} {vo vb : Value} (i : Nat) (v : Value) (w w' : World) (hf : F1 b N d h vo vb i v w) (hb : Below w.heap.size w w') : F1 b N d h vo vb i v w' := by
  unfold F1 at hf ⊢
  split
  · exact hf
  · obtain ⟨V, h1, h2⟩ := hf; exact ⟨V, h1, h2.below hb⟩
  · obtain ⟨V, h1, h2⟩ := hf; exact ⟨V, h1, h2.below hb⟩
  · rename_i h2 h3 h4
    split at hf
    · exact absurd rfl h2
    · exact absurd rfl h3
    · exact absurd rfl h4
    · exact hf

theorem headW_opts {w : World} {b : Nat} {d : Dg} {vo vb vh : Value} (hd : DgAt w b d vo vb vh) (h : Hd) (hl : h.opts.length ≤ 40) : (headW d h).opts.length ≤ 40 := by
  unfold headW
  split
  · exact hd.ol
  · exact hl

theorem headW_ok {d : Dg} (hd : d.h.Ok) {h : Hd} (hh : h.Ok) : (headW d h).Ok := by
  unfold headW
  split
  · exact hd
  · exact hh

theorem headW_bytes {d : Dg} (hd : ∀ x ∈ d.h.opts, x < 256) {h : Hd} (hh : ∀ x ∈ h.opts, x < 256) : ∀ x ∈ (headW d h).opts, x < 256 := by
  unfold headW
  split
  · exact hd
  · exact hh

theorem there_at {u : World} {n o k : Nat} {C : Array Value} {t : TypeId} (hb : u.heap[n]? = some (.cells C t (0, 0))) (hk : o + k ≤ C.size) : u.there n o k := fun i hi => by
  refine ⟨?_, frozen_of_row _ _ _ _ _ hb⟩
  rw [cell_of_row _ _ _ _ _ _ hb, Array.getElem?_eq_getElem (by omega)]
  rfl

theorem setAll_dg (d : Dg) (h' : Hd) (vo vb vh V : Value) : setAll (dgCells d vo vb vh) 1 (hdCells h' V).toList = dgCells { d with h := h' } V vb vh := by simp [setAll, dgCells, hdCells]

/-- A header goes into a datagram's block. -/
theorem wpList_stD {ops : Array Oper} {rest : List Oper} {o : Oper} {a : Act} {w : World} {Q : Exit → Act → World → Prop} (hgd : o.guard = none) (x y : Operand) (ho : o.op = .store 27 x y)
    (g : Nat) (h' : Hd) (ao : Option Addr) (n c : Nat) (hx : a.eval x = .pointer (some ⟨g, 1, none⟩)) (hy : a.eval y = .agg (hdCells h' (.slice ao n c)))
    (t : TypeId) (d : Dg) (vo vb vh : Value) (hg : w.heap[g]? = some (.cells (dgCells d vo vb vh) t (0, 0)))
    (h : ∀ w', w'.heap[g]? = some (.cells (dgCells { d with h := h' } (.slice ao n c) vb vh) t (0, 0)) → But g w w' → wpList Try.prog ops Q rest (a.put o.dst undef) w') : wpList Try.prog ops Q (o :: rest) a w := by
  have hall := all_hd h' ao n c
  have hsz : (hdCells h' (.slice ao n c)).size = 10 := rfl
  have hset := setAll_dg d h' vo vb vh (.slice ao n c)
  generalize hdCells h' (.slice ao n c) = cr at *
  have hth : w.there g 1 cr.size := there_at hg (by rw [hsz]; exact (by decide : 1 + 10 ≤ 15))
  refine wpList_store_mid hgd 27 x y ho g 1 cr hx hy hth (by rw [hsz]; exact sz27) hall (h _ ?_ (But.sets _ _ _ _))
  rw [sets_row _ _ _ _ hg, hset]

theorem DgAt.setHead {u u' : World} {b N : Nat} {d : Dg} {do_ db dh V : Value} {H : Hd} (h : DgAt u b d do_ db dh) (hV : OwnB u N V H.opts) (hne : ∀ g, db.ownBlock = some g → g < N) (hB : But b u u')
    (hblk : u'.heap[b]? = some (.cells (dgCells { d with h := H } V db dh) 97)) (hol : H.opts.length ≤ 40) (hob : ∀ x ∈ H.opts, x < 256) (hok : H.Ok) : DgAt u' b { d with h := H } V db dh := by
  have hFb : Tm.Fr [b] u u' := ⟨hB.os, hB.tape, hB.output, hB.size, fun i hi hm => hB.block i hi (by simpa using hm)⟩
  have hnb := h.notb
  refine ⟨hblk, ?_, ?_, ?_, hob, h.bb, ?_, hol, h.bl, h.hl, h.ll, h.cl, hok⟩
  · refine row_fr (OwnB.mono hV (Nat.zero_le _)) hFb (fun g hg hm => ?_)
    simp only [List.mem_cons, List.not_mem_nil, or_false] at hm
    subst hm
    exact row_kind hV hg h.blk (fun cur hc => by cases hc) rfl
  · refine row_fr h.body hFb (fun g hg hm => ?_)
    simp only [List.mem_cons, List.not_mem_nil, or_false] at hm
    subst hm; exact hnb.1.2 hg
  · refine row_fr h.hv hFb (fun g hg hm => ?_)
    simp only [List.mem_cons, List.not_mem_nil, or_false] at hm
    subst hm; exact hnb.2 hg
  · intro g hg hg'
    have h1 := (World.ownsRow.lt hV g hg).1
    have h2 := hne g hg'
    omega

theorem DgAt.setLen {u u' : World} {b : Nat} {d : Dg} {vo vb vh : Value} {n : Nat} (h : DgAt u b d vo vb vh) (hB : But b u u') (hblk : u'.heap[b]? = some (.cells (dgCells { d with len := n } vo vb vh) 97)) (hn : n ≤ 65535) : DgAt u' b { d with len := n } vo vb vh := by
  have hFb : Tm.Fr [b] u u' := ⟨hB.os, hB.tape, hB.output, hB.size, fun i hi hm => hB.block i hi (by simpa using hm)⟩
  have hnb := h.notb
  refine ⟨hblk, row_fr h.opts hFb (fun g hg hm => ?_), row_fr h.body hFb (fun g hg hm => ?_), row_fr h.hv hFb (fun g hg hm => ?_), h.ob, h.bb, h.ne, h.ol, h.bl, h.hl, hn, h.cl, h.hok⟩
  all_goals
    simp only [List.mem_cons, List.not_mem_nil, or_false] at hm
    subst hm
  · exact hnb.1.1 hg
  · exact hnb.1.2 hg
  · exact hnb.2 hg

/-- Between the regions of take: the boxes of the receiver and of the piece. -/
structure Tk (w : World) (b : Nat) (F : List Nat) (cs : Array Value) (u : World) : Prop where
  sz : w.heap.size + 2 ≤ u.heap.size
  box : u.heap[w.heap.size]? = some (.cells #[.pointer (some ⟨b, 0, none⟩)] 94)
  pk : u.heap[w.heap.size + 1]? = some (.cells cs 29)
  fr : Tm.Fr F w u

theorem Tk.fr' {w u u' : World} {b : Nat} {F G : List Nat} {cs : Array Value} (h : Tk w b F cs u) (hF : Tm.Fr G u u') (hG : ∀ x ∈ G, x ∈ F ∨ w.heap.size + 2 ≤ x) (hlt : ∀ x ∈ F, x < w.heap.size) : Tk w b F cs u' := by
  have hs := h.sz
  refine ⟨Nat.le_trans h.sz hF.size, (hF.block _ (by omega) (fun hx => ?_)).trans h.box, (hF.block _ (by omega) (fun hx => ?_)).trans h.pk, h.fr.trans' hF (fun x hx => ?_)⟩
  · rcases hG _ hx with e | e
    · have := hlt _ e; omega
    · omega
  · rcases hG _ hx with e | e
    · have := hlt _ e; omega
    · omega
  · rcases hG _ hx with e | e
    · exact .inl e
    · exact .inr (by omega)

theorem Tk.below {w u u' : World} {b : Nat} {F : List Nat} {cs : Array Value} (h : Tk w b F cs u) (hb : Below u.heap.size u u') : Tk w b F cs u' :=
  ⟨Nat.le_trans h.sz hb.size, below_keeps hb h.box (by have := h.sz; omega), below_keeps hb h.pk (by have := h.sz; omega), h.fr.trans (Tm.Fr.of_below hb F)⟩

theorem Tk.but {w u u' : World} {b : Nat} {F : List Nat} {cs : Array Value} (h : Tk w b F cs u) (hb : But b u u') (hlt : ∀ x ∈ F, x < w.heap.size) (hF : b ∈ F) : Tk w b F cs u' :=
  h.fr' (G := [b]) ⟨hb.os, hb.tape, hb.output, hb.size, fun i hi hm => hb.block i hi (by simpa using hm)⟩ (fun x hx => by simp only [List.mem_cons, List.not_mem_nil, or_false] at hx; subst hx; exact .inl hF) hlt

theorem Tk.ldBox {w u : World} {b : Nat} {F : List Nat} {cs : Array Value} (h : Tk w b F cs u) : (Instr.loadAt 94 (.pointer (some ⟨w.heap.size, 0, none⟩))).run Try.prog u = .ok (.pointer (some ⟨b, 0, none⟩)) u :=
  load1 Try.underlying94 rfl (by rw [cell_of_row _ _ _ _ _ _ h.box]; rfl)

theorem Tk.ldPk {w u : World} {b : Nat} {F : List Nat} {h : Hd} {vo vb : Value} (t : Tk w b F (pkCells h vo vb) u) : (Instr.loadAt 29 (.pointer (some ⟨w.heap.size + 1, 0, none⟩))).run Try.prog u = .ok (.agg (pkCells h vo vb)) u := pk_load t.pk
end Go.Proofs.Ytdoeebbcieiimaa

namespace Go.Proofs.Ytdoeebbcieiimaa
open Go.ChangeShapes Go.WideShapes Go.ChangeAt Go.RowKit
set_option maxHeartbeats 1000000

theorem wpAnyIn_of_seq {Fe : Fence} {m : Nat} {P : Program} {ops : Array Oper} {md : Region.Mode} {Q' : Exit → Act → World → Prop} : ∀ (l : List Oper) (k : Nat) (listed : Array Bool) (a : Act) (w : World), (∀ j, l[j]? = ops[k + j]?) →
    Region.seqB md ops l.length k listed = true → wpListIn Fe m P ops Q' l a w → wpAnyIn Fe m P md ops Q' l.length listed a w
  | [], _, _, _, _, _, hB, h => ⟨by simpa [Region.seqB] using hB, h⟩
  | o :: l, k, listed, a, w, hl, hB, h => by
    have h0 : ops[k]? = some o := by simpa using (hl 0).symm
    simp only [List.length_cons, Region.seqB, Bool.and_eq_true, decide_eq_true_eq] at hB
    refine ⟨fun h1 => (by rw [hB.1] at h1; cases h1), fun i hi => ?_⟩
    rw [hB.1] at hi
    have hik : i = k := by simpa using hi
    subst hik
    have hw : wpOpIn Fe m P ops Q' i (wpListIn Fe m P ops Q' l) a w := by unfold wpOpIn; simp only [h0]; exact h
    exact wpOpIn_mono (fun a' w' h' => wpAnyIn_of_seq l (i + 1) _ a' w' (fun j => by have := hl (j + 1); simpa [Nat.add_assoc, Nat.add_comm 1 j] using this) hB.2 h') hw

theorem wpIn_region_facts {Fe : Fence} {m : Nat} {P : Program} {id : Nat} {Q : Exit → Act → World → Prop} {a0 : Act} {W : World} {l : List Oper} (n : Nat) (dst : Nat → Tmp) (F : Nat → Value → World → Prop) (I : World → Prop) (R : Nat → World → World → Prop) (hm : P.follows .mixedOrders = true) (hB : monoB l.toArray n dst a0.tmps.size = true)
    (hI : I { W with drawn := W.drawn + 1 })
    (hF : ∀ i j v w w', i ≠ j → F i v w → I w → R j w w' → F i v w')
    (hstep : ∀ i o, i < n → l[i]? = some o → ∀ (a : Act) (w : World) (vs : Nat → Value), I w → (∀ s, (∀ j, j < n → dst j ≠ s) → a.eval (.tmp s) = a0.eval (.tmp s)) →
      (∀ e ∈ o.after, Region.binds .any e = true → e.on < n → a.eval (.tmp (dst e.on)) = vs e.on ∧ F e.on (vs e.on) w) →
      o.wpIn Fe m P a w (fun a' w' => ∃ v, a' = a.put (some (dst i)) v ∧ F i v w' ∧ I w' ∧ R i w w') Q)
    (hend : ∀ (vs : Nat → Value) (w : World), I w → (∀ i, i < n → F i (vs i) w) → wpListIn Fe m P l.toArray Q (l.drop n) (puts a0 dst vs (fun _ => true) (List.range n)) w) :
    (Code.region id l.toArray true).wpIn Fe m P Q a0 W := by
  simp only [monoB, Bool.and_eq_true, decide_eq_true_eq, List.all_eq_true, List.mem_range] at hB
  obtain ⟨⟨⟨⟨hn, hs⟩, hc⟩, hseq⟩, hall⟩ := hB
  have hinj : ∀ i, i < n → ∀ j, j < n → j ≠ i → dst j ≠ dst i := fun i hi j hj hne => by
    have := (hall i hi).2 j hj
    simp only [Bool.or_eq_true, decide_eq_true_eq] at this
    exact this.resolve_left hne
  have hop : ∀ i o, i < n → l.toArray[i]? = some o → (o.guard = none ∧ o.dst = some (dst i)) ∧ ∀ e ∈ o.after, e.on < i := fun i o hi ho => by
    have := (hall i hi).1.2
    rw [ho] at this
    simp only [Option.map_some, Option.getD_some, Bool.and_eq_true, Option.isNone_iff_eq_none, decide_eq_true_eq, Array.all_eq_true_iff_forall_mem] at this
    exact this
  refine wpIn_region_any hm ?_
  have main : ∀ (f : Nat) (listed : Array Bool) (vs : Nat → Value) (w : World), (List.range n).countP (fun j => !listed.getD j false) = f → HeadInv .any l.toArray n listed →
      I w → (∀ i, i < n → listed.getD i false = true → F i (vs i) w) →
      wpAnyIn Fe m P .any l.toArray Q (f + (l.toArray.size - n)) listed (puts a0 dst vs (fun i => listed.getD i false) (List.range n)) w := by
    intro f
    induction f with
    | zero =>
      intro listed vs w hcnt inv hb hf
      have hall2 : ∀ i, i < n → listed.getD i false = true := fun i hi => by
        have := List.countP_eq_zero.1 hcnt i (List.mem_range.2 hi)
        simpa using this
      have hcan : listed = canon l.toArray.size n := by
        apply Array.ext
        · rw [inv.size]; simp [canon]
        · intro i h1 h2
          simp only [canon, List.getElem_toArray, List.getElem_map, List.getElem_range]
          by_cases hi : i < n
          · have := hall2 i hi
            simpa [h1, hi] using this
          · have := inv.tail i (by omega) (by rw [inv.size] at h1; exact h1)
            simpa [h1, hi] using this
      have he : puts a0 dst vs (fun i => listed.getD i false) (List.range n) = puts a0 dst vs (fun _ => true) (List.range n) := puts_congr (fun i hi => ⟨hall2 i (List.mem_range.1 hi), rfl⟩)
      rw [he, hcan, Nat.zero_add]
      have hdl : (l.drop n).length = l.toArray.size - n := by simp
      have := wpAnyIn_of_seq (Fe := Fe) (m := m) (P := P) (ops := l.toArray) (md := .any) (Q' := Q) (l.drop n) n (canon l.toArray.size n) _ w (fun j => by simp [List.getElem?_drop]) (by rw [hdl]; exact hseq) (hend vs w hb (fun i hi => hf i hi (hall2 i hi)))
      rwa [hdl] at this
    | succ f ih =>
      intro listed vs w hcnt inv hb hf
      obtain ⟨i0, hi0, hu0⟩ : ∃ i, i < n ∧ listed.getD i false = false := by
        have hpos : 0 < (List.range n).countP (fun j => !listed.getD j false) := by omega
        obtain ⟨i, hi, hp⟩ := List.countP_pos_iff.1 hpos
        exact ⟨i, List.mem_range.1 hi, by simpa using hp⟩
      have hi0s : i0 < listed.size := by rw [inv.size]; omega
      have hwait := tail_waits hs hc hn inv _ i0 rfl hi0 (getD_in hi0s hu0)
      rw [show f + 1 + (l.toArray.size - n) = (f + (l.toArray.size - n)) + 1 by omega]
      refine ⟨fun h0 => ?_, fun i hi => ?_⟩
      · -- something is ready: the least that is not listed
        exfalso
        have hex : ∃ k, k < n ∧ listed.getD k false = false ∧ ∀ j, j < k → listed.getD j false = true := by
          have : ∀ m, (∃ j, j < m ∧ listed.getD j false = false) → ∃ k, k < m ∧ listed.getD k false = false ∧ ∀ j, j < k → listed.getD j false = true := by
            intro m
            induction m with
            | zero => rintro ⟨j, hj, _⟩; omega
            | succ m ihm =>
              rintro ⟨j, hj, hjf⟩
              by_cases hex : ∃ j, j < m ∧ listed.getD j false = false
              · obtain ⟨k, hk, h1, h2⟩ := ihm hex
                exact ⟨k, by omega, h1, h2⟩
              · refine ⟨m, by omega, ?_, fun j' hj' => ?_⟩
                · have : j = m := by
                    rcases Nat.lt_or_ge j m with h | h
                    · exact absurd ⟨j, h, hjf⟩ hex
                    · omega
                  rw [← this]; exact hjf
                · cases hq : listed.getD j' false with
                  | true => rfl
                  | false => exact absurd ⟨j', hj', hq⟩ hex
          exact this n ⟨i0, hi0, hu0⟩
        obtain ⟨k, hk, hku, hkl⟩ := hex
        have hks : k < l.toArray.size := by omega
        have hr : k ∈ Region.ready .any l.toArray listed := mem_ready.2 ⟨getD_in (by rw [inv.size]; exact hks) hku, _, Array.getElem?_eq_getElem hks, fun e he _ => hkl e.on ((hop k _ hk (Array.getElem?_eq_getElem hks)).2 e he)⟩
        rw [h0] at hr
        cases hr
      · have hin : i < n := by
          rcases Nat.lt_or_ge i n with h | h
          · exact h
          · exact absurd hi (hwait i h)
        obtain ⟨hun, o, ho, hdep⟩ := mem_ready.1 hi
        obtain ⟨⟨hg, hd⟩, _⟩ := hop i o hin ho
        have hiu := getD_both hun
        have his : i < listed.size := by rw [inv.size]; omega
        unfold wpOpIn
        simp only [ho, Region.wanted, hg, if_true]
        have H := hstep i o hin (by simpa using ho) (puts a0 dst vs (fun i => listed.getD i false) (List.range n)) w vs hb (fun s hs' => puts_old (fun j hj => hs' j (List.mem_range.1 hj))) (fun e he hbi hen => ⟨puts_at (by have := (hall e.on hen).1.1; simpa using this) (hdep e he hbi) (List.mem_range.2 hen) (fun j hj hne => hinj e.on hen j (List.mem_range.1 hj) hne), hf e.on hen (hdep e he hbi)⟩)
        refine Oper.wpIn_mono (fun a' w' ⟨v, ha', hfv, hiw, hbw⟩ => ?_) H
        rw [ha', puts_set (vs' := fun j => if j = i then v else vs j) (p' := fun j => (listed.setIfInBounds i true).getD j false) (List.nodup_range) (List.mem_range.2 hin) hiu (by simp [his]) (by simp) (fun j hj hne => ⟨getD_set_ne false (Ne.symm hne), by simp [hne], hinj i hin j (List.mem_range.1 hj) hne⟩)]
        refine ih _ _ w' ?_ (inv.set hi hin) hiw (fun j hj hlj => ?_)
        · have := countP_point (L := List.range n) List.nodup_range (List.mem_range.2 hin) (p := fun j => !listed.getD j false) (q := fun j => !(listed.setIfInBounds i true).getD j false) (by simp only [hiu]; rfl) (by simp [his]) (fun j _ hne => by simp only [getD_set_ne false (Ne.symm hne)])
          omega
        · by_cases hji : j = i
          · subst hji; simpa using hfv
          · simp only [hji, if_false]
            rw [getD_set_ne false (Ne.symm hji)] at hlj
            exact hF j i _ w w' hji (hf j hj hlj) hb hbw
  have inv0 : HeadInv .any l.toArray n (Array.replicate l.toArray.size false) :=
    ⟨by simp, fun j oj _ hl => (by rw [getD_replicate_false] at hl; cases hl), fun t _ ht => getD_in (by simpa using ht) (getD_replicate_false _ _)⟩
  have hcnt : (List.range n).countP (fun j => !(Array.replicate l.toArray.size false).getD j false) = n := by
    rw [List.countP_eq_length.2 (fun j _ => by rw [getD_replicate_false]; rfl), List.length_range]
  have H := main n _ (fun _ => undef) { W with drawn := W.drawn + 1 } hcnt inv0 hI (fun i _ h => by rw [getD_replicate_false] at h; cases h)
  have he : puts a0 dst (fun _ => undef) (fun i => (Array.replicate l.toArray.size false).getD i false) (List.range n) = a0 := by
    have : ∀ L : List Nat, puts a0 dst (fun _ => undef) (fun i => (Array.replicate l.toArray.size false).getD i false) L = a0 := by
      intro L
      induction L with
      | nil => rfl
      | cons x L ih =>
        simp only [puts, List.foldr_cons] at ih ⊢
        rw [getD_replicate_false, ih]
        rfl
    exact this _
  rw [he, show n + (l.toArray.size - n) = l.toArray.size by omega] at H
  exact H

/-- The steps of a drawn region inside a round, one a goal. -/
def stepsIn (Fe : Fence) (m : Nat) (P : Program) (Q : Exit → Act → World → Prop) (a0 : Act) (n : Nat) (dst : Nat → Tmp) (F : Nat → Value → World → Prop) (I : World → Prop) (R : Nat → World → World → Prop) : Nat → List Oper → Prop
  | _, [] => True
  | i, o :: rest => (∀ (a : Act) (w : World) (vs : Nat → Value), I w → (∀ s, (∀ j, j < n → dst j ≠ s) → a.eval (.tmp s) = a0.eval (.tmp s)) →
      (∀ e ∈ o.after, Region.binds .any e = true → e.on < n → a.eval (.tmp (dst e.on)) = vs e.on ∧ F e.on (vs e.on) w) →
      o.wpIn Fe m P a w (fun a' w' => ∃ v, a' = a.put (some (dst i)) v ∧ F i v w' ∧ I w' ∧ R i w w') Q) ∧ stepsIn Fe m P Q a0 n dst F I R (i + 1) rest

theorem stepsIn.at {Fe : Fence} {m : Nat} {P : Program} {Q : Exit → Act → World → Prop} {a0 : Act} {n : Nat} {dst : Nat → Tmp} {F : Nat → Value → World → Prop} {I : World → Prop} {R : Nat → World → World → Prop} : ∀ (l : List Oper) (k : Nat), stepsIn Fe m P Q a0 n dst F I R k l → ∀ (i : Nat) (o : Oper), l[i]? = some o → ∀ (a : Act) (w : World) (vs : Nat → Value), I w → (∀ s, (∀ j, j < n → dst j ≠ s) → a.eval (.tmp s) = a0.eval (.tmp s)) →
      (∀ e ∈ o.after, Region.binds .any e = true → e.on < n → a.eval (.tmp (dst e.on)) = vs e.on ∧ F e.on (vs e.on) w) →
      o.wpIn Fe m P a w (fun a' w' => ∃ v, a' = a.put (some (dst (k + i))) v ∧ F (k + i) v w' ∧ I w' ∧ R (k + i) w w') Q
  | [], _, _, i, o, h => by simp at h
  | x :: l, k, hs, 0, o, h => by
    simp only [List.getElem?_cons_zero, Option.some.injEq] at h
    subst h
    exact hs.1
  | x :: l, k, hs, i + 1, o, h => by
    have := stepsIn.at l (k + 1) hs.2 i o (by simpa using h)
    rw [show k + (i + 1) = k + 1 + i by omega]
    exact this

theorem wpIn_region_facts' {Fe : Fence} {m : Nat} {P : Program} {id : Nat} {Q : Exit → Act → World → Prop} {a0 : Act} {W : World} {l : List Oper} (n : Nat) (dst : Nat → Tmp) (F : Nat → Value → World → Prop) (I : World → Prop) (R : Nat → World → World → Prop) (hm : P.follows .mixedOrders = true) (hB : monoB l.toArray n dst a0.tmps.size = true)
    (hI : I { W with drawn := W.drawn + 1 })
    (hF : ∀ i j v w w', i ≠ j → F i v w → I w → R j w w' → F i v w')
    (hstep : stepsIn Fe m P Q a0 n dst F I R 0 (l.take n))
    (hend : ∀ (vs : Nat → Value) (w : World), I w → (∀ i, i < n → F i (vs i) w) → wpListIn Fe m P l.toArray Q (l.drop n) (puts a0 dst vs (fun _ => true) (List.range n)) w) :
    (Code.region id l.toArray true).wpIn Fe m P Q a0 W :=
  wpIn_region_facts n dst F I R hm hB hI hF (fun i o hi ho => by
    have := hstep.at _ _ i o (by rw [List.getElem?_take_of_lt hi]; exact ho)
    rwa [Nat.zero_add] at this) hend

/-- An operation of a round that yields a value. -/
theorem wpIn_val {l m : Nat} {P : Program} {o : Oper} {a : Act} {w w' : World} {K : Act → World → Prop} {Q : Exit → Act → World → Prop} {v : Value} (hnd : ∀ c, o.op ≠ .defer c) (hr : (execOp a.eval o).run P w = .ok (.value v) w') (h : K (a.put o.dst v) w') : o.wpIn (Fence.wide.inRound l) m P a w K Q := by
  refine ⟨fun _ _ => trivial, ?_⟩
  rw [Fence.inRound_round, Oper.semAt_some _ _ _ hnd, hr]
  exact h
end Go.Proofs.Ytdoeebbcieiimaa

namespace Go.Proofs.Ytdoeebbcieiimaa
open Go.ChangeShapes Go.WideShapes Go.ChangeAt Go.RowKit
set_option maxHeartbeats 2000000
set_option maxRecDepth 100000

theorem splice_idem (X P : List Nat) (off : Nat) (h : off + P.length ≤ X.length) : splice (splice X off P) off P = splice X off P := by
  have h1 : (splice X off P).take off = X.take off := by
    unfold splice
    rw [List.take_append_of_le_length (by rw [List.length_take]; omega), List.take_take, Nat.min_self]
  have h2 : (splice X off P).drop (off + P.length) = X.drop (off + P.length) := by
    unfold splice
    rw [← List.append_assoc]
    exact List.drop_left' (by rw [List.length_append, List.length_take]; omega)
  show (splice X off P).take off ++ (P ++ (splice X off P).drop (off + P.length)) = splice X off P
  rw [h1, h2]; rfl

theorem cutB_at (u : World) (g n cap off : Nat) (ho : off < n) (hc : n ≤ cap) : (Instr.sliceAt 22 (.slice (some ⟨g, 0, none⟩) n cap) (some (.int .i64 (off : Int))) none none).run Try.prog u = .ok (.slice (some ⟨g, off, none⟩) (n - off) (cap - off)) u := by
  have := cut_at g 0 n cap off off rfl (by omega) (by omega) u
  rwa [Nat.zero_add] at this

theorem copy_own (u : World) (ty : TypeId) (g n cap off : Nat) (X P : List Nat) (hX : OwnB u 0 (.slice (some ⟨g, 0, none⟩) n cap) X) (hn : n = X.length) (hoff : off + P.length ≤ n) (hP0 : 0 < P.length) (pa : Option Addr) (pn pc : Nat) (hpn : pn = P.length) (hP : SeesB u (.slice pa pn pc) P) :
    ∃ u', (Builtin.copy_ #[22, 22] ty #[.slice (some ⟨g, off, none⟩) (n - off) (cap - off), .slice pa pn pc]).run Try.prog u = .ok (.int .i64 (P.length : Int)) u' ∧ OwnB u' 0 (.slice (some ⟨g, 0, none⟩) n cap) (splice X off P) ∧ Tm.Fr [g] u u' := by
  subst hpn
  obtain ⟨g', cap', cur, hv, _, hg, h1, h2, h3, h4⟩ := hX.2.resolve_left (by rintro ⟨h, _⟩; cases h)
  simp only [Value.slice.injEq, Option.some.injEq, Addr.mk.injEq, and_true] at hv
  obtain ⟨rfl, hnn, rfl⟩ := hv
  obtain ⟨ad, rfl, hsrc⟩ := hP.src (by simpa [bs] using hP0)
  have hn' : (bs P).length = Nat.min P.length (n - off) := by
    rw [bs, List.length_map]; exact (Nat.min_eq_left (by omega)).symm
  have hfit : off + (bs P).length ≤ cur.size := by rw [bs, List.length_map]; omega
  have hr := run_copy_row (P := Try.prog) u 22 22 ty 5 g off (n - off) (cap - off) ad P.length pc cur 5 (bs P) Try.underlying22 size5 hg hn' hsrc hfit (fun v hv => by obtain ⟨y, _, rfl⟩ := List.mem_map.1 hv; rfl)
  have e : goInt (bs P).length = .int .i64 (P.length : Int) := by simp [goInt, bs]
  rw [e] at hr
  have hbl : (bs P).length = P.length := by simp [bs]
  have hxl : (bs X).length = X.length := by simp [bs]
  have hC : cur.toList = bs X ++ cur.toList.drop X.length := by
    rw [Nat.mul_one] at h4
    rw [← h4, List.take_append_drop]
  obtain ⟨T, hT⟩ : ∃ T, T = cur.toList.drop X.length := ⟨_, rfl⟩
  rw [← hT] at hC
  have hnew : cur.toList.take off ++ bs P ++ cur.toList.drop (off + (bs P).length) = splice (bs X) off (bs P) ++ T := by
    rw [hC, List.take_append_of_le_length (by omega), List.drop_append_of_le_length (by omega)]
    unfold splice
    simp only [List.append_assoc]
  have hsl : (splice (bs X) off (bs P)).length = X.length := by rw [length_splice _ _ _ (by omega), hxl]
  have hcl : cur.toList.length = cap * 1 := by rw [Array.length_toList]; exact h3
  rw [hnew] at hr
  refine ⟨_, hr, ⟨by rw [← bs_splice, hsl, length_splice _ _ _ (by omega), Nat.mul_one], .inr ⟨g, cap, _, by rw [length_splice _ _ _ (by omega), hnn], Nat.zero_le _, setRow_heap u g cur _ 5 _ hg, by rw [length_splice _ _ _ (by omega)]; exact h1, h2, ?_, ?_⟩⟩, ⟨rfl, rfl, rfl, by simp, fun k _ hk => setRow_other u g k _ (by simpa using hk)⟩⟩
  · rw [List.size_toArray, List.length_append, hsl]
    have := congrArg List.length hC
    rw [List.length_append, hxl, hcl] at this
    omega
  · rw [length_splice _ _ _ (by omega), Nat.mul_one, ← bs_splice, ← hsl]
    exact List.take_left
end Go.Proofs.Ytdoeebbcieiimaa

namespace Go.Proofs.Ytdoeebbcieiimaa
open Go.ChangeShapes Go.WideShapes Go.ChangeAt Go.RowKit
set_option maxHeartbeats 2000000
set_option maxRecDepth 100000

section
variable {P : Program} {o : Oper} {a : Act} {w : World}
theorem ex_load (T : TypeId) (p : Addr) (x : Operand) (v : Value) (ho : o.op = .load T x) (hx : a.eval x = .pointer (some p)) (hr : (Instr.loadAt T (.pointer (some p))).run P w = .ok v w) : (execOp a.eval o).run P w = .ok (.value v) w := by
  unfold execOp
  simp only [ho, hx, Sem.run_bind, hr, Result.andThen_ok, Sem.run_pure]
theorem ex_nil (p : Addr) (x : Operand) (ho : o.op = .nilCheck x) (hx : a.eval x = .pointer (some p)) : (execOp a.eval o).run P w = .ok (.value (.pointer (some p))) w := by
  unfold execOp
  simp only [ho, hx]
  rfl
theorem ex_move (x : Operand) (v : Value) (ho : o.op = .move x) (hx : a.eval x = v) : (execOp a.eval o).run P w = .ok (.value v) w := by
  unfold execOp
  simp only [ho, hx, Sem.run_pure]
theorem ex_field (T : TypeId) (p : Addr) (x : Operand) (k : Nat) (v : Value) (ho : o.op = .fieldAddr T x k) (hx : a.eval x = .pointer (some p)) (hr : (Instr.fieldAt T (.pointer (some p)) k).run P w = .ok v w) : (execOp a.eval o).run P w = .ok (.value v) w := by
  unfold execOp
  simp only [ho, hx, Sem.run_bind, hr, Result.andThen_ok, Sem.run_pure]
theorem ex_cut (T : TypeId) (x y : Operand) (s i v : Value) (ho : o.op = .slice T x (some y) none none) (hx : a.eval x = s) (hy : a.eval y = i) (hr : (Instr.sliceAt T s (some i) none none).run P w = .ok v w) : (execOp a.eval o).run P w = .ok (.value v) w := by
  unfold execOp
  simp [ho, hx, hy, hr]
theorem ex_copy (x y : Operand) (s t v : Value) (w' : World) (ho : o.op = .call { callee := .builtin .copy, args := #[x, y], argTypes := #[22, 22] }) (hx : a.eval x = s) (hy : a.eval y = t) (hr : (Builtin.copy_ #[22, 22] o.type #[s, t]).run P w = .ok v w') : (execOp a.eval o).run P w = .ok (.value v) w' := by
  unfold execOp
  simp [ho, resolve, invoke, builtin, hx, hy, hr, Result.andThen]
end

theorem field14 (b : Nat) (w : World) : (Instr.fieldAt 97 (.pointer (some ⟨b, 0, none⟩)) 5).run Try.prog w = .ok (.pointer (some ⟨b, 14, none⟩)) w := by kernel_rfl
theorem field12 (b : Nat) (w : World) : (Instr.fieldAt 97 (.pointer (some ⟨b, 0, none⟩)) 3).run Try.prog w = .ok (.pointer (some ⟨b, 12, none⟩)) w := by kernel_rfl

def tkStep (o : Nat) (B : List Nat) (d : Dg) (i : Nat) : Dg := { d with body := splice d.body (o + 8 * i) (partL B i), hv := d.hv.set ((o + 8 * i) / 8) true, cov := d.cov + partN B.length i }
def tkN (o : Nat) (B : List Nat) (d : Dg) (is : List Nat) : Dg := is.foldl (tkStep o B) d

theorem tkN_snoc (o : Nat) (B : List Nat) (d : Dg) (is : List Nat) (i : Nat) : tkN o B d (is ++ [i]) = tkStep o B (tkN o B d is) i := by simp [tkN]

theorem partL_len {B : List Nat} {i : Nat} (hi : i < stepsN B.length) : (partL B i).length = partN B.length i ∧ 0 < partN B.length i ∧ 8 * i + partN B.length i ≤ B.length := by
  unfold stepsN at hi
  unfold partL partN stepE
  rw [List.length_drop, List.length_take]
  omega

theorem tk_step (o : Nat) (B : List Nat) (d : Dg) (i : Nat) (hi : i < stepsN B.length) (hl : o + B.length ≤ d.body.length) :
    (tkStep o B d i).body.length = d.body.length ∧ (tkStep o B d i).hv.length = d.hv.length ∧ ∀ j, j ≠ i → coversL (tkStep o B d i).hv (o + 8 * j) = coversL d.hv (o + 8 * j) := by
  obtain ⟨h1, h2, h3⟩ := partL_len hi
  refine ⟨length_splice _ _ _ (by omega), List.length_set, fun j hj => ?_⟩
  have hne : (o + 8 * i) / 8 ≠ (o + 8 * j) / 8 := by omega
  simp only [tkStep, coversL, List.getD_eq_getElem?_getD, List.getElem?_set_ne hne]

theorem tkN_frame (o : Nat) (B : List Nat) : ∀ (is : List Nat) (d : Dg), (∀ i ∈ is, i < stepsN B.length) → o + B.length ≤ d.body.length →
    (tkN o B d is).body.length = d.body.length ∧ (tkN o B d is).hv.length = d.hv.length ∧ (tkN o B d is).cov = d.cov + (is.map (partN B.length)).sum ∧
    ∀ j, j ∉ is → coversL (tkN o B d is).hv (o + 8 * j) = coversL d.hv (o + 8 * j)
  | [], d, _, _ => ⟨rfl, rfl, rfl, fun _ _ => rfl⟩
  | i :: is, d, hi, hl => by
    obtain ⟨a1, a2, a3⟩ := tk_step o B d i (hi i (List.mem_cons_self ..)) hl
    obtain ⟨b1, b2, b3, b4⟩ := tkN_frame o B is (tkStep o B d i) (fun j hj => hi j (List.mem_cons_of_mem _ hj)) (by omega)
    refine ⟨b1.trans a1, b2.trans a2, ?_, fun j hj => ?_⟩
    · show (tkN o B (tkStep o B d i) is).cov = _
      rw [b3, List.map_cons, List.sum_cons]
      show d.cov + partN B.length i + _ = _
      omega
    · rw [List.mem_cons, not_or] at hj
      exact (b4 j hj.2).trans (a3 j hj.1)

theorem takeN_snoc {α : Type} {L : List α} {k : Nat} {x : α} (h : L[k]? = some x) : L.take (k + 1) = L.take k ++ [x] := by
  rw [List.take_add_one, h]; rfl

theorem newN_mono {hv : List Bool} {o nb k : Nat} : newN hv o nb k ≤ newN hv o nb (newsL hv o nb).length := by
  unfold newN
  rw [List.take_length]
  have : ((newsL hv o nb).map (partN nb)).sum = (((newsL hv o nb).take k).map (partN nb)).sum + (((newsL hv o nb).drop k).map (partN nb)).sum := by
    conv => lhs; rw [← List.take_append_drop k (newsL hv o nb), List.map_append, List.sum_append]
  omega

/-- A datagram hangs on blocks below B alone. -/
theorem DgAt.belowB {W W' : World} {b B : Nat} {d : Dg} {vo vb vh : Value} (h : DgAt W b d vo vb vh) (hb : Below B W W') (h0 : b < B) (h1 : ∀ g, vo.ownBlock = some g → g < B) (h2 : ∀ g, vb.ownBlock = some g → g < B) (h3 : ∀ g, vh.ownBlock = some g → g < B) : DgAt W' b d vo vb vh := by
  have row : ∀ {e s n : Nat} {v : Value} {xs : List Value}, W.ownsRow 0 e s v n xs → (∀ g, v.ownBlock = some g → g < B) → W'.ownsRow 0 e s v n xs := fun hr hg => by
    refine ⟨hr.1, ?_⟩
    rcases hr.2 with hn | ⟨g, cap, cur, rfl, q1, q2, q3⟩
    · exact .inl hn
    · exact .inr ⟨g, cap, cur, rfl, q1, (hb.block g (hg g rfl)).trans q2, q3⟩
  exact ⟨(hb.block b h0).trans h.blk, row h.opts h1, row h.body h2, row h.hv h3, h.ob, h.bb, h.ne, h.ol, h.bl, h.hl, h.ll, h.cl, h.hok⟩

theorem Tk.belowB {w u u' : World} {b B : Nat} {F : List Nat} {cs : Array Value} (h : Tk w b F cs u) (hb : Below B u u') (hB : w.heap.size + 2 ≤ B) : Tk w b F cs u' :=
  ⟨Nat.le_trans h.sz hb.size, (hb.block _ (by omega)).trans h.box, (hb.block _ (by omega)).trans h.pk, ⟨hb.os.trans h.fr.os, hb.tape.trans h.fr.tape, hb.output.trans h.fr.output, Nat.le_trans h.fr.size hb.size, fun i hi hn => (hb.block i (by omega)).trans (h.fr.block i hi hn)⟩⟩
end Go.Proofs.Ytdoeebbcieiimaa

namespace Go.Proofs.Ytdoeebbcieiimaa
open Go.ChangeShapes Go.WideShapes Go.ChangeAt Go.RowKit
set_option maxHeartbeats 2000000
set_option maxRecDepth 100000

theorem wpListIn_st1 {l m : Nat} {ops : Array Oper} {rest : List Oper} {o : Oper} {a : Act} {w : World} {Q : Exit → Act → World → Prop} (hgd : o.guard = none) (T : TypeId) (x y : Operand) (ho : o.op = .store T x y)
    (g i : Nat) (v : Value) (hx : a.eval x = .pointer (some ⟨g, i, none⟩)) (hy : a.eval y = v) (h1 : v.oneCell' = true)
    (t : TypeId) (cs cs' : Array Value) (hg : w.heap[g]? = some (.cells cs t (0, 0))) (hi : (Try.prog.info? T).map (·.size) = some 1)
    (hlt : i < cs.size) (hcs : cs.setIfInBounds i v = cs')
    (h : ∀ w', w'.heap[g]? = some (.cells cs' t (0, 0)) → But g w w' → wpListIn (Fence.wide.inRound l) m Try.prog ops Q rest (a.put o.dst undef) w') : wpListIn (Fence.wide.inRound l) m Try.prog ops Q (o :: rest) a w :=
  wpListIn_plain hgd fun _ hK => by
    refine ⟨fun _ _ => trivial, ?_⟩
    rw [Fence.inRound_round, Oper.semAt_some _ _ _ (by rw [ho]; intro c hc; cases hc)]
    unfold execOp
    simp only [ho, hx, hy, Instr.storeAt, Instr.sureAddr, Sem.run_bind, Sem.run_pure, Result.andThen_ok, run_storeVar_cell w g i T v cs t hg hlt hi h1]
    exact hK _ _ (h _ (by rw [set_row hg, hcs]) (But.set g i w v))

/-- A mark is set. -/
theorem OwnH.mark {u u' : World} {g n cap i : Nat} {L : List Bool} {cur : Array Value} (h : OwnH u 0 (.slice (some ⟨g, 0, none⟩) n cap) L) (hc : u.heap[g]? = some (.cells cur 4 (0, 0)))
    (hg : u'.heap[g]? = some (.cells (cur.setIfInBounds i (.bool true)) 4 (0, 0))) : OwnH u' 0 (.slice (some ⟨g, 0, none⟩) n cap) (L.set i true) := by
  obtain ⟨g', cap', cur', hv, _, hg', h1, h2, h3, h4⟩ := h.2.resolve_left (by rintro ⟨h, _⟩; cases h)
  simp only [Value.slice.injEq, Option.some.injEq, Addr.mk.injEq, and_true] at hv
  obtain ⟨rfl, hnn, rfl⟩ := hv
  rw [hc] at hg'
  cases hg'
  refine ⟨by simp [bls], .inr ⟨g, cap, _, by rw [List.length_set, hnn], Nat.zero_le _, hg, by rw [List.length_set]; exact h1, h2, by rw [Array.size_setIfInBounds]; exact h3, ?_⟩⟩
  rw [List.length_set, Array.toList_setIfInBounds, List.take_set, h4]
  simp [bls, List.map_set]

theorem OwnH.arr {u : World} {g n cap : Nat} {L : List Bool} (h : OwnH u 0 (.slice (some ⟨g, 0, none⟩) n cap) L) : ∃ cur, u.heap[g]? = some (.cells cur 4 (0, 0)) ∧ L.length ≤ cur.size ∧ n = L.length := by
  obtain ⟨g', cap', cur', hv, _, hg', h1, h2, h3, h4⟩ := h.2.resolve_left (by rintro ⟨h, _⟩; cases h)
  simp only [Value.slice.injEq, Option.some.injEq, Addr.mk.injEq, and_true] at hv
  obtain ⟨rfl, hnn, rfl⟩ := hv
  exact ⟨cur', hg', by omega, hnn⟩

theorem OwnH.some {u : World} {v : Value} {L : List Bool} (h : OwnH u 0 v L) (hL : 0 < L.length) : ∃ g cap, v = .slice (some ⟨g, 0, none⟩) L.length cap ∧ L.length ≤ cap := by
  rcases h.2 with ⟨rfl, hn⟩ | ⟨g, cap, cur, rfl, _, _, h1, _⟩
  · omega
  · exact ⟨g, cap, rfl, h1⟩

theorem OwnB.some {u : World} {v : Value} {L : List Nat} (h : OwnB u 0 v L) (hL : 0 < L.length) : ∃ g cap, v = .slice (some ⟨g, 0, none⟩) L.length cap ∧ L.length ≤ cap := by
  rcases h.2 with ⟨rfl, hn⟩ | ⟨g, cap, cur, rfl, _, _, h1, _⟩
  · omega
  · exact ⟨g, cap, rfl, h1⟩

theorem covers_app (hv : List Bool) (k j : Nat) : coversL (hv ++ List.replicate k false) j = coversL hv j := by
  unfold coversL
  rw [List.getD_eq_getElem?_getD, List.getD_eq_getElem?_getD]
  by_cases h : j / 8 < hv.length
  · rw [List.getElem?_append_left h]
  · rw [List.getElem?_append_right (by omega), List.getElem?_eq_none (l := hv) (by omega), List.getElem?_replicate]
    split <;> rfl

theorem news_reach (d : Dg) (e o n : Nat) : newsL ((d.reachB e).reachH e).hv o n = newsL d.hv o n := by
  unfold newsL
  congr 1
  funext i
  show (!coversL (d.hv ++ _) _) = _
  rw [covers_app]

theorem reach_len (d : Dg) (e : Nat) : e ≤ ((d.reachB e).reachH e).body.length ∧ stepsN e ≤ ((d.reachB e).reachH e).hv.length := by
  simp only [Dg.reachB, Dg.reachH, List.length_append, List.length_replicate]
  omega

def F7 (b gb nb6 cb6 L pn : Nat) (X1 : List Nat) (cov : Nat) (pv : Value) (i : Nat) (v : Value) (u : World) : Prop := match i with
  | 2 => v = .pointer (some ⟨b, 14, none⟩)
  | 3 => v = .int .i64 (cov : Int)
  | 6 => v = .pointer (some ⟨b, 12, none⟩)
  | 7 => v = .slice (some ⟨gb, 0, none⟩) nb6 cb6
  | 8 => v = .int .i64 (L : Int)
  | 9 => v = .slice (some ⟨gb, L, none⟩) (nb6 - L) (cb6 - L)
  | 10 => v = pv
  | 11 => v = .int .i64 (pn : Int) ∧ OwnB u 0 (.slice (some ⟨gb, 0, none⟩) nb6 cb6) X1
  | _ => v = .pointer (some ⟨b, 0, none⟩)

theorem F7_keeps {b gb nb6 cb6 L pn : Nat} {X1 : List Nat} {cov : Nat} {pv : Value} (i : Nat) (v : Value) (u u' : World) (hf : F7 b gb nb6 cb6 L pn X1 cov pv i v u) (h : i = 11 → u' = u) : F7 b gb nb6 cb6 L pn X1 cov pv i v u' := by
  by_cases hi : i = 11
  · rw [h hi]; exact hf
  · unfold F7 at hf ⊢
    split
    all_goals first | exact absurd rfl hi | skip
    all_goals simp_all
end Go.Proofs.Ytdoeebbcieiimaa

namespace Go.Proofs.Ytdoeebbcieiimaa
open Go.ChangeShapes Go.WideShapes Go.ChangeAt Go.RowKit Go.Shelf
attribute [local go_sem] Oper.semAt_some
set_option maxHeartbeats 4000000
set_option maxRecDepth 100000

def F2 (b : Nat) (h : Hd) (vo vb : Value) (L : Nat) (i : Nat) (v : Value) (_ : World) : Prop := match i with
  | 2 => v = .agg (pkCells h vo vb)
  | 3 => v = .int .i64 (L : Int)
  | _ => v = .pointer (some ⟨b, 0, none⟩)

def F3 (b : Nat) (h : Hd) (vo vb : Value) (e : Nat) (i : Nat) (v : Value) (_ : World) : Prop := match i with
  | 1 => v = .agg (pkCells h vo vb)
  | 2 => v = .int .i64 (e : Int)
  | _ => v = .pointer (some ⟨b, 0, none⟩)

/-- What take makes of a datagram. -/
def takeD (d : Dg) (h : Hd) (o : Nat) (B : List Nat) : Dg :=
  tkN o B ((({ d with h := headW d h, len := (lenW d h B.length).toNat } : Dg).reachB (o + B.length)).reachH (o + B.length)) (newsL d.hv o B.length)

theorem take_any (b : Nat) (d : Dg) (do_ db dh : Value) (h : Hd) (vo vb : Value) (B : List Nat) (o : Nat) (w : World) (hd : DgAt w b d do_ db dh) (hvo : SeesB w vo h.opts) (hvb : ∀ u, Tm.Fr (b :: (blkL db ++ blkL dh)) w u → SeesB u vb B) (ho : h.off = (o : Int)) (he : o + B.length ≤ 65535) (hol : h.opts.length ≤ 40) (hok : h.Ok) (hcv : d.cov + newN d.hv o B.length (newsL d.hv o B.length).length ≤ 65535) :
    Calls Try.prog 43 #[.pointer (some ⟨b, 0, none⟩), .agg (pkCells h vo vb)] w fun e w' => e = .returned (.tuple #[]) ∧ ∃ V vb' vh', DgAt w' b (takeD d h o B) V vb' vh' ∧ Tm.Fr (b :: (blkL db ++ blkL dh)) w w' ∧ (∀ g, V.ownBlock = some g → w.heap.size ≤ g) ∧ NewBlk db vb' w.heap.size ∧ NewBlk dh vh' w.heap.size := by
  obtain ⟨ab, nB, cb, hvs, HNB, _, _⟩ := (hvb w (Tm.Fr.refl _ _)).shape
  obtain ⟨F, hF⟩ : ∃ F, F = b :: (blkL db ++ blkL dh) := ⟨_, rfl⟩
  have hbF : b ∈ F := by rw [hF]; exact List.mem_cons_self ..
  have hltF : ∀ x ∈ F, x < w.heap.size := fun x hx => by
    rw [hF] at hx
    simp only [List.mem_cons, List.mem_append, mem_blkL] at hx
    rcases hx with rfl | hx | hx
    · exact (Array.getElem?_eq_some_iff.1 hd.blk).1
    · exact blk_lt hd.body hx
    · exact blk_lt hd.hv hx
  rw [← hF] at hvb
  obtain ⟨w1, hw1⟩ : ∃ w1, w1 = (w.alloc (.cells #[.pointer (some ⟨b, 0, none⟩)] 94)).alloc (.cells (pkCells h vo vb) 29) := ⟨_, rfl⟩
  have hs1 : w1.heap.size = w.heap.size + 2 := by rw [hw1]; simp
  have hb1 : Below w.heap.size w w1 := by rw [hw1]; exact ((Below.refl _ _).alloc (Nat.le_refl _) _).alloc (by simp) _
  have hk0 : w1.heap[w.heap.size]? = some (.cells #[.pointer (some ⟨b, 0, none⟩)] 94) := by
    have h1 : Below (w.heap.size + 1) (w.alloc (.cells #[.pointer (some ⟨b, 0, none⟩)] 94)) w1 := by rw [hw1]; exact (Below.refl _ _).alloc (by simp) _
    rw [h1.block _ (by omega)]
    exact heap_alloc_new w _
  have hk1 : w1.heap[w.heap.size + 1]? = some (.cells (pkCells h vo vb) 29) := by
    have := heap_alloc_new (w.alloc (.cells #[.pointer (some ⟨b, 0, none⟩)] 94)) (.cells (pkCells h vo vb) 29)
    rw [World.size_alloc] at this
    rw [hw1]; exact this
  have HT1 : Hid (Tk w b F (pkCells h vo vb) w1) := ⟨by omega, hk0, hk1, Tm.Fr.of_below hb1 F⟩
  have HD1 := hid (hd.below hb1)
  have HVO := hid (hvo.below hb1)
  have HVB := hid hvb
  have HW1 := hid hw1
  have HS1 := hid hs1
  have HOL := hid (headW_opts hd h hol)
  have HOB := hid (headW_bytes hd.ob hvo.bytes)
  have HOK := hid (headW_ok hd.hok hok)
  have HNE : Hid (∀ g, db.ownBlock = some g → g < w.heap.size) := fun g hg => blk_lt hd.body hg
  have HBF := hid hbF
  have HLT := hid hltF
  have HF := hid hF
  have hll := hd.ll
  obtain ⟨cs, hcs⟩ : ∃ cs, cs = pkCells h vo vb := ⟨_, rfl⟩
  have HCS := hid hcs
  rw [← hcs] at HW1 ⊢
  clear hw1 hs1 hb1 hk0 hk1 hd hvo hvb hcs hbF hltF hF hok
  refine (callsIn_wide (n := 9)).1 ?_
  refine callsIn_of_wp_marks Try.func43 rfl trivial ?_ rfl
  refine wpIn_wide.2 ?_
  simp only [Try.ntmps43, List.size_toArray, List.length_cons, List.length_nil, Nat.reduceAdd, Nat.reduceSub, Array.replicate_succ, Array.replicate_zero, List.push_toArray, List.append_toArray, List.nil_append, List.cons_append]
  go_upto_region 1 with fail
  rw [← HW1.out]
  refine wp_region_mono' 5 (fun i => 6 + i) (F1 b w.heap.size d h vo vb) (by kernel_rfl) (by kernel_rfl) F1_keeps ?_ ?_
  · simp only [List.take_succ_cons, List.take_zero, stepsOk]
    refine ⟨?_, ?_, ?_, ?_, ?_, trivial⟩
    · intro a u vs hb hold hdep
      exact wp_load 94 ⟨w.heap.size, 0, none⟩ (.tmp 2) _ rfl (hold 2 (fun j _ => low (by decide))) (HT1.out.below hb).ldBox ⟨_, rfl, rfl, hb, Below.refl _ _⟩
    · intro a u vs hb hold hdep
      exact wp_load 94 ⟨w.heap.size, 0, none⟩ (.tmp 2) _ rfl (hold 2 (fun j _ => low (by decide))) (HT1.out.below hb).ldBox ⟨_, rfl, rfl, hb, Below.refl _ _⟩
    · intro a u vs hb hold hdep
      exact wp_load 29 ⟨w.heap.size + 1, 0, none⟩ (.tmp 3) _ rfl (hold 3 (fun j _ => low (by decide))) (HT1.out.below hb).ldPk ⟨_, rfl, rfl, hb, Below.refl _ _⟩
    · intro a u vs hb hold hdep
      have h1 := hdep ⟨1, .data⟩ (by simp) rfl (by decide)
      have h2 := hdep ⟨2, .data⟩ (by simp) rfl (by decide)
      have e1 : a.eval (.tmp 7) = .pointer (some ⟨b, 0, none⟩) := h1.1.trans h1.2
      have e2 : a.eval (.tmp 8) = .agg (pkCells h vo vb) := h2.1.trans h2.2
      refine wp_call 67 _ _ rfl (enters_of Try.func67 (by kernel_rfl) rfl) #[.pointer (some ⟨b, 0, none⟩), .agg (pkCells h vo vb)] (by simp [e1, e2]) ?_
      refine (headWith_any b d do_ db dh h vo vb u (HD1.out.below hb) (HVO.out.below hb)).mono ?_
      rintro _ u' ⟨V, rfl, hs, hb'⟩
      exact ⟨_, rfl, _, rfl, ⟨V, rfl, hs⟩, hb.trans (hb'.mono hb.size), hb'⟩
    · intro a u vs hb hold hdep
      have h1 := hdep ⟨3, .data⟩ (by simp) rfl (by decide)
      obtain ⟨V, e0, hs⟩ := h1.2
      have e1 : a.eval (.tmp 9) = .agg (hdCells (headW d h) V) := h1.1.trans e0
      refine wp_call 62 _ _ rfl (enters_of Try.func62 (by kernel_rfl) rfl) #[.agg (hdCells (headW d h) V)] (by simp [e1]) ?_
      refine (freshHead_any (headW d h) V u hs (by have := HOL.out; omega)).mono ?_
      rintro _ u' ⟨V', rfl, ho', hb'⟩
      exact ⟨_, rfl, _, rfl, ⟨V', rfl, OwnB.mono ho' (by have := hb.size; have := HS1.out; omega)⟩, hb.trans (hb'.mono hb.size), hb'⟩
  intro vs u hb hF
  have e0 : vs 0 = .pointer (some ⟨b, 0, none⟩) := hF 0 (by decide)
  have e1 : vs 1 = .pointer (some ⟨b, 0, none⟩) := hF 1 (by decide)
  have e2 : vs 2 = .agg (pkCells h vo vb) := hF 2 (by decide)
  obtain ⟨V3, e3, _⟩ := hF 3 (by decide)
  obtain ⟨V, e4, hV⟩ := hF 4 (by decide)
  rw [← HCS.out] at e2
  obtain ⟨aV, cV, rfl⟩ := hV.shape
  simp only [List.drop_succ_cons, List.drop_zero, puts, List.range, List.range.loop, List.foldr, if_true, Act.put, e0, e1, e2, e3, e4, Nat.reduceAdd, List.setIfInBounds_toArray, List.set_cons_succ, List.set_cons_zero]
  clear e0 e1 e2 e3 e4 hF
  have HTU := hid (HT1.out.below hb)
  have HDU := hid (HD1.out.below hb)
  have HV := hid hV
  have HVN : Hid (∀ g, (Value.slice aV (headW d h).opts.length cV).ownBlock = some g → w.heap.size ≤ g) := fun g hg => (World.ownsRow.lt hV g hg).1
  clear hb hV
  obtain ⟨nV, hnV⟩ : ∃ nV, nV = (headW d h).opts.length := ⟨_, rfl⟩
  rw [← hnV] at HV HVN ⊢
  obtain ⟨c9, hc9⟩ : ∃ c9, c9 = Value.agg (hdCells (headW d h) V3) := ⟨_, rfl⟩
  rw [← hc9]
  clear hc9 hnV
  go_wp2_with (first | (refine wpList_stD rfl (.tmp 12) (.tmp 10) rfl b (headW d h) aV nV cV rfl rfl 97 d do_ db dh HDU.out.blk ?_) | fail)
  intro u2 hk2 hbut2
  have HT2 := hid (HTU.out.but hbut2 HLT.out HBF.out)
  have HD2 := hid (HDU.out.setHead HV.out HNE.out hbut2 hk2 HOL.out HOB.out HOK.out)
  clear hk2 hbut2
  obtain ⟨c10, hc10⟩ : ∃ c10, c10 = Value.agg (hdCells (headW d h) (.slice aV nV cV)) := ⟨_, rfl⟩
  obtain ⟨V, hV⟩ : ∃ V, V = Value.slice aV nV cV := ⟨_, rfl⟩
  rw [← hV] at HD2 HVN
  obtain ⟨d2, hd2⟩ : ∃ d2 : Dg, d2 = { d with h := headW d h } := ⟨_, rfl⟩
  rw [← hd2] at HD2
  have HD2E := hid hd2
  obtain ⟨L, hL⟩ : ∃ L : Nat, (L : Int) = lenW d h nB := ⟨(lenW d h nB).toNat, by
    have : 0 ≤ lenW d h nB := by unfold lenW; split <;> omega
    omega⟩
  have hLle : L ≤ 65535 := by have := HNB.out; unfold lenW at hL; split at hL <;> omega
  have HL := hid hL
  go_upto_region 2 with fail
  rw [← hc10]
  clear hc10 hV hd2 hL hll
  refine wp_region_mono' 4 (fun i => 13 + i) (F2 b h vo vb L) (by kernel_rfl) (by kernel_rfl) (fun i v u u' hf _ => hf) ?_ ?_
  · simp only [List.take_succ_cons, List.take_zero, stepsOk]
    refine ⟨?_, ?_, ?_, ?_, trivial⟩
    · intro a u vs hb hold hdep
      exact wp_load 94 ⟨w.heap.size, 0, none⟩ (.tmp 2) _ rfl (hold 2 (fun j _ => low (by decide))) (HT2.out.below hb).ldBox ⟨_, rfl, rfl, hb, Below.refl _ _⟩
    · intro a u vs hb hold hdep
      exact wp_load 94 ⟨w.heap.size, 0, none⟩ (.tmp 2) _ rfl (hold 2 (fun j _ => low (by decide))) (HT2.out.below hb).ldBox ⟨_, rfl, rfl, hb, Below.refl _ _⟩
    · intro a u vs hb hold hdep
      exact wp_load 29 ⟨w.heap.size + 1, 0, none⟩ (.tmp 3) _ rfl (hold 3 (fun j _ => low (by decide))) (HT2.out.below hb).ldPk ⟨_, rfl, rfl, hb, Below.refl _ _⟩
    · intro a u vs hb hold hdep
      have h1 := hdep ⟨1, .data⟩ (by simp) rfl (by decide)
      have h2 := hdep ⟨2, .data⟩ (by simp) rfl (by decide)
      have e1 : a.eval (.tmp 14) = .pointer (some ⟨b, 0, none⟩) := h1.1.trans h1.2
      have e2 : a.eval (.tmp 15) = .agg (pkCells h vo vb) := h2.1.trans h2.2
      refine wp_call 66 _ _ rfl (enters_of Try.func66 (by kernel_rfl) rfl) #[.pointer (some ⟨b, 0, none⟩), .agg (pkCells h vo vb)] (by simp [e1, e2]) ?_
      have hl0 : 0 ≤ h.off ∧ h.off ≤ 65535 ∧ B.length ≤ 65535 := ⟨by omega, by omega, by omega⟩
      refine (lengthWith_any b d2 V db dh h vo vb B u (HD2.out.below hb) (HVB.out u (HT2.out.below hb).fr) hl0.1 hl0.2.1 hl0.2.2).mono ?_
      rintro _ u' ⟨rfl, hb'⟩
      refine ⟨_, rfl, _, rfl, ?_, hb.trans (hb'.mono hb.size), hb'⟩
      show Value.int .i64 (lenW d2 h B.length) = .int .i64 (L : Int)
      rw [HL.out, HNB.out, HD2E.out]; rfl
  intro vs u3 hb hF
  have e0 : vs 0 = .pointer (some ⟨b, 0, none⟩) := hF 0 (by decide)
  have e1 : vs 1 = .pointer (some ⟨b, 0, none⟩) := hF 1 (by decide)
  have e2 : vs 2 = .agg (pkCells h vo vb) := hF 2 (by decide)
  have e3 : vs 3 = .int .i64 (L : Int) := hF 3 (by decide)
  rw [← HCS.out] at e2
  simp only [List.drop_succ_cons, List.drop_zero, puts, List.range, List.range.loop, List.foldr, if_true, Act.put, e0, e1, e2, e3, Nat.reduceAdd, List.setIfInBounds_toArray, List.set_cons_succ, List.set_cons_zero]
  clear e0 e1 e2 e3 hF
  have HT3 := hid (HT2.out.below hb)
  have HD3 := hid (HD2.out.below hb)
  clear hb
  go_wp2_with (first | (refine wpList_st1 rfl 3 (.tmp 18) (.tmp 16) rfl b 11 (.int .i64 (L : Int)) rfl rfl rfl 97 _ (dgCells { d2 with len := L } V db dh) HD3.out.blk size3 (by show 11 < 15; decide) rfl ?_) | fail)
  intro u4 hk4 hbut4
  have HT4 := hid (HT3.out.but hbut4 HLT.out HBF.out)
  have hD4 := HD3.out.setLen hbut4 hk4 hLle
  obtain ⟨d4, hd4⟩ : ∃ d4 : Dg, d4 = { d2 with len := L } := ⟨_, rfl⟩
  rw [← hd4] at hD4
  have HD4 := hid hD4
  have HD4E := hid hd4
  have HCI := hid (show h.off + (B.length : Int) = ((o + nB : Nat) : Int) by rw [ho, HNB.out]; omega)
  have hE : o + nB ≤ 65535 := by rw [HNB.out]; exact he
  clear hk4 hbut4 hD4 hd4
  go_upto_region 3 with fail
  refine wp_region_mono' 3 (fun i => 19 + i) (F3 b h vo vb (o + nB)) (by kernel_rfl) (by kernel_rfl) (fun i v u u' hf _ => hf) ?_ ?_
  · simp only [List.take_succ_cons, List.take_zero, stepsOk]
    refine ⟨?_, ?_, ?_, trivial⟩
    · intro a u vs hb hold hdep
      exact wp_load 94 ⟨w.heap.size, 0, none⟩ (.tmp 2) _ rfl (hold 2 (fun j _ => low (by decide))) (HT4.out.below hb).ldBox ⟨_, rfl, rfl, hb, Below.refl _ _⟩
    · intro a u vs hb hold hdep
      exact wp_load 29 ⟨w.heap.size + 1, 0, none⟩ (.tmp 3) _ rfl (hold 3 (fun j _ => low (by decide))) (HT4.out.below hb).ldPk ⟨_, rfl, rfl, hb, Below.refl _ _⟩
    · intro a u vs hb hold hdep
      have h2 := hdep ⟨1, .data⟩ (by simp) rfl (by decide)
      have e2 : a.eval (.tmp 20) = .agg (pkCells h vo vb) := h2.1.trans h2.2
      refine wp_call 64 _ _ rfl (enters_of Try.func64 (by kernel_rfl) rfl) #[.agg (pkCells h vo vb)] (by simp [e2]) ?_
      have hl0 : 0 ≤ h.off ∧ h.off ≤ 65535 ∧ B.length ≤ 65535 := ⟨by omega, by omega, by omega⟩
      refine (endOf_any h vo vb B u (HVB.out u (HT4.out.below hb).fr) hl0.1 hl0.2.1 hl0.2.2).mono ?_
      rintro _ u' ⟨rfl, hb'⟩
      refine ⟨_, rfl, _, rfl, ?_, hb.trans (hb'.mono hb.size), hb'⟩
      show Value.int .i64 (h.off + (B.length : Int)) = .int .i64 ((o + nB : Nat) : Int)
      rw [HCI.out]
  intro vs u5 hb hF
  have e0 : vs 0 = .pointer (some ⟨b, 0, none⟩) := hF 0 (by decide)
  have e2 : vs 1 = .agg (pkCells h vo vb) := hF 1 (by decide)
  have e3 : vs 2 = .int .i64 ((o + nB : Nat) : Int) := hF 2 (by decide)
  rw [← HCS.out] at e2
  simp only [List.drop_succ_cons, List.drop_zero, puts, List.range, List.range.loop, List.foldr, if_true, Act.put, e0, e2, e3, Nat.reduceAdd, List.setIfInBounds_toArray, List.set_cons_succ, List.set_cons_zero]
  clear e0 e2 e3 hF
  have HT5 := hid (HT4.out.below hb)
  have HRE := hid (reach_any b d4 V db dh (o + nB) u5 (HD4.out.below hb) hE)
  obtain ⟨en, hen⟩ : ∃ en : Int, en = ((o + nB : Nat) : Int) := ⟨_, rfl⟩
  rw [← hen] at HRE ⊢
  clear hb hen
  go_wp2_with fail
  refine HRE.out.mono ?_
  rintro _ u6 ⟨rfl, vb6, vh6, hD6, hF6, hN6, hM6⟩
  have HT6 := hid (HT5.out.fr' hF6 (fun x hx => .inl (by rw [HF.out]; exact hx)) HLT.out)
  obtain ⟨d5, hd5⟩ : ∃ d5, d5 = (d4.reachB (o + nB)).reachH (o + nB) := ⟨_, rfl⟩
  rw [← hd5] at hD6
  have HD6 := hid hD6
  have HD5E := hid hd5
  have HN6 := hid hN6
  have HM6 := hid hM6
  have HU5 := hid hF6.size
  have HSU5 := hid HT5.out.sz
  have HVBX := hid hvs
  clear hD6 hF6 hN6 hM6 HRE HT1 HD1 HVO HTU HDU HT2 HD2 HT3 HD3 HT4 HD4 HT5 hd5 hvs
  have cbx : u6.cell? ⟨w.heap.size, 0, none⟩ = some (.pointer (some ⟨b, 0, none⟩)) := by rw [cell_of_row _ _ _ _ _ _ HT6.out.box]; rfl
  have HLP := hid HT6.out.ldPk
  have HNW := hid (news_any b h vo vb u6)
  rw [← HCS.out] at HLP HNW
  go_wp2_with (first | (refine wpList_ld 29 ⟨w.heap.size + 1, 0, none⟩ (.tmp 3) rfl rfl HLP.out rfl ?_) | fail)
  refine HNW.out.mono ?_
  rintro _ u8 ⟨rfl, hu8⟩
  have HS8 : Hid (u8.heap.size = u6.heap.size + 2) := by unfold Hid; rw [hu8]; simp
  have hb8 : Below u6.heap.size u6 u8 := by rw [hu8]; exact ((Below.refl _ _).alloc (Nat.le_refl _) _).alloc (by simp) _
  have HK8 : Hid (u8.heap[u6.heap.size]? = some (.cells #[.pointer (some ⟨b, 0, none⟩)] 94) ∧ u8.heap[u6.heap.size + 1]? = some (.cells cs 29)) := by
    refine ⟨?_, ?_⟩
    · have h1 : Below (u6.heap.size + 1) (u6.alloc (.cells #[.pointer (some ⟨b, 0, none⟩)] 94)) u8 := by rw [hu8]; exact (Below.refl _ _).alloc (by simp) _
      rw [h1.block _ (by omega)]
      exact heap_alloc_new u6 _
    · have := heap_alloc_new (u6.alloc (.cells #[.pointer (some ⟨b, 0, none⟩)] 94)) (.cells cs 29)
      rw [World.size_alloc] at this
      rw [hu8]; exact this
  have HT8 := hid (HT6.out.below hb8)
  have HD8 := hid (HD6.out.below hb8)
  have HBB : Hid (b < u6.heap.size ∧ (∀ g, V.ownBlock = some g → g < u6.heap.size) ∧ (∀ g, vb6.ownBlock = some g → g < u6.heap.size) ∧ (∀ g, vh6.ownBlock = some g → g < u6.heap.size)) :=
    ⟨(Array.getElem?_eq_some_iff.1 HD6.out.blk).1, fun g hg => blk_lt HD6.out.opts hg, fun g hg => blk_lt HD6.out.body hg, fun g hg => blk_lt HD6.out.hv hg⟩
  have HG : Hid (∀ x ∈ b :: (blkL vb6 ++ blkL vh6), x ∈ F ∨ w.heap.size + 2 ≤ x) := fun x hx => by
    simp only [List.mem_cons, List.mem_append, mem_blkL] at hx
    have hsz := HU5.out
    rcases hx with rfl | hx | hx
    · exact .inl HBF.out
    · rcases HN6.out with e | ⟨g, e, hg⟩
      · rw [e] at hx; exact .inl (by rw [HF.out]; simp only [List.mem_cons, List.mem_append, mem_blkL]; exact .inr (.inl hx))
      · rw [e] at hx; cases hx; exact .inr (by have := HSU5.out; omega)
    · rcases HM6.out with e | ⟨g, e, hg⟩
      · rw [e] at hx; exact .inl (by rw [HF.out]; simp only [List.mem_cons, List.mem_append, mem_blkL]; exact .inr (.inr hx))
      · rw [e] at hx; cases hx; exact .inr (by have := HSU5.out; omega)
  have HGL : Hid (∀ x ∈ b :: (blkL vb6 ++ blkL vh6), x < u6.heap.size) := fun x hx => by
    simp only [List.mem_cons, List.mem_append, mem_blkL] at hx
    rcases hx with rfl | hx | hx
    · exact HBB.out.1
    · exact HBB.out.2.2.1 x hx
    · exact HBB.out.2.2.2 x hx
  have hsw6 : w.heap.size + 2 ≤ u6.heap.size := HT6.out.sz
  have HLEN : Hid (o + nB ≤ d5.body.length ∧ stepsN (o + nB) ≤ d5.hv.length) := by unfold Hid; rw [HD5E.out]; exact reach_len d4 _
  clear hu8 cbx HLP HNW hb8 HT6 HD6
  obtain ⟨S, hS⟩ : ∃ S, S = newsL d5.hv o nB := ⟨_, rfl⟩
  have HSE := hid hS
  have HSM : Hid (∀ i ∈ S, i < stepsN B.length) := fun i hi => by
    rw [hS, HNB.out] at hi
    exact List.mem_range.1 (List.mem_filter.1 hi).1
  have HCOV : Hid (∀ k, d5.cov + ((S.take k).map (partN B.length)).sum ≤ 65535) := fun k => by
    have e1 : newsL d5.hv o nB = newsL d.hv o B.length := by
      rw [HD5E.out, HNB.out, news_reach, HD4E.out, HD2E.out]
    have e2 : d5.cov = d.cov := by rw [HD5E.out]; show d4.cov = _; rw [HD4E.out, HD2E.out]
    have h1 := newN_mono (hv := d.hv) (o := o) (nb := B.length) (k := k)
    rw [hS, e1, e2]
    unfold newN at h1 hcv
    omega
  clear hS hcv
  go_wp2_with fail
  refine wpIn_wide.1 (wpIn_gives (n := 9) (F := Fence.wide) rfl (by omega) (gf := 91) (lb := #[.pointer (some ⟨u6.heap.size + 1, 0, none⟩), .pointer (some ⟨u6.heap.size, 0, none⟩)]) rfl trivial (enters_of Try.func91 (by kernel_rfl) rfl)
    (news_gives 8 (by omega) o (u6.heap.size + 1) u6.heap.size b h vo ab nB cb B u8 d5.hv (by have := HVB.out u8 HT8.out.fr; rwa [HVBX.out] at this) ho (by omega) (by have := HNB.out; omega)) (fun _ => rfl)
    (fun k W => u6.heap.size + 2 ≤ W.heap.size ∧ Tk w b F (pkCells h vo vb) W ∧ W.heap[u6.heap.size]? = some (.cells #[.pointer (some ⟨b, 0, none⟩)] 94) ∧ W.heap[u6.heap.size + 1]? = some (.cells cs 29) ∧ DgAt W b (tkN o B d5 (S.take k)) V vb6 vh6) ?hI ?hF ?h0
    (fun i => { tmps := #[.pointer (some ⟨b, 0, none⟩), .agg cs, .pointer (some ⟨w.heap.size, 0, none⟩), .pointer (some ⟨w.heap.size + 1, 0, none⟩), .int .i64 ((o : Int) + ((8 * i : Nat) : Int)), partV ab nB cb i, .pointer (some ⟨b, 0, none⟩), .pointer (some ⟨b, 0, none⟩), .agg cs, c9, c10, .pointer (some ⟨b, 0, none⟩), .pointer (some ⟨b, 1, none⟩), .pointer (some ⟨b, 0, none⟩), .pointer (some ⟨b, 0, none⟩), .agg cs, .int .i64 (L : Int), .pointer (some ⟨b, 0, none⟩), .pointer (some ⟨b, 11, none⟩), .pointer (some ⟨b, 0, none⟩), .agg cs, .int .i64 en, .tuple #[], .pointer (some ⟨b, 0, none⟩), .agg cs, .func (.func 91) #[] #[.pointer (some ⟨u6.heap.size + 1, 0, none⟩), .pointer (some ⟨u6.heap.size, 0, none⟩)], .int .i64 ((o : Int) + ((8 * i : Nat) : Int)), partV ab nB cb i, undef, undef, undef, undef, undef, undef, undef, undef, undef, undef, undef, undef, undef, undef, undef, undef, undef, undef, undef, undef, undef, undef], defers := [] }) ?assign ?body ?done)
  case hI =>
    rw [HS8.out]
    refine ownFrom_below' (fun k W hi => hi.1) ?_
    rintro k W W' ⟨i1, i2, i3, i4, i5⟩ hb
    obtain ⟨q0, q1, q2, q3⟩ := HBB.out
    exact ⟨Nat.le_trans i1 hb.size, i2.belowB hb (by omega), below_keeps hb i3 (by omega), below_keeps hb i4 (by omega), i5.belowB hb (by omega) (fun g hg => by have := q1 g hg; omega) (fun g hg => by have := q2 g hg; omega) (fun g hg => by have := q3 g hg; omega)⟩
  case hF =>
    rintro k W ⟨i1, i2, i3, i4, i5⟩
    refine ⟨by rw [← HVBX.out, ← HCS.out]; exact i4, by rw [cell_of_row _ _ _ _ _ _ i3]; rfl, _, _, _, _, i5, fun i hi hn => ?_⟩
    rw [← HSE.out] at hn
    exact (tkN_frame o B (S.take k) d5 (fun j hj => HSM.out j (List.mem_of_mem_take hj)) (by have := HLEN.out.1; have := HNB.out; omega)).2.2.2 i hn
  case h0 =>
    obtain ⟨k1, k2⟩ := HK8.out
    exact ⟨by have := HS8.out; omega, HT8.out, k1, k2, by rw [List.take_zero]; exact HD8.out⟩
  case assign =>
    intro l x W K hK
    gi_wp2
    exact hK
  case body =>
    rintro l k x W ⟨i1, i2, i3, i4, i5⟩ hx
    rw [← HSE.out] at hx
    have hxm : x < stepsN B.length := HSM.out x (List.mem_of_getElem? hx)
    obtain ⟨p1, p2, p3⟩ := partL_len hxm
    obtain ⟨f1, f2, f3, _⟩ := tkN_frame o B (S.take k) d5 (fun j hj => HSM.out j (List.mem_of_mem_take hj)) (by have := HLEN.out.1; have := HNB.out; omega)
    have hcov := HCOV.out (k + 1)
    rw [takeN_snoc hx, List.map_append, List.sum_append] at hcov
    simp only [List.map_cons, List.map_nil, List.sum_cons, List.sum_nil] at hcov
    have HNX : Hid (tkN o B d5 (S.take (k + 1)) = tkStep o B (tkN o B d5 (S.take k)) x) := by unfold Hid; rw [takeN_snoc hx, tkN_snoc]
    obtain ⟨dk, hdk⟩ : ∃ dk, dk = tkN o B d5 (S.take k) := ⟨_, rfl⟩
    rw [← hdk] at i5 HNX f1 f2 f3
    have hlen := HLEN.out
    have hnb := HNB.out
    obtain ⟨gb, cb6, hvb6, hcb6⟩ := i5.body.some (by omega)
    obtain ⟨gh, ch6, hvh6, hch6⟩ := i5.hv.some (by unfold stepsN at hlen hxm; omega)
    obtain ⟨n6, hn6⟩ : ∃ n6, n6 = dk.body.length := ⟨_, rfl⟩
    obtain ⟨nh, hnh⟩ : ∃ nh, nh = dk.hv.length := ⟨_, rfl⟩
    rw [← hn6] at hvb6 hcb6
    rw [← hnh] at hvh6 hch6
    obtain ⟨at_, hat⟩ : ∃ at_ : Nat, at_ = o + 8 * x := ⟨_, rfl⟩
    obtain ⟨pn, hpn⟩ : ∃ pn, pn = partN B.length x := ⟨_, rfl⟩
    have hfit : at_ + pn ≤ n6 := by omega
    have hpv : partV ab nB cb x = .slice (partA ab cb x) pn (cb - 8 * x) := by unfold partV; rw [hpn, hnb]; rfl
    have HPV := hid hpv
    have HI2 := hid i2
    have HI5 := hid i5
    have HI1 := hid i1
    have HI3 := hid i3
    have HI4 := hid i4
    have HVB6 := hid hvb6
    have HVH6 := hid hvh6
    have hidx : at_ / 8 < nh := by unfold stepsN at hlen; omega
    have hatI : ((o : Int) + ((8 * x : Nat) : Int)) = (at_ : Int) := by omega
    rw [hatI]
    obtain ⟨X1, hX1⟩ : ∃ X1, X1 = splice dk.body at_ (partL B x) := ⟨_, rfl⟩
    have HX1 := hid hX1
    have HPL : Hid ((partL B x).length = pn) := by unfold Hid; rw [hpn]; exact p1
    have HSP : Hid (∀ u, Tm.Fr F w u → SeesB u (.slice (partA ab cb x) pn (cb - 8 * x)) (partL B x)) := fun u hu => by
      have h1 := HVB.out u hu
      rw [HVBX.out] at h1
      have h2 := (part_sees h1 x (by rw [HNB.out]; exact hxm)).1
      rwa [HPV.out] at h2
    rw [hpv]
    have hcovk : dk.cov + pn ≤ 65535 := by omega
    clear hx hdk hlen hpv hX1 hatI i2 i5 hvb6 hvh6 p1 hcov f1 f2 f3
    have hgb : vb6.ownBlock = some gb := by rw [HVB6.out]; rfl
    have hgh : vh6.ownBlock = some gh := by rw [HVH6.out]; rfl
    have hnbb : b ≠ gb := fun e => HI5.out.notb.1.2 (by rw [hgb, e])
    have hnbh : b ≠ gh := fun e => HI5.out.notb.2 (by rw [hgh, e])
    have hngh : gh ≠ gb := fun e => row_apart HI5.out.hv HI5.out.body (by decide) hgh (by rw [mem_blkL, hgb, e])
    have HTU : Hid (∀ u, Tm.Fr [gb] W u → Tk w b F (pkCells h vo vb) u) := fun u hu => HI2.out.fr' hu (fun y hy => HG.out y (by
      simp only [List.mem_cons, List.not_mem_nil, or_false] at hy
      subst hy
      simp only [List.mem_cons, List.mem_append, mem_blkL]
      exact .inr (.inl hgb))) HLT.out
    have HBU : Hid (∀ u, Tm.Fr [gb] W u → u.heap[b]? = some (.cells (dgCells dk V vb6 vh6) 97)) := fun u hu => (hu.block b (Array.getElem?_eq_some_iff.1 HI5.out.blk).1 (by simpa using hnbb)).trans HI5.out.blk
    have HNN : Hid (b ≠ gb ∧ b ≠ gh ∧ gh ≠ gb) := ⟨hnbb, hnbh, hngh⟩
    have HGB := hid hgb
    have HGH := hid hgh
    have HOWX : Hid (∀ u, OwnB u 0 vb6 dk.body ∨ OwnB u 0 vb6 X1 → ∃ X, OwnB u 0 (.slice (some ⟨gb, 0, none⟩) n6 cb6) X ∧ n6 = X.length ∧ splice X at_ (partL B x) = X1) := fun u hu => by
      rw [HVB6.out] at hu
      have hpl := HPL.out
      rcases hu with hu | hu
      · exact ⟨_, hu, hn6, HX1.out.symm⟩
      · refine ⟨_, hu, ?_, ?_⟩
        · rw [HX1.out, length_splice _ _ _ (by omega)]; exact hn6
        · rw [HX1.out, splice_idem _ _ _ (by omega)]
    have HN6E := hid hn6
    have HNHE := hid hnh
    have HATE := hid hat
    have HPNE := hid hpn
    have hatl : at_ ≤ 70000 := by omega
    have hpnl : pn ≤ 65535 := by omega
    have hat0 : at_ < n6 := by omega
    have hp0 : 0 < pn := by omega
    clear hgb hgh hnbb hnbh hngh hn6 hnh hat hpn p2 p3 hnb hxm i1 i3 i4
    gi_upto_region 7 with fail
    refine wpIn_region_facts' 12 (fun i => 28 + i) (F7 b gb n6 cb6 at_ pn X1 dk.cov (.slice (partA ab cb x) pn (cb - 8 * x))) (fun u => Tm.Fr [gb] W u ∧ (OwnB u 0 vb6 dk.body ∨ OwnB u 0 vb6 X1)) (fun j u u' => j ≠ 11 → u' = u) (by kernel_rfl) (by kernel_rfl) ?_ (fun i j v u u' hne hf _ hr => F7_keeps i v u u' hf (fun e => hr (fun e' => hne (e.trans e'.symm)))) ?_ ?_
    · exact ⟨⟨rfl, rfl, rfl, Nat.le_refl _, fun _ _ _ => rfl⟩, .inl HI5.out.body⟩
    · simp only [List.take_succ_cons, List.take_zero, stepsIn]
      refine ⟨?_, ?_, ?_, ?_, ?_, ?_, ?_, ?_, ?_, ?_, ?_, ?_, trivial⟩
      · intro a u vs hI hold hdep
        exact wpIn_val (by intro c hc; cases hc) (ex_load 94 ⟨w.heap.size, 0, none⟩ (.tmp 2) _ rfl (hold 2 (fun j _ => low (by decide))) (HTU.out u hI.1).ldBox) ⟨_, rfl, rfl, hI, fun _ => rfl⟩
      · intro a u vs hI hold hdep
        have h1 := hdep ⟨0, .data⟩ (by simp) rfl (by decide)
        exact wpIn_val (by intro c hc; cases hc) (ex_nil ⟨b, 0, none⟩ (.tmp 28) rfl (h1.1.trans h1.2)) ⟨_, rfl, rfl, hI, fun _ => rfl⟩
      · intro a u vs hI hold hdep
        have h1 := hdep ⟨1, .data⟩ (by simp) rfl (by decide)
        exact wpIn_val (by intro c hc; cases hc) (ex_field 97 ⟨b, 0, none⟩ (.tmp 29) 5 _ rfl (h1.1.trans h1.2) (field14 b u)) ⟨_, rfl, rfl, hI, fun _ => rfl⟩
      · intro a u vs hI hold hdep
        have h1 := hdep ⟨2, .data⟩ (by simp) rfl (by decide)
        exact wpIn_val (by intro c hc; cases hc) (ex_load 3 ⟨b, 14, none⟩ (.tmp 30) (.int .i64 (dk.cov : Int)) rfl (h1.1.trans h1.2) (load1 Try.underlying3 rfl (by rw [cell_of_row _ _ _ _ _ _ (HBU.out u hI.1)]; rfl))) ⟨_, rfl, rfl, hI, fun _ => rfl⟩
      · intro a u vs hI hold hdep
        exact wpIn_val (by intro c hc; cases hc) (ex_load 94 ⟨w.heap.size, 0, none⟩ (.tmp 2) _ rfl (hold 2 (fun j _ => low (by decide))) (HTU.out u hI.1).ldBox) ⟨_, rfl, rfl, hI, fun _ => rfl⟩
      · intro a u vs hI hold hdep
        have h1 := hdep ⟨4, .data⟩ (by simp) rfl (by decide)
        exact wpIn_val (by intro c hc; cases hc) (ex_nil ⟨b, 0, none⟩ (.tmp 32) rfl (h1.1.trans h1.2)) ⟨_, rfl, rfl, hI, fun _ => rfl⟩
      · intro a u vs hI hold hdep
        have h1 := hdep ⟨5, .data⟩ (by simp) rfl (by decide)
        exact wpIn_val (by intro c hc; cases hc) (ex_field 97 ⟨b, 0, none⟩ (.tmp 33) 3 _ rfl (h1.1.trans h1.2) (field12 b u)) ⟨_, rfl, rfl, hI, fun _ => rfl⟩
      · intro a u vs hI hold hdep
        have h1 := hdep ⟨6, .data⟩ (by simp) rfl (by decide)
        exact wpIn_val (by intro c hc; cases hc) (ex_load 22 ⟨b, 12, none⟩ (.tmp 34) (.slice (some ⟨gb, 0, none⟩) n6 cb6) rfl (h1.1.trans h1.2) (load1 Try.underlying22 rfl (by rw [cell_of_row _ _ _ _ _ _ (HBU.out u hI.1), ← HVB6.out]; rfl))) ⟨_, rfl, rfl, hI, fun _ => rfl⟩
      · intro a u vs hI hold hdep
        exact wpIn_val (by intro c hc; cases hc) (ex_move (.tmp 4) _ rfl (hold 4 (fun j _ => low (by decide)))) ⟨_, rfl, rfl, hI, fun _ => rfl⟩
      · intro a u vs hI hold hdep
        have h1 := hdep ⟨7, .data⟩ (by simp) rfl (by decide)
        have h2 := hdep ⟨8, .data⟩ (by simp) rfl (by decide)
        exact wpIn_val (by intro c hc; cases hc) (ex_cut 22 (.tmp 35) (.tmp 36) _ _ _ rfl (h1.1.trans h1.2) (h2.1.trans h2.2) (cutB_at u gb n6 cb6 at_ hat0 hcb6)) ⟨_, rfl, rfl, hI, fun _ => rfl⟩
      · intro a u vs hI hold hdep
        exact wpIn_val (by intro c hc; cases hc) (ex_move (.tmp 5) _ rfl (hold 5 (fun j _ => low (by decide)))) ⟨_, rfl, rfl, hI, fun _ => rfl⟩
      · intro a u vs hI hold hdep
        have h1 := hdep ⟨9, .data⟩ (by simp) rfl (by decide)
        have h2 := hdep ⟨10, .data⟩ (by simp) rfl (by decide)
        obtain ⟨X, hX, hnX, hsp⟩ := HOWX.out u hI.2
        have hpl := HPL.out
        obtain ⟨u', hr, hO, hFr⟩ := copy_own u 3 gb n6 cb6 at_ X (partL B x) hX hnX (by omega) (by omega) (partA ab cb x) pn (cb - 8 * x) hpl.symm (HSP.out u (HTU.out u hI.1).fr)
        rw [hsp] at hO
        rw [hpl] at hr
        exact wpIn_val (by intro c hc; cases hc) (ex_copy (.tmp 37) (.tmp 38) _ _ _ u' rfl (h1.1.trans h1.2) (h2.1.trans h2.2) hr) ⟨_, rfl, ⟨rfl, hO⟩, ⟨hI.1.trans hFr, .inr (by rw [HVB6.out]; exact hO)⟩, fun e => absurd rfl e⟩
    · intro vs u hI hf
      have e0 : vs 0 = .pointer (some ⟨b, 0, none⟩) := hf 0 (by decide)
      have e1 : vs 1 = .pointer (some ⟨b, 0, none⟩) := hf 1 (by decide)
      have e2 : vs 2 = .pointer (some ⟨b, 14, none⟩) := hf 2 (by decide)
      have e3 : vs 3 = .int .i64 (dk.cov : Int) := hf 3 (by decide)
      have e4 : vs 4 = .pointer (some ⟨b, 0, none⟩) := hf 4 (by decide)
      have e5 : vs 5 = .pointer (some ⟨b, 0, none⟩) := hf 5 (by decide)
      have e6 : vs 6 = .pointer (some ⟨b, 12, none⟩) := hf 6 (by decide)
      have e7 : vs 7 = .slice (some ⟨gb, 0, none⟩) n6 cb6 := hf 7 (by decide)
      have e8 : vs 8 = .int .i64 (at_ : Int) := hf 8 (by decide)
      have e9 : vs 9 = .slice (some ⟨gb, at_, none⟩) (n6 - at_) (cb6 - at_) := hf 9 (by decide)
      have e10 : vs 10 = .slice (partA ab cb x) pn (cb - 8 * x) := hf 10 (by decide)
      obtain ⟨e11, hO⟩ : vs 11 = .int .i64 (pn : Int) ∧ OwnB u 0 (.slice (some ⟨gb, 0, none⟩) n6 cb6) X1 := hf 11 (by decide)
      simp only [List.drop_succ_cons, List.drop_zero, puts, List.range, List.range.loop, List.foldr, if_true, Act.put, e0, e1, e2, e3, e4, e5, e6, e7, e8, e9, e10, e11, Nat.reduceAdd, List.setIfInBounds_toArray, List.set_cons_succ, List.set_cons_zero]
      clear e0 e1 e2 e3 e4 e5 e6 e7 e8 e9 e10 e11 hf
      have HOU := hid hO
      have HFU := hid hI.1
      have HBW := hid (HBU.out u hI.1)
      clear hO hI
      obtain ⟨cv, hcv'⟩ : ∃ cv, cv = dk.cov := ⟨_, rfl⟩
      have HCV := hid hcv'
      have hcvb : cv + pn ≤ 65535 := by omega
      rw [← hcv']
      have HC14 : Hid ((dgCells dk V vb6 vh6).setIfInBounds 14 (.int .i64 ((cv : Int) + (pn : Int))) = dgCells { dk with cov := cv + pn } V vb6 vh6) := by
        unfold Hid; rw [show ((cv : Int) + (pn : Int)) = ((cv + pn : Nat) : Int) by omega]; rfl
      clear hcv' hcovk
      gi_wp2_with (first | (refine wpListIn_st1 rfl 3 (.tmp 42) (.tmp 40) rfl b 14 (.int .i64 ((cv : Int) + (pn : Int))) rfl rfl rfl 97 _ (dgCells { dk with cov := cv + pn } V vb6 vh6) HBW.out size3 (by show 14 < 15; decide) HC14.out ?_) | fail)
      intro u2 hk2 hbut2
      have HK2 := hid hk2
      have HU2 := hid hbut2
      have c0 : u2.cell? ⟨w.heap.size, 0, none⟩ = some (.pointer (some ⟨b, 0, none⟩)) := by
        have h1 := (HTU.out u HFU.out).box
        have hb0 := HLT.out b HBF.out
        rw [cell_of_row _ _ _ _ _ _ (hbut2.keeps h1 (by omega))]; rfl
      have c13 : u2.cell? ⟨b, 13, none⟩ = some (.slice (some ⟨gh, 0, none⟩) nh ch6) := by rw [cell_of_row _ _ _ _ _ _ hk2, ← HVH6.out]; rfl
      have hOH : OwnH u2 0 (.slice (some ⟨gh, 0, none⟩) nh ch6) dk.hv := by
        rw [← HVH6.out]
        refine row_fr (F := [gb, b]) HI5.out.hv ⟨hbut2.os.trans HFU.out.os, hbut2.tape.trans HFU.out.tape, hbut2.output.trans HFU.out.output, Nat.le_trans HFU.out.size hbut2.size, fun i hi hn => ?_⟩ (fun g hg hm => ?_)
        · simp only [List.mem_cons, List.not_mem_nil, or_false, not_or] at hn
          exact (hbut2.block i (Nat.lt_of_lt_of_le hi HFU.out.size) hn.2).trans (HFU.out.block i hi (by simpa using hn.1))
        · rw [HGH.out] at hg
          cases hg
          simp only [List.mem_cons, List.not_mem_nil, or_false] at hm
          rcases hm with e | e
          · exact HNN.out.2.2 e
          · exact HNN.out.2.1 e.symm
      obtain ⟨cur, hcur, hcl, hnn⟩ := hOH.arr
      have HOH := hid hOH
      have HCUR := hid hcur
      have hcl2 : at_ / 8 < cur.size := by have := HNHE.out; omega
      have hidI : ((at_ : Int) / 8) < (nh : Int) := by omega
      have hid0 : 0 ≤ (at_ : Int) / 8 := by omega
      have hidN : ((at_ : Int) / 8).toNat = at_ / 8 := by omega
      clear hk2 hbut2 hOH hcur hcl hnn
      gi_wp2_with (first | (refine wpListIn_st1 rfl 4 (.tmp 49) (.const (.bool true)) rfl gh (at_ / 8) (.bool true) ?q1 rfl rfl 4 cur _ HCUR.out size4 hcl2 rfl ?_) | fail)
      case q1 => first | rfl | (simp [Act.eval, hidN, Addr.add_lit]; done) | simp [Act.eval]
      intro u3 hk3 hbut3
      have HK3 := hid hk3
      have HU3 := hid hbut3
      clear hk3 hbut3
      gi_wp2_with fail
      have hS := HFU.out.size
      have hS2 := HU2.out.size
      have hS3 := HU3.out.size
      have hFr : Tm.Fr [gb, b, gh] W u3 := ⟨HU3.out.os.trans (HU2.out.os.trans HFU.out.os), HU3.out.tape.trans (HU2.out.tape.trans HFU.out.tape), HU3.out.output.trans (HU2.out.output.trans HFU.out.output), by omega, fun i hi hn => by
        simp only [List.mem_cons, List.not_mem_nil, or_false, not_or] at hn
        exact (HU3.out.block i (by omega) hn.2.2).trans ((HU2.out.block i (by omega) hn.2.1).trans (HFU.out.block i hi (by simpa using hn.1)))⟩
      have hFr2 : Tm.Fr [b, gh] u u3 := ⟨HU3.out.os.trans HU2.out.os, HU3.out.tape.trans HU2.out.tape, HU3.out.output.trans HU2.out.output, by omega, fun i hi hn => by
        simp only [List.mem_cons, List.not_mem_nil, or_false, not_or] at hn
        exact (HU3.out.block i (by omega) hn.2).trans (HU2.out.block i hi hn.1)⟩
      have hmem : ∀ y ∈ [gb, b, gh], y ∈ b :: (blkL vb6 ++ blkL vh6) := fun y hy => by
        simp only [List.mem_cons, List.not_mem_nil, or_false] at hy
        simp only [List.mem_cons, List.mem_append, mem_blkL]
        rcases hy with e | e | e
        · exact .inr (.inl (by rw [e]; exact HGB.out))
        · exact .inl e
        · exact .inr (.inr (by rw [e]; exact HGH.out))
      have hS8 := HS8.out
      have hI1 := HI1.out
      have hlt6 : ∀ y ∈ [gb, b, gh], y < u6.heap.size := fun y hy => HGL.out y (hmem y hy)
      have hk : ∀ (j : Nat) (ob : Obj), u6.heap.size ≤ j → W.heap[j]? = some ob → u3.heap[j]? = some ob := fun j ob hj hw => by
        rw [hFr.block j (Array.getElem?_eq_some_iff.1 hw).1 (fun hm => by have := hlt6 j hm; omega)]; exact hw
      refine ⟨⟨hFr.size, fun j ob hj hw _ => hk j ob (by omega) hw⟩, by omega, HI2.out.fr' hFr (fun y hy => HG.out y (hmem y hy)) HLT.out, hk _ _ (Nat.le_refl _) HI3.out, hk _ _ (by omega) HI4.out, ?_⟩
      rw [HNX.out]
      have hd := HI5.out
      have hpl := HPL.out
      have hn6 := HN6E.out
      have hlen : (splice dk.body at_ (partL B x)).length = dk.body.length := length_splice _ _ _ (by omega)
      have eT : tkStep o B dk x = { dk with body := X1, hv := dk.hv.set (at_ / 8) true, cov := cv + pn } := by
        rw [HX1.out, HATE.out, HPNE.out, HCV.out]; rfl
      rw [eT]
      refine ⟨?_, row_fr hd.opts hFr (fun g hg hm => ?_), ?_, ?_, hd.ob, ?_, hd.ne, hd.ol, by show X1.length ≤ _; rw [HX1.out, hlen]; exact hd.bl, by show (dk.hv.set _ _).length ≤ _; rw [List.length_set]; exact hd.hl, hd.ll, hcvb, hd.hok⟩
      · rw [HU3.out.block b (Array.getElem?_eq_some_iff.1 HK2.out).1 HNN.out.2.1]; exact HK2.out
      · simp only [List.mem_cons, List.not_mem_nil, or_false] at hm
        rcases hm with e | e | e
        · exact hd.ne g hg (by rw [HGB.out, e])
        · exact hd.notb.1.1 (by rw [hg, e])
        · exact row_apart hd.opts hd.hv (by decide) hg (by rw [mem_blkL, HGH.out, e])
      · rw [HVB6.out]
        refine row_fr HOU.out hFr2 (fun g hg hm => ?_)
        simp only [List.mem_cons, List.not_mem_nil, or_false] at hm
        have hg' : g = gb := by cases hg; rfl
        rcases hm with e | e
        · exact HNN.out.1 (by rw [← e, hg'])
        · exact HNN.out.2.2 (by rw [← e, hg'])
      · rw [HVH6.out]
        exact HOH.out.mark HCUR.out HK3.out
      · intro y hy
        have hy' : y ∈ splice dk.body at_ (partL B x) := by rw [← HX1.out]; exact hy
        unfold splice at hy'
        simp only [List.mem_append] at hy'
        rcases hy' with e | e | e
        · exact hd.bb y (List.mem_of_mem_take e)
        · exact (HSP.out w (Tm.Fr.refl _ _)).bytes y e
        · exact hd.bb y (List.mem_of_mem_drop e)
  case done =>
    rintro D W hD ⟨i1, i2, i3, i4, i5⟩ hK
    have hb : Below u8.heap.size W (W.putObj D (.deferred none)) := belowK_b (w := u8) (Nat.le_refl _) W D _ _ hD hK rfl rfl
    have hS8 := HS8.out
    obtain ⟨q0, q1, q2, q3⟩ := HBB.out
    have hD9 := i5.belowB hb (by omega) (fun g hg => by have := q1 g hg; omega) (fun g hg => by have := q2 g hg; omega) (fun g hg => by have := q3 g hg; omega)
    have hT9 := i2.belowB hb (by omega)
    refine ⟨by simp, .inl ⟨_, _, rfl, run_takeDeferred hK, ?_⟩⟩
    refine ⟨_, results_none Try.results43 _ _ _, rfl, V, vb6, vh6, ?_, ?_, HVN.out, ?_, ?_⟩
    · have eD : tkN o B d5 (S.take (newsL d5.hv o nB).length) = takeD d h o B := by
        rw [← HSE.out, List.take_length, HSE.out]
        unfold takeD
        have e1 : L = (lenW d h B.length).toNat := by have := HL.out; rw [HNB.out] at this; omega
        rw [HD5E.out, HNB.out, news_reach, HD4E.out, HD2E.out, e1]
      rw [← eD]; exact hD9
    · rw [← HF.out]; exact hT9.fr
    · rcases HN6.out with e | ⟨g, e, hg⟩
      · exact .inl e
      · exact .inr ⟨g, e, by have := HSU5.out; omega⟩
    · rcases HM6.out with e | ⟨g, e, hg⟩
      · exact .inl e
      · exact .inr ⟨g, e, by have := HSU5.out; omega⟩
end Go.Proofs.Ytdoeebbcieiimaa

namespace Go.Proofs.Ytdoeebbcieiimaa
open Go.ChangeShapes Go.WideShapes Go.ChangeAt Go.RowKit
set_option maxHeartbeats 1000000

theorem wp_region_pairs {P : Program} {id : Nat} {Q : Exit → Act → World → Prop} {a0 : Act} {W : World} {l : List Oper} (n : Nat) (dst : Nat → Tmp) (F : Nat → Value → World → Prop) (I : World → Prop) (R : Nat → World → World → Prop) (Pr : Nat → Nat → Value → Value → Prop) (hm : P.follows .mixedOrders = true) (hB : monoB l.toArray n dst a0.tmps.size = true)
    (hI : I { W with drawn := W.drawn + 1 })
    (hF : ∀ i j v w w', i ≠ j → F i v w → I w → R j w w' → F i v w')
    (hstep : ∀ i o, i < n → l[i]? = some o → ∀ (a : Act) (w : World) (vs : Nat → Value), I w → (∀ s, (∀ j, j < n → dst j ≠ s) → a.eval (.tmp s) = a0.eval (.tmp s)) →
      (∀ e ∈ o.after, Region.binds .any e = true → e.on < n → a.eval (.tmp (dst e.on)) = vs e.on ∧ F e.on (vs e.on) w) →
      (∀ e ∈ o.after, ∀ e' ∈ o.after, Region.binds .any e = true → Region.binds .any e' = true → e.on < n → e'.on < n → e.on ≠ e'.on → Pr e.on e'.on (vs e.on) (vs e'.on) ∨ Pr e'.on e.on (vs e'.on) (vs e.on)) →
      o.wp P a w (fun a' w' => ∃ v, a' = a.put (some (dst i)) v ∧ F i v w' ∧ I w' ∧ R i w w' ∧ ∀ j v', j ≠ i → F j v' w → Pr i j v v') Q)
    (hend : ∀ (vs : Nat → Value) (w : World), I w → (∀ i, i < n → F i (vs i) w) → (∀ i j, i < n → j < n → i ≠ j → Pr i j (vs i) (vs j) ∨ Pr j i (vs j) (vs i)) → wpList P l.toArray Q (l.drop n) (puts a0 dst vs (fun _ => true) (List.range n)) w) :
    (Code.region id l.toArray true).wp P Q a0 W := by
  simp only [monoB, Bool.and_eq_true, decide_eq_true_eq, List.all_eq_true, List.mem_range] at hB
  obtain ⟨⟨⟨⟨hn, hs⟩, hc⟩, hseq⟩, hall⟩ := hB
  have hinj : ∀ i, i < n → ∀ j, j < n → j ≠ i → dst j ≠ dst i := fun i hi j hj hne => by
    have := (hall i hi).2 j hj
    simp only [Bool.or_eq_true, decide_eq_true_eq] at this
    exact this.resolve_left hne
  have hop : ∀ i o, i < n → l.toArray[i]? = some o → (o.guard = none ∧ o.dst = some (dst i)) ∧ ∀ e ∈ o.after, e.on < i := fun i o hi ho => by
    have := (hall i hi).1.2
    rw [ho] at this
    simp only [Option.map_some, Option.getD_some, Bool.and_eq_true, Option.isNone_iff_eq_none, decide_eq_true_eq, Array.all_eq_true_iff_forall_mem] at this
    exact this
  refine wp_region_any hm ?_
  have main : ∀ (f : Nat) (listed : Array Bool) (vs : Nat → Value) (w : World), (List.range n).countP (fun j => !listed.getD j false) = f → HeadInv .any l.toArray n listed →
      I w → (∀ i, i < n → listed.getD i false = true → F i (vs i) w) → (∀ i j, i < n → j < n → i ≠ j → listed.getD i false = true → listed.getD j false = true → Pr i j (vs i) (vs j) ∨ Pr j i (vs j) (vs i)) →
      wpAny P .any l.toArray Q (f + (l.toArray.size - n)) listed (puts a0 dst vs (fun i => listed.getD i false) (List.range n)) w := by
    intro f
    induction f with
    | zero =>
      intro listed vs w hcnt inv hb hf hpr
      have hall2 : ∀ i, i < n → listed.getD i false = true := fun i hi => by
        have := List.countP_eq_zero.1 hcnt i (List.mem_range.2 hi)
        simpa using this
      have hcan : listed = canon l.toArray.size n := by
        apply Array.ext
        · rw [inv.size]; simp [canon]
        · intro i h1 h2
          simp only [canon, List.getElem_toArray, List.getElem_map, List.getElem_range]
          by_cases hi : i < n
          · have := hall2 i hi
            simpa [h1, hi] using this
          · have := inv.tail i (by omega) (by rw [inv.size] at h1; exact h1)
            simpa [h1, hi] using this
      have he : puts a0 dst vs (fun i => listed.getD i false) (List.range n) = puts a0 dst vs (fun _ => true) (List.range n) := puts_congr (fun i hi => ⟨hall2 i (List.mem_range.1 hi), rfl⟩)
      rw [he, hcan, Nat.zero_add]
      have hdl : (l.drop n).length = l.toArray.size - n := by simp
      have := wpAny_of_seq (P := P) (ops := l.toArray) (md := .any) (Q' := Q) (l.drop n) n (canon l.toArray.size n) _ w (fun j => by simp [List.getElem?_drop]) (by rw [hdl]; exact hseq) (hend vs w hb (fun i hi => hf i hi (hall2 i hi)) (fun i j hi hj hne => hpr i j hi hj hne (hall2 i hi) (hall2 j hj)))
      rwa [hdl] at this
    | succ f ih =>
      intro listed vs w hcnt inv hb hf hpr
      obtain ⟨i0, hi0, hu0⟩ : ∃ i, i < n ∧ listed.getD i false = false := by
        have hpos : 0 < (List.range n).countP (fun j => !listed.getD j false) := by omega
        obtain ⟨i, hi, hp⟩ := List.countP_pos_iff.1 hpos
        exact ⟨i, List.mem_range.1 hi, by simpa using hp⟩
      have hi0s : i0 < listed.size := by rw [inv.size]; omega
      have hwait := tail_waits hs hc hn inv _ i0 rfl hi0 (getD_in hi0s hu0)
      rw [show f + 1 + (l.toArray.size - n) = (f + (l.toArray.size - n)) + 1 by omega]
      refine ⟨fun h0 => ?_, fun i hi => ?_⟩
      · -- something is ready: the least that is not listed
        exfalso
        have hex : ∃ k, k < n ∧ listed.getD k false = false ∧ ∀ j, j < k → listed.getD j false = true := by
          have : ∀ m, (∃ j, j < m ∧ listed.getD j false = false) → ∃ k, k < m ∧ listed.getD k false = false ∧ ∀ j, j < k → listed.getD j false = true := by
            intro m
            induction m with
            | zero => rintro ⟨j, hj, _⟩; omega
            | succ m ihm =>
              rintro ⟨j, hj, hjf⟩
              by_cases hex : ∃ j, j < m ∧ listed.getD j false = false
              · obtain ⟨k, hk, h1, h2⟩ := ihm hex
                exact ⟨k, by omega, h1, h2⟩
              · refine ⟨m, by omega, ?_, fun j' hj' => ?_⟩
                · have : j = m := by
                    rcases Nat.lt_or_ge j m with h | h
                    · exact absurd ⟨j, h, hjf⟩ hex
                    · omega
                  rw [← this]; exact hjf
                · cases hq : listed.getD j' false with
                  | true => rfl
                  | false => exact absurd ⟨j', hj', hq⟩ hex
          exact this n ⟨i0, hi0, hu0⟩
        obtain ⟨k, hk, hku, hkl⟩ := hex
        have hks : k < l.toArray.size := by omega
        have hr : k ∈ Region.ready .any l.toArray listed := mem_ready.2 ⟨getD_in (by rw [inv.size]; exact hks) hku, _, Array.getElem?_eq_getElem hks, fun e he _ => hkl e.on ((hop k _ hk (Array.getElem?_eq_getElem hks)).2 e he)⟩
        rw [h0] at hr
        cases hr
      · have hin : i < n := by
          rcases Nat.lt_or_ge i n with h | h
          · exact h
          · exact absurd hi (hwait i h)
        obtain ⟨hun, o, ho, hdep⟩ := mem_ready.1 hi
        obtain ⟨⟨hg, hd⟩, _⟩ := hop i o hin ho
        have hiu := getD_both hun
        have his : i < listed.size := by rw [inv.size]; omega
        unfold wpOp
        simp only [ho, Region.wanted, hg, if_true]
        refine .inl ?_
        have H := hstep i o hin (by simpa using ho) (puts a0 dst vs (fun i => listed.getD i false) (List.range n)) w vs hb (fun s hs' => puts_old (fun j hj => hs' j (List.mem_range.1 hj))) (fun e he hbi hen => ⟨puts_at (by have := (hall e.on hen).1.1; simpa using this) (hdep e he hbi) (List.mem_range.2 hen) (fun j hj hne => hinj e.on hen j (List.mem_range.1 hj) hne), hf e.on hen (hdep e he hbi)⟩) (fun e he e' he' hbi hbi' hen hen' hne => hpr e.on e'.on hen hen' hne (hdep e he hbi) (hdep e' he' hbi'))
        refine Oper.wp_mono (fun a' w' ⟨v, ha', hfv, hiw, hbw, hpw⟩ => ?_) H
        rw [ha', puts_set (vs' := fun j => if j = i then v else vs j) (p' := fun j => (listed.setIfInBounds i true).getD j false) (List.nodup_range) (List.mem_range.2 hin) hiu (by simp [his]) (by simp) (fun j hj hne => ⟨getD_set_ne false (Ne.symm hne), by simp [hne], hinj i hin j (List.mem_range.1 hj) hne⟩)]
        refine ih _ _ w' ?_ (inv.set hi hin) hiw (fun j hj hlj => ?_) (fun i' j' hi' hj' hne li' lj' => ?_)
        · have := countP_point (L := List.range n) List.nodup_range (List.mem_range.2 hin) (p := fun j => !listed.getD j false) (q := fun j => !(listed.setIfInBounds i true).getD j false) (by simp only [hiu]; rfl) (by simp [his]) (fun j _ hne => by simp only [getD_set_ne false (Ne.symm hne)])
          omega
        · by_cases hji : j = i
          · subst hji; simpa using hfv
          · simp only [hji, if_false]
            rw [getD_set_ne false (Ne.symm hji)] at hlj
            exact hF j i _ w w' hji (hf j hj hlj) hb hbw
        · by_cases h1 : i' = i
          · have h2 : j' ≠ i := fun e => hne (h1.trans e.symm)
            subst h1
            rw [getD_set_ne false (Ne.symm h2)] at lj'
            simp only [if_true, h2, if_false]
            exact .inl (hpw j' _ h2 (hf j' hj' lj'))
          · by_cases h2 : j' = i
            · subst h2
              rw [getD_set_ne false (Ne.symm h1)] at li'
              simp only [if_true, h1, if_false]
              exact .inr (hpw i' _ h1 (hf i' hi' li'))
            · rw [getD_set_ne false (Ne.symm h1)] at li'
              rw [getD_set_ne false (Ne.symm h2)] at lj'
              simp only [h1, h2, if_false]
              exact hpr i' j' hi' hj' hne li' lj'
  have inv0 : HeadInv .any l.toArray n (Array.replicate l.toArray.size false) :=
    ⟨by simp, fun j oj _ hl => (by rw [getD_replicate_false] at hl; cases hl), fun t _ ht => getD_in (by simpa using ht) (getD_replicate_false _ _)⟩
  have hcnt : (List.range n).countP (fun j => !(Array.replicate l.toArray.size false).getD j false) = n := by
    rw [List.countP_eq_length.2 (fun j _ => by rw [getD_replicate_false]; rfl), List.length_range]
  have H := main n _ (fun _ => undef) { W with drawn := W.drawn + 1 } hcnt inv0 hI (fun i _ h => by rw [getD_replicate_false] at h; cases h) (fun i j _ _ _ h => by rw [getD_replicate_false] at h; cases h)
  have he : puts a0 dst (fun _ => undef) (fun i => (Array.replicate l.toArray.size false).getD i false) (List.range n) = a0 := by
    have : ∀ L : List Nat, puts a0 dst (fun _ => undef) (fun i => (Array.replicate l.toArray.size false).getD i false) L = a0 := by
      intro L
      induction L with
      | nil => rfl
      | cons x L ih =>
        simp only [puts, List.foldr_cons] at ih ⊢
        rw [getD_replicate_false, ih]
        rfl
    exact this _
  rw [he, show n + (l.toArray.size - n) = l.toArray.size by omega] at H
  exact H

/-- The steps, one a goal; memory only grows. -/
def stepsP (P : Program) (Q : Exit → Act → World → Prop) (a0 : Act) (W : World) (n : Nat) (dst : Nat → Tmp) (F : Nat → Value → World → Prop) (Pr : Nat → Nat → Value → Value → Prop) : Nat → List Oper → Prop
  | _, [] => True
  | i, o :: rest => (∀ (a : Act) (w : World) (vs : Nat → Value), Below W.heap.size W w → (∀ s, (∀ j, j < n → dst j ≠ s) → a.eval (.tmp s) = a0.eval (.tmp s)) →
      (∀ e ∈ o.after, Region.binds .any e = true → e.on < n → a.eval (.tmp (dst e.on)) = vs e.on ∧ F e.on (vs e.on) w) →
      (∀ e ∈ o.after, ∀ e' ∈ o.after, Region.binds .any e = true → Region.binds .any e' = true → e.on < n → e'.on < n → e.on ≠ e'.on → Pr e.on e'.on (vs e.on) (vs e'.on) ∨ Pr e'.on e.on (vs e'.on) (vs e.on)) →
      o.wp P a w (fun a' w' => ∃ v, a' = a.put (some (dst i)) v ∧ F i v w' ∧ Below W.heap.size W w' ∧ Below w.heap.size w w' ∧ ∀ j v', j ≠ i → F j v' w → Pr i j v v') Q) ∧ stepsP P Q a0 W n dst F Pr (i + 1) rest

theorem stepsP.at {P : Program} {Q : Exit → Act → World → Prop} {a0 : Act} {W : World} {n : Nat} {dst : Nat → Tmp} {F : Nat → Value → World → Prop} {Pr : Nat → Nat → Value → Value → Prop} : ∀ (l : List Oper) (k : Nat), stepsP P Q a0 W n dst F Pr k l → ∀ (i : Nat) (o : Oper), l[i]? = some o → ∀ (a : Act) (w : World) (vs : Nat → Value), Below W.heap.size W w → (∀ s, (∀ j, j < n → dst j ≠ s) → a.eval (.tmp s) = a0.eval (.tmp s)) →
      (∀ e ∈ o.after, Region.binds .any e = true → e.on < n → a.eval (.tmp (dst e.on)) = vs e.on ∧ F e.on (vs e.on) w) →
      (∀ e ∈ o.after, ∀ e' ∈ o.after, Region.binds .any e = true → Region.binds .any e' = true → e.on < n → e'.on < n → e.on ≠ e'.on → Pr e.on e'.on (vs e.on) (vs e'.on) ∨ Pr e'.on e.on (vs e'.on) (vs e.on)) →
      o.wp P a w (fun a' w' => ∃ v, a' = a.put (some (dst (k + i))) v ∧ F (k + i) v w' ∧ Below W.heap.size W w' ∧ Below w.heap.size w w' ∧ ∀ j v', j ≠ k + i → F j v' w → Pr (k + i) j v v') Q
  | [], _, _, i, o, h => by simp at h
  | x :: l, k, hs, 0, o, h => by
    simp only [List.getElem?_cons_zero, Option.some.injEq] at h
    subst h
    exact hs.1
  | x :: l, k, hs, i + 1, o, h => by
    have := stepsP.at l (k + 1) hs.2 i o (by simpa using h)
    rw [show k + (i + 1) = k + 1 + i by omega]
    exact this

theorem wp_region_pairs' {P : Program} {id : Nat} {Q : Exit → Act → World → Prop} {a0 : Act} {W : World} {l : List Oper} (n : Nat) (dst : Nat → Tmp) (F : Nat → Value → World → Prop) (Pr : Nat → Nat → Value → Value → Prop) (hm : P.follows .mixedOrders = true) (hB : monoB l.toArray n dst a0.tmps.size = true)
    (hF : ∀ i v w w', F i v w → Below w.heap.size w w' → F i v w')
    (hstep : stepsP P Q a0 W n dst F Pr 0 (l.take n))
    (hend : ∀ (vs : Nat → Value) (w : World), Below W.heap.size W w → (∀ i, i < n → F i (vs i) w) → (∀ i j, i < n → j < n → i ≠ j → Pr i j (vs i) (vs j) ∨ Pr j i (vs j) (vs i)) → wpList P l.toArray Q (l.drop n) (puts a0 dst vs (fun _ => true) (List.range n)) w) :
    (Code.region id l.toArray true).wp P Q a0 W :=
  wp_region_pairs n dst F (fun w => Below W.heap.size W w) (fun _ w w' => Below w.heap.size w w') Pr hm hB ⟨rfl, rfl, rfl, Nat.le_refl _, fun _ _ => rfl⟩ (fun i _ v w w' _ hf _ hr => hF i v w w' hf hr) (fun i o hi ho => by
    have := hstep.at _ _ i o (by rw [List.getElem?_take_of_lt hi]; exact ho)
    rwa [Nat.zero_add] at this) hend
end Go.Proofs.Ytdoeebbcieiimaa

namespace Go.Proofs.Ytdoeebbcieiimaa
open Go.ChangeShapes Go.WideShapes Go.ChangeAt Go.RowKit Go.Shelf
attribute [local go_sem] Oper.semAt_some
set_option maxHeartbeats 4000000
set_option maxRecDepth 100000

theorem made_one (z : Value) (n : Nat) : madeCells #[z] n = (List.replicate n z).toArray := by
  apply Array.ext
  · simp [madeCells]
  · intro i h1 h2
    simp [madeCells, Nat.mod_one]

theorem wp_val {P : Program} {o : Oper} {a : Act} {w w' : World} {K : Act → World → Prop} {Q : Exit → Act → World → Prop} {v : Value} (hr : (execOp a.eval o).run P w = .ok (.value v) w') (h : K (a.put o.dst v) w') : o.wp P a w K Q := by
  unfold Oper.wp
  rw [hr]
  exact h

theorem ex_make {o : Oper} {a : Act} {w : World} (x : Operand) (k : Nat) (hk : k ≤ 1099511627776) (ho : o.op = .makeSlice 22 x x) (hx : a.eval x = .int .i64 (k : Int)) :
    (execOp a.eval o).run Try.prog w = .ok (.value (.slice (some ⟨w.heap.size, 0, none⟩) k k)) (w.alloc (.cells (madeCells #[.int .u8 0] k) 5)) := by
  unfold execOp
  simp only [ho, hx, Sem.run_bind, make_bytes k hk w, Result.andThen_ok, Sem.run_pure]

theorem own_made (w : World) (base k : Nat) (hk : k ≤ 1099511627776) (hb : base ≤ w.heap.size) : OwnB (w.alloc (.cells (madeCells #[.int .u8 0] k) 5)) base (.slice (some ⟨w.heap.size, 0, none⟩) k k) (List.replicate k 0) := by
  refine own_blk ?_ (by simp) hb hk
  rw [heap_alloc_new w _, made_one]
  simp [bs]

def F9 (b N : Nat) (d : Dg) (h : Hd) (vo vb : Value) (L : Nat) : Nat → Value → World → Prop
  | 1, v, _ => v = .agg (pkCells h vo vb)
  | 2, v, w => ∃ V, v = .agg (hdCells (headW d h) V) ∧ SeesB w V (headW d h).opts
  | 3, v, w => ∃ V, v = .agg (hdCells (headW d h) V) ∧ OwnB w N V (headW d h).opts
  | 5, v, _ => v = .agg (pkCells h vo vb)
  | 6, v, _ => v = .int .i64 (L : Int)
  | 7, v, w => ∃ g, v = .slice (some ⟨g, 0, none⟩) L L ∧ OwnB w N v (List.replicate L 0)
  | 8, v, w => ∃ V g, v = .agg (pkCells (headW d h) V (.slice (some ⟨g, 0, none⟩) L L)) ∧ OwnB w N V (headW d h).opts ∧ OwnB w N (.slice (some ⟨g, 0, none⟩) L L) (List.replicate L 0) ∧ V.ownBlock ≠ some g
  | 9, v, w => ∃ g, v = .pointer (some ⟨g, 0, none⟩) ∧ w.heap[g]? = some (.cells Z29 29) ∧ N ≤ g
  | _, v, _ => v = .pointer (some ⟨b, 0, none⟩)

def dst9 (i : Nat) : Tmp := if i = 9 then 5 else 8 + i
theorem dst9_low (j : Nat) (_ : j < 10) (s : Nat) (hs : s < 5) : dst9 j ≠ s := by
  unfold dst9
  split
  · exact fun e => by have : (5 : Nat) = s := e; omega
  · exact fun e => by have : (8 + j : Nat) = s := e; omega

theorem F9_keeps {b N : Nat} {d : Dg} {h : Hd} {vo vb : Value} {L : Nat} (i : Nat) (v : Value) (w w' : World) (hf : F9 b N d h vo vb L i v w) (hb : Below w.heap.size w w') : F9 b N d h vo vb L i v w' := by
  by_cases h2 : i = 2
  · subst h2; obtain ⟨V, h1, h2⟩ := hf; exact ⟨V, h1, h2.below hb⟩
  by_cases h3 : i = 3
  · subst h3; obtain ⟨V, h1, h2⟩ := hf; exact ⟨V, h1, h2.below hb⟩
  by_cases h7 : i = 7
  · subst h7; obtain ⟨g, h1, h2⟩ := hf; exact ⟨g, h1, h2.below hb⟩
  by_cases h8 : i = 8
  · subst h8; obtain ⟨V, g, h1, h2, h3, h4⟩ := hf; exact ⟨V, g, h1, h2.below hb, h3.below hb, h4⟩
  by_cases h9 : i = 9
  · subst h9; obtain ⟨g, h1, h2, h3⟩ := hf; exact ⟨g, h1, below_keeps hb h2 (Array.getElem?_eq_some_iff.1 h2).1, h3⟩
  unfold F9 at hf ⊢
  split
  all_goals first | exact absurd rfl h2 | exact absurd rfl h3 | exact absurd rfl h7 | exact absurd rfl h8 | exact absurd rfl h9 | skip
  all_goals simp_all

/-- The new options and the new body lie in blocks of their own. -/
def Pr9 (H : Hd) (i j : Nat) (v v' : Value) : Prop :=
  (i = 3 → j = 7 → ∀ V, v = .agg (hdCells H V) → ∀ g, V.ownBlock = some g → v'.ownBlock ≠ some g) ∧ (i = 7 → j = 3 → ∀ V, v' = .agg (hdCells H V) → ∀ g, V.ownBlock = some g → v.ownBlock ≠ some g)

theorem Pr9_any {H : Hd} {i j : Nat} {v v' : Value} (h3 : i ≠ 3) (h7 : i ≠ 7) : Pr9 H i j v v' := ⟨fun e => absurd e h3, fun e => absurd e h7⟩

theorem hdCells_inj {H : Hd} {V V' : Value} (h : Value.agg (hdCells H V) = .agg (hdCells H V')) : V = V' := by
  simp only [hdCells, Value.agg.injEq] at h
  have := congrArg (fun (x : Array Value) => x[9]?) h
  simpa using this

theorem ex_alloc29 {ty : TypeId} {dst : Option Tmp} {pos : String} {af : Array Edge} (a : Act) (w : World) : (execOp a.eval { dst := dst, op := .alloc 29, type := ty, pos := pos, after := af, guard := none }).run Try.prog w = .ok (.value (.pointer (some ⟨w.heap.size, 0, none⟩))) (w.alloc (.cells Z29 29)) := by
  kernel_rfl

theorem ex_build {ty : TypeId} {dst : Option Tmp} {pos : String} {af : Array Edge} {a : Act} {w : World} (H : Hd) (aV : Option Addr) (nV cV g L : Nat) (e1 : a.eval (.tmp 11) = .agg (hdCells H (.slice aV nV cV))) (e2 : a.eval (.tmp 15) = .slice (some ⟨g, 0, none⟩) L L) :
    (execOp a.eval { dst := dst, op := .build 29 #[(0, .tmp 11), (1, .tmp 15)], type := ty, pos := pos, after := af, guard := none }).run Try.prog w = .ok (.value (.agg (pkCells H (.slice aV nV cV) (.slice (some ⟨g, 0, none⟩) L L)))) w := by
  unfold execOp
  simp only [List.map_toArray, List.map_cons, List.map_nil, e1, e2]
  kernel_rfl

open Go.RowKit in
theorem wpList_copy_but {w : World} {ops : Array Oper} {rest : List Oper} {o : Oper} {a : Act} {Q : Exit → Act → World → Prop} (hgd : o.guard = none) (x y : Operand)
    (ho : o.op = .call { callee := .builtin .copy, args := #[x, y], argTypes := #[22, 22] }) (dp sp : Option Addr) (dLen dCap sLen sCap : Nat) (hd : a.eval x = .slice dp dLen dCap) (hs : a.eval y = .slice sp sLen sCap)
    (g off : Nat) (cur : List Value) (hg : w.heap[g]? = some (.cells cur.toArray 5 (0, 0))) (cs : List Value) (hn : cs.length = Nat.min sLen dLen)
    (hpos : 0 < cs.length → dp = some ⟨g, off, none⟩ ∧ ∃ ad, sp = some ad ∧ ∀ j v, cs[j]? = some v → w.cell? (ad.add j) = some v) (hfit : off + cs.length ≤ cur.length) (h1 : ∀ v ∈ cs, v.oneCell' = true)
    (h : ∀ w', w'.heap[g]? = some (.cells (splice cur off cs).toArray 5 (0, 0)) → But g w w' → wpList Try.prog ops Q rest (a.put o.dst (goInt cs.length)) w') : wpList Try.prog ops Q (o :: rest) a w := by
  by_cases h0 : cs.length = 0
  · obtain rfl : cs = [] := List.eq_nil_of_length_eq_zero h0
    refine wpList_copy_nothing hgd x y 22 22 ho 5 Try.underlying22 size5 dp sp dLen dCap sLen sCap hd hs (by simpa using hn.symm) ?_
    exact h w (by simpa [splice] using hg) (But.refl _ _)
  · obtain ⟨rfl, ad, rfl, hsrc⟩ := hpos (by omega)
    refine wpList_copy_own hgd x y 22 22 ho 5 Try.underlying22 size5 g off dLen dCap ad sLen sCap hd hs cur.toArray 5 hg cs hn hsrc (by simpa using hfit) h1 ?_
    exact h _ (by simpa [splice] using setRow_heap w g _ _ 5 _ hg) (But.setRow g w _)

theorem own_at {w : World} {N g n : Nat} {X : List Nat} (h : OwnB w N (.slice (some ⟨g, 0, none⟩) n n) X) : w.heap[g]? = some (.cells (bs X).toArray 5 (0, 0)) ∧ N ≤ g ∧ n = X.length := by
  obtain ⟨g', cap', cur, hv, hN, hg', h1, h2, h3, h4⟩ := h.2.resolve_left (by rintro ⟨h, _⟩; cases h)
  simp only [Value.slice.injEq, Option.some.injEq, Addr.mk.injEq, and_true] at hv
  obtain ⟨rfl, hnn, rfl⟩ := hv
  refine ⟨?_, hN, hnn⟩
  rw [hg', ← h4, List.take_of_length_le (by rw [Array.length_toList]; omega)]

theorem own_but {u u' : World} {N g : Nat} {v : Value} {X : List Nat} (h : OwnB u N v X) (hb : But g u u') (hne : v.ownBlock ≠ some g) : OwnB u' N v X :=
  row_fr h ⟨hb.os, hb.tape, hb.output, hb.size, fun i hi hm => hb.block i hi (by simpa using hm)⟩ (F := [g]) (fun k hk hm => by
    simp only [List.mem_cons, List.not_mem_nil, or_false] at hm
    exact hne (by rw [hk, hm]))

def F10 (b q g L : Nat) (db : Value) (i : Nat) (v : Value) (_ : World) : Prop := match i with
  | 0 => v = .pointer (some ⟨q, 10, none⟩)
  | 1 => v = .slice (some ⟨g, 0, none⟩) L L
  | 4 => v = .pointer (some ⟨b, 12, none⟩)
  | 5 => v = db
  | _ => v = .pointer (some ⟨b, 0, none⟩)

theorem field10 (q : Nat) (w : World) : (Instr.fieldAt 29 (.pointer (some ⟨q, 0, none⟩)) 1).run Try.prog w = .ok (.pointer (some ⟨q, 10, none⟩)) w := by kernel_rfl

theorem own_belowB {W W' : World} {N B : Nat} {v : Value} {X : List Nat} (h : OwnB W N v X) (hb : Below B W W') (hg : ∀ g, v.ownBlock = some g → g < B) : OwnB W' N v X := by
  refine ⟨h.1, ?_⟩
  rcases h.2 with hn | ⟨g, cap, cur, rfl, q1, q2, q3⟩
  · exact .inl hn
  · exact .inr ⟨g, cap, cur, rfl, q1, (hb.block g (hg g rfl)).trans q2, q3⟩

theorem wpListIn_val {l m : Nat} {P : Program} {ops : Array Oper} {rest : List Oper} {o : Oper} {a : Act} {w w' : World} {Q : Exit → Act → World → Prop} {v : Value} (hgd : o.guard = none) (hnd : ∀ c, o.op ≠ .defer c) (hr : (execOp a.eval o).run P w = .ok (.value v) w') (h : wpListIn (Fence.wide.inRound l) m P ops Q rest (a.put o.dst v) w') : wpListIn (Fence.wide.inRound l) m P ops Q (o :: rest) a w :=
  wpListIn_plain hgd fun _ hK => wpIn_val hnd hr (hK _ _ h)

def jnL (o : Nat) (B : List Nat) (X : List Nat) (is : List Nat) : List Nat := is.foldl (fun X i => splice X (o + 8 * i) (partL B i)) X
theorem jnL_snoc (o : Nat) (B X is : List Nat) (i : Nat) : jnL o B X (is ++ [i]) = splice (jnL o B X is) (o + 8 * i) (partL B i) := by simp [jnL]
theorem jnL_len (o : Nat) (B : List Nat) : ∀ (is X : List Nat), (∀ i ∈ is, i < stepsN B.length) → o + B.length ≤ X.length → (jnL o B X is).length = X.length
  | [], X, _, _ => rfl
  | i :: is, X, hi, hl => by
    obtain ⟨h1, h2, h3⟩ := partL_len (hi i (List.mem_cons_self ..))
    have e : (splice X (o + 8 * i) (partL B i)).length = X.length := length_splice _ _ _ (by omega)
    have := jnL_len o B is (splice X (o + 8 * i) (partL B i)) (fun j hj => hi j (List.mem_cons_of_mem _ hj)) (by omega)
    exact this.trans e

/-- The body of the whole packet. -/
def joinL (d : Dg) (o : Nat) (B : List Nat) (L : Nat) : List Nat := jnL o B (splice (List.replicate L 0) 0 d.body) (newsL d.hv o B.length)

theorem joined_any (b : Nat) (d : Dg) (do_ db dh : Value) (h : Hd) (vo vb : Value) (B : List Nat) (o L : Nat) (w : World) (hd : DgAt w b d do_ db dh) (hvo : SeesB w vo h.opts) (hvb : SeesB w vb B) (ho : h.off = (o : Int)) (hol : h.opts.length ≤ 40) (hL : (L : Int) = lenW d h B.length) (hL1 : o + B.length ≤ L) (hL2 : d.body.length ≤ L) (hL3 : L ≤ 65535) :
    Calls Try.prog 41 #[.pointer (some ⟨b, 0, none⟩), .agg (pkCells h vo vb)] w fun e w' => ∃ V vB, e = .returned (.agg (pkCells { headW d h with mf := false } V vB)) ∧ OwnB w' w.heap.size V (headW d h).opts ∧ OwnB w' w.heap.size vB (joinL d o B L) ∧ Below w.heap.size w w' := by
  obtain ⟨ab, nB, cb, hvs, HNB, _, _⟩ := hvb.shape
  obtain ⟨w1, hw1⟩ : ∃ w1, w1 = (w.alloc (.cells (pkCells h vo vb) 29)).alloc (.cells Z29 29) := ⟨_, rfl⟩
  have hs1 : w1.heap.size = w.heap.size + 2 := by rw [hw1]; simp
  have hb1 : Below w.heap.size w w1 := by rw [hw1]; exact ((Below.refl _ _).alloc (Nat.le_refl _) _).alloc (by simp) _
  have hk0 : w1.heap[w.heap.size]? = some (.cells (pkCells h vo vb) 29) := by
    have h1 : Below (w.heap.size + 1) (w.alloc (.cells (pkCells h vo vb) 29)) w1 := by rw [hw1]; exact (Below.refl _ _).alloc (by simp) _
    rw [h1.block _ (by omega)]
    exact heap_alloc_new w _
  have hk1 : w1.heap[w.heap.size + 1]? = some (.cells Z29 29) := by
    have := heap_alloc_new (w.alloc (.cells (pkCells h vo vb) 29)) (.cells Z29 29)
    rw [World.size_alloc] at this
    rw [hw1]; exact this
  have HD1 := hid (hd.below hb1)
  have HVO := hid (hvo.below hb1)
  have HVB := hid (hvb.below hb1)
  have HPK : Hid (∀ u, Below w1.heap.size w1 u → (Instr.loadAt 29 (.pointer (some ⟨w.heap.size, 0, none⟩))).run Try.prog u = .ok (.agg (pkCells h vo vb)) u) := fun u hu => pk_load (below_keeps hu hk0 (by omega))
  have HK0 := hid hk0
  have HK1 := hid hk1
  have HW1 := hid hw1
  have HB1 := hid hb1
  have HS1 := hid hs1
  have HL := hid hL
  have HOL := hid (headW_opts hd h hol)
  have HBY := hid (headW_bytes hd.ob hvo.bytes)
  obtain ⟨cs, hcs⟩ : ∃ cs, cs = pkCells h vo vb := ⟨_, rfl⟩
  have HCS := hid hcs
  rw [← hcs] at HW1 ⊢
  clear hw1 hs1 hb1 hk0 hk1 hd hvo hvb hcs hL
  refine (callsIn_wide (n := 9)).1 ?_
  refine callsIn_of_wp_marks Try.func41 rfl trivial ?_ rfl
  refine wpIn_wide.2 ?_
  simp only [Try.ntmps41, List.size_toArray, List.length_cons, List.length_nil, Nat.reduceAdd, Nat.reduceSub, Array.replicate_succ, Array.replicate_zero, List.push_toArray, List.append_toArray, List.nil_append, List.cons_append]
  go_upto_region 1 with fail
  have e0 : (w.alloc (.cells cs 29)).alloc (.cells Z29 29) = w1 := HW1.out.symm
  unfold Z29 at e0
  rw [e0]
  clear e0
  refine wp_region_pairs' 10 dst9 (F9 b (w.heap.size + 2) d h vo vb L) (Pr9 (headW d h)) (by kernel_rfl) (by kernel_rfl) F9_keeps ?_ ?_
  · simp only [List.take_succ_cons, List.take_zero, stepsP]
    refine ⟨?_, ?_, ?_, ?_, ?_, ?_, ?_, ?_, ?_, ?_, trivial⟩
    · intro a u vs hb hold hdep hpair
      exact wp_val (ex_move (.tmp 0) _ rfl (hold 0 (fun j hj => dst9_low j hj _ (by decide)))) ⟨_, rfl, rfl, hb, Below.refl _ _, fun _ _ _ _ => Pr9_any (by decide) (by decide)⟩
    · intro a u vs hb hold hdep hpair
      exact wp_load 29 ⟨w.heap.size, 0, none⟩ (.tmp 3) _ rfl (hold 3 (fun j hj => dst9_low j hj _ (by decide))) (HPK.out u hb) ⟨_, rfl, rfl, hb, Below.refl _ _, fun _ _ _ _ => Pr9_any (by decide) (by decide)⟩
    · intro a u vs hb hold hdep hpair
      have h1 := hdep ⟨0, .data⟩ (by simp) rfl (by decide)
      have h2 := hdep ⟨1, .data⟩ (by simp) rfl (by decide)
      have e1 : a.eval (.tmp 8) = .pointer (some ⟨b, 0, none⟩) := h1.1.trans h1.2
      have e2 : a.eval (.tmp 9) = .agg (pkCells h vo vb) := h2.1.trans h2.2
      refine wp_call 67 _ _ rfl (enters_of Try.func67 (by kernel_rfl) rfl) #[.pointer (some ⟨b, 0, none⟩), .agg (pkCells h vo vb)] (by simp [e1, e2]) ?_
      refine (headWith_any b d do_ db dh h vo vb u (HD1.out.below hb) (HVO.out.below hb)).mono ?_
      rintro _ u' ⟨V, rfl, hs, hb'⟩
      exact ⟨_, rfl, _, rfl, ⟨V, rfl, hs⟩, hb.trans (hb'.mono hb.size), hb', fun _ _ _ _ => Pr9_any (by decide) (by decide)⟩
    · intro a u vs hb hold hdep hpair
      have h1 := hdep ⟨2, .data⟩ (by simp) rfl (by decide)
      obtain ⟨V, e0, hs⟩ := h1.2
      have e1 : a.eval (.tmp 10) = .agg (hdCells (headW d h) V) := h1.1.trans e0
      refine wp_call 62 _ _ rfl (enters_of Try.func62 (by kernel_rfl) rfl) #[.agg (hdCells (headW d h) V)] (by simp [e1]) ?_
      refine (freshHead_any (headW d h) V u hs (by have := HOL.out; omega)).mono ?_
      rintro _ u' ⟨V', rfl, ho', hb'⟩
      refine ⟨_, rfl, _, rfl, ⟨V', rfl, OwnB.mono ho' (by have := hb.size; have := HS1.out; omega)⟩, hb.trans (hb'.mono hb.size), hb', fun j v' hj hf => ⟨fun _ e7 V2 hV2 g hg hg' => ?_, fun e => absurd e (by decide)⟩⟩
      subst e7
      obtain ⟨g', hv', hO⟩ := hf
      have hlt := (World.ownsRow.lt hO g hg').2
      rw [← hdCells_inj hV2] at hg
      have hge := (World.ownsRow.lt ho' g hg).1
      omega
    · intro a u vs hb hold hdep hpair
      exact wp_val (ex_move (.tmp 0) _ rfl (hold 0 (fun j hj => dst9_low j hj _ (by decide)))) ⟨_, rfl, rfl, hb, Below.refl _ _, fun _ _ _ _ => Pr9_any (by decide) (by decide)⟩
    · intro a u vs hb hold hdep hpair
      exact wp_load 29 ⟨w.heap.size, 0, none⟩ (.tmp 3) _ rfl (hold 3 (fun j hj => dst9_low j hj _ (by decide))) (HPK.out u hb) ⟨_, rfl, rfl, hb, Below.refl _ _, fun _ _ _ _ => Pr9_any (by decide) (by decide)⟩
    · intro a u vs hb hold hdep hpair
      have h1 := hdep ⟨4, .data⟩ (by simp) rfl (by decide)
      have h2 := hdep ⟨5, .data⟩ (by simp) rfl (by decide)
      have e1 : a.eval (.tmp 12) = .pointer (some ⟨b, 0, none⟩) := h1.1.trans h1.2
      have e2 : a.eval (.tmp 13) = .agg (pkCells h vo vb) := h2.1.trans h2.2
      refine wp_call 66 _ _ rfl (enters_of Try.func66 (by kernel_rfl) rfl) #[.pointer (some ⟨b, 0, none⟩), .agg (pkCells h vo vb)] (by simp [e1, e2]) ?_
      refine (lengthWith_any b d do_ db dh h vo vb B u (HD1.out.below hb) (HVB.out.below hb) (by omega) (by omega) (by omega)).mono ?_
      rintro _ u' ⟨rfl, hb'⟩
      refine ⟨_, rfl, _, rfl, ?_, hb.trans (hb'.mono hb.size), hb', fun _ _ _ _ => Pr9_any (by decide) (by decide)⟩
      show Value.int .i64 (lenW d h B.length) = .int .i64 (L : Int)
      rw [HL.out]
    · intro a u vs hb hold hdep hpair
      have h1 := hdep ⟨6, .data⟩ (by simp) rfl (by decide)
      have hb' : Below u.heap.size u (u.alloc (.cells (madeCells #[.int .u8 0] L) 5)) := (Below.refl _ _).alloc (Nat.le_refl _) _
      refine wp_val (ex_make (.tmp 14) L (by omega) rfl (h1.1.trans h1.2)) ⟨_, rfl, ⟨u.heap.size, rfl, own_made u _ L (by omega) (by have := hb.size; have := HS1.out; omega)⟩, hb.trans (hb'.mono hb.size), hb', fun j v' hj hf => ⟨fun e => absurd e (by decide), fun _ e3 V2 hV2 g hg hg' => ?_⟩⟩
      subst e3
      obtain ⟨V, hv', hO⟩ := hf
      rw [hv'] at hV2
      rw [← hdCells_inj hV2] at hg
      have hlt := (World.ownsRow.lt hO g hg).2
      have hgg : u.heap.size = g := Option.some.inj hg'
      omega
    · intro a u vs hb hold hdep hpair
      have h1 := hdep ⟨3, .data⟩ (by simp) rfl (by decide)
      have h2 := hdep ⟨7, .data⟩ (by simp) rfl (by decide)
      have hp := hpair ⟨3, .data⟩ (by simp) ⟨7, .data⟩ (by simp) rfl rfl (by decide) (by decide) (by decide)
      obtain ⟨V, hV, hO⟩ := h1.2
      obtain ⟨g, hg, hO2⟩ := h2.2
      have e1 : a.eval (.tmp 11) = .agg (hdCells (headW d h) V) := h1.1.trans hV
      have e2 : a.eval (.tmp 15) = .slice (some ⟨g, 0, none⟩) L L := h2.1.trans hg
      obtain ⟨aV, cV, rfl⟩ := hO.shape
      refine wp_val (ex_build (headW d h) aV _ cV g L e1 e2) ⟨_, rfl, ⟨_, g, rfl, hO, by rw [← hg]; exact hO2, fun hx => ?_⟩, hb, Below.refl _ _, fun _ _ _ _ => Pr9_any (by decide) (by decide)⟩
      rcases hp with hp | hp
      · exact hp.1 rfl rfl _ hV g hx (by show (vs 7).ownBlock = _; rw [hg]; rfl)
      · exact hp.2 rfl rfl _ hV g hx (by show (vs 7).ownBlock = _; rw [hg]; rfl)
    · intro a u vs hb hold hdep hpair
      have hb' : Below u.heap.size u (u.alloc (.cells Z29 29)) := (Below.refl _ _).alloc (Nat.le_refl _) _
      refine wp_val (ex_alloc29 a u) ⟨_, rfl, ⟨u.heap.size, rfl, heap_alloc_new u _, by have := hb.size; have := HS1.out; omega⟩, hb.trans (hb'.mono hb.size), hb', fun _ _ _ _ => Pr9_any (by decide) (by decide)⟩
  intro vs u hb hF _
  have e0 : vs 0 = .pointer (some ⟨b, 0, none⟩) := hF 0 (by decide)
  have e1 : vs 1 = .agg (pkCells h vo vb) := hF 1 (by decide)
  obtain ⟨V2, e2, _⟩ := hF 2 (by decide)
  obtain ⟨V3, e3, _⟩ := hF 3 (by decide)
  have e4 : vs 4 = .pointer (some ⟨b, 0, none⟩) := hF 4 (by decide)
  have e5 : vs 5 = .agg (pkCells h vo vb) := hF 5 (by decide)
  have e6 : vs 6 = .int .i64 (L : Int) := hF 6 (by decide)
  obtain ⟨g7, e7, _⟩ := hF 7 (by decide)
  obtain ⟨V, g, e8, hV, hG, hne⟩ := hF 8 (by decide)
  obtain ⟨q, e9, hq, hqN⟩ := hF 9 (by decide)
  rw [← HCS.out] at e1 e5
  obtain ⟨c10, hc10⟩ : ∃ c, c = vs 2 := ⟨_, rfl⟩
  obtain ⟨c11, hc11⟩ : ∃ c, c = vs 3 := ⟨_, rfl⟩
  obtain ⟨c15, hc15⟩ : ∃ c, c = vs 7 := ⟨_, rfl⟩
  obtain ⟨aV, cV, rfl⟩ := hV.shape
  simp only [List.drop_succ_cons, List.drop_zero, puts, List.range, List.range.loop, List.foldr, if_true, Act.put, e0, e1, e4, e5, e6, e8, e9, ← hc10, ← hc11, ← hc15, dst9, Nat.reduceAdd, Nat.reduceEqDiff, if_false, List.setIfInBounds_toArray, List.set_cons_succ, List.set_cons_zero]
  clear e0 e1 e2 e3 e4 e5 e6 e7 e8 e9 hF hc10 hc11 hc15
  obtain ⟨nV, hnV⟩ : ∃ nV, nV = (headW d h).opts.length := ⟨_, rfl⟩
  rw [← hnV] at hV hne ⊢
  obtain ⟨cw, hcw⟩ : ∃ cw, cw = pkCells (headW d h) (.slice aV nV cV) (.slice (some ⟨g, 0, none⟩) L L) := ⟨_, rfl⟩
  have HCW := hid hcw
  rw [← hcw]
  have HBU := hid hb
  have HV := hid hV
  have HG := hid hG
  have HNE := hid hne
  have HQ := hid hq
  have HQN := hid hqN
  have HALL : Hid (cw.all (·.oneCell') = true) := by unfold Hid; rw [hcw]; exact all_pk _ _ _ _ _ _ _
  have HSZ : Hid (cw.size = 11) := by unfold Hid; rw [hcw]; rfl
  clear hcw hb hV hG hne hq hqN hnV
  go_wp2_with (first | (refine wpList_st rfl 29 (.tmp 5) (.tmp 16) rfl q cw rfl rfl 29 Z29 HQ.out (by rw [HSZ.out]; exact sz29) (by rw [HSZ.out]; rfl) HALL.out ?_) | fail)
  intro u2 hk2 hbut2
  have HK2 : Hid (u2.heap[q]? = some (.cells (pkCells (headW d h) (.slice aV nV cV) (.slice (some ⟨g, 0, none⟩) L L)) 29)) := by unfold Hid; rw [← HCW.out]; exact hk2
  have HU2 := hid hbut2
  clear hk2 hbut2
  go_wp2_with (first | (refine wpList_st1 rfl 4 (.tmp 18) (.const (.bool false)) rfl q 3 (.bool false) rfl rfl rfl 29 _ (pkCells { headW d h with mf := false } (.slice aV nV cV) (.slice (some ⟨g, 0, none⟩) L L)) HK2.out size4 (by show 3 < 11; decide) rfl ?_) | fail)
  intro u3 hk3 hbut3
  have HK3 := hid hk3
  have HU3 := hid hbut3
  clear hk3 hbut3
  have hb3 : Below w1.heap.size w1 u3 := by
    have hN := HQN.out; have h1 := HS1.out
    exact HU3.out.below (HU2.out.below HBU.out HBU.out.size (by omega)) (HU2.out.below HBU.out HBU.out.size (by omega)).size (by omega)
  have hqg : ∀ g', (Value.slice (some ⟨g', 0, none⟩) L L).ownBlock = some q → OwnB u (w.heap.size + 2) (.slice (some ⟨g', 0, none⟩) L L) (List.replicate L 0) → False := fun g' hg' hO =>
    row_kind hO hg' HQ.out (fun cur hc => by cases hc) rfl
  have hgq : g ≠ q := fun e => hqg g (by rw [e]; rfl) HG.out
  have hVq : (Value.slice aV nV cV).ownBlock ≠ some q := fun e => row_kind HV.out e HQ.out (fun cur hc => by cases hc) rfl
  have hG3 : OwnB u3 (w.heap.size + 2) (.slice (some ⟨g, 0, none⟩) L L) (List.replicate L 0) := own_but (own_but HG.out HU2.out (fun e => hgq (Option.some.inj e))) HU3.out (fun e => hgq (Option.some.inj e))
  have hV3 : OwnB u3 (w.heap.size + 2) (.slice aV nV cV) (headW d h).opts := own_but (own_but HV.out HU2.out hVq) HU3.out hVq
  have HB3 := hid hb3
  have HG3 := hid hG3
  have HV3 := hid hV3
  have HGQ := hid hgq
  have HVQ := hid hVq
  obtain ⟨ad, cd, hdb⟩ := HD1.out.body.shape
  have HDB := hid hdb
  obtain ⟨nd, hnd⟩ : ∃ nd, nd = d.body.length := ⟨_, rfl⟩
  have HND := hid hnd
  rw [← hnd] at hL2
  clear hb3 hqg hgq hVq hG3 hV3 HU2 HU3 HK2 HG HV HBU HALL HSZ HCW HQ hdb hnd
  go_upto_region 3 with fail
  refine wp_region_mono' 6 (fun i => 19 + i) (F10 b q g L db) (by kernel_rfl) (by kernel_rfl) (fun i v u u' hf _ => hf) ?_ ?_
  · simp only [List.take_succ_cons, List.take_zero, stepsOk]
    refine ⟨?_, ?_, ?_, ?_, ?_, ?_, trivial⟩
    · intro a u vs hb hold hdep
      exact wp_val (ex_field 29 ⟨q, 0, none⟩ (.tmp 5) 1 _ rfl (hold 5 (fun j _ => low (by decide))) (field10 q u)) ⟨_, rfl, rfl, hb, Below.refl _ _⟩
    · intro a u vs hb hold hdep
      have h1 := hdep ⟨0, .data⟩ (by simp) rfl (by decide)
      exact wp_load 22 ⟨q, 10, none⟩ (.tmp 19) (.slice (some ⟨g, 0, none⟩) L L) rfl (h1.1.trans h1.2) (load1 Try.underlying22 rfl (by rw [cell_of_row _ _ _ _ _ _ (below_keeps hb HK3.out (Array.getElem?_eq_some_iff.1 HK3.out).1)]; rfl)) ⟨_, rfl, rfl, hb, Below.refl _ _⟩
    · intro a u vs hb hold hdep
      exact wp_val (ex_move (.tmp 0) _ rfl (hold 0 (fun j _ => low (by decide)))) ⟨_, rfl, rfl, hb, Below.refl _ _⟩
    · intro a u vs hb hold hdep
      have h1 := hdep ⟨2, .data⟩ (by simp) rfl (by decide)
      exact wp_nil ⟨b, 0, none⟩ (.tmp 21) rfl (h1.1.trans h1.2) ⟨_, rfl, rfl, hb, Below.refl _ _⟩
    · intro a u vs hb hold hdep
      have h1 := hdep ⟨3, .data⟩ (by simp) rfl (by decide)
      exact wp_val (ex_field 97 ⟨b, 0, none⟩ (.tmp 22) 3 _ rfl (h1.1.trans h1.2) (field12 b u)) ⟨_, rfl, rfl, hb, Below.refl _ _⟩
    · intro a u vs hb hold hdep
      have h1 := hdep ⟨4, .data⟩ (by simp) rfl (by decide)
      exact wp_load 22 ⟨b, 12, none⟩ (.tmp 23) db rfl (h1.1.trans h1.2) (load1 Try.underlying22 rfl (by rw [((HD1.out.below HB3.out).below hb).at 12 (by decide)]; rfl)) ⟨_, rfl, rfl, hb, Below.refl _ _⟩
  intro vs u4 hb hF
  have e0 : vs 0 = .pointer (some ⟨q, 10, none⟩) := hF 0 (by decide)
  have e1 : vs 1 = .slice (some ⟨g, 0, none⟩) L L := hF 1 (by decide)
  have e2 : vs 2 = .pointer (some ⟨b, 0, none⟩) := hF 2 (by decide)
  have e3 : vs 3 = .pointer (some ⟨b, 0, none⟩) := hF 3 (by decide)
  have e4 : vs 4 = .pointer (some ⟨b, 12, none⟩) := hF 4 (by decide)
  have e5 : vs 5 = db := hF 5 (by decide)
  rw [HDB.out, ← HND.out] at e5
  simp only [List.drop_succ_cons, List.drop_zero, puts, List.range, List.range.loop, List.foldr, if_true, Act.put, e0, e1, e2, e3, e4, e5, Nat.reduceAdd, List.setIfInBounds_toArray, List.set_cons_succ, List.set_cons_zero]
  clear e0 e1 e2 e3 e4 e5 hF
  have HB4 : Hid (Below w1.heap.size w1 u4) := HB3.out.trans (hb.mono HB3.out.size)
  have HK4 := hid (below_keeps hb HK3.out (Array.getElem?_eq_some_iff.1 HK3.out).1)
  have HG4 := hid (HG3.out.below hb)
  have HV4 := hid (HV3.out.below hb)
  have HSD : Hid (SeesB u4 (.slice ad nd cd) d.body) := by
    unfold Hid
    have h1 := HD1.out.below HB4.out
    have h2 := h1.body.sees h1.bb
    rwa [HDB.out, ← HND.out] at h2
  clear hb HG3 HV3 HK3 HB3
  go_wp2_with (first | (refine wpList_copy_but rfl (.tmp 20) (.tmp 24) rfl (some ⟨g, 0, none⟩) ad L L nd cd rfl rfl g 0 (bs (List.replicate L 0)) (own_at HG4.out).1 (bs d.body) ?c1 ?c2 ?c3 ?c4 ?_) | fail)
  case c1 => rw [bs, List.length_map, ← HND.out]; exact (Nat.min_eq_left hL2).symm
  case c2 => exact fun hp => HSD.out.src hp
  case c3 => simp only [bs, List.length_map, List.length_replicate]; have := HND.out; omega
  case c4 => intro v hv; obtain ⟨y, _, rfl⟩ := List.mem_map.1 hv; rfl
  intro u5 hk5 hbut5
  rw [bs_splice] at hk5
  have HX5 : Hid ((splice (List.replicate L 0) 0 d.body).length = L) := by
    unfold Hid; rw [length_splice _ _ _ (by have := HND.out; simp; omega), List.length_replicate]
  have HG5 := hid (own_blk hk5 HX5.out.symm (own_at HG4.out).2.1 (by omega))
  have HV5 := hid (own_but HV4.out hbut5 HNE.out)
  have HK5 := hid (hbut5.keeps HK4.out (Ne.symm HGQ.out))
  have HB5 : Hid (Below w1.heap.size w1 u5) := hbut5.below HB4.out HB4.out.size (by have := (own_at HG4.out).2.1; have := HS1.out; omega)
  have HBB : Hid (g < u5.heap.size ∧ q < u5.heap.size ∧ (∀ y, (Value.slice aV nV cV).ownBlock = some y → y < u5.heap.size) ∧ w.heap.size + 2 ≤ u5.heap.size) :=
    ⟨(World.ownsRow.lt HG5.out g rfl).2, (Array.getElem?_eq_some_iff.1 HK5.out).1, fun y hy => (World.ownsRow.lt HV5.out y hy).2, by have := HB5.out.size; have := HS1.out; omega⟩
  obtain ⟨X5, hX5⟩ : ∃ X5, X5 = splice (List.replicate L 0) 0 d.body := ⟨_, rfl⟩
  rw [← hX5] at HX5 HG5
  have HX5E := hid hX5
  have HVBX := hid hvs
  have HLP := hid (HPK.out u5 HB5.out)
  have HNW := hid (news_any b h vo vb u5)
  rw [← HCS.out] at HLP HNW
  clear hk5 hbut5 HG4 HV4 HK4 HB4 HSD hX5 hvs HPK
  go_wp2_with (first | (refine wpList_ld 29 ⟨w.heap.size, 0, none⟩ (.tmp 3) rfl rfl HLP.out rfl ?_) | fail)
  refine HNW.out.mono ?_
  rintro _ u8 ⟨rfl, hu8⟩
  have HS8 : Hid (u8.heap.size = u5.heap.size + 2) := by unfold Hid; rw [hu8]; simp
  have hb8 : Below u5.heap.size u5 u8 := by rw [hu8]; exact ((Below.refl _ _).alloc (Nat.le_refl _) _).alloc (by simp) _
  have HK8 : Hid (u8.heap[u5.heap.size]? = some (.cells #[.pointer (some ⟨b, 0, none⟩)] 94) ∧ u8.heap[u5.heap.size + 1]? = some (.cells cs 29)) := by
    refine ⟨?_, ?_⟩
    · have h1 : Below (u5.heap.size + 1) (u5.alloc (.cells #[.pointer (some ⟨b, 0, none⟩)] 94)) u8 := by rw [hu8]; exact (Below.refl _ _).alloc (by simp) _
      rw [h1.block _ (by omega)]
      exact heap_alloc_new u5 _
    · have := heap_alloc_new (u5.alloc (.cells #[.pointer (some ⟨b, 0, none⟩)] 94)) (.cells cs 29)
      rw [World.size_alloc] at this
      rw [hu8]; exact this
  have HB8 : Hid (Below w1.heap.size w1 u8) := HB5.out.trans (hb8.mono HB5.out.size)
  have HG8 := hid (HG5.out.below hb8)
  have HV8 := hid (HV5.out.below hb8)
  have HK8q := hid (below_keeps hb8 HK5.out (Array.getElem?_eq_some_iff.1 HK5.out).1)
  clear hu8 hb8 HLP HNW HG5 HV5 HK5
  obtain ⟨S, hS⟩ : ∃ S, S = newsL d.hv o nB := ⟨_, rfl⟩
  have HSE := hid hS
  have HSM : Hid (∀ i ∈ S, i < stepsN B.length) := fun i hi => by
    rw [hS, HNB.out] at hi
    exact List.mem_range.1 (List.mem_filter.1 hi).1
  clear hS
  go_wp2_with fail
  refine wpIn_wide.1 (wpIn_gives (n := 9) (F := Fence.wide) rfl (by omega) (gf := 91) (lb := #[.pointer (some ⟨u5.heap.size + 1, 0, none⟩), .pointer (some ⟨u5.heap.size, 0, none⟩)]) rfl trivial (enters_of Try.func91 (by kernel_rfl) rfl)
    (news_gives 8 (by omega) o (u5.heap.size + 1) u5.heap.size b h vo ab nB cb B u8 d.hv (by have := HVB.out.below HB8.out; rwa [HVBX.out] at this) ho (by omega) (by have := HNB.out; omega)) (fun _ => rfl)
    (fun k W => u5.heap.size + 2 ≤ W.heap.size ∧ Below w1.heap.size w1 W ∧ (W.heap[u5.heap.size]? = some (.cells #[.pointer (some ⟨b, 0, none⟩)] 94) ∧ W.heap[u5.heap.size + 1]? = some (.cells cs 29)) ∧ W.heap[q]? = some (.cells (pkCells { headW d h with mf := false } (.slice aV nV cV) (.slice (some ⟨g, 0, none⟩) L L)) 29) ∧ OwnB W (w.heap.size + 2) (.slice (some ⟨g, 0, none⟩) L L) (jnL o B X5 (S.take k)) ∧ OwnB W (w.heap.size + 2) (.slice aV nV cV) (headW d h).opts) ?hI ?hF ?h0
    (fun i => { tmps := #[.pointer (some ⟨b, 0, none⟩), .agg cs, undef, .pointer (some ⟨w.heap.size, 0, none⟩), .pointer (some ⟨w.heap.size + 1, 0, none⟩), .pointer (some ⟨q, 0, none⟩), .int .i64 ((o : Int) + ((8 * i : Nat) : Int)), partV ab nB cb i, .pointer (some ⟨b, 0, none⟩), .agg cs, c10, c11, .pointer (some ⟨b, 0, none⟩), .agg cs, .int .i64 (L : Int), c15, .agg cw, .pointer (some ⟨q, 0, none⟩), .pointer (some ⟨q, 3, none⟩), .pointer (some ⟨q, 10, none⟩), .slice (some ⟨g, 0, none⟩) L L, .pointer (some ⟨b, 0, none⟩), .pointer (some ⟨b, 0, none⟩), .pointer (some ⟨b, 12, none⟩), .slice ad nd cd, .int .i64 ((bs d.body).length : Int), .pointer (some ⟨b, 0, none⟩), .agg cs, .func (.func 91) #[] #[.pointer (some ⟨u5.heap.size + 1, 0, none⟩), .pointer (some ⟨u5.heap.size, 0, none⟩)], .int .i64 ((o : Int) + ((8 * i : Nat) : Int)), partV ab nB cb i, undef, undef, undef, undef, undef, undef, undef], defers := [] }) ?assign ?body ?done)
  case hI =>
    rw [HS8.out]
    refine ownFrom_below' (fun k W hi => hi.1) ?_
    rintro k W W' ⟨i1, i2, ⟨i3, i4⟩, i5, i6, i7⟩ hb
    obtain ⟨q0, q1, q2, q3⟩ := HBB.out
    have hs1 := HS1.out
    exact ⟨Nat.le_trans i1 hb.size, i2.trans (hb.mono (by omega)), ⟨below_keeps hb i3 (by omega), below_keeps hb i4 (by omega)⟩, below_keeps hb i5 (by omega), own_belowB i6 hb (fun y hy => by have : g = y := Option.some.inj hy; omega), own_belowB i7 hb (fun y hy => by have := q2 y hy; omega)⟩
  case hF =>
    rintro k W ⟨i1, i2, ⟨i3, i4⟩, i5, i6, i7⟩
    exact ⟨by rw [← HVBX.out, ← HCS.out]; exact i4, by rw [cell_of_row _ _ _ _ _ _ i3]; rfl, _, _, _, _, HD1.out.below i2, fun _ _ _ => rfl⟩
  case h0 => exact ⟨by have := HS8.out; omega, HB8.out, HK8.out, HK8q.out, by rw [List.take_zero]; exact HG8.out, HV8.out⟩
  case assign =>
    intro l x W K hK
    gi_wp2
    exact hK
  case body =>
    rintro l k x W ⟨i1, i2, ⟨i3, i4⟩, i5, i6, i7⟩ hx
    rw [← HSE.out] at hx
    have hxm : x < stepsN B.length := HSM.out x (List.mem_of_getElem? hx)
    obtain ⟨p1, p2, p3⟩ := partL_len hxm
    have hlen := jnL_len o B (S.take k) X5 (fun j hj => HSM.out j (List.mem_of_mem_take hj)) (by have := HX5.out; omega)
    have HNX : Hid (jnL o B X5 (S.take (k + 1)) = splice (jnL o B X5 (S.take k)) (o + 8 * x) (partL B x)) := by unfold Hid; rw [takeN_snoc hx, jnL_snoc]
    obtain ⟨X, hX⟩ : ∃ X, X = jnL o B X5 (S.take k) := ⟨_, rfl⟩
    rw [← hX] at i6 HNX hlen
    obtain ⟨at_, hat⟩ : ∃ at_ : Nat, at_ = o + 8 * x := ⟨_, rfl⟩
    obtain ⟨pn, hpn⟩ : ∃ pn, pn = partN B.length x := ⟨_, rfl⟩
    have hfit : at_ + pn ≤ L := by omega
    have hpv : partV ab nB cb x = .slice (partA ab cb x) pn (cb - 8 * x) := by unfold partV; rw [hpn, HNB.out]; rfl
    have hatI : ((o : Int) + ((8 * x : Nat) : Int)) = (at_ : Int) := by omega
    have hsp : SeesB W (.slice (partA ab cb x) pn (cb - 8 * x)) (partL B x) := by
      have h1 := HVB.out.below i2
      rw [HVBX.out] at h1
      have h2 := (part_sees h1 x (by rw [HNB.out]; exact hxm)).1
      rwa [hpv] at h2
    obtain ⟨u', hr, hO, hFr⟩ := copy_own W 3 g L L at_ X (partL B x) (OwnB.mono i6 (Nat.zero_le _)) (by rw [hlen]; exact HX5.out.symm) (by omega) (by omega) (partA ab cb x) pn (cb - 8 * x) (by rw [hpn]; exact p1.symm) hsp
    have hgN := (own_at i6).2.1
    have hO := own_blk (base := w.heap.size + 2) (own_at hO).1 (own_at hO).2.2 hgN (by omega)
    have hcut := cutB_at W g L L at_ (by omega) (Nat.le_refl _)
    have cq : W.cell? ⟨q, 10, none⟩ = some (.slice (some ⟨g, 0, none⟩) L L) := by rw [cell_of_row _ _ _ _ _ _ i5]; rfl
    rw [hatI, hpv]
    rw [← hat] at HNX
    have HO := hid hO
    have HFR := hid hFr
    have HI1 := hid i1
    have HI2 := hid i2
    have HI3 := hid i3
    have HI4 := hid i4
    have HI5 := hid i5
    have HI7 := hid i7
    have hatl : at_ ≤ 65535 := by omega
    have hatL : at_ ≤ L := by omega
    clear hx hX hat hpn hpv hatI hsp hO hFr i1 i2 i3 i4 i5 i6 i7 p1 p2 p3 hlen hxm hgN
    gi_wp2_with fail
    have hg8 := HBB.out
    have hS8 := HS8.out
    have hN := (own_at HO.out).2.1
    have hS1 := HS1.out
    have hBg : But g W u' := ⟨HFR.out.os, HFR.out.tape, HFR.out.output, HFR.out.size, fun i hi hn => HFR.out.block i hi (by simpa using hn)⟩
    refine ⟨⟨HFR.out.size, fun j ob hj hw _ => by rw [HFR.out.block j (Array.getElem?_eq_some_iff.1 hw).1 (by simp only [List.mem_cons, List.not_mem_nil, or_false]; omega)]; exact hw⟩, Nat.le_trans HI1.out HFR.out.size, hBg.below HI2.out HI2.out.size (by omega), ⟨hBg.keeps HI3.out (by omega), hBg.keeps HI4.out (by omega)⟩, hBg.keeps HI5.out (Ne.symm HGQ.out), ?_, own_but HI7.out hBg HNE.out⟩
    rw [HNX.out]; exact HO.out
  case done =>
    rintro D W hD ⟨i1, i2, ⟨i3, i4⟩, i5, i6, i7⟩ hK
    have hS1 := HS1.out
    have HI2 := hid i2
    have HI5 := hid i5
    have HI6 := hid i6
    have HI7 := hid i7
    have HKD := hid hK
    have HDD := hid hD
    have HR1 := hid (below_keeps i2 HK1.out (by omega))
    have HLQ := hid (pk_load i5)
    obtain ⟨cr, hcr⟩ : ∃ cr, cr = pkCells { headW d h with mf := false } (.slice aV nV cV) (.slice (some ⟨g, 0, none⟩) L L) := ⟨_, rfl⟩
    have HCR := hid hcr
    have HALL : Hid (cr.all (·.oneCell') = true) := by unfold Hid; rw [hcr]; exact all_pk _ _ _ _ _ _ _
    have HSZ : Hid (cr.size = 11) := by unfold Hid; rw [hcr]; rfl
    rw [← hcr] at HLQ
    clear i1 i2 i3 i4 i5 i6 i7 hK hD hS1 hcr
    go_wp2_with (first | (refine wpList_ld 29 ⟨q, 0, none⟩ (.tmp 5) rfl rfl HLQ.out rfl ?_) | (refine wpList_st rfl 29 (.tmp 4) (.tmp 37) rfl (w.heap.size + 1) cr rfl rfl 29 Z29 HR1.out (by rw [HSZ.out]; exact sz29) (by rw [HSZ.out]; rfl) HALL.out ?_) | fail)
    intro u9 hk9 hbut9
    obtain ⟨q0, q1, q2, q3⟩ := HBB.out
    have hS8 := HS8.out
    have hDD := HDD.out
    have hK9 := hbut9.keeps HKD.out (by omega)
    have hb10 : Below u8.heap.size u9 (u9.putObj D (.deferred none)) := belowK_b (w := u8) (Nat.le_refl _) u9 D _ _ HDD.out hK9 rfl rfl
    have hk10 := (hb10.block (w.heap.size + 1) (by omega)).trans hk9
    rw [HCR.out] at hk10
    have HK9 := hid hK9
    have HL10 := hid (pk_var hk10)
    have hgN := (own_at HI6.out).2.1
    have HV10 := hid (own_belowB (own_but HI7.out hbut9 (fun e => by have := (World.ownsRow.lt HI7.out _ e).1; omega)) hb10 (fun y hy => by have := q2 y hy; omega))
    have HG10 := hid (own_belowB (own_but HI6.out hbut9 (fun e => by have : g = w.heap.size + 1 := Option.some.inj e; omega)) hb10 (fun y hy => by have : g = y := Option.some.inj hy; omega))
    have HB10 : Hid (Below w.heap.size w (u9.putObj D (.deferred none))) := by
      have hS1 := HS1.out
      have h1 : Below w.heap.size w W := HB1.out.trans (HI2.out.mono (by omega))
      have h2 := hbut9.below h1 h1.size (by omega)
      exact h2.trans (hb10.mono (by omega))
    clear hk9 hbut9 hK9 hb10 hk10 q0 q1 q2 q3 hS8 hDD hgN
    go_wp2_with fail
    refine ⟨by simp, .inl ⟨_, _, rfl, run_takeDeferred HK9.out, ?_⟩⟩
    refine ⟨.agg (pkCells { headW d h with mf := false } (.slice aV nV cV) (.slice (some ⟨g, 0, none⟩) L L)), by simp [results, Try.results41, asAddr, HL10.out], _, _, rfl, OwnB.mono HV10.out (by omega), ?_, HB10.out⟩
    have eJ : jnL o B X5 (S.take (newsL d.hv o nB).length) = joinL d o B L := by
      rw [← HSE.out, List.take_length, HSE.out, HX5E.out, HNB.out]; rfl
    rw [← eJ]
    exact OwnB.mono HG10.out (by omega)
end Go.Proofs.Ytdoeebbcieiimaa
