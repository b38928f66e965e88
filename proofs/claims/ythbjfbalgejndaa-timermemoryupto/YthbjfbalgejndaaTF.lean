import Derived.Test.YthbjfbalgejndaaTE
namespace Go.Proofs.Ythbjfbalgejndaa.H

theorem E.lt {i j : Nat} (h : E i j) : i < j := by unfold E at h; omega

theorem upd_congr {n : Nat} {h h' : Nat → Dl} (e : ∀ i, i < n → h' i = h i) (p : Nat) (d : Dl) : ∀ i, i < n → upd h' p d i = upd h p d i := fun i hi => by
  unfold upd; split
  · rfl
  · exact e i hi

theorem Hole.congr {n : Nat} {h h' : Nat → Dl} {f : Int → Option Nat} {p : Nat} {d : Dl} (H : Hole n h f p d) (e : ∀ i, i < n → h' i = h i) : Hole n h' f p d := by
  have eu := upd_congr e p d
  refine ⟨H.lt, fun i j hi hj hij => H.inj i j hi hj (by rw [← eu i hi, ← eu j hj]; exact hij), fun i hi hp => by rw [e i hi]; exact H.place i hi hp, fun x k hx => ?_, fun i j hij hj h1 h2 => ?_, fun i c h1 h2 hc => ?_⟩
  · obtain ⟨i, hi, ei⟩ := H.dom x k hx
    exact ⟨i, hi, by rw [eu i hi]; exact ei⟩
  · have := hij.lt
    rw [e i (by omega), e j hj]; exact H.edge i j hij hj h1 h2
  · have h3 := h1.lt
    have h4 := H.lt
    rw [e i (by omega), e c hc]; exact H.byp i c h1 h2 hc

theorem Heap.congr {n : Nat} {h h' : Nat → Dl} {f : Int → Option Nat} (H : Heap n h f) (e : ∀ i, i < n → h' i = h i) : Heap n h' f := by
  refine ⟨fun i j hi hj hij => H.inj i j hi hj (by rw [← e i hi, ← e j hj]; exact hij), fun i hi => by rw [e i hi]; exact H.place i hi, fun x k hx => ?_, fun i j hij hj => ?_⟩
  · obtain ⟨hk, ek⟩ := H.dom x k hx
    exact ⟨hk, by rw [e k hk]; exact ek⟩
  · have := hij.lt
    rw [e i (by omega), e j hj]; exact H.edge i j hij hj

theorem Mem.congr {n : Nat} {h h' : Nat → Dl} (e : ∀ i, i < n → h' i = h i) (x : Dl) : Mem n h' x ↔ Mem n h x :=
  ⟨fun ⟨i, hi, hx⟩ => ⟨i, hi, by rw [← e i hi]; exact hx⟩, fun ⟨i, hi, hx⟩ => ⟨i, hi, by rw [e i hi]; exact hx⟩⟩

theorem Rep.congr {n : Nat} {h h' : Nat → Dl} {S : List Dl} (R : Rep n h S) (e : ∀ i, i < n → h' i = h i) : Rep n h' S := ⟨R.sorted, fun x => (Mem.congr e x).trans (R.mem x)⟩

theorem at_take {L : List Dl} {n i : Nat} (hi : i < n) : at' (L.take n) i = at' L i := by
  unfold at'
  rw [List.getD_eq_getElem?_getD, List.getD_eq_getElem?_getD, List.getElem?_take_of_lt hi]
end Go.Proofs.Ythbjfbalgejndaa.H
namespace Go.Proofs.Ythbjfbalgejndaa
open Go.ChangeShapes Go.WideShapes Go.ChangeAt Go.RowKit Go.Maps H
set_option maxHeartbeats 1000000
set_option maxRecDepth 100000

theorem cut_end (g n cap e : Nat) (he : e ≤ n) (hc : n ≤ cap) (u : World) : (Instr.sliceAt 61 (.slice (some ⟨g, 0, none⟩) n cap) none (some (.int .i64 (e : Int))) none).run Try.prog u = .ok (.slice (some ⟨g, 0, none⟩) e cap) u := by
  have hu : Try.prog.underlying 61 = some (.slice (Try.prog.elem 61)) := by kernel_rfl
  have hsz : (sizeOf (Try.prog.elem 61)).run Try.prog u = .ok 2 u := by kernel_rfl
  rw [run_sliceAt_slice (h := hu), run_slice_h (ht := hu) (h0 := by omega) (h2 := by omega), hsz]
  simp [Result.andThen, sliced, Addr.add]

/-- What take leaves. -/
structure Taken (w w' : World) (b bm g cap : Nat) (lim : Int) (L : List Dl) (p : Nat) (M : List Dl) (h : Int → Option Nat) : Prop where
  mm : Mm w' b bm g cap lim M h M.length
  len : M.length + 1 = L.length
  heap : Heap M.length (at' M) h
  rep : ∀ S, Rep L.length (at' L) S → Rep M.length (at' M) (drp (at' L p).1 S)
  fr : Fr [b, g, bm] w w'

theorem take_any (b bm g cap p : Nat) (lim : Int) (L : List Dl) (f : Int → Option Nat) (w : World) (hm : Mm w b bm g cap lim L f L.length) (hH : Heap L.length (at' L) f) (hp : p < L.length) :
    Calls Try.prog 27 #[.pointer (some ⟨b, 0, none⟩), .int .i64 (p : Int)] w fun r w' => r = .returned (.tuple #[]) ∧ ∃ M h, Taken w w' b bm g cap lim L p M h := by
  obtain ⟨hl1, hl2, hl3⟩ := hm.lt
  obtain ⟨hn1, hn2, hn3⟩ := hm.ne
  have hn6 := hm.room.1
  obtain ⟨e, he⟩ : ∃ e, L.length = e + 1 := ⟨L.length - 1, by omega⟩
  have hcap : e + 1 ≤ cap := by obtain ⟨_, _, h, _⟩ := hm.own; omega
  -- the last one, in a box
  obtain ⟨w1, hw1⟩ : ∃ w1, w1 = w.alloc (.cells #[.int .i64 (at' L e).1, .int .i64 (at' L e).2] 67) := ⟨_, rfl⟩
  have hbx : w1.heap[w.heap.size]? = some (.cells #[.int .i64 (at' L e).1, .int .i64 (at' L e).2] 67 (0, 0)) := by rw [hw1]; exact heap_alloc_new w _
  have hf1 : Fr [b, g, bm] w w1 := by rw [hw1]; exact Fr.alloc _ _ _
  have hf1' : Fr [] w w1 := by rw [hw1]; exact Fr.alloc _ _ _
  have hs1 : w.heap.size < w1.heap.size := (Array.getElem?_eq_some_iff.1 hbx).1
  have hm1 : Mm w1 b bm g cap lim L f L.length := hm.fr hf1' (by simp) (by simp) (by simp)
  -- the map without it
  have hin : ∀ i, i < L.length → In64 (at' L i).1 ∧ In64 (at' L i).2 := fun i hi => hm.dom _ (List.mem_iff_getElem?.2 ⟨i, at_get hi⟩)
  have hfp : f (at' L p).1 = some p := hH.place p hp
  have hmd : MapF w1.drew bm f L.length := hm1.map.kept rfl
  obtain ⟨w2, hrun, hm2, ht2⟩ := hmd.drop (hin p hp).1 (by rw [hfp]; rfl) 0
  have hg2 := ht2.grown
  have hsz : w1.drew.heap.size = w1.heap.size := rfl
  have hf2 : Fr [b, g, bm] w w2 := hf1.drew.turned ht2 (by simp)
  have hb2 : w2.heap[b]? = w1.heap[b]? := hg2.block b (by rw [hsz]; exact hm1.lt.1) (by simpa using hn1)
  have hgg2 : w2.heap[g]? = w1.heap[g]? := hg2.block g (by rw [hsz]; exact hm1.lt.2.1) (by simpa using hn3)
  have hx2 : w2.heap[w.heap.size]? = w1.heap[w.heap.size]? := hg2.block _ (by rw [hsz]; exact hs1) (by simp; omega)
  have hr2 : RowD w2 g cap L := hm1.own.kept hgg2
  have hrow2 := hb2.trans hm1.row
  -- the last place emptied, the list cut
  obtain ⟨w3, hw3⟩ : ∃ w3, w3 = (w2.setCell ⟨g, e * 2, none⟩ (.int .i64 0)).setCell ⟨g, e * 2 + 1, none⟩ (.int .i64 0) := ⟨_, rfl⟩
  have hr3 : RowD w3 g cap (L.set e (0, 0)) := by rw [hw3]; exact hr2.set e (0, 0) (by omega)
  have hf3 : Fr [g] w2 w3 := by rw [hw3]; exact ((Fr.refl [g] w2).set (by simp)).set (by simp)
  have hlt2 : w1.heap.size ≤ w2.heap.size := hg2.size
  have hb3 : w3.heap[b]? = _ := (hf3.block b (by omega) (by simpa using hn2.symm)).trans hrow2
  have hm3 : MapF w3 bm (del f (at' L p).1) (L.length - 1) := hm2.kept (hf3.block bm hm2.lt (by simpa using hn3.symm))
  have hx3 : w3.heap[w.heap.size]? = _ := (hf3.block w.heap.size (by omega) (by simp; omega)).trans (hx2.trans hbx)
  obtain ⟨w4, hw4⟩ : ∃ w4, w4 = w3.setCell ⟨b, 1, none⟩ (.slice (some ⟨g, 0, none⟩) e cap) := ⟨_, rfl⟩
  have hf4 : Fr [b] w3 w4 := by rw [hw4]; exact (Fr.refl [b] w3).set (by simp)
  have hb4 : w4.heap[b]? = some (.cells #[.int .i64 lim, .slice (some ⟨g, 0, none⟩) e cap, .map (some bm)] 63 (0, 0)) := by
    rw [hw4]; exact heap_setCell_same w3 b 1 _ 63 _ hb3
  have hlt3 : w2.heap.size ≤ w3.heap.size := hf3.size
  have hx4 : w4.heap[w.heap.size]? = _ := (hf4.block w.heap.size (by omega) (by simp; omega)).trans hx3
  have hlen4 : (L.take e).length = e := by rw [List.length_take]; omega
  have hm4 : Mm w4 b bm g cap lim (L.take e) (del f (at' L p).1) e := by
    refine ⟨by rw [hlen4]; exact hb4, ?_, ?_, fun x hx => hm.dom x (List.mem_of_mem_take hx), by rw [hlen4]; omega⟩
    · have := (hr3.take e).kept (hf4.block g hr3.lt (by simpa using hn2))
      rwa [List.take_set_of_le (by omega)] at this
    · have := hm3.kept (hf4.block bm hm3.lt (by simpa using hn1.symm))
      rwa [show L.length - 1 = e by omega] at this
  have hfr4 : Fr [b, g, bm] w w4 := (hf2.trans (hf3.mono (by simp))).trans (hf4.mono (by simp))
  have eT : ∀ i, i < e → at' (L.take e) i = at' L i := fun i hi => at_take hi
  -- what settle is to do
  have HSE : Hid (p < e → Calls Try.prog 26 #[.pointer (some ⟨b, 0, none⟩), .int .i64 (p : Int), .agg #[.int .i64 (at' L e).1, .int .i64 (at' L e).2]] w4 fun r w' => r = .returned (.tuple #[]) ∧ ∃ M h, Taken w w' b bm g cap lim L p M h) := fun hpe => by
    have hHo : Hole (L.take e).length (at' (L.take e)) (del f (at' L p).1) p (at' L e) := by
      rw [hlen4]
      rw [he] at hH
      exact (hH.hole_take hpe).congr eT
    have hne : (at' L e).1 ≠ (at' L p).1 := fun h => by
      have := hH.inj e p (by omega) (by omega) h
      omega
    have hsome : (del f (at' L p).1 (at' L e).1).isSome = true := by
      unfold del
      rw [if_neg hne, hH.place e (by omega)]; rfl
    have := settle_any b bm g cap p lim (L.take e) (del f (at' L p).1) e (at' L e) w4 hm4 hHo (hin e (by omega)) (.inl hsome)
    rw [hsome, if_pos rfl, hlen4] at this
    refine this.mono ?_
    rintro r w' ⟨rfl, M, h, hs⟩
    refine ⟨rfl, M, h, by rw [hs.len]; exact hs.mm, by rw [hs.len, he], by rw [hs.len]; exact hs.heap, fun S hS => ?_, hfr4.trans (hs.fr.mono (by simp))⟩
    rw [he] at hS hH
    rw [hs.len]
    exact hS.took hH.inj hpe (fun x => (hs.mem x).trans (Mem.congr (upd_congr eT p _) x))
  have HNO : Hid (p = e → ∃ M h, Taken w w4 b bm g cap lim L p M h) := fun hpe => by
    refine ⟨L.take e, del f (at' L p).1, by rw [hlen4]; exact hm4, by rw [hlen4, he], ?_, fun S hS => ?_, hfr4⟩
    · rw [hlen4, hpe]
      rw [he] at hH
      exact hH.pop.congr eT
    · rw [hlen4, hpe]
      rw [he] at hS hH
      exact (hS.popped hH.inj).congr eT
  -- the cells
  have k1 : w.cell? ⟨b, 1, none⟩ = some (.slice (some ⟨g, 0, none⟩) (e + 1) cap) := by rw [← he]; exact hm.at1
  obtain ⟨y0, y1⟩ := hm.own.cell e (by omega)
  have k1' : w1.cell? ⟨b, 1, none⟩ = some (.slice (some ⟨g, 0, none⟩) (e + 1) cap) := by rw [← he]; exact hm1.at1
  have k2' : w1.cell? ⟨b, 2, none⟩ = some (.map (some bm)) := hm1.at2
  have z0 := (hm1.own.cell p hp).1
  have k1'' : w2.cell? ⟨b, 1, none⟩ = some (.slice (some ⟨g, 0, none⟩) (e + 1) cap) := by rw [cell_of_row _ _ _ _ _ _ hrow2, he]; rfl
  obtain ⟨v0, v1⟩ := hr2.cell e (by omega)
  have g0 := hr2.free (e * 2)
  have g1 := hr2.free (e * 2 + 1)
  have k13 : w3.cell? ⟨b, 1, none⟩ = some (.slice (some ⟨g, 0, none⟩) (e + 1) cap) := by rw [cell_of_row _ _ _ _ _ _ hb3, he]; rfl
  have fb3 : w3.frozen? ⟨b, 1, none⟩ = false := frozen_of_row _ _ _ _ _ hb3
  have x0 : w4.cell? ⟨w.heap.size, 0, none⟩ = some (.int .i64 (at' L e).1) := by rw [cell_of_row _ _ _ _ _ _ hx4]; rfl
  have x1 : w4.cell? ⟨w.heap.size, 1, none⟩ = some (.int .i64 (at' L e).2) := by rw [cell_of_row _ _ _ _ _ _ hx4]; rfl
  have hcut := cut_end g (e + 1) cap e (by omega) hcap
  have e1 : (((e + 1 : Nat)) : Int) - 1 = (e : Int) := by omega
  have HW1 := hid hw1
  have HW3 := hid hw3
  have HW4 := hid hw4
  rw [he] at hp hn6
  generalize (at' L e).1 = l0 at *
  generalize (at' L e).2 = l1 at *
  generalize (at' L p).1 = i0 at *
  clear hw1 hw3 hw4 hbx hf1 hf1' hs1 hm hm1 hin hfp hmd hm2 ht2 hg2 hsz hf2 hb2 hgg2 hx2 hr2 hrow2 hr3 hf3 hlt2 hb3 hm3 hx3 hf4 hb4 hlt3 hx4 hlen4 hm4 hfr4 eT hH he hl1 hl2 hl3
  go_enter Try.func27, Try.ntmps27
  go_upto_region 2 with fail
  rw [← HW1.out]
  clear k1 y0 y1
  go_wp2
  go_region
  clear k1' k2' z0 hrun
  go_upto_region 4 with fail
  rw [← HW3.out]
  clear k1'' v0 v1 g0 g1
  go_upto_region 5 with fail
  rw [← HW4.out]
  clear k13 fb3
  by_cases hpe : p < e
  · go_wp2_with fail
    refine (HSE.out hpe).mono ?_
    rintro _ w5 ⟨rfl, M, h, ht⟩
    go_wp2_with fail
    exact bodyPost_end (results_none Try.results27 _ _ _) rfl ⟨rfl, M, h, ht⟩
  · obtain ⟨M, h, ht⟩ := HNO.out (by omega)
    go_wp2_with fail
    exact bodyPost_end (results_none Try.results27 _ _ _) rfl ⟨rfl, M, h, ht⟩
end Go.Proofs.Ythbjfbalgejndaa
