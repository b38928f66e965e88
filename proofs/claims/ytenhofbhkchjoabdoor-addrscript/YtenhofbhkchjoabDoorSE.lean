import Derived.Test.YtenhofbhkchjoabDoorSD
namespace Go.Proofs.YtenhofbhkchjoabDoor.Mg
open Go.ChangeShapes Go.WideShapes Go.ChangeAt Go.RowKit
set_option maxHeartbeats 400000
set_option maxRecDepth 100000
attribute [local go_sem ↓] Go.wp_at_zero Go.wp_at_succ

theorem cellsP_set : ∀ (L : List (Nat × Int)) (k : Nat) (x : Nat) (n : Int), ((cellsP L).set (k * 2) (.int .u32 (x : Int))).set (k * 2 + 1) (.int .i64 n) = cellsP (L.set k (x, n)) := by
  intro L
  induction L with
  | nil => intro k x n; simp [cellsP]
  | cons a t ih =>
    intro k x n
    cases k with
    | zero => simp [cellsP, pq]
    | succ k =>
      have := ih k x n
      unfold cellsP at this ⊢
      rw [List.set_cons_succ, List.flatMap_cons, List.flatMap_cons, ← this]
      rw [show (k + 1) * 2 = k * 2 + 1 + 1 from by omega]
      simp [pq]

/-- An element of an own row is written over. -/
theorem write_two {w : World} {B g k n vc x : Nat} {m : Int} {cur : Array Value} {L : List (Nat × Int)} (hB : B ≤ g) (hg : w.heap[g]? = some (.cells cur 31 (0, 0))) (hs : cur.size = vc * 2) (hn : n = L.length) (hnc : n ≤ vc) (hcm : vc ≤ maxLen)
    (ht : cur.toList.take (n * 2) = cellsP L) :
    ((w.setCell ⟨g, k * 2, none⟩ (.int .u32 (x : Int))).setCell ⟨g, k * 2 + 1, none⟩ (.int .i64 m)).ownsRow B 31 2 (.slice (some ⟨g, 0, none⟩) n vc) (L.set k (x, m)).length (cellsP (L.set k (x, m))) ∧
    Chg (fun i => i = g) w ((w.setCell ⟨g, k * 2, none⟩ (.int .u32 (x : Int))).setCell ⟨g, k * 2 + 1, none⟩ (.int .i64 m)) := by
  have h1 := heap_setCell_same w g (k * 2) cur 31 (.int .u32 (x : Int)) hg
  have h2 := heap_setCell_same _ g (k * 2 + 1) _ 31 (.int .i64 m) h1
  refine ⟨⟨?_, .inr ⟨g, vc, _, by rw [List.length_set, hn], hB, h2, by rw [List.length_set, ← hn]; exact hnc, hcm, by simp [hs], ?_⟩⟩, (Chg.setCell (S := fun i => i = g) w _ _ rfl).trans (Chg.setCell (S := fun i => i = g) _ _ _ rfl)⟩
  · have e : ∀ D : List (Nat × Int), (cellsP D).length = D.length * 2 := by
      intro D
      induction D with
      | nil => rfl
      | cons a t ih => simp [cellsP, pq] at ih ⊢; omega
    exact e _
  · rw [← cellsP_set, ← ht, List.length_set, ← hn]
    simp [List.take_set]

set_option maxHeartbeats 4000000 in
theorem plays_again {w : World} {B p N : Nat} (o : Stp) (D : List (Nat × Int)) (h : Ok w B p N) (hf : Fit w o D) (hN : (N + 1) * 24 ≤ 140737488355328) (hk : o.kind = 5) :
    Calls Tryd.prog 10 #[.pointer (some ⟨p, 0, none⟩), .agg o.cells] w fun e w' => e = .returned (.bool true) ∧ Ok w' B p (N + 1) ∧ Below B w w' := by
  obtain ⟨wa, hwa⟩ : ∃ wa, wa = w.alloc (.cells o.cells 45) := ⟨_, rfl⟩
  have hb0 : Below w.heap.size w wa := by rw [hwa]; exact (Below.refl _ _).alloc (Nat.le_refl _) _
  have hsa : w.heap.size < wa.heap.size := by rw [hwa]; simp
  have q := Stp.at (w := w) o
  rw [← hwa] at q
  have q0 : ∀ u : Beh wa, u.wd.cell? ⟨w.heap.size, 0, none⟩ = some (.int .i64 5) := fun u => (q u 0 (by omega)).trans (by rw [← hk]; rfl)
  have q3 : ∀ u : Beh wa, u.wd.cell? ⟨w.heap.size, 3, none⟩ = some (.int .u32 (o.I.x : Int)) := fun u => q u 3 (by omega)
  have q4 : ∀ u : Beh wa, u.wd.cell? ⟨w.heap.size, 4, none⟩ = some (.int .i64 o.I.n) := fun u => q u 4 (by omega)
  have q14 : ∀ u : Beh wa, u.wd.cell? ⟨w.heap.size, 14, none⟩ = some (.int .i64 o.at_) := fun u => q u 14 (by omega)
  have HO := hid h
  have HF := hid hf
  have HNN := hid hN
  have HB0 := hid hb0
  have HSA := hid hsa
  have hlw := h.lt
  clear q hf h hN hb0 hsa
  unfold Stp.cells at hwa ⊢
  have HWA := hid hwa
  obtain ⟨u0, hu0⟩ : ∃ u0 : Beh wa, u0.wd = wa := ⟨⟨wa, Below.refl _ _⟩, rfl⟩
  have HU0 := hid hu0
  clear hwa hu0
  rw [hk] at HWA ⊢
  go_enter Tryd.func10, Tryd.ntmps10
  go_upto_region 1 with fail
  rw [← HWA.out, ← HU0.out]
  have hbw0 := HB0.out.trans (u0.ok.mono HB0.out.size)
  obtain ⟨vl, vs, vw, L, KA, KC, h1, h2, h3, h4, h5⟩ := HO.out.st
  have hS0 := h1.below hbw0
  obtain ⟨vo, n, vc, rfl, HN, hn1, hn2⟩ := (sees_of_ownsP hS0.ol).shape
  have HS0 := hid hS0
  have HH2 := hid h2
  have HH3 := hid h3
  have HH4 := hid h4
  have HH5 := hid h5
  have HBW := hid hbw0
  obtain ⟨c0, _, _, cf⟩ := row3_at hS0.row
  have hp0 := hS0.lt
  have hpb : p < w.heap.size := h1.lt
  have HGW : Hid (∀ k, (Value.slice vo n vc).ownBlock = some k → k < w.heap.size) := fun k hk => (h1.ol.lt k hk).2
  unfold maxLen at hn2
  clear hS0 h1 h2 h3 h4 h5 hbw0
  by_cases hn0 : n = 0
  · subst hn0
    go_wp2_with fail
    refine (mergesO_any (B := B) (N := N) ⟨_, vs, vw, L, KA, KC, HS0.out, HH2.out, HH3.out, HH4.out, HH5.out⟩ HNN.out).mono ?_
    rintro e w3 ⟨rfl, hO3, hb3⟩
    go_wp2_with fail
    go_ret
    exact ⟨rfl, hO3, (HBW.out.mono hlw).trans hb3⟩
  · have hnp : 0 < n := by omega
    obtain ⟨g, cur, rfl, hgB, hgh, hgc, hgm, hgs, hgt⟩ : ∃ g cur, vo = some ⟨g, 0, none⟩ ∧ B ≤ g ∧ u0.wd.heap[g]? = some (.cells cur 31 (0, 0)) ∧ n ≤ vc ∧ vc ≤ maxLen ∧ cur.size = vc * 2 ∧ cur.toList.take (n * 2) = cellsP L := by
      rcases HS0.out.ol.2 with ⟨e, _⟩ | ⟨g, cap, cur, e, a, b, c, d, f, i⟩
      · simp at e; omega
      · simp at e
        obtain ⟨rfl, e2, rfl⟩ := e
        rw [← HN.out] at c i
        exact ⟨g, cur, rfl, a, b, c, d, f, i⟩
    have hgp : g ≠ p := (HS0.out.xl g rfl).1
    have hgw : g < w.heap.size := by
      exact HGW.out g rfl
    have hgw' : g ≠ w.heap.size := by omega
    have HGH := hid hgh
    have HGT := hid hgt
    unfold maxLen at hgm
    clear hgh hgt
    have hz1 : o.at_.tmod (n : Int) < n := Int.tmod_lt_of_pos _ (by omega)
    have hz2 : -(n : Int) < o.at_.tmod n := by have := Int.natAbs_tmod o.at_ (n : Int); have h3 := Nat.mod_lt o.at_.natAbs (show 0 < (n : Int).natAbs by omega); omega
    have HZ1 := hid hz1
    have HZ2 := hid hz2
    clear hz1 hz2
    go_wp2_with fail
    go_quiet (fail)
    go_wp2_with fail
    · rename_i hneg
      have e : wrap64 (-o.at_.tmod (n : Int)) = (((-(o.at_.tmod n)).toNat : Nat) : Int) := by have := HZ1.out; have := HZ2.out; unfold wrap64; omega
      have hkn : (-(o.at_.tmod (n : Int))).toNat < n := by have := HZ1.out; have := HZ2.out; omega
      rw [e]
      clear e hneg
      generalize (-(o.at_.tmod (n : Int))).toNat = k at hkn ⊢
      have hk0 : (0 : Int) ≤ (k : Int) := Int.natCast_nonneg _
      have hk1 : (k : Int) < (n : Int) := by omega
      have hi0 : k * 2 < cur.size := by omega
      have hi1 : k * 2 + 1 < cur.size := by omega
      have r0 : u0.wd.cell? ⟨g, k * 2, none⟩ = some cur[k * 2] := by rw [cell_of_row _ _ _ _ _ _ HGH.out]; exact Array.getElem?_eq_getElem hi0
      have r1 : u0.wd.cell? ⟨g, k * 2 + 1, none⟩ = some cur[k * 2 + 1] := by rw [cell_of_row _ _ _ _ _ _ HGH.out]; exact Array.getElem?_eq_getElem hi1
      have rf : ∀ i, u0.wd.frozen? ⟨g, i, none⟩ = false := fun i => frozen_of_row _ _ _ _ _ HGH.out
      generalize cur[k * 2] = y0 at r0
      generalize cur[k * 2 + 1] = y1 at r1
      go_region_held3 (fun w' => w'.cell? ⟨p, 0, none⟩ = some (.slice (some ⟨g, 0, none⟩) n vc) ∧ w'.cell? ⟨w.heap.size, 3, none⟩ = some (.int .u32 (o.I.x : Int)) ∧ w'.cell? ⟨w.heap.size, 4, none⟩ = some (.int .i64 o.I.n)) (go_keep) (fail)
      all_goals go_wp2_with fail
      have hbq : Below u0.wd.heap.size u0.wd (u0.wd.drewN (nq + 1)) := below_drewN (Below.refl _ _) _
      have hSq := HS0.out.below hbq
      have hgq : (u0.wd.drewN (nq + 1)).heap[g]? = some (.cells cur 31 (0, 0)) := (hbq.block g (Array.getElem?_eq_some_iff.1 HGH.out).1).trans HGH.out
      obtain ⟨hw1, hw2⟩ := write_two (k := k) (x := o.I.x) (m := o.I.n) hgB hgq hgs HN.out hgc (by unfold maxLen; omega) HGT.out
      have hSw := hSq.write (g := g) rfl hw2 hw1
      have hbw : Below B (u0.wd.drewN (nq + 1)) _ := hw2.below (Nat.le_trans hSq.lo (Nat.le_of_lt hSq.lt)) fun i hi => hi ▸ hgB
      have hO2 : Ok _ B p N := ⟨_, vs, vw, _, KA, KC, hSw, HH2.out, HH3.out, fun y hy => (List.mem_or_eq_of_mem_set hy).elim (HH4.out y) (fun e => e ▸ o.I.hx), by rw [List.length_set]; exact HH5.out⟩
      refine (mergesO_any hO2 HNN.out).mono ?_
      rintro e w3 ⟨rfl, hO3, hb3⟩
      go_wp2_with fail
      go_ret
      refine ⟨rfl, hO3, ?_⟩
      exact ((HBW.out.mono hlw).trans (hbq.mono (Nat.le_trans hSq.lo (Nat.le_trans (Nat.le_of_lt HS0.out.lt) (Nat.le_refl _))))).trans (hbw.trans hb3)
    · rename_i hneg
      obtain ⟨k, hke⟩ : ∃ k : Nat, o.at_.tmod (n : Int) = (k : Int) := ⟨(o.at_.tmod n).toNat, by omega⟩
      have hkn : k < n := by have := HZ1.out; omega
      rw [hke]
      clear hke hneg
      have hk0 : (0 : Int) ≤ (k : Int) := Int.natCast_nonneg _
      have hk1 : (k : Int) < (n : Int) := by omega
      have hi0 : k * 2 < cur.size := by omega
      have hi1 : k * 2 + 1 < cur.size := by omega
      have r0 : u0.wd.cell? ⟨g, k * 2, none⟩ = some cur[k * 2] := by rw [cell_of_row _ _ _ _ _ _ HGH.out]; exact Array.getElem?_eq_getElem hi0
      have r1 : u0.wd.cell? ⟨g, k * 2 + 1, none⟩ = some cur[k * 2 + 1] := by rw [cell_of_row _ _ _ _ _ _ HGH.out]; exact Array.getElem?_eq_getElem hi1
      have rf : ∀ i, u0.wd.frozen? ⟨g, i, none⟩ = false := fun i => frozen_of_row _ _ _ _ _ HGH.out
      generalize cur[k * 2] = y0 at r0
      generalize cur[k * 2 + 1] = y1 at r1
      go_region_held3 (fun w' => w'.cell? ⟨p, 0, none⟩ = some (.slice (some ⟨g, 0, none⟩) n vc) ∧ w'.cell? ⟨w.heap.size, 3, none⟩ = some (.int .u32 (o.I.x : Int)) ∧ w'.cell? ⟨w.heap.size, 4, none⟩ = some (.int .i64 o.I.n)) (go_keep) (fail)
      all_goals go_wp2_with fail
      have hbq : Below u0.wd.heap.size u0.wd (u0.wd.drewN (nq + 1)) := below_drewN (Below.refl _ _) _
      have hSq := HS0.out.below hbq
      have hgq : (u0.wd.drewN (nq + 1)).heap[g]? = some (.cells cur 31 (0, 0)) := (hbq.block g (Array.getElem?_eq_some_iff.1 HGH.out).1).trans HGH.out
      obtain ⟨hw1, hw2⟩ := write_two (k := k) (x := o.I.x) (m := o.I.n) hgB hgq hgs HN.out hgc (by unfold maxLen; omega) HGT.out
      have hSw := hSq.write (g := g) rfl hw2 hw1
      have hbw : Below B (u0.wd.drewN (nq + 1)) _ := hw2.below (Nat.le_trans hSq.lo (Nat.le_of_lt hSq.lt)) fun i hi => hi ▸ hgB
      have hO2 : Ok _ B p N := ⟨_, vs, vw, _, KA, KC, hSw, HH2.out, HH3.out, fun y hy => (List.mem_or_eq_of_mem_set hy).elim (HH4.out y) (fun e => e ▸ o.I.hx), by rw [List.length_set]; exact HH5.out⟩
      refine (mergesO_any hO2 HNN.out).mono ?_
      rintro e w3 ⟨rfl, hO3, hb3⟩
      go_wp2_with fail
      go_ret
      refine ⟨rfl, hO3, ?_⟩
      exact ((HBW.out.mono hlw).trans (hbq.mono (Nat.le_trans hSq.lo (Nat.le_trans (Nat.le_of_lt HS0.out.lt) (Nat.le_refl _))))).trans (hbw.trans hb3)
end Go.Proofs.YtenhofbhkchjoabDoor.Mg
