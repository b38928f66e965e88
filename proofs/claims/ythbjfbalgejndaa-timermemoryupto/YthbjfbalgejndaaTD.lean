import Derived.Test.YthbjfbalgejndaaTC
namespace Go.Proofs.Ythbjfbalgejndaa
open Go.ChangeShapes Go.WideShapes Go.ChangeAt Go.RowKit Go.Maps H
set_option maxHeartbeats 1000000
set_option maxRecDepth 100000

theorem fb_facts (L : List Dl) (p : Nat) : E p (fb L p) ∧ (fb L p < L.length → ∀ c, E p c → c < L.length → Le (at' L (fb L p)) (at' L c)) ∧ (L.length ≤ fb L p → ∀ c, E p c → L.length ≤ c) := by
  unfold fb
  by_cases h : 2 * p + 2 < L.length ∧ Lt (at' L (2 * p + 2)) (at' L (2 * p + 1))
  · rw [if_pos h]
    refine ⟨.inr rfl, fun _ c hc hcn => ?_, fun h2 => absurd h.1 (by omega)⟩
    rcases hc with rfl | rfl
    · exact h.2.le
    · exact Le.refl _
  · rw [if_neg h]
    refine ⟨.inl rfl, fun _ c hc hcn => ?_, fun h2 c hc => by rcases hc with rfl | rfl <;> omega⟩
    rcases hc with rfl | rfl
    · exact Le.refl _
    · exact fun hlt => h ⟨hcn, hlt⟩

/-- The state of a hole on its way. -/
structure Way (w0 wr : World) (b bm g cap : Nat) (lim : Int) (c n : Nat) (h0 : Nat → Dl) (f : Int → Option Nat) (d : Dl) (q : Nat) (M : List Dl) (h : Int → Option Nat) : Prop where
  mm : Mm wr b bm g cap lim M h c
  len : M.length = n
  hole : Hole n (at' M) h q d
  mem : ∀ x, Mem n (upd (at' M) q d) x ↔ Mem n h0 x
  own : h d.1 = f d.1
  fr : Fr [g, bm] w0 wr

/-- One step of the hole: what stands at k comes to q. -/
theorem Way.step {w0 wr wr' : World} {b bm g cap : Nat} {lim : Int} {c n : Nat} {h0 : Nat → Dl} {f : Int → Option Nat} {d : Dl} {q k : Nat} {M : List Dl} {h : Int → Option Nat}
    (W : Way w0 wr b bm g cap lim c n h0 f d q M h) (hk : k < n) (hkq : k ≠ q) (hH : Hole n (upd (at' M) q (at' M k)) (put h (at' M k).1 q) k d) (hmem : ∀ x, Mem n (upd (upd (at' M) q (at' M k)) k d) x ↔ Mem n (upd (at' M) q d) x)
    (hm : Mm wr' b bm g cap lim (M.set q (at' M k)) (put h (at' M k).1 q) (if (h (at' M k).1).isSome then c else c + 1)) (hf : Fr [g, bm] wr wr') : Way w0 wr' b bm g cap lim c n h0 f d k (M.set q (at' M k)) (put h (at' M k).1 q) := by
  have hq : q < M.length := by rw [W.len]; exact W.hole.lt
  have hs : (h (at' M k).1).isSome = true := by rw [W.hole.place k hk hkq]; rfl
  rw [hs, if_pos rfl] at hm
  refine ⟨hm, by rw [List.length_set]; exact W.len, by rw [at_set hq]; exact hH, fun x => by rw [at_set hq]; exact (hmem x).trans (W.mem x), ?_, W.fr.trans hf⟩
  have hne : d.1 ≠ (at' M k).1 := fun e => hkq (W.hole.inj k q hk W.hole.lt (by rw [upd_ne _ _ hkq, upd_same]; exact e.symm))
  unfold put
  rw [if_neg hne]
  exact W.own

theorem rise_any (b bm g cap p : Nat) (lim : Int) (L : List Dl) (f : Int → Option Nat) (c : Nat) (d : Dl) (w : World) (hm : Mm w b bm g cap lim L f c) (hH : Hole L.length (at' L) f p d) :
    Calls Try.prog 35 #[.pointer (some ⟨b, 0, none⟩), .int .i64 (p : Int), .agg #[.int .i64 d.1, .int .i64 d.2]] w fun e w' => ∃ q M h, e = .returned (.int .i64 ((q : Nat) : Int)) ∧ Way w w' b bm g cap lim c L.length (upd (at' L) p d) f d q M h ∧ (∀ i, E i q → Le (at' M i) d) := by
  obtain ⟨hl1, hl2, hl3⟩ := hm.lt
  have hn6 := hm.room.1
  obtain ⟨w1, hw1⟩ : ∃ w1, w1 = w.alloc (.cells #[.int .i64 d.1, .int .i64 d.2] 67) := ⟨_, rfl⟩
  have hf1 : Fr [g, bm] w w1 := by rw [hw1]; exact Fr.alloc _ _ _
  have hs1 : w1.heap.size = w.heap.size + 1 := by rw [hw1]; simp
  have hf1' : Fr [] w w1 := by rw [hw1]; exact Fr.alloc _ _ _
  have hm1 : Mm w1 b bm g cap lim L f c := hm.fr hf1' (by simp) (by simp) (by simp)
  have hbx : w1.heap[w.heap.size]? = some (.cells #[.int .i64 d.1, .int .i64 d.2] 67 (0, 0)) := by rw [hw1]; exact heap_alloc_new w _
  have HBOX : Hid (∀ wr, Fr [g, bm] w1 wr → ∀ u : Beh wr, u.wd.cell? ⟨w.heap.size, 0, none⟩ = some (.int .i64 d.1) ∧ u.wd.cell? ⟨w.heap.size, 1, none⟩ = some (.int .i64 d.2)) := fun wr hf u => by
    have h1 : wr.heap[w.heap.size]? = _ := (hf.block w.heap.size (by omega) (by simp; omega)).trans hbx
    have h2 : u.wd.heap[w.heap.size]? = _ := (u.ok.block w.heap.size (Array.getElem?_eq_some_iff.1 h1).1).trans h1
    exact ⟨by rw [cell_of_row _ _ _ _ _ _ h2]; rfl, by rw [cell_of_row _ _ _ _ _ _ h2]; rfl⟩
  have HW1 := hid hw1
  have HF1 := hid hf1
  have HW0 : Hid (Way w1 w1 b bm g cap lim c L.length (upd (at' L) p d) f d p L f) := ⟨hm1, rfl, hH, fun _ => Iff.rfl, rfl, Fr.refl _ _⟩
  obtain ⟨n, hn⟩ : ∃ n, n = L.length := ⟨_, rfl⟩
  rw [← hn] at hn6 HW0 ⊢
  have hp := hH.lt
  rw [← hn] at hp
  generalize upd (at' L) p d = h0 at HW0 ⊢
  have HD := hid hm.dom
  clear hw1 hs1 hf1 hf1' hm hm1 hbx hH hn hl1 hl2 hl3
  go_enter Try.func35, Try.ntmps35
  go_upto_region 1 with fail
  rw [← HW1.out]
  go_loopw [1] (fun i wv => ∃ (q : Nat) (M : List Dl) (h : Int → Option Nat) (wr : World), wr = wv ∧ i = .int .i64 q ∧ q < n ∧ Hid (Way w1 wr b bm g cap lim c n h0 f d q M h)) (fun i _ => (intOf i).toNat)
  case atStart => exact ⟨p, L, f, _, rfl, rfl, hp, HW0⟩
  case round =>
    clear HW0
    obtain ⟨q, M, h, u0, rfl, rfl, hq, HW⟩ := hrel
    have hfin : ∀ wr, Below u0.heap.size u0 wr → (∀ i, E i q → Le (at' M i) d) → ∃ q' M' h', Ending.returned (.int .i64 (q : Int)) = Ending.returned (.int .i64 ((q' : Nat) : Int)) ∧ Way w wr b bm g cap lim c n h0 f d q' M' h' ∧ (∀ i, E i q' → Le (at' M' i) d) := fun wr hb hup =>
      ⟨q, M, h, rfl, ⟨HW.out.mm.sees ⟨wr, hb⟩, HW.out.len, HW.out.hole, HW.out.mem, HW.out.own, (HF1.out.trans HW.out.fr).trans (Fr.of_below hb _)⟩, hup⟩
    have HFIN := hid hfin
    clear hfin
    by_cases hq0 : 0 < q
    · obtain ⟨r, hr⟩ : ∃ r, r = q - 1 := ⟨_, rfl⟩
      obtain ⟨a, ha⟩ : ∃ a, a = r / 2 := ⟨_, rfl⟩
      have e1 : (q : Int) - 1 = (r : Int) := by omega
      have e2 : (r : Int) / 2 = (a : Int) := by omega
      have e2' : (r : Int).tdiv 2 = (a : Int) := by rw [ha]; rfl
      have haq : a < q := by omega
      have han : a < n := by omega
      have hae : a = (q - 1) / 2 := by omega
      have HS := hid HW.out.mm
      have q1 : ∀ u : Beh u0, u.wd.cell? ⟨b, 1, none⟩ = some (.slice (some ⟨g, 0, none⟩) n cap) := fun u => by rw [← HW.out.len]; exact (HS.out.sees u).at1
      have x0 : ∀ u : Beh u0, u.wd.cell? ⟨w.heap.size, 0, none⟩ = some (.int .i64 d.1) := fun u => (HBOX.out _ HW.out.fr u).1
      have x1 : ∀ u : Beh u0, u.wd.cell? ⟨w.heap.size, 1, none⟩ = some (.int .i64 d.2) := fun u => (HBOX.out _ HW.out.fr u).2
      have c0 : ∀ u : Beh u0, u.wd.cell? ⟨g, a * 2, none⟩ = some (.int .i64 (at' M a).1) := fun u => ((HS.out.sees u).own.cell _ (by rw [HW.out.len]; exact han)).1
      have c1 : ∀ u : Beh u0, u.wd.cell? ⟨g, a * 2 + 1, none⟩ = some (.int .i64 (at' M a).2) := fun u => ((HS.out.sees u).own.cell _ (by rw [HW.out.len]; exact han)).2
      have HA : Hid (∀ u : Beh u0, Calls Try.prog 41 #[.agg #[.int .i64 d.1, .int .i64 d.2], .agg #[.int .i64 (at' M a).1, .int .i64 (at' M a).2]] u.wd fun e w' => e = .returned (.bool (decide (Lt d (at' M a)))) ∧ ∃ u' : Beh u0, w' = u'.wd) := fun u => Calls.beh (ahead_any _ _ _)
      by_cases hlt : Lt d (at' M a)
      · rw [decide_eq_true hlt] at HA
        have hin : In64 (at' M a).1 ∧ In64 (at' M a).2 := HW.out.mm.dom _ (List.mem_iff_getElem?.2 ⟨a, at_get (by rw [HW.out.len]; exact han)⟩)
        have HP : Hid (∀ u : Beh u0, Calls Try.prog 37 #[.pointer (some ⟨b, 0, none⟩), .int .i64 (q : Int), .agg #[.int .i64 (at' M a).1, .int .i64 (at' M a).2]] u.wd fun e w' => e = .returned (.tuple #[]) ∧ Way w1 w' b bm g cap lim c n h0 f d a (M.set q (at' M a)) (put h (at' M a).1 q)) := fun u => by
          have hsome : (h (at' M a).1).isSome = true := by rw [HW.out.hole.place a han (by omega)]; rfl
          refine (put_any b bm g cap q lim M h c (at' M a) u.wd (HS.out.sees u) (by rw [HW.out.len]; exact hq) hin (.inl hsome)).mono ?_
          rintro e w' ⟨rfl, hm', hf'⟩
          have hup := HW.out.hole.up hq0
          rw [← hae] at hup
          exact ⟨rfl, HW.out.step han (by omega) hup.1 hup.2 hm' ((Fr.of_below u.ok _).trans hf')⟩
        clear hlt hr ha hae hin
        generalize (at' M a).1 = y0 at c0 HA HP
        generalize (at' M a).2 = y1 at c1 HA HP
        go_upto_region 3 with fail
        refine wp_region_beh (by kernel_rfl) (by kernel_rfl) ?_
        repeat (go_big_quiet_step (first | (go_at_call 41; exact HA.out _)))
        refine wpQuiet_nil ?_
        rintro _ ⟨u, rfl⟩
        go_wp2_with fail
        refine (HP.out u).mono ?_
        rintro _ w5 ⟨rfl, hW5⟩
        go_wp2_with fail
        go_roundw
        case rel => exact ⟨a, _, _, _, rfl, rfl, han, hW5⟩
        case measure => simp [intOf]; omega
      · rw [decide_eq_false hlt] at HA
        have HUP : Hid (∀ i, E i q → Le (at' M i) d) := fun i hi => by
          have : i = a := by unfold E at hi; omega
          rw [this]; exact hlt
        clear hlt hr ha hae
        generalize (at' M a).1 = y0 at c0 HA
        generalize (at' M a).2 = y1 at c1 HA
        go_upto_region 3 with fail
        refine wp_region_beh (by kernel_rfl) (by kernel_rfl) ?_
        repeat (go_big_quiet_step (first | (go_at_call 41; exact HA.out _)))
        refine wpQuiet_nil ?_
        rintro _ ⟨u, rfl⟩
        go_wp2_with fail
        go_ret
        exact HFIN.out _ u.ok HUP.out
    · obtain rfl : q = 0 := by omega
      go_wp2_with fail
      go_ret
      exact HFIN.out _ (Below.refl _ _) (fun i hi => by unfold E at hi; omega)
end Go.Proofs.Ythbjfbalgejndaa
