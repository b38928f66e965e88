import Derived.Test.YtkkfioebpppffaaGreatDoorEF
namespace Go.Proofs.YtkkfioebpppffaaGreatDoor.Tm
open Go.ChangeShapes Go.WideShapes Go.ChangeAt Go.RowKit Go.Maps H
set_option maxHeartbeats 400000
set_option maxRecDepth 100000

/-- A world behind calls that made memory and wrote none of the elder. -/
structure Beh (w : World) where
  wd : World
  ok : Below w.heap.size w wd

instance (w : World) : Nonempty (Beh w) := ⟨⟨w, Below.refl _ _⟩⟩

theorem wp_region_beh {P : Program} {id : Nat} {Q : Exit → Act → World → Prop} {a : Act} {w : World} {l : List Oper} (hm : P.follows .mixedOrders = true) (hB : Region.lexB .any l.toArray = true)
    (h : wpQuiet P l.toArray (fun w' => ∃ u : Beh w, w' = u.wd) (fun a' => ∀ w', (∃ u : Beh w, w' = u.wd) → Q .normal a' w') l a) : (Code.region id l.toArray true).wp P Q a w :=
  wp_region_quiet (C := fun w' => ∃ u : Beh w, w' = u.wd) hm hB ⟨⟨_, below_drewN (Below.refl _ _) 1⟩, rfl⟩ (by simpa using h)

theorem Calls.beh {P : Program} {f : FuncId} {args : Array Value} {w : World} {u : Beh w} {v : Value}
    (h : Calls P f args u.wd fun e w' => e = .returned v ∧ Below u.wd.heap.size u.wd w') : Calls P f args u.wd fun e w'' => e = .returned v ∧ ∃ u' : Beh w, w'' = u'.wd :=
  h.mono fun _ w' ⟨he, hb⟩ => ⟨he, ⟨w', u.ok.trans (hb.mono u.ok.size)⟩, rfl⟩

theorem ahead_any (d e : Dl) (w : World) :
    Calls Tryz.prog 102 #[.agg #[.int .i64 d.1, .int .i64 d.2], .agg #[.int .i64 e.1, .int .i64 e.2]] w fun r w' => r = .returned (.bool (decide (Lt d e))) ∧ Below w.heap.size w w' := by
  obtain ⟨x, a⟩ := d
  obtain ⟨y, b⟩ := e
  obtain ⟨wa, hwa⟩ : ∃ wa, wa = w.alloc (.cells #[.int .i64 x, .int .i64 a] 115) := ⟨_, rfl⟩
  obtain ⟨wb, hwb⟩ : ∃ wb, wb = wa.alloc (.cells #[.int .i64 y, .int .i64 b] 115) := ⟨_, rfl⟩
  have hsa : wa.heap.size = w.heap.size + 1 := by rw [hwa]; simp
  have hba : Below w.heap.size w wa := by rw [hwa]; exact (Below.refl _ _).alloc (Nat.le_refl _) _
  have hbb : Below wa.heap.size wa wb := by rw [hwb]; exact (Below.refl _ _).alloc (Nat.le_refl _) _
  have hr1 : wb.heap[w.heap.size]? = some (.cells #[.int .i64 x, .int .i64 a] 115 (0, 0)) := by rw [hbb.block _ (by omega), hwa]; exact heap_alloc_new w _
  have hr2 : wb.heap[w.heap.size + 1]? = some (.cells #[.int .i64 y, .int .i64 b] 115 (0, 0)) := by
    have := heap_alloc_new wa (.cells #[.int .i64 y, .int .i64 b] 115)
    rw [← hwb, hsa] at this
    exact this
  have c0 : wb.cell? ⟨w.heap.size, 0, none⟩ = some (.int .i64 x) := by rw [cell_of_row _ _ _ _ _ _ hr1]; rfl
  have c1 : wb.cell? ⟨w.heap.size, 1, none⟩ = some (.int .i64 a) := by rw [cell_of_row _ _ _ _ _ _ hr1]; rfl
  have d0 : wb.cell? ⟨w.heap.size + 1, 0, none⟩ = some (.int .i64 y) := by rw [cell_of_row _ _ _ _ _ _ hr2]; rfl
  have d1 : wb.cell? ⟨w.heap.size + 1, 1, none⟩ = some (.int .i64 b) := by rw [cell_of_row _ _ _ _ _ _ hr2]; rfl
  have HWB : Hid (wb = (w.alloc (.cells #[.int .i64 x, .int .i64 a] 115)).alloc (.cells #[.int .i64 y, .int .i64 b] 115)) := by unfold Hid; rw [hwb, hwa]
  have HB : Hid (Below w.heap.size w wb) := hba.trans (hbb.mono (by omega))
  have HL : Hid (Lt (x, a) (y, b) ↔ (a < b ∨ a = b ∧ x < y)) := Iff.rfl
  generalize hD : decide (Lt (x, a) (y, b)) = D at *
  have HD := hid hD
  clear hwa hwb hsa hba hbb hr1 hr2 hD
  by_cases hab : a = b
  · have hq : (a != b) = false := by simp [hab]
    have HE : Hid (D = decide (x < y)) := by unfold Hid; rw [← HD.out]; exact decide_eq_decide.2 (by rw [HL.out]; omega)
    clear hab
    go_enter Tryz.func102, Tryz.ntmps102
    go_upto_region 1 with fail
    rw [← HWB.out]
    go_wp2_with fail
    go_ret
    exact ⟨ret_bool HE.out.symm, HB.out⟩
  · have hq : (a != b) = true := by simp [hab]
    have HE : Hid (D = decide (a < b)) := by unfold Hid; rw [← HD.out]; exact decide_eq_decide.2 (by rw [HL.out]; omega)
    clear hab
    go_enter Tryz.func102, Tryz.ntmps102
    go_upto_region 1 with fail
    rw [← HWB.out]
    go_wp2_with fail
    go_ret
    exact ⟨ret_bool HE.out.symm, HB.out⟩

/-- What a Timers shows in all worlds behind this one. -/
theorem Mm.sees {w : World} {b bm g cap : Nat} {lim : Int} {L : List Dl} {f : Int → Option Nat} {c : Nat} (h : Mm w b bm g cap lim L f c) (u : Beh w) : Mm u.wd b bm g cap lim L f c :=
  h.kept (u.ok.block _ h.lt.1) (u.ok.block _ h.lt.2.1) (u.ok.block _ h.lt.2.2)

theorem Mm.at1 {w : World} {b bm g cap : Nat} {lim : Int} {L : List Dl} {f : Int → Option Nat} {c : Nat} (h : Mm w b bm g cap lim L f c) : w.cell? ⟨b, 1, none⟩ = some (.slice (some ⟨g, 0, none⟩) L.length cap) := by rw [cell_of_row _ _ _ _ _ _ h.row]; rfl
theorem Mm.at2 {w : World} {b bm g cap : Nat} {lim : Int} {L : List Dl} {f : Int → Option Nat} {c : Nat} (h : Mm w b bm g cap lim L f c) : w.cell? ⟨b, 2, none⟩ = some (.map (some bm)) := by rw [cell_of_row _ _ _ _ _ _ h.row]; rfl
theorem Mm.at0 {w : World} {b bm g cap : Nat} {lim : Int} {L : List Dl} {f : Int → Option Nat} {c : Nat} (h : Mm w b bm g cap lim L f c) : w.cell? ⟨b, 0, none⟩ = some (.int .i64 lim) := by rw [cell_of_row _ _ _ _ _ _ h.row]; rfl

/-- The first of the two below. -/
def fb (L : List Dl) (p : Nat) : Nat := if 2 * p + 2 < L.length ∧ Lt (at' L (2 * p + 2)) (at' L (2 * p + 1)) then 2 * p + 2 else 2 * p + 1

theorem firstBelow_any (b bm g cap p : Nat) (lim : Int) (L : List Dl) (f : Int → Option Nat) (c : Nat) (w : World) (hm : Mm w b bm g cap lim L f c) (hp : p < L.length) :
    Calls Tryz.prog 103 #[.pointer (some ⟨b, 0, none⟩), .int .i64 (p : Int)] w fun e w' => e = .returned (.int .i64 ((fb L p : Nat) : Int)) ∧ Below w.heap.size w w' := by
  have hn6 := hm.room.1
  have HM := hid hm
  have q1 : ∀ u : Beh w, u.wd.cell? ⟨b, 1, none⟩ = some (.slice (some ⟨g, 0, none⟩) L.length cap) := fun u => (hm.sees u).at1
  have HFB : Hid (fb L p = if 2 * p + 2 < L.length ∧ Lt (at' L (2 * p + 2)) (at' L (2 * p + 1)) then 2 * p + 2 else 2 * p + 1) := rfl
  obtain ⟨l, hl⟩ : ∃ l, l = 2 * p + 1 := ⟨_, rfl⟩
  obtain ⟨r, hr⟩ : ∃ r, r = 2 * p + 2 := ⟨_, rfl⟩
  have e1 : 2 * (p : Int) + 1 = (l : Int) := by omega
  have e2 : (l : Int) + 1 = (r : Int) := by omega
  have hlr : r = l + 1 := by omega
  rw [← hl, ← hr] at HFB
  have hp6 : p < 65536 := by omega
  by_cases h2 : r < L.length
  · have c0 : ∀ u : Beh w, u.wd.cell? ⟨g, l * 2, none⟩ = some (.int .i64 (at' L l).1) := fun u => ((hm.sees u).own.cell _ (by omega)).1
    have c1 : ∀ u : Beh w, u.wd.cell? ⟨g, l * 2 + 1, none⟩ = some (.int .i64 (at' L l).2) := fun u => ((hm.sees u).own.cell _ (by omega)).2
    have d0 : ∀ u : Beh w, u.wd.cell? ⟨g, r * 2, none⟩ = some (.int .i64 (at' L r).1) := fun u => ((hm.sees u).own.cell _ (by omega)).1
    have d1 : ∀ u : Beh w, u.wd.cell? ⟨g, r * 2 + 1, none⟩ = some (.int .i64 (at' L r).2) := fun u => ((hm.sees u).own.cell _ (by omega)).2
    have HA : Hid (∀ u : Beh w, Calls Tryz.prog 102 #[.agg #[.int .i64 (at' L r).1, .int .i64 (at' L r).2], .agg #[.int .i64 (at' L l).1, .int .i64 (at' L l).2]] u.wd fun e w' => e = .returned (.bool (decide (Lt (at' L r) (at' L l)))) ∧ ∃ u' : Beh w, w' = u'.wd) := fun u => Calls.beh (ahead_any _ _ _)
    have hln : l < L.length := by omega
    have hq : decide ((r : Int) < (L.length : Int)) = true := by simp; omega
    by_cases hlt : Lt (at' L r) (at' L l)
    · have HE : Hid (fb L p = r) := by unfold Hid; rw [HFB.out, if_pos ⟨h2, hlt⟩]
      rw [decide_eq_true hlt] at HA
      generalize at' L r = x at *
      generalize at' L l = y at *
      generalize L.length = n at *
      clear hlt hm hl hr hlr
      go_enter Tryz.func103, Tryz.ntmps103
      go_upto_region 3 with fail
      refine wp_region_beh (by kernel_rfl) (by kernel_rfl) ?_
      repeat (go_big_quiet_step (first | (go_at_call 102; exact HA.out _)))
      refine wpQuiet_nil ?_
      rintro _ ⟨u, rfl⟩
      go_wp2_with fail
      go_ret
      exact ⟨ret_int (by rw [HE.out]), u.ok⟩
    · have HE : Hid (fb L p = l) := by unfold Hid; rw [HFB.out, if_neg (fun h => hlt h.2)]
      rw [decide_eq_false hlt] at HA
      generalize at' L r = x at *
      generalize at' L l = y at *
      generalize L.length = n at *
      clear hlt hm hl hr hlr
      go_enter Tryz.func103, Tryz.ntmps103
      go_upto_region 3 with fail
      refine wp_region_beh (by kernel_rfl) (by kernel_rfl) ?_
      repeat (go_big_quiet_step (first | (go_at_call 102; exact HA.out _)))
      refine wpQuiet_nil ?_
      rintro _ ⟨u, rfl⟩
      go_wp2_with fail
      go_ret
      exact ⟨ret_int (by rw [HE.out]), u.ok⟩
  · have HE : Hid (fb L p = l) := by unfold Hid; rw [HFB.out, if_neg (fun h => h2 h.1)]
    have hq : decide ((r : Int) < (L.length : Int)) = false := by simp; omega
    generalize L.length = n at *
    clear hm hl hr hlr
    go_enter Tryz.func103, Tryz.ntmps103
    go_upto_region 3 with fail
    refine wp_region_beh (by kernel_rfl) (by kernel_rfl) ?_
    repeat (go_big_quiet_step (fail))
    refine wpQuiet_nil ?_
    rintro _ ⟨u, rfl⟩
    go_wp2_with fail
    go_ret
    exact ⟨ret_int (by rw [HE.out]), u.ok⟩
end Go.Proofs.YtkkfioebpppffaaGreatDoor.Tm

namespace Go.Proofs.YtkkfioebpppffaaGreatDoor.Tm
open Go.ChangeShapes Go.WideShapes Go.ChangeAt Go.RowKit Go.Maps H
set_option maxHeartbeats 1000000
set_option maxRecDepth 100000

theorem fb_facts (L : List Dl) (p : Nat) : E p (fb L p) ∧ (fb L p < L.length → ∀ c, E p c → c < L.length → Le (at' L (fb L p)) (at' L c)) ∧ (L.length ≤ fb L p → ∀ c, E p c → L.length ≤ c) := by
  unfold fb
  by_cases h : 2 * p + 2 < L.length ∧ Lt (at' L (2 * p + 2)) (at' L (2 * p + 1))
  · rw [if_pos h]
    refine ⟨.inr rfl, fun _ c hc hcn => ?_, fun h2 => absurd h.1 (by omega)⟩
    rcases hc with rfl | rfl
    · exact h.2.le
    · exact Le.refl _
  · rw [if_neg h]
    refine ⟨.inl rfl, fun _ c hc hcn => ?_, fun h2 c hc => by rcases hc with rfl | rfl <;> omega⟩
    rcases hc with rfl | rfl
    · exact Le.refl _
    · exact fun hlt => h ⟨hcn, hlt⟩

/-- The state of a hole on its way. -/
structure Way (w0 wr : World) (b bm g cap : Nat) (lim : Int) (c n : Nat) (h0 : Nat → Dl) (f : Int → Option Nat) (d : Dl) (q : Nat) (M : List Dl) (h : Int → Option Nat) : Prop where
  mm : Mm wr b bm g cap lim M h c
  len : M.length = n
  hole : Hole n (at' M) h q d
  mem : ∀ x, Mem n (upd (at' M) q d) x ↔ Mem n h0 x
  own : h d.1 = f d.1
  fr : Fr [g, bm] w0 wr

/-- One step of the hole: what stands at k comes to q. -/
theorem Way.step {w0 wr wr' : World} {b bm g cap : Nat} {lim : Int} {c n : Nat} {h0 : Nat → Dl} {f : Int → Option Nat} {d : Dl} {q k : Nat} {M : List Dl} {h : Int → Option Nat}
    (W : Way w0 wr b bm g cap lim c n h0 f d q M h) (hk : k < n) (hkq : k ≠ q) (hH : Hole n (upd (at' M) q (at' M k)) (put h (at' M k).1 q) k d) (hmem : ∀ x, Mem n (upd (upd (at' M) q (at' M k)) k d) x ↔ Mem n (upd (at' M) q d) x)
    (hm : Mm wr' b bm g cap lim (M.set q (at' M k)) (put h (at' M k).1 q) (if (h (at' M k).1).isSome then c else c + 1)) (hf : Fr [g, bm] wr wr') : Way w0 wr' b bm g cap lim c n h0 f d k (M.set q (at' M k)) (put h (at' M k).1 q) := by
  have hq : q < M.length := by rw [W.len]; exact W.hole.lt
  have hs : (h (at' M k).1).isSome = true := by rw [W.hole.place k hk hkq]; rfl
  rw [hs, if_pos rfl] at hm
  refine ⟨hm, by rw [List.length_set]; exact W.len, by rw [at_set hq]; exact hH, fun x => by rw [at_set hq]; exact (hmem x).trans (W.mem x), ?_, W.fr.trans hf⟩
  have hne : d.1 ≠ (at' M k).1 := fun e => hkq (W.hole.inj k q hk W.hole.lt (by rw [upd_ne _ _ hkq, upd_same]; exact e.symm))
  unfold put
  rw [if_neg hne]
  exact W.own

theorem rise_any (b bm g cap p : Nat) (lim : Int) (L : List Dl) (f : Int → Option Nat) (c : Nat) (d : Dl) (w : World) (hm : Mm w b bm g cap lim L f c) (hH : Hole L.length (at' L) f p d) :
    Calls Tryz.prog 86 #[.pointer (some ⟨b, 0, none⟩), .int .i64 (p : Int), .agg #[.int .i64 d.1, .int .i64 d.2]] w fun e w' => ∃ q M h, e = .returned (.int .i64 ((q : Nat) : Int)) ∧ Way w w' b bm g cap lim c L.length (upd (at' L) p d) f d q M h ∧ (∀ i, E i q → Le (at' M i) d) := by
  obtain ⟨hl1, hl2, hl3⟩ := hm.lt
  have hn6 := hm.room.1
  obtain ⟨w1, hw1⟩ : ∃ w1, w1 = w.alloc (.cells #[.int .i64 d.1, .int .i64 d.2] 115) := ⟨_, rfl⟩
  have hf1 : Fr [g, bm] w w1 := by rw [hw1]; exact Fr.alloc _ _ _
  have hs1 : w1.heap.size = w.heap.size + 1 := by rw [hw1]; simp
  have hf1' : Fr [] w w1 := by rw [hw1]; exact Fr.alloc _ _ _
  have hm1 : Mm w1 b bm g cap lim L f c := hm.fr hf1' (by simp) (by simp) (by simp)
  have hbx : w1.heap[w.heap.size]? = some (.cells #[.int .i64 d.1, .int .i64 d.2] 115 (0, 0)) := by rw [hw1]; exact heap_alloc_new w _
  have HBOX : Hid (∀ wr, Fr [g, bm] w1 wr → ∀ u : Beh wr, u.wd.cell? ⟨w.heap.size, 0, none⟩ = some (.int .i64 d.1) ∧ u.wd.cell? ⟨w.heap.size, 1, none⟩ = some (.int .i64 d.2)) := fun wr hf u => by
    have h1 : wr.heap[w.heap.size]? = _ := (hf.block w.heap.size (by omega) (by simp; omega)).trans hbx
    have h2 : u.wd.heap[w.heap.size]? = _ := (u.ok.block w.heap.size (Array.getElem?_eq_some_iff.1 h1).1).trans h1
    exact ⟨by rw [cell_of_row _ _ _ _ _ _ h2]; rfl, by rw [cell_of_row _ _ _ _ _ _ h2]; rfl⟩
  have HW1 := hid hw1
  have HF1 := hid hf1
  have HW0 : Hid (Way w1 w1 b bm g cap lim c L.length (upd (at' L) p d) f d p L f) := ⟨hm1, rfl, hH, fun _ => Iff.rfl, rfl, Fr.refl _ _⟩
  obtain ⟨n, hn⟩ : ∃ n, n = L.length := ⟨_, rfl⟩
  rw [← hn] at hn6 HW0 ⊢
  have hp := hH.lt
  rw [← hn] at hp
  generalize upd (at' L) p d = h0 at HW0 ⊢
  have HD := hid hm.dom
  clear hw1 hs1 hf1 hf1' hm hm1 hbx hH hn hl1 hl2 hl3
  go_enter Tryz.func86, Tryz.ntmps86
  go_upto_region 1 with fail
  rw [← HW1.out]
  go_loopw [1] (fun i wv => ∃ (q : Nat) (M : List Dl) (h : Int → Option Nat) (wr : World), wr = wv ∧ i = .int .i64 q ∧ q < n ∧ Hid (Way w1 wr b bm g cap lim c n h0 f d q M h)) (fun i _ => (intOf i).toNat)
  case atStart => exact ⟨p, L, f, _, rfl, rfl, hp, HW0⟩
  case round =>
    clear HW0
    obtain ⟨q, M, h, u0, rfl, rfl, hq, HW⟩ := hrel
    have hfin : ∀ wr, Below u0.heap.size u0 wr → (∀ i, E i q → Le (at' M i) d) → ∃ q' M' h', Ending.returned (.int .i64 (q : Int)) = Ending.returned (.int .i64 ((q' : Nat) : Int)) ∧ Way w wr b bm g cap lim c n h0 f d q' M' h' ∧ (∀ i, E i q' → Le (at' M' i) d) := fun wr hb hup =>
      ⟨q, M, h, rfl, ⟨HW.out.mm.sees ⟨wr, hb⟩, HW.out.len, HW.out.hole, HW.out.mem, HW.out.own, (HF1.out.trans HW.out.fr).trans (Fr.of_below hb _)⟩, hup⟩
    have HFIN := hid hfin
    clear hfin
    by_cases hq0 : 0 < q
    · obtain ⟨r, hr⟩ : ∃ r, r = q - 1 := ⟨_, rfl⟩
      obtain ⟨a, ha⟩ : ∃ a, a = r / 2 := ⟨_, rfl⟩
      have e1 : (q : Int) - 1 = (r : Int) := by omega
      have e2 : (r : Int) / 2 = (a : Int) := by omega
      have e2' : (r : Int).tdiv 2 = (a : Int) := by rw [ha]; rfl
      have haq : a < q := by omega
      have han : a < n := by omega
      have hae : a = (q - 1) / 2 := by omega
      have HS := hid HW.out.mm
      have q1 : ∀ u : Beh u0, u.wd.cell? ⟨b, 1, none⟩ = some (.slice (some ⟨g, 0, none⟩) n cap) := fun u => by rw [← HW.out.len]; exact (HS.out.sees u).at1
      have x0 : ∀ u : Beh u0, u.wd.cell? ⟨w.heap.size, 0, none⟩ = some (.int .i64 d.1) := fun u => (HBOX.out _ HW.out.fr u).1
      have x1 : ∀ u : Beh u0, u.wd.cell? ⟨w.heap.size, 1, none⟩ = some (.int .i64 d.2) := fun u => (HBOX.out _ HW.out.fr u).2
      have c0 : ∀ u : Beh u0, u.wd.cell? ⟨g, a * 2, none⟩ = some (.int .i64 (at' M a).1) := fun u => ((HS.out.sees u).own.cell _ (by rw [HW.out.len]; exact han)).1
      have c1 : ∀ u : Beh u0, u.wd.cell? ⟨g, a * 2 + 1, none⟩ = some (.int .i64 (at' M a).2) := fun u => ((HS.out.sees u).own.cell _ (by rw [HW.out.len]; exact han)).2
      have HA : Hid (∀ u : Beh u0, Calls Tryz.prog 102 #[.agg #[.int .i64 d.1, .int .i64 d.2], .agg #[.int .i64 (at' M a).1, .int .i64 (at' M a).2]] u.wd fun e w' => e = .returned (.bool (decide (Lt d (at' M a)))) ∧ ∃ u' : Beh u0, w' = u'.wd) := fun u => Calls.beh (ahead_any _ _ _)
      by_cases hlt : Lt d (at' M a)
      · rw [decide_eq_true hlt] at HA
        have hin : In64 (at' M a).1 ∧ In64 (at' M a).2 := HW.out.mm.dom _ (List.mem_iff_getElem?.2 ⟨a, at_get (by rw [HW.out.len]; exact han)⟩)
        have HP : Hid (∀ u : Beh u0, Calls Tryz.prog 88 #[.pointer (some ⟨b, 0, none⟩), .int .i64 (q : Int), .agg #[.int .i64 (at' M a).1, .int .i64 (at' M a).2]] u.wd fun e w' => e = .returned (.tuple #[]) ∧ Way w1 w' b bm g cap lim c n h0 f d a (M.set q (at' M a)) (put h (at' M a).1 q)) := fun u => by
          have hsome : (h (at' M a).1).isSome = true := by rw [HW.out.hole.place a han (by omega)]; rfl
          refine (put_any b bm g cap q lim M h c (at' M a) u.wd (HS.out.sees u) (by rw [HW.out.len]; exact hq) hin (.inl hsome)).mono ?_
          rintro e w' ⟨rfl, hm', hf'⟩
          have hup := HW.out.hole.up hq0
          rw [← hae] at hup
          exact ⟨rfl, HW.out.step han (by omega) hup.1 hup.2 hm' ((Fr.of_below u.ok _).trans hf')⟩
        clear hlt hr ha hae hin
        generalize (at' M a).1 = y0 at c0 HA HP
        generalize (at' M a).2 = y1 at c1 HA HP
        go_upto_region 3 with fail
        refine wp_region_beh (by kernel_rfl) (by kernel_rfl) ?_
        repeat (go_big_quiet_step (first | (go_at_call 102; exact HA.out _)))
        refine wpQuiet_nil ?_
        rintro _ ⟨u, rfl⟩
        go_wp2_with fail
        refine (HP.out u).mono ?_
        rintro _ w5 ⟨rfl, hW5⟩
        go_wp2_with fail
        go_roundw
        case rel => exact ⟨a, _, _, _, rfl, rfl, han, hW5⟩
        case measure => simp [intOf]; omega
      · rw [decide_eq_false hlt] at HA
        have HUP : Hid (∀ i, E i q → Le (at' M i) d) := fun i hi => by
          have : i = a := by unfold E at hi; omega
          rw [this]; exact hlt
        clear hlt hr ha hae
        generalize (at' M a).1 = y0 at c0 HA
        generalize (at' M a).2 = y1 at c1 HA
        go_upto_region 3 with fail
        refine wp_region_beh (by kernel_rfl) (by kernel_rfl) ?_
        repeat (go_big_quiet_step (first | (go_at_call 102; exact HA.out _)))
        refine wpQuiet_nil ?_
        rintro _ ⟨u, rfl⟩
        go_wp2_with fail
        go_ret
        exact HFIN.out _ u.ok HUP.out
    · obtain rfl : q = 0 := by omega
      go_wp2_with fail
      go_ret
      exact HFIN.out _ (Below.refl _ _) (fun i hi => by unfold E at hi; omega)
end Go.Proofs.YtkkfioebpppffaaGreatDoor.Tm

namespace Go.Proofs.YtkkfioebpppffaaGreatDoor.Tm
open Go.ChangeShapes Go.WideShapes Go.ChangeAt Go.RowKit Go.Maps H
set_option maxHeartbeats 1000000
set_option maxRecDepth 100000

theorem sink_any (b bm g cap p : Nat) (lim : Int) (L : List Dl) (f : Int → Option Nat) (c : Nat) (d : Dl) (w : World) (hm : Mm w b bm g cap lim L f c) (hH : Hole L.length (at' L) f p d) (hup0 : ∀ i, E i p → Le (at' L i) d) :
    Calls Tryz.prog 87 #[.pointer (some ⟨b, 0, none⟩), .int .i64 (p : Int), .agg #[.int .i64 d.1, .int .i64 d.2]] w fun e w' => ∃ q M h, e = .returned (.int .i64 ((q : Nat) : Int)) ∧ Way w w' b bm g cap lim c L.length (upd (at' L) p d) f d q M h ∧ (∀ i, E i q → Le (at' M i) d) ∧ (∀ k, E q k → k < L.length → Le d (at' M k)) := by
  obtain ⟨hl1, hl2, hl3⟩ := hm.lt
  have hn6 := hm.room.1
  obtain ⟨w1, hw1⟩ : ∃ w1, w1 = w.alloc (.cells #[.int .i64 d.1, .int .i64 d.2] 115) := ⟨_, rfl⟩
  have hf1 : Fr [g, bm] w w1 := by rw [hw1]; exact Fr.alloc _ _ _
  have hs1 : w1.heap.size = w.heap.size + 1 := by rw [hw1]; simp
  have hf1' : Fr [] w w1 := by rw [hw1]; exact Fr.alloc _ _ _
  have hm1 : Mm w1 b bm g cap lim L f c := hm.fr hf1' (by simp) (by simp) (by simp)
  have hbx : w1.heap[w.heap.size]? = some (.cells #[.int .i64 d.1, .int .i64 d.2] 115 (0, 0)) := by rw [hw1]; exact heap_alloc_new w _
  have HBOX : Hid (∀ wr, Fr [g, bm] w1 wr → ∀ u : Beh wr, u.wd.cell? ⟨w.heap.size, 0, none⟩ = some (.int .i64 d.1) ∧ u.wd.cell? ⟨w.heap.size, 1, none⟩ = some (.int .i64 d.2)) := fun wr hf u => by
    have h1 : wr.heap[w.heap.size]? = _ := (hf.block w.heap.size (by omega) (by simp; omega)).trans hbx
    have h2 : u.wd.heap[w.heap.size]? = _ := (u.ok.block w.heap.size (Array.getElem?_eq_some_iff.1 h1).1).trans h1
    exact ⟨by rw [cell_of_row _ _ _ _ _ _ h2]; rfl, by rw [cell_of_row _ _ _ _ _ _ h2]; rfl⟩
  have HW1 := hid hw1
  have HF1 := hid hf1
  have HW0 : Hid (Way w1 w1 b bm g cap lim c L.length (upd (at' L) p d) f d p L f ∧ ∀ i, E i p → Le (at' L i) d) := ⟨⟨hm1, rfl, hH, fun _ => Iff.rfl, rfl, Fr.refl _ _⟩, hup0⟩
  obtain ⟨n, hn⟩ : ∃ n, n = L.length := ⟨_, rfl⟩
  rw [← hn] at hn6 HW0 ⊢
  have hp := hH.lt
  rw [← hn] at hp
  generalize upd (at' L) p d = h0 at HW0 ⊢
  clear hw1 hs1 hf1 hf1' hm hm1 hbx hH hn hl1 hl2 hl3 hup0
  go_enter Tryz.func87, Tryz.ntmps87
  go_upto_region 1 with fail
  rw [← HW1.out]
  go_loopw [1] (fun i wv => ∃ (q : Nat) (M : List Dl) (h : Int → Option Nat) (wr : World), wr = wv ∧ i = .int .i64 q ∧ q < n ∧ Hid (Way w1 wr b bm g cap lim c n h0 f d q M h ∧ ∀ i, E i q → Le (at' M i) d)) (fun i _ => n - (intOf i).toNat)
  case atStart => exact ⟨p, L, f, _, rfl, rfl, hp, HW0⟩
  case round =>
    clear HW0
    obtain ⟨q, M, h, u0, rfl, rfl, hq, HWU⟩ := hrel
    obtain ⟨W, hup⟩ := HWU.out
    have HW := hid W
    have HUP := hid hup
    have HFIN : Hid (∀ wr, Below u0.heap.size u0 wr → (∀ k, E q k → k < n → Le d (at' M k)) → ∃ q' M' h', Ending.returned (.int .i64 (q : Int)) = Ending.returned (.int .i64 ((q' : Nat) : Int)) ∧ Way w wr b bm g cap lim c n h0 f d q' M' h' ∧ (∀ i, E i q' → Le (at' M' i) d) ∧ (∀ k, E q' k → k < n → Le d (at' M' k))) := fun wr hb hdn =>
      ⟨q, M, h, rfl, ⟨HW.out.mm.sees ⟨wr, hb⟩, HW.out.len, HW.out.hole, HW.out.mem, HW.out.own, (HF1.out.trans HW.out.fr).trans (Fr.of_below hb _)⟩, hup, hdn⟩
    obtain ⟨fb1, fb2, fb3⟩ := fb_facts M q
    rw [HW.out.len] at fb2 fb3
    have HFC := firstBelow_any b bm g cap q lim M h c u0 HW.out.mm (by rw [HW.out.len]; exact hq)
    generalize fb M q = k at *
    have hkq : q < k := by unfold E at fb1; omega
    have hk2 : k ≤ 2 * q + 2 := by unfold E at fb1; omega
    have HFC := hid HFC
    clear HWU W hup
    go_wp2_with fail
    refine HFC.out.mono ?_
    rintro _ u1 ⟨rfl, hb1⟩
    have HS : Hid (Mm u1 b bm g cap lim M h c) := HW.out.mm.sees ⟨u1, hb1⟩
    have HB1 := hid hb1
    have q1 : ∀ u : Beh u1, u.wd.cell? ⟨b, 1, none⟩ = some (.slice (some ⟨g, 0, none⟩) n cap) := fun u => by rw [← HW.out.len]; exact (HS.out.sees u).at1
    have hfr1 : Fr [g, bm] w1 u1 := HW.out.fr.trans (Fr.of_below hb1 _)
    have x0 : ∀ u : Beh u1, u.wd.cell? ⟨w.heap.size, 0, none⟩ = some (.int .i64 d.1) := fun u => (HBOX.out _ hfr1 u).1
    have x1 : ∀ u : Beh u1, u.wd.cell? ⟨w.heap.size, 1, none⟩ = some (.int .i64 d.2) := fun u => (HBOX.out _ hfr1 u).2
    have HFR1 := hid hfr1
    clear hb1 hfr1 HFC
    by_cases hkn : k < n
    · have c0 : ∀ u : Beh u1, u.wd.cell? ⟨g, k * 2, none⟩ = some (.int .i64 (at' M k).1) := fun u => ((HS.out.sees u).own.cell _ (by rw [HW.out.len]; exact hkn)).1
      have c1 : ∀ u : Beh u1, u.wd.cell? ⟨g, k * 2 + 1, none⟩ = some (.int .i64 (at' M k).2) := fun u => ((HS.out.sees u).own.cell _ (by rw [HW.out.len]; exact hkn)).2
      have HA : Hid (∀ u : Beh u1, Calls Tryz.prog 102 #[.agg #[.int .i64 (at' M k).1, .int .i64 (at' M k).2], .agg #[.int .i64 d.1, .int .i64 d.2]] u.wd fun e w' => e = .returned (.bool (decide (Lt (at' M k) d))) ∧ ∃ u' : Beh u1, w' = u'.wd) := fun u => Calls.beh (ahead_any _ _ _)
      have hqg : decide (n ≤ k) = false := by simp; omega
      by_cases hlt : Lt (at' M k) d
      · rw [decide_eq_true hlt] at HA
        have hin : In64 (at' M k).1 ∧ In64 (at' M k).2 := HW.out.mm.dom _ (List.mem_iff_getElem?.2 ⟨k, at_get (by rw [HW.out.len]; exact hkn)⟩)
        have HP : Hid (∀ u : Beh u1, Calls Tryz.prog 88 #[.pointer (some ⟨b, 0, none⟩), .int .i64 (q : Int), .agg #[.int .i64 (at' M k).1, .int .i64 (at' M k).2]] u.wd fun e w' => e = .returned (.tuple #[]) ∧ Way w1 w' b bm g cap lim c n h0 f d k (M.set q (at' M k)) (put h (at' M k).1 q) ∧ ∀ i, E i k → Le (at' (M.set q (at' M k)) i) d) := fun u => by
          have hsome : (h (at' M k).1).isSome = true := by rw [HW.out.hole.place k hkn (by omega)]; rfl
          refine (put_any b bm g cap q lim M h c (at' M k) u.wd (HS.out.sees u) (by rw [HW.out.len]; exact hq) hin (.inl hsome)).mono ?_
          rintro e w' ⟨rfl, hm', hf'⟩
          have hdn := HW.out.hole.down fb1 hkn (fb2 hkn)
          refine ⟨rfl, HW.out.step hkn (by omega) hdn.1 hdn.2 hm' (((Fr.of_below HB1.out _).trans (Fr.of_below u.ok _)).trans hf'), fun i hi => ?_⟩
          obtain rfl : i = q := E.uniq hi fb1
          rw [at_set (by rw [HW.out.len]; exact hq), upd_same]
          exact hlt.le
        clear hlt hin fb1 fb2 fb3
        generalize (at' M k).1 = y0 at c0 HA HP
        generalize (at' M k).2 = y1 at c1 HA HP
        go_upto_region 2 with fail
        refine wp_region_beh (by kernel_rfl) (by kernel_rfl) ?_
        repeat (go_big_quiet_step (first | (go_at_call 102; exact HA.out _)))
        refine wpQuiet_nil ?_
        rintro _ ⟨u, rfl⟩
        go_wp2_with fail
        refine (HP.out u).mono ?_
        rintro _ w5 ⟨rfl, hW5⟩
        go_wp2_with fail
        go_roundw
        case rel => exact ⟨k, _, _, _, rfl, rfl, hkn, hW5⟩
        case measure => simp [intOf]; omega
      · rw [decide_eq_false hlt] at HA
        have HDN : Hid (∀ j, E q j → j < n → Le d (at' M j)) := fun j hj hjn => Le.trans hlt (fb2 hkn j hj hjn)
        clear hlt fb1 fb2 fb3
        generalize (at' M k).1 = y0 at c0 HA
        generalize (at' M k).2 = y1 at c1 HA
        go_upto_region 2 with fail
        refine wp_region_beh (by kernel_rfl) (by kernel_rfl) ?_
        repeat (go_big_quiet_step (first | (go_at_call 102; exact HA.out _)))
        refine wpQuiet_nil ?_
        rintro _ ⟨u, rfl⟩
        go_wp2_with fail
        go_ret
        exact HFIN.out _ (HB1.out.trans (u.ok.mono HB1.out.size)) HDN.out
    · have hqg : decide (n ≤ k) = true := by simp; omega
      have HDN : Hid (∀ j, E q j → j < n → Le d (at' M j)) := fun j hj hjn => absurd (fb3 (by omega) j hj) (by omega)
      clear fb1 fb2 fb3
      go_upto_region 2 with fail
      refine wp_region_beh (by kernel_rfl) (by kernel_rfl) ?_
      repeat (go_big_quiet_step (fail))
      refine wpQuiet_nil ?_
      rintro _ ⟨u, rfl⟩
      go_wp2_with fail
      go_ret
      exact HFIN.out _ (HB1.out.trans (u.ok.mono HB1.out.size)) HDN.out

/-- What settle leaves. -/
structure Settled (w w' : World) (b bm g cap : Nat) (lim : Int) (c n : Nat) (h0 : Nat → Dl) (M : List Dl) (h : Int → Option Nat) : Prop where
  mm : Mm w' b bm g cap lim M h c
  len : M.length = n
  heap : Heap n (at' M) h
  mem : ∀ x, Mem n (at' M) x ↔ Mem n h0 x
  fr : Fr [g, bm] w w'

theorem settle_any (b bm g cap p : Nat) (lim : Int) (L : List Dl) (f : Int → Option Nat) (c : Nat) (d : Dl) (w : World) (hm : Mm w b bm g cap lim L f c) (hH : Hole L.length (at' L) f p d) (hd : In64 d.1 ∧ In64 d.2) (hc : (f d.1).isSome = true ∨ c < 65536) :
    Calls Tryz.prog 62 #[.pointer (some ⟨b, 0, none⟩), .int .i64 (p : Int), .agg #[.int .i64 d.1, .int .i64 d.2]] w fun e w' => e = .returned (.tuple #[]) ∧ ∃ M h, Settled w w' b bm g cap lim (if (f d.1).isSome then c else c + 1) L.length (upd (at' L) p d) M h := by
  obtain ⟨hl1, hl2, hl3⟩ := hm.lt
  have hn6 := hm.room.1
  obtain ⟨w1, hw1⟩ : ∃ w1, w1 = w.alloc (.cells #[.int .i64 d.1, .int .i64 d.2] 115) := ⟨_, rfl⟩
  have hf1 : Fr [g, bm] w w1 := by rw [hw1]; exact Fr.alloc _ _ _
  have hs1 : w1.heap.size = w.heap.size + 1 := by rw [hw1]; simp
  have hf1' : Fr [] w w1 := by rw [hw1]; exact Fr.alloc _ _ _
  have hm1 : Mm w1 b bm g cap lim L f c := hm.fr hf1' (by simp) (by simp) (by simp)
  have hbx : w1.heap[w.heap.size]? = some (.cells #[.int .i64 d.1, .int .i64 d.2] 115 (0, 0)) := by rw [hw1]; exact heap_alloc_new w _
  have HBOX : Hid (∀ wr, Fr [g, bm] w1 wr → wr.cell? ⟨w.heap.size, 0, none⟩ = some (.int .i64 d.1) ∧ wr.cell? ⟨w.heap.size, 1, none⟩ = some (.int .i64 d.2)) := fun wr hf => by
    have h1 : wr.heap[w.heap.size]? = _ := (hf.block w.heap.size (by omega) (by simp; omega)).trans hbx
    exact ⟨by rw [cell_of_row _ _ _ _ _ _ h1]; rfl, by rw [cell_of_row _ _ _ _ _ _ h1]; rfl⟩
  have HW1 := hid hw1
  have HF1 := hid hf1
  have HRI := hid (rise_any b bm g cap p lim L f c d w1 hm1 hH)
  obtain ⟨x0, x1⟩ := HBOX.out w1 (Fr.refl _ _)
  have hp := hH.lt
  have HC := hid hc
  have HD := hid hd
  obtain ⟨c', hc'⟩ : ∃ c', c' = if (f d.1).isSome then c else c + 1 := ⟨_, rfl⟩
  rw [← hc']
  have HC' := hid hc'
  clear hw1 hs1 hf1 hf1' hm hm1 hbx hH hl1 hl2 hl3 hc hd hc'
  go_enter Tryz.func62, Tryz.ntmps62
  go_upto_region 1 with fail
  rw [← HW1.out]
  go_wp2_with fail
  refine HRI.out.mono ?_
  rintro _ w2 ⟨q, M, h, rfl, W, hup⟩
  have HSI := hid (sink_any b bm g cap q lim M h c d w2 W.mm (by rw [W.len]; exact W.hole) hup)
  have HW2 := hid W
  obtain ⟨y0, y1⟩ := HBOX.out w2 W.fr
  have hq : q < L.length := W.hole.lt
  clear W hup x0 x1 HRI
  go_wp2_with fail
  refine HSI.out.mono ?_
  rintro _ w3 ⟨r, N, k, rfl, W, hup, hdn⟩
  rw [HW2.out.len] at W hdn
  have hfr : Fr [g, bm] w1 w3 := HW2.out.fr.trans W.fr
  have hkd : k d.1 = f d.1 := W.own.trans HW2.out.own
  have HPU := put_any b bm g cap r lim N k c d w3 W.mm (by rw [W.len]; exact W.hole.lt) HD.out (by rw [hkd]; exact HC.out)
  rw [hkd, ← HC'.out] at HPU
  have HPU := hid HPU
  obtain ⟨z0, z1⟩ := HBOX.out w3 hfr
  have HW3 := hid W
  have HFR := hid hfr
  have HUP := hid hup
  have HDN := hid hdn
  have hr : r < L.length := W.hole.lt
  clear W hup hdn hfr hkd y0 y1 HSI
  go_wp2_with fail
  refine HPU.out.mono ?_
  rintro _ w4 ⟨rfl, hm4, hf4⟩
  go_wp2_with fail
  refine bodyPost_end (results_none Tryz.results62 _ _ _) rfl ⟨rfl, _, _, hm4, ?_, ?_, ?_, (HF1.out.trans HFR.out).trans hf4⟩
  · rw [List.length_set]; exact HW3.out.len
  · rw [at_set (by rw [HW3.out.len]; exact hr)]
    exact HW3.out.hole.fill HUP.out HDN.out
  · intro x
    rw [at_set (by rw [HW3.out.len]; exact hr)]
    exact (HW3.out.mem x).trans (HW2.out.mem x)
end Go.Proofs.YtkkfioebpppffaaGreatDoor.Tm

namespace Go.Proofs.YtkkfioebpppffaaGreatDoor.Tm.H

theorem E.lt {i j : Nat} (h : E i j) : i < j := by unfold E at h; omega

theorem upd_congr {n : Nat} {h h' : Nat → Dl} (e : ∀ i, i < n → h' i = h i) (p : Nat) (d : Dl) : ∀ i, i < n → upd h' p d i = upd h p d i := fun i hi => by
  unfold upd; split
  · rfl
  · exact e i hi

theorem Hole.congr {n : Nat} {h h' : Nat → Dl} {f : Int → Option Nat} {p : Nat} {d : Dl} (H : Hole n h f p d) (e : ∀ i, i < n → h' i = h i) : Hole n h' f p d := by
  have eu := upd_congr e p d
  refine ⟨H.lt, fun i j hi hj hij => H.inj i j hi hj (by rw [← eu i hi, ← eu j hj]; exact hij), fun i hi hp => by rw [e i hi]; exact H.place i hi hp, fun x k hx => ?_, fun i j hij hj h1 h2 => ?_, fun i c h1 h2 hc => ?_⟩
  · obtain ⟨i, hi, ei⟩ := H.dom x k hx
    exact ⟨i, hi, by rw [eu i hi]; exact ei⟩
  · have := hij.lt
    rw [e i (by omega), e j hj]; exact H.edge i j hij hj h1 h2
  · have h3 := h1.lt
    have h4 := H.lt
    rw [e i (by omega), e c hc]; exact H.byp i c h1 h2 hc

theorem Heap.congr {n : Nat} {h h' : Nat → Dl} {f : Int → Option Nat} (H : Heap n h f) (e : ∀ i, i < n → h' i = h i) : Heap n h' f := by
  refine ⟨fun i j hi hj hij => H.inj i j hi hj (by rw [← e i hi, ← e j hj]; exact hij), fun i hi => by rw [e i hi]; exact H.place i hi, fun x k hx => ?_, fun i j hij hj => ?_⟩
  · obtain ⟨hk, ek⟩ := H.dom x k hx
    exact ⟨hk, by rw [e k hk]; exact ek⟩
  · have := hij.lt
    rw [e i (by omega), e j hj]; exact H.edge i j hij hj

theorem Mem.congr {n : Nat} {h h' : Nat → Dl} (e : ∀ i, i < n → h' i = h i) (x : Dl) : Mem n h' x ↔ Mem n h x :=
  ⟨fun ⟨i, hi, hx⟩ => ⟨i, hi, by rw [← e i hi]; exact hx⟩, fun ⟨i, hi, hx⟩ => ⟨i, hi, by rw [e i hi]; exact hx⟩⟩

theorem Rep.congr {n : Nat} {h h' : Nat → Dl} {S : List Dl} (R : Rep n h S) (e : ∀ i, i < n → h' i = h i) : Rep n h' S := ⟨R.sorted, fun x => (Mem.congr e x).trans (R.mem x)⟩

theorem at_take {L : List Dl} {n i : Nat} (hi : i < n) : at' (L.take n) i = at' L i := by
  unfold at'
  rw [List.getD_eq_getElem?_getD, List.getD_eq_getElem?_getD, List.getElem?_take_of_lt hi]
end Go.Proofs.YtkkfioebpppffaaGreatDoor.Tm.H
namespace Go.Proofs.YtkkfioebpppffaaGreatDoor.Tm
open Go.ChangeShapes Go.WideShapes Go.ChangeAt Go.RowKit Go.Maps H
set_option maxHeartbeats 1000000
set_option maxRecDepth 100000

theorem cut_end (g n cap e : Nat) (he : e ≤ n) (hc : n ≤ cap) (u : World) : (Instr.sliceAt 82 (.slice (some ⟨g, 0, none⟩) n cap) none (some (.int .i64 (e : Int))) none).run Tryz.prog u = .ok (.slice (some ⟨g, 0, none⟩) e cap) u := by
  have hu : Tryz.prog.underlying 82 = some (.slice (Tryz.prog.elem 82)) := by kernel_rfl
  have hsz : (sizeOf (Tryz.prog.elem 82)).run Tryz.prog u = .ok 2 u := by kernel_rfl
  rw [run_sliceAt_slice (h := hu), run_slice_h (ht := hu) (h0 := by omega) (h2 := by omega), hsz]
  simp [Result.andThen, sliced, Addr.add]

/-- What take leaves. -/
structure Taken (w w' : World) (b bm g cap : Nat) (lim : Int) (L : List Dl) (p : Nat) (M : List Dl) (h : Int → Option Nat) : Prop where
  mm : Mm w' b bm g cap lim M h M.length
  len : M.length + 1 = L.length
  heap : Heap M.length (at' M) h
  rep : ∀ S, Rep L.length (at' L) S → Rep M.length (at' M) (drp (at' L p).1 S)
  fr : Fr [b, g, bm] w w'

theorem take_any (b bm g cap p : Nat) (lim : Int) (L : List Dl) (f : Int → Option Nat) (w : World) (hm : Mm w b bm g cap lim L f L.length) (hH : Heap L.length (at' L) f) (hp : p < L.length) :
    Calls Tryz.prog 45 #[.pointer (some ⟨b, 0, none⟩), .int .i64 (p : Int)] w fun r w' => r = .returned (.tuple #[]) ∧ ∃ M h, Taken w w' b bm g cap lim L p M h := by
  obtain ⟨hl1, hl2, hl3⟩ := hm.lt
  obtain ⟨hn1, hn2, hn3⟩ := hm.ne
  have hn6 := hm.room.1
  obtain ⟨e, he⟩ : ∃ e, L.length = e + 1 := ⟨L.length - 1, by omega⟩
  have hcap : e + 1 ≤ cap := by obtain ⟨_, _, h, _⟩ := hm.own; omega
  -- the last one, in a box
  obtain ⟨w1, hw1⟩ : ∃ w1, w1 = w.alloc (.cells #[.int .i64 (at' L e).1, .int .i64 (at' L e).2] 115) := ⟨_, rfl⟩
  have hbx : w1.heap[w.heap.size]? = some (.cells #[.int .i64 (at' L e).1, .int .i64 (at' L e).2] 115 (0, 0)) := by rw [hw1]; exact heap_alloc_new w _
  have hf1 : Fr [b, g, bm] w w1 := by rw [hw1]; exact Fr.alloc _ _ _
  have hf1' : Fr [] w w1 := by rw [hw1]; exact Fr.alloc _ _ _
  have hs1 : w.heap.size < w1.heap.size := (Array.getElem?_eq_some_iff.1 hbx).1
  have hm1 : Mm w1 b bm g cap lim L f L.length := hm.fr hf1' (by simp) (by simp) (by simp)
  -- the map without it
  have hin : ∀ i, i < L.length → In64 (at' L i).1 ∧ In64 (at' L i).2 := fun i hi => hm.dom _ (List.mem_iff_getElem?.2 ⟨i, at_get hi⟩)
  have hfp : f (at' L p).1 = some p := hH.place p hp
  have hmd : MapF w1.drew bm f L.length := hm1.map.kept rfl
  obtain ⟨w2, hrun, hm2, ht2⟩ := hmd.drop (hin p hp).1 (by rw [hfp]; rfl) 0
  have hg2 := ht2.grown
  have hsz : w1.drew.heap.size = w1.heap.size := rfl
  have hf2 : Fr [b, g, bm] w w2 := hf1.drew.turned ht2 (by simp)
  have hb2 : w2.heap[b]? = w1.heap[b]? := hg2.block b (by rw [hsz]; exact hm1.lt.1) (by simpa using hn1)
  have hgg2 : w2.heap[g]? = w1.heap[g]? := hg2.block g (by rw [hsz]; exact hm1.lt.2.1) (by simpa using hn3)
  have hx2 : w2.heap[w.heap.size]? = w1.heap[w.heap.size]? := hg2.block _ (by rw [hsz]; exact hs1) (by simp; omega)
  have hr2 : RowD w2 g cap L := hm1.own.kept hgg2
  have hrow2 := hb2.trans hm1.row
  -- the last place emptied, the list cut
  obtain ⟨w3, hw3⟩ : ∃ w3, w3 = (w2.setCell ⟨g, e * 2, none⟩ (.int .i64 0)).setCell ⟨g, e * 2 + 1, none⟩ (.int .i64 0) := ⟨_, rfl⟩
  have hr3 : RowD w3 g cap (L.set e (0, 0)) := by rw [hw3]; exact hr2.set e (0, 0) (by omega)
  have hf3 : Fr [g] w2 w3 := by rw [hw3]; exact ((Fr.refl [g] w2).set (by simp)).set (by simp)
  have hlt2 : w1.heap.size ≤ w2.heap.size := hg2.size
  have hb3 : w3.heap[b]? = _ := (hf3.block b (by omega) (by simpa using hn2.symm)).trans hrow2
  have hm3 : MapF w3 bm (del f (at' L p).1) (L.length - 1) := hm2.kept (hf3.block bm hm2.lt (by simpa using hn3.symm))
  have hx3 : w3.heap[w.heap.size]? = _ := (hf3.block w.heap.size (by omega) (by simp; omega)).trans (hx2.trans hbx)
  obtain ⟨w4, hw4⟩ : ∃ w4, w4 = w3.setCell ⟨b, 1, none⟩ (.slice (some ⟨g, 0, none⟩) e cap) := ⟨_, rfl⟩
  have hf4 : Fr [b] w3 w4 := by rw [hw4]; exact (Fr.refl [b] w3).set (by simp)
  have hb4 : w4.heap[b]? = some (.cells #[.int .i64 lim, .slice (some ⟨g, 0, none⟩) e cap, .map (some bm)] 84 (0, 0)) := by
    rw [hw4]; exact heap_setCell_same w3 b 1 _ 84 _ hb3
  have hlt3 : w2.heap.size ≤ w3.heap.size := hf3.size
  have hx4 : w4.heap[w.heap.size]? = _ := (hf4.block w.heap.size (by omega) (by simp; omega)).trans hx3
  have hlen4 : (L.take e).length = e := by rw [List.length_take]; omega
  have hm4 : Mm w4 b bm g cap lim (L.take e) (del f (at' L p).1) e := by
    refine ⟨by rw [hlen4]; exact hb4, ?_, ?_, fun x hx => hm.dom x (List.mem_of_mem_take hx), by rw [hlen4]; omega⟩
    · have := (hr3.take e).kept (hf4.block g hr3.lt (by simpa using hn2))
      rwa [List.take_set_of_le (by omega)] at this
    · have := hm3.kept (hf4.block bm hm3.lt (by simpa using hn1.symm))
      rwa [show L.length - 1 = e by omega] at this
  have hfr4 : Fr [b, g, bm] w w4 := (hf2.trans (hf3.mono (by simp))).trans (hf4.mono (by simp))
  have eT : ∀ i, i < e → at' (L.take e) i = at' L i := fun i hi => at_take hi
  -- what settle is to do
  have HSE : Hid (p < e → Calls Tryz.prog 62 #[.pointer (some ⟨b, 0, none⟩), .int .i64 (p : Int), .agg #[.int .i64 (at' L e).1, .int .i64 (at' L e).2]] w4 fun r w' => r = .returned (.tuple #[]) ∧ ∃ M h, Taken w w' b bm g cap lim L p M h) := fun hpe => by
    have hHo : Hole (L.take e).length (at' (L.take e)) (del f (at' L p).1) p (at' L e) := by
      rw [hlen4]
      rw [he] at hH
      exact (hH.hole_take hpe).congr eT
    have hne : (at' L e).1 ≠ (at' L p).1 := fun h => by
      have := hH.inj e p (by omega) (by omega) h
      omega
    have hsome : (del f (at' L p).1 (at' L e).1).isSome = true := by
      unfold del
      rw [if_neg hne, hH.place e (by omega)]; rfl
    have := settle_any b bm g cap p lim (L.take e) (del f (at' L p).1) e (at' L e) w4 hm4 hHo (hin e (by omega)) (.inl hsome)
    rw [hsome, if_pos rfl, hlen4] at this
    refine this.mono ?_
    rintro r w' ⟨rfl, M, h, hs⟩
    refine ⟨rfl, M, h, by rw [hs.len]; exact hs.mm, by rw [hs.len, he], by rw [hs.len]; exact hs.heap, fun S hS => ?_, hfr4.trans (hs.fr.mono (by simp))⟩
    rw [he] at hS hH
    rw [hs.len]
    exact hS.took hH.inj hpe (fun x => (hs.mem x).trans (Mem.congr (upd_congr eT p _) x))
  have HNO : Hid (p = e → ∃ M h, Taken w w4 b bm g cap lim L p M h) := fun hpe => by
    refine ⟨L.take e, del f (at' L p).1, by rw [hlen4]; exact hm4, by rw [hlen4, he], ?_, fun S hS => ?_, hfr4⟩
    · rw [hlen4, hpe]
      rw [he] at hH
      exact hH.pop.congr eT
    · rw [hlen4, hpe]
      rw [he] at hS hH
      exact (hS.popped hH.inj).congr eT
  -- the cells
  have k1 : w.cell? ⟨b, 1, none⟩ = some (.slice (some ⟨g, 0, none⟩) (e + 1) cap) := by rw [← he]; exact hm.at1
  obtain ⟨y0, y1⟩ := hm.own.cell e (by omega)
  have k1' : w1.cell? ⟨b, 1, none⟩ = some (.slice (some ⟨g, 0, none⟩) (e + 1) cap) := by rw [← he]; exact hm1.at1
  have k2' : w1.cell? ⟨b, 2, none⟩ = some (.map (some bm)) := hm1.at2
  have z0 := (hm1.own.cell p hp).1
  have k1'' : w2.cell? ⟨b, 1, none⟩ = some (.slice (some ⟨g, 0, none⟩) (e + 1) cap) := by rw [cell_of_row _ _ _ _ _ _ hrow2, he]; rfl
  obtain ⟨v0, v1⟩ := hr2.cell e (by omega)
  have g0 := hr2.free (e * 2)
  have g1 := hr2.free (e * 2 + 1)
  have k13 : w3.cell? ⟨b, 1, none⟩ = some (.slice (some ⟨g, 0, none⟩) (e + 1) cap) := by rw [cell_of_row _ _ _ _ _ _ hb3, he]; rfl
  have fb3 : w3.frozen? ⟨b, 1, none⟩ = false := frozen_of_row _ _ _ _ _ hb3
  have x0 : w4.cell? ⟨w.heap.size, 0, none⟩ = some (.int .i64 (at' L e).1) := by rw [cell_of_row _ _ _ _ _ _ hx4]; rfl
  have x1 : w4.cell? ⟨w.heap.size, 1, none⟩ = some (.int .i64 (at' L e).2) := by rw [cell_of_row _ _ _ _ _ _ hx4]; rfl
  have hcut := cut_end g (e + 1) cap e (by omega) hcap
  have e1 : (((e + 1 : Nat)) : Int) - 1 = (e : Int) := by omega
  have HW1 := hid hw1
  have HW3 := hid hw3
  have HW4 := hid hw4
  rw [he] at hp hn6
  generalize (at' L e).1 = l0 at *
  generalize (at' L e).2 = l1 at *
  generalize (at' L p).1 = i0 at *
  clear hw1 hw3 hw4 hbx hf1 hf1' hs1 hm hm1 hin hfp hmd hm2 ht2 hg2 hsz hf2 hb2 hgg2 hx2 hr2 hrow2 hr3 hf3 hlt2 hb3 hm3 hx3 hf4 hb4 hlt3 hx4 hlen4 hm4 hfr4 eT hH he hl1 hl2 hl3
  go_enter Tryz.func45, Tryz.ntmps45
  go_upto_region 2 with fail
  rw [← HW1.out]
  clear k1 y0 y1
  go_wp2
  go_region
  clear k1' k2' z0 hrun
  go_upto_region 4 with fail
  rw [← HW3.out]
  clear k1'' v0 v1 g0 g1
  go_upto_region 5 with fail
  rw [← HW4.out]
  clear k13 fb3
  by_cases hpe : p < e
  · go_wp2_with fail
    refine (HSE.out hpe).mono ?_
    rintro _ w5 ⟨rfl, M, h, ht⟩
    go_wp2_with fail
    exact bodyPost_end (results_none Tryz.results45 _ _ _) rfl ⟨rfl, M, h, ht⟩
  · obtain ⟨M, h, ht⟩ := HNO.out (by omega)
    go_wp2_with fail
    exact bodyPost_end (results_none Tryz.results45 _ _ _) rfl ⟨rfl, M, h, ht⟩
end Go.Proofs.YtkkfioebpppffaaGreatDoor.Tm
