import Derived.Test.YthbjfbalgejndaaTB
import Derived.Test.YthbjfbalgejndaaB
namespace Go.Proofs.Ythbjfbalgejndaa
open Go.ChangeShapes Go.WideShapes Go.ChangeAt Go.RowKit Go.Maps H
set_option maxHeartbeats 400000
set_option maxRecDepth 100000

/-- A world behind calls that made memory and wrote none of the elder. -/
structure Beh (w : World) where
  wd : World
  ok : Below w.heap.size w wd

instance (w : World) : Nonempty (Beh w) := ⟨⟨w, Below.refl _ _⟩⟩

theorem wp_region_beh {P : Program} {id : Nat} {Q : Exit → Act → World → Prop} {a : Act} {w : World} {l : List Oper} (hm : P.follows .mixedOrders = true) (hB : Region.lexB .any l.toArray = true)
    (h : wpQuiet P l.toArray (fun w' => ∃ u : Beh w, w' = u.wd) (fun a' => ∀ w', (∃ u : Beh w, w' = u.wd) → Q .normal a' w') l a) : (Code.region id l.toArray true).wp P Q a w :=
  wp_region_quiet (C := fun w' => ∃ u : Beh w, w' = u.wd) hm hB ⟨⟨_, below_drewN (Below.refl _ _) 1⟩, rfl⟩ (by simpa using h)

theorem Calls.beh {P : Program} {f : FuncId} {args : Array Value} {w : World} {u : Beh w} {v : Value}
    (h : Calls P f args u.wd fun e w' => e = .returned v ∧ Below u.wd.heap.size u.wd w') : Calls P f args u.wd fun e w'' => e = .returned v ∧ ∃ u' : Beh w, w'' = u'.wd :=
  h.mono fun _ w' ⟨he, hb⟩ => ⟨he, ⟨w', u.ok.trans (hb.mono u.ok.size)⟩, rfl⟩

theorem ahead_any (d e : Dl) (w : World) :
    Calls Try.prog 41 #[.agg #[.int .i64 d.1, .int .i64 d.2], .agg #[.int .i64 e.1, .int .i64 e.2]] w fun r w' => r = .returned (.bool (decide (Lt d e))) ∧ Below w.heap.size w w' := by
  obtain ⟨x, a⟩ := d
  obtain ⟨y, b⟩ := e
  obtain ⟨wa, hwa⟩ : ∃ wa, wa = w.alloc (.cells #[.int .i64 x, .int .i64 a] 67) := ⟨_, rfl⟩
  obtain ⟨wb, hwb⟩ : ∃ wb, wb = wa.alloc (.cells #[.int .i64 y, .int .i64 b] 67) := ⟨_, rfl⟩
  have hsa : wa.heap.size = w.heap.size + 1 := by rw [hwa]; simp
  have hba : Below w.heap.size w wa := by rw [hwa]; exact (Below.refl _ _).alloc (Nat.le_refl _) _
  have hbb : Below wa.heap.size wa wb := by rw [hwb]; exact (Below.refl _ _).alloc (Nat.le_refl _) _
  have hr1 : wb.heap[w.heap.size]? = some (.cells #[.int .i64 x, .int .i64 a] 67 (0, 0)) := by rw [hbb.block _ (by omega), hwa]; exact heap_alloc_new w _
  have hr2 : wb.heap[w.heap.size + 1]? = some (.cells #[.int .i64 y, .int .i64 b] 67 (0, 0)) := by
    have := heap_alloc_new wa (.cells #[.int .i64 y, .int .i64 b] 67)
    rw [← hwb, hsa] at this
    exact this
  have c0 : wb.cell? ⟨w.heap.size, 0, none⟩ = some (.int .i64 x) := by rw [cell_of_row _ _ _ _ _ _ hr1]; rfl
  have c1 : wb.cell? ⟨w.heap.size, 1, none⟩ = some (.int .i64 a) := by rw [cell_of_row _ _ _ _ _ _ hr1]; rfl
  have d0 : wb.cell? ⟨w.heap.size + 1, 0, none⟩ = some (.int .i64 y) := by rw [cell_of_row _ _ _ _ _ _ hr2]; rfl
  have d1 : wb.cell? ⟨w.heap.size + 1, 1, none⟩ = some (.int .i64 b) := by rw [cell_of_row _ _ _ _ _ _ hr2]; rfl
  have HWB : Hid (wb = (w.alloc (.cells #[.int .i64 x, .int .i64 a] 67)).alloc (.cells #[.int .i64 y, .int .i64 b] 67)) := by unfold Hid; rw [hwb, hwa]
  have HB : Hid (Below w.heap.size w wb) := hba.trans (hbb.mono (by omega))
  have HL : Hid (Lt (x, a) (y, b) ↔ (a < b ∨ a = b ∧ x < y)) := Iff.rfl
  generalize hD : decide (Lt (x, a) (y, b)) = D at *
  have HD := hid hD
  clear hwa hwb hsa hba hbb hr1 hr2 hD
  by_cases hab : a = b
  · have hq : (a != b) = false := by simp [hab]
    have HE : Hid (D = decide (x < y)) := by unfold Hid; rw [← HD.out]; exact decide_eq_decide.2 (by rw [HL.out]; omega)
    clear hab
    go_enter Try.func41, Try.ntmps41
    go_upto_region 1 with fail
    rw [← HWB.out]
    go_wp2_with fail
    go_ret
    exact ⟨ret_bool HE.out.symm, HB.out⟩
  · have hq : (a != b) = true := by simp [hab]
    have HE : Hid (D = decide (a < b)) := by unfold Hid; rw [← HD.out]; exact decide_eq_decide.2 (by rw [HL.out]; omega)
    clear hab
    go_enter Try.func41, Try.ntmps41
    go_upto_region 1 with fail
    rw [← HWB.out]
    go_wp2_with fail
    go_ret
    exact ⟨ret_bool HE.out.symm, HB.out⟩

/-- What a Timers shows in all worlds behind this one. -/
theorem Mm.sees {w : World} {b bm g cap : Nat} {lim : Int} {L : List Dl} {f : Int → Option Nat} {c : Nat} (h : Mm w b bm g cap lim L f c) (u : Beh w) : Mm u.wd b bm g cap lim L f c :=
  h.kept (u.ok.block _ h.lt.1) (u.ok.block _ h.lt.2.1) (u.ok.block _ h.lt.2.2)

theorem Mm.at1 {w : World} {b bm g cap : Nat} {lim : Int} {L : List Dl} {f : Int → Option Nat} {c : Nat} (h : Mm w b bm g cap lim L f c) : w.cell? ⟨b, 1, none⟩ = some (.slice (some ⟨g, 0, none⟩) L.length cap) := by rw [cell_of_row _ _ _ _ _ _ h.row]; rfl
theorem Mm.at2 {w : World} {b bm g cap : Nat} {lim : Int} {L : List Dl} {f : Int → Option Nat} {c : Nat} (h : Mm w b bm g cap lim L f c) : w.cell? ⟨b, 2, none⟩ = some (.map (some bm)) := by rw [cell_of_row _ _ _ _ _ _ h.row]; rfl
theorem Mm.at0 {w : World} {b bm g cap : Nat} {lim : Int} {L : List Dl} {f : Int → Option Nat} {c : Nat} (h : Mm w b bm g cap lim L f c) : w.cell? ⟨b, 0, none⟩ = some (.int .i64 lim) := by rw [cell_of_row _ _ _ _ _ _ h.row]; rfl

/-- The first of the two below. -/
def fb (L : List Dl) (p : Nat) : Nat := if 2 * p + 2 < L.length ∧ Lt (at' L (2 * p + 2)) (at' L (2 * p + 1)) then 2 * p + 2 else 2 * p + 1

theorem firstBelow_any (b bm g cap p : Nat) (lim : Int) (L : List Dl) (f : Int → Option Nat) (c : Nat) (w : World) (hm : Mm w b bm g cap lim L f c) (hp : p < L.length) :
    Calls Try.prog 42 #[.pointer (some ⟨b, 0, none⟩), .int .i64 (p : Int)] w fun e w' => e = .returned (.int .i64 ((fb L p : Nat) : Int)) ∧ Below w.heap.size w w' := by
  have hn6 := hm.room.1
  have HM := hid hm
  have q1 : ∀ u : Beh w, u.wd.cell? ⟨b, 1, none⟩ = some (.slice (some ⟨g, 0, none⟩) L.length cap) := fun u => (hm.sees u).at1
  have HFB : Hid (fb L p = if 2 * p + 2 < L.length ∧ Lt (at' L (2 * p + 2)) (at' L (2 * p + 1)) then 2 * p + 2 else 2 * p + 1) := rfl
  obtain ⟨l, hl⟩ : ∃ l, l = 2 * p + 1 := ⟨_, rfl⟩
  obtain ⟨r, hr⟩ : ∃ r, r = 2 * p + 2 := ⟨_, rfl⟩
  have e1 : 2 * (p : Int) + 1 = (l : Int) := by omega
  have e2 : (l : Int) + 1 = (r : Int) := by omega
  have hlr : r = l + 1 := by omega
  rw [← hl, ← hr] at HFB
  have hp6 : p < 65536 := by omega
  by_cases h2 : r < L.length
  · have c0 : ∀ u : Beh w, u.wd.cell? ⟨g, l * 2, none⟩ = some (.int .i64 (at' L l).1) := fun u => ((hm.sees u).own.cell _ (by omega)).1
    have c1 : ∀ u : Beh w, u.wd.cell? ⟨g, l * 2 + 1, none⟩ = some (.int .i64 (at' L l).2) := fun u => ((hm.sees u).own.cell _ (by omega)).2
    have d0 : ∀ u : Beh w, u.wd.cell? ⟨g, r * 2, none⟩ = some (.int .i64 (at' L r).1) := fun u => ((hm.sees u).own.cell _ (by omega)).1
    have d1 : ∀ u : Beh w, u.wd.cell? ⟨g, r * 2 + 1, none⟩ = some (.int .i64 (at' L r).2) := fun u => ((hm.sees u).own.cell _ (by omega)).2
    have HA : Hid (∀ u : Beh w, Calls Try.prog 41 #[.agg #[.int .i64 (at' L r).1, .int .i64 (at' L r).2], .agg #[.int .i64 (at' L l).1, .int .i64 (at' L l).2]] u.wd fun e w' => e = .returned (.bool (decide (Lt (at' L r) (at' L l)))) ∧ ∃ u' : Beh w, w' = u'.wd) := fun u => Calls.beh (ahead_any _ _ _)
    have hln : l < L.length := by omega
    have hq : decide ((r : Int) < (L.length : Int)) = true := by simp; omega
    by_cases hlt : Lt (at' L r) (at' L l)
    · have HE : Hid (fb L p = r) := by unfold Hid; rw [HFB.out, if_pos ⟨h2, hlt⟩]
      rw [decide_eq_true hlt] at HA
      generalize at' L r = x at *
      generalize at' L l = y at *
      generalize L.length = n at *
      clear hlt hm hl hr hlr
      go_enter Try.func42, Try.ntmps42
      go_upto_region 3 with fail
      refine wp_region_beh (by kernel_rfl) (by kernel_rfl) ?_
      repeat (go_big_quiet_step (first | (go_at_call 41; exact HA.out _)))
      refine wpQuiet_nil ?_
      rintro _ ⟨u, rfl⟩
      go_wp2_with fail
      go_ret
      exact ⟨ret_int (by rw [HE.out]), u.ok⟩
    · have HE : Hid (fb L p = l) := by unfold Hid; rw [HFB.out, if_neg (fun h => hlt h.2)]
      rw [decide_eq_false hlt] at HA
      generalize at' L r = x at *
      generalize at' L l = y at *
      generalize L.length = n at *
      clear hlt hm hl hr hlr
      go_enter Try.func42, Try.ntmps42
      go_upto_region 3 with fail
      refine wp_region_beh (by kernel_rfl) (by kernel_rfl) ?_
      repeat (go_big_quiet_step (first | (go_at_call 41; exact HA.out _)))
      refine wpQuiet_nil ?_
      rintro _ ⟨u, rfl⟩
      go_wp2_with fail
      go_ret
      exact ⟨ret_int (by rw [HE.out]), u.ok⟩
  · have HE : Hid (fb L p = l) := by unfold Hid; rw [HFB.out, if_neg (fun h => h2 h.1)]
    have hq : decide ((r : Int) < (L.length : Int)) = false := by simp; omega
    generalize L.length = n at *
    clear hm hl hr hlr
    go_enter Try.func42, Try.ntmps42
    go_upto_region 3 with fail
    refine wp_region_beh (by kernel_rfl) (by kernel_rfl) ?_
    repeat (go_big_quiet_step (fail))
    refine wpQuiet_nil ?_
    rintro _ ⟨u, rfl⟩
    go_wp2_with fail
    go_ret
    exact ⟨ret_int (by rw [HE.out]), u.ok⟩
end Go.Proofs.Ythbjfbalgejndaa
