import Derived.Test.YtkoinngpmkmocaaDoorN
namespace Go.Proofs.YtkoinngpmkmocaaDoor
open Go.ChangeShapes Go.WideShapes Go.ChangeAt Go.RowKit
set_option maxHeartbeats 400000

/-- Whether a prefix has an address. -/
def has (x : Nat) (n : Int) (a : Nat) : Bool := (err (x, n) == 0) && decide (x ≤ a) && decide (a ≤ lst x n)

theorem contains_any (x : Nat) (n : Int) (a : Nat) (w : World) (hx : x < 4294967296) :
    Calls Tryd.prog 52 #[.agg #[.int .u32 x, .int .i64 n], .int .u32 a] w fun e w' => e = .returned (.bool (has x n a)) ∧ Below w.heap.size w w' := by
  obtain ⟨wa, hwa⟩ : ∃ wa, wa = w.alloc (.cells #[.int .u32 x, .int .i64 n] 26) := ⟨_, rfl⟩
  have hb0 : Below w.heap.size w wa := by rw [hwa]; exact (Below.refl _ _).alloc (Nat.le_refl _) _
  have r1 : wa.heap[w.heap.size]? = some (.cells #[.int .u32 x, .int .i64 n] 26) := by rw [hwa]; exact heap_alloc_new w _
  obtain ⟨q0, q1⟩ := Beh.two r1
  have HWA := hid hwa
  clear hwa r1
  have V : ∀ b, (err (x, n) == 0) = b → ∀ u : Beh wa, Calls Tryd.prog 48 #[.agg #[.int .u32 x, .int .i64 n]] u.wd fun e w' => e = .returned (.bool b) ∧ ∃ u' : Beh wa, w' = u'.wd :=
    fun b hb u => Calls.beh (by rw [← hb]; exact valid_any x n _ hx)
  cases he : (err (x, n) == 0) with
  | false =>
    have HH : Hid (has x n a = false) := by unfold Hid has; rw [he]; rfl
    have G1 := hid (V false he)
    clear V he
    go_enter Tryd.func52, Tryd.ntmps52
    go_wp2_with fail
    rw [← HWA.out]
    refine (G1.out ⟨wa, Below.refl _ _⟩).mono ?_
    rintro _ _ ⟨rfl, u, rfl⟩
    have hbu := hb0.trans (u.ok.mono hb0.size)
    go_wp2_with fail
    go_ret
    exact ⟨ret_bool HH.out.symm, hbu⟩
  | true =>
    have G1 := hid (V true he)
    by_cases hxa : x ≤ a
    · have F2 : ∀ u : Beh wa, Calls Tryd.prog 82 #[.agg #[.int .u32 x, .int .i64 n]] u.wd fun e w' => e = .returned (.int .u32 ((lst x n : Nat) : Int)) ∧ ∃ u' : Beh wa, w' = u'.wd := by
        obtain ⟨k, hk, hkn, hm⟩ := err_ok (by simpa using he)
        simp only at hkn hm
        have HL : lst x n = x + pw k - 1 := by unfold lst; rw [show 32 - n.toNat = k from by omega]
        exact fun u => Calls.beh (by rw [HL]; exact lastOf_any x k n _ hkn hx hk hm)
      have HH : Hid (has x n a = decide (a ≤ lst x n)) := by unfold Hid has; rw [he]; simp [hxa]
      generalize lst x n = ll at F2 HH
      have G2 := hid F2
      clear V he F2
      go_enter Tryd.func52, Tryd.ntmps52
      go_wp2_with fail
      rw [← HWA.out]
      refine (G1.out ⟨wa, Below.refl _ _⟩).mono ?_
      rintro _ _ ⟨rfl, u1, rfl⟩
      go_wp2_with fail
      refine (G2.out u1).mono ?_
      rintro _ _ ⟨rfl, u, rfl⟩
      have hbu := hb0.trans (u.ok.mono hb0.size)
      go_wp2_with fail
      go_ret
      exact ⟨ret_bool HH.out.symm, hbu⟩
    · have HH : Hid (has x n a = false) := by unfold Hid has; simp [hxa]
      clear V he
      go_enter Tryd.func52, Tryd.ntmps52
      go_wp2_with fail
      rw [← HWA.out]
      refine (G1.out ⟨wa, Below.refl _ _⟩).mono ?_
      rintro _ _ ⟨rfl, u, rfl⟩
      have hbu := hb0.trans (u.ok.mono hb0.size)
      go_wp2_with fail
      go_ret
      exact ⟨ret_bool HH.out.symm, hbu⟩

theorem refContains_any (x : Nat) (n : Int) (a : Nat) (w : World) (hx : x < 4294967296) :
    Calls Tryd.prog 28 #[.agg #[.int .u32 x, .int .i64 n], .int .u32 a] w fun e w' => e = .returned (.bool (has x n a)) ∧ Below w.heap.size w w' := by
  by_cases he : err (x, n) = 0
  · have HA : Hid (ansS x n = .tuple #[.int .u32 (x : Int), .int .u32 ((lst x n : Nat) : Int), .int .i64 0]) := if_pos he
    by_cases hxa : x ≤ a
    · have HH : Hid (has x n a = decide (a ≤ lst x n)) := by unfold Hid has; rw [he]; simp [hxa]
      generalize lst x n = ll at HA HH
      clear he
      go_enter Tryd.func28, Tryd.ntmps28
      go_wp2_with fail
      refine (refSpan_any x n _ hx).mono ?_
      rintro e w1 ⟨rfl, hb1⟩
      rw [HA.out]
      have hb01 : Below w.heap.size w w1 := ((Below.refl _ _).alloc (Nat.le_refl _) _).trans (hb1.mono (by simp))
      go_wp2_with fail
      go_ret
      exact ⟨ret_bool HH.out.symm, hb01⟩
    · have HH : Hid (has x n a = false) := by unfold Hid has; simp [hxa]
      generalize lst x n = ll at HA
      clear he
      go_enter Tryd.func28, Tryd.ntmps28
      go_wp2_with fail
      refine (refSpan_any x n _ hx).mono ?_
      rintro e w1 ⟨rfl, hb1⟩
      rw [HA.out]
      have hb01 : Below w.heap.size w w1 := ((Below.refl _ _).alloc (Nat.le_refl _) _).trans (hb1.mono (by simp))
      go_wp2_with fail
      go_ret
      exact ⟨ret_bool HH.out.symm, hb01⟩
  · have HA : Hid (ansS x n = .tuple #[.int .u32 0, .int .u32 0, .int .i64 (err (x, n))]) := if_neg he
    have hq : (err (x, n) == 0) = false := by rw [beq_eq_false_iff_ne]; exact he
    have HH : Hid (has x n a = false) := by unfold Hid has; rw [hq]; rfl
    clear he
    go_enter Tryd.func28, Tryd.ntmps28
    go_wp2_with fail
    refine (refSpan_any x n _ hx).mono ?_
    rintro e w1 ⟨rfl, hb1⟩
    rw [HA.out]
    generalize err (x, n) = ee at hq ⊢
    have hb01 : Below w.heap.size w w1 := ((Below.refl _ _).alloc (Nat.le_refl _) _).trans (hb1.mono (by simp))
    go_wp2_with fail
    go_ret
    exact ⟨ret_bool HH.out.symm, hb01⟩

/-- What an address is for. -/
def cls (a : Nat) : Int := if a / 16777216 = 0 then 1 else if a / 16777216 = 127 then 2 else if 240 ≤ a / 16777216 then 4 else if 224 ≤ a / 16777216 then 3 else 0

theorem ret_cls {k : IntKind} {a b : Int} (h : a = b) : Ending.returned (.int k b) = .returned (.int k a) := by rw [h]

set_option maxRecDepth 100000 in
theorem refClass_any (a : Nat) (w : World) (ha : a < 4294967296) :
    Calls Tryd.prog 54 #[.int .u32 a] w fun e w' => e = .returned (.int .i64 (cls a)) ∧ w' = w := by
  by_cases h0 : a / 16777216 = 0
  · have HC : Hid (cls a = 1) := by unfold Hid cls; rw [if_pos h0]
    have g0 : (((a : Int) / 16777216) == 0) = true := by rw [beq_iff_eq]; omega
    clear h0
    go_enter Tryd.func54, Tryd.ntmps54
    go_wp2
    go_ret
    exact ⟨ret_cls HC.out, rfl⟩
  · have g0 : (((a : Int) / 16777216) == 0) = false := by rw [beq_eq_false_iff_ne]; omega
    by_cases h1 : a / 16777216 = 127
    · have HC : Hid (cls a = 2) := by unfold Hid cls; rw [if_neg h0, if_pos h1]
      have g1 : (((a : Int) / 16777216) == 127) = true := by rw [beq_iff_eq]; omega
      clear h0 h1
      go_enter Tryd.func54, Tryd.ntmps54
      go_wp2
      go_ret
      exact ⟨ret_cls HC.out, rfl⟩
    · have g1 : (((a : Int) / 16777216) == 127) = false := by rw [beq_eq_false_iff_ne]; omega
      by_cases h2 : 240 ≤ a / 16777216
      · have HC : Hid (cls a = 4) := by unfold Hid cls; rw [if_neg h0, if_neg h1, if_pos h2]
        have g2 : 240 ≤ ((a : Int) / 16777216) := by omega
        clear h0 h1 h2
        go_enter Tryd.func54, Tryd.ntmps54
        go_wp2
        go_ret
        exact ⟨ret_cls HC.out, rfl⟩
      · have g2 : ¬ 240 ≤ ((a : Int) / 16777216) := by omega
        by_cases h3 : 224 ≤ a / 16777216
        · have HC : Hid (cls a = 3) := by unfold Hid cls; rw [if_neg h0, if_neg h1, if_neg h2, if_pos h3]
          have g3 : 224 ≤ ((a : Int) / 16777216) := by omega
          clear h0 h1 h2 h3
          go_enter Tryd.func54, Tryd.ntmps54
          go_wp2
          go_ret
          exact ⟨ret_cls HC.out, rfl⟩
        · have HC : Hid (cls a = 0) := by unfold Hid cls; rw [if_neg h0, if_neg h1, if_neg h2, if_neg h3]
          have g3 : ¬ 224 ≤ ((a : Int) / 16777216) := by omega
          clear h0 h1 h2 h3
          go_enter Tryd.func54, Tryd.ntmps54
          go_wp2
          go_ret
          exact ⟨ret_cls HC.out, rfl⟩

/-- The table of classes. -/
def rowsC : List Value := [.int .u32 0, .int .i64 8, .int .i64 1, .int .u32 2130706432, .int .i64 8, .int .i64 2, .int .u32 3758096384, .int .i64 4, .int .i64 3, .int .u32 4026531840, .int .i64 4, .int .i64 4]

/-- It lies in the world. -/
def TabC (w : World) : Prop := (∀ j (h : j < 12), w.cell? ⟨0, j, none⟩ = some rowsC[j]) ∧ 0 < w.heap.size

theorem TabC.below {w w' : World} (h : TabC w) (hb : Below w.heap.size w w') : TabC w' :=
  ⟨fun j hj => (hb.cell (p := ⟨0, j, none⟩) h.2).trans (h.1 j hj), Nat.lt_of_lt_of_le h.2 hb.size⟩

theorem has_0 (a : Nat) : has 0 8 a = decide (a / 16777216 = 0) := by
  unfold has lst
  rw [show err (0, 8) = 0 from by decide +kernel, show pw (32 - (8 : Int).toNat) = 16777216 from rfl]
  simp; omega
theorem has_1 (a : Nat) : has 2130706432 8 a = decide (a / 16777216 = 127) := by
  unfold has lst
  rw [show err (2130706432, 8) = 0 from by decide +kernel, show pw (32 - (8 : Int).toNat) = 16777216 from rfl]
  simp only [BEq.rfl, Bool.true_and, ← Bool.decide_and]
  congr 1; apply propext; omega
theorem has_2 (a : Nat) : has 3758096384 4 a = decide (224 ≤ a / 16777216 ∧ a / 16777216 < 240) := by
  unfold has lst
  rw [show err (3758096384, 4) = 0 from by decide +kernel, show pw (32 - (4 : Int).toNat) = 268435456 from rfl]
  simp only [BEq.rfl, Bool.true_and, ← Bool.decide_and]
  congr 1; apply propext; omega
theorem has_3 (a : Nat) (ha : a < 4294967296) : has 4026531840 4 a = decide (240 ≤ a / 16777216) := by
  unfold has lst
  rw [show err (4026531840, 4) = 0 from by decide +kernel, show pw (32 - (4 : Int).toNat) = 268435456 from rfl]
  simp only [BEq.rfl, Bool.true_and, ← Bool.decide_and]
  congr 1; apply propext; omega

theorem idx_0 (w : World) :
    (Instr.index 132 (.agg #[.int .u32 0, .int .i64 8, .int .i64 1, .int .u32 2130706432, .int .i64 8, .int .i64 2, .int .u32 3758096384, .int .i64 4, .int .i64 3, .int .u32 4026531840, .int .i64 4, .int .i64 4]) (.int .i64 0)).run Tryd.prog w = .ok (.agg #[.int .u32 0, .int .i64 8, .int .i64 1]) w := by
  have u84 : Tryd.prog.underlying 132 = some (.array 4 131) := by kernel_rfl
  simp [Instr.index, run_underlying u84, asIntOf, go_sem]

theorem idx_1 (w : World) :
    (Instr.index 132 (.agg #[.int .u32 0, .int .i64 8, .int .i64 1, .int .u32 2130706432, .int .i64 8, .int .i64 2, .int .u32 3758096384, .int .i64 4, .int .i64 3, .int .u32 4026531840, .int .i64 4, .int .i64 4]) (.int .i64 1)).run Tryd.prog w = .ok (.agg #[.int .u32 2130706432, .int .i64 8, .int .i64 2]) w := by
  have u84 : Tryd.prog.underlying 132 = some (.array 4 131) := by kernel_rfl
  simp [Instr.index, run_underlying u84, asIntOf, go_sem]

theorem idx_2 (w : World) :
    (Instr.index 132 (.agg #[.int .u32 0, .int .i64 8, .int .i64 1, .int .u32 2130706432, .int .i64 8, .int .i64 2, .int .u32 3758096384, .int .i64 4, .int .i64 3, .int .u32 4026531840, .int .i64 4, .int .i64 4]) (.int .i64 2)).run Tryd.prog w = .ok (.agg #[.int .u32 3758096384, .int .i64 4, .int .i64 3]) w := by
  have u84 : Tryd.prog.underlying 132 = some (.array 4 131) := by kernel_rfl
  simp [Instr.index, run_underlying u84, asIntOf, go_sem]

theorem idx_3 (w : World) :
    (Instr.index 132 (.agg #[.int .u32 0, .int .i64 8, .int .i64 1, .int .u32 2130706432, .int .i64 8, .int .i64 2, .int .u32 3758096384, .int .i64 4, .int .i64 3, .int .u32 4026531840, .int .i64 4, .int .i64 4]) (.int .i64 3)).run Tryd.prog w = .ok (.agg #[.int .u32 4026531840, .int .i64 4, .int .i64 4]) w := by
  have u84 : Tryd.prog.underlying 132 = some (.array 4 131) := by kernel_rfl
  simp [Instr.index, run_underlying u84, asIntOf, go_sem]

theorem contains_at (X : Int) (x : Nat) (n : Int) (a : Nat) (b : Bool) (w : World) (hX : X = (x : Int)) (hx : x < 4294967296) (hb : has x n a = b) :
    Calls Tryd.prog 52 #[.agg #[.int .u32 X, .int .i64 n], .int .u32 a] w fun e w' => e = .returned (.bool b) ∧ Below w.heap.size w w' := by
  subst hX; rw [← hb]; exact contains_any x n a w hx

set_option maxRecDepth 100000 in
theorem class_any (a : Nat) (w : World) (ha : a < 4294967296) (ht : TabC w) :
    Calls Tryd.prog 49 #[.int .u32 a] w fun e w' => e = .returned (.int .i64 (cls a)) ∧ Below w.heap.size w w' := by
  have HTB := hid ht
  have t0 : w.cell? ⟨0, 0, none⟩ = some (.int .u32 0) := ht.1 0 (by omega)
  have t1 : w.cell? ⟨0, 1, none⟩ = some (.int .i64 8) := ht.1 1 (by omega)
  have t2 : w.cell? ⟨0, 2, none⟩ = some (.int .i64 1) := ht.1 2 (by omega)
  have t3 : w.cell? ⟨0, 3, none⟩ = some (.int .u32 2130706432) := ht.1 3 (by omega)
  have t4 : w.cell? ⟨0, 4, none⟩ = some (.int .i64 8) := ht.1 4 (by omega)
  have t5 : w.cell? ⟨0, 5, none⟩ = some (.int .i64 2) := ht.1 5 (by omega)
  have t6 : w.cell? ⟨0, 6, none⟩ = some (.int .u32 3758096384) := ht.1 6 (by omega)
  have t7 : w.cell? ⟨0, 7, none⟩ = some (.int .i64 4) := ht.1 7 (by omega)
  have t8 : w.cell? ⟨0, 8, none⟩ = some (.int .i64 3) := ht.1 8 (by omega)
  have t9 : w.cell? ⟨0, 9, none⟩ = some (.int .u32 4026531840) := ht.1 9 (by omega)
  have t10 : w.cell? ⟨0, 10, none⟩ = some (.int .i64 4) := ht.1 10 (by omega)
  have t11 : w.cell? ⟨0, 11, none⟩ = some (.int .i64 4) := ht.1 11 (by omega)
  clear ht
  have i0 := idx_0
  have i1 := idx_1
  have i2 := idx_2
  have i3 := idx_3
  go_enter Tryd.func49, Tryd.ntmps49
  go_wp2_with fail
  refine wp_loop_rounds 5 ?_
  rw [rounds_succ]
  have hbw0 : Below w.heap.size w w := Below.refl _ _
  go_wp2_with fail
  by_cases h0 : a / 16777216 = 0
  · refine (contains_at 0 0 8 a true _ (by rfl) (by omega) ((has_0 a).trans (decide_eq_true h0))).mono ?_
    rintro e w1 ⟨rfl, hb1⟩
    have hbw1 : Below w.heap.size w w1 := (hbw0.alloc hbw0.size _).trans (hb1.mono (by simp))
    have c2 : w1.cell? ⟨w.heap.size, 2, none⟩ = some (.int .i64 1) := by
      have r : w1.heap[w.heap.size]? = some (.cells #[.int .u32 0, .int .i64 8, .int .i64 1] 131) := by
        rw [hb1.block _ (by simp)]; exact heap_alloc_new w _
      rw [cell_of_row w1 _ 2 _ _ _ r]; rfl
    have HC : Hid (cls a = 1) := by unfold Hid cls; grind
    clear h0
    go_wp2_with fail
    go_ret
    exact ⟨ret_cls HC.out, hbw1⟩
  · refine (contains_at 0 0 8 a false _ (by rfl) (by omega) ((has_0 a).trans (decide_eq_false h0))).mono ?_
    rintro e w1 ⟨rfl, hb1⟩
    have hbw1 : Below w.heap.size w w1 := (hbw0.alloc hbw0.size _).trans (hb1.mono (by simp))
    go_wp2_with fail
    rw [rounds_succ]
    go_wp2_with fail
    by_cases h1 : a / 16777216 = 127
    · refine (contains_at 2130706432 2130706432 8 a true _ (by rfl) (by omega) ((has_1 a).trans (decide_eq_true h1))).mono ?_
      rintro e w2 ⟨rfl, hb2⟩
      have hbw2 : Below w.heap.size w w2 := (hbw1.alloc hbw1.size _).trans (hb2.mono (by have := hbw1.size; simp; omega))
      have c2 : w2.cell? ⟨w1.heap.size, 2, none⟩ = some (.int .i64 2) := by
        have r : w2.heap[w1.heap.size]? = some (.cells #[.int .u32 2130706432, .int .i64 8, .int .i64 2] 131) := by
          rw [hb2.block _ (by simp)]; exact heap_alloc_new w1 _
        rw [cell_of_row w2 _ 2 _ _ _ r]; rfl
      have HC : Hid (cls a = 2) := by unfold Hid cls; grind
      clear h0 h1
      go_wp2_with fail
      go_ret
      exact ⟨ret_cls HC.out, hbw2⟩
    · refine (contains_at 2130706432 2130706432 8 a false _ (by rfl) (by omega) ((has_1 a).trans (decide_eq_false h1))).mono ?_
      rintro e w2 ⟨rfl, hb2⟩
      have hbw2 : Below w.heap.size w w2 := (hbw1.alloc hbw1.size _).trans (hb2.mono (by have := hbw1.size; simp; omega))
      go_wp2_with fail
      rw [rounds_succ]
      go_wp2_with fail
      by_cases h2 : 224 ≤ a / 16777216 ∧ a / 16777216 < 240
      · refine (contains_at 3758096384 3758096384 4 a true _ (by rfl) (by omega) ((has_2 a).trans (decide_eq_true h2))).mono ?_
        rintro e w3 ⟨rfl, hb3⟩
        have hbw3 : Below w.heap.size w w3 := (hbw2.alloc hbw2.size _).trans (hb3.mono (by have := hbw2.size; simp; omega))
        have c2 : w3.cell? ⟨w2.heap.size, 2, none⟩ = some (.int .i64 3) := by
          have r : w3.heap[w2.heap.size]? = some (.cells #[.int .u32 3758096384, .int .i64 4, .int .i64 3] 131) := by
            rw [hb3.block _ (by simp)]; exact heap_alloc_new w2 _
          rw [cell_of_row w3 _ 2 _ _ _ r]; rfl
        have HC : Hid (cls a = 3) := by unfold Hid cls; grind
        clear h0 h1 h2
        go_wp2_with fail
        go_ret
        exact ⟨ret_cls HC.out, hbw3⟩
      · refine (contains_at 3758096384 3758096384 4 a false _ (by rfl) (by omega) ((has_2 a).trans (decide_eq_false h2))).mono ?_
        rintro e w3 ⟨rfl, hb3⟩
        have hbw3 : Below w.heap.size w w3 := (hbw2.alloc hbw2.size _).trans (hb3.mono (by have := hbw2.size; simp; omega))
        go_wp2_with fail
        rw [rounds_succ]
        go_wp2_with fail
        by_cases h3 : 240 ≤ a / 16777216
        · refine (contains_at 4026531840 4026531840 4 a true _ (by rfl) (by omega) ((has_3 a ha).trans (decide_eq_true h3))).mono ?_
          rintro e w4 ⟨rfl, hb4⟩
          have hbw4 : Below w.heap.size w w4 := (hbw3.alloc hbw3.size _).trans (hb4.mono (by have := hbw3.size; simp; omega))
          have c2 : w4.cell? ⟨w3.heap.size, 2, none⟩ = some (.int .i64 4) := by
            have r : w4.heap[w3.heap.size]? = some (.cells #[.int .u32 4026531840, .int .i64 4, .int .i64 4] 131) := by
              rw [hb4.block _ (by simp)]; exact heap_alloc_new w3 _
            rw [cell_of_row w4 _ 2 _ _ _ r]; rfl
          have HC : Hid (cls a = 4) := by unfold Hid cls; grind
          clear h0 h1 h2 h3
          go_wp2_with fail
          go_ret
          exact ⟨ret_cls HC.out, hbw4⟩
        · refine (contains_at 4026531840 4026531840 4 a false _ (by rfl) (by omega) ((has_3 a ha).trans (decide_eq_false h3))).mono ?_
          rintro e w4 ⟨rfl, hb4⟩
          have hbw4 : Below w.heap.size w w4 := (hbw3.alloc hbw3.size _).trans (hb4.mono (by have := hbw3.size; simp; omega))
          go_wp2_with fail
          rw [rounds_succ]
          have HC : Hid (cls a = 0) := by unfold Hid cls; grind
          clear h0 h1 h2 h3
          go_wp2_with fail
          go_ret
          exact ⟨ret_cls HC.out, hbw4⟩
end Go.Proofs.YtkoinngpmkmocaaDoor
