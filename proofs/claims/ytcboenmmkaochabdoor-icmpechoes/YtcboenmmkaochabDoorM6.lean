import Derived.Test.YtcboenmmkaochabDoorM5
import Derived.Test.YtcboenmmkaochabDoorCards
import Derived.Test.YtcboenmmkaochabDoorTie
import Derived.Deep.DeepHandedRow
import Derived.Lib.LaidTab
import Derived.Stop.LaidErr
namespace Go.Proofs.YtcboenmmkaochabDoor.Ad
open Go.ChangeShapes Go.WideShapes Go.ChangeAt Go.RowKit
set_option maxHeartbeats 400000

/-- Whether a prefix has an address. -/
def has (x : Nat) (n : Int) (a : Nat) : Bool := (err (x, n) == 0) && decide (x ≤ a) && decide (a ≤ lst x n)

theorem contains_any (x : Nat) (n : Int) (a : Nat) (w : World) (hx : x < 4294967296) :
    Calls Tryd.prog 73 #[.agg #[.int .u32 x, .int .i64 n], .int .u32 a] w fun e w' => e = .returned (.bool (has x n a)) ∧ Below w.heap.size w w' := by
  obtain ⟨wa, hwa⟩ : ∃ wa, wa = w.alloc (.cells #[.int .u32 x, .int .i64 n] 102) := ⟨_, rfl⟩
  have hb0 : Below w.heap.size w wa := by rw [hwa]; exact (Below.refl _ _).alloc (Nat.le_refl _) _
  have r1 : wa.heap[w.heap.size]? = some (.cells #[.int .u32 x, .int .i64 n] 102) := by rw [hwa]; exact heap_alloc_new w _
  obtain ⟨q0, q1⟩ := Beh.two r1
  have HWA := hid hwa
  clear hwa r1
  have V : ∀ b, (err (x, n) == 0) = b → ∀ u : Beh wa, Calls Tryd.prog 88 #[.agg #[.int .u32 x, .int .i64 n]] u.wd fun e w' => e = .returned (.bool b) ∧ ∃ u' : Beh wa, w' = u'.wd :=
    fun b hb u => Calls.beh (by rw [← hb]; exact valid_any x n _ hx)
  cases he : (err (x, n) == 0) with
  | false =>
    have HH : Hid (has x n a = false) := by unfold Hid has; rw [he]; rfl
    have G1 := hid (V false he)
    clear V he
    go_enter Tryd.func73, Tryd.ntmps73
    go_wp2_with fail
    rw [← HWA.out]
    refine (G1.out ⟨wa, Below.refl _ _⟩).mono ?_
    rintro _ _ ⟨rfl, u, rfl⟩
    have hbu := hb0.trans (u.ok.mono hb0.size)
    go_wp2_with fail
    go_ret
    exact ⟨ret_bool HH.out.symm, hbu⟩
  | true =>
    have G1 := hid (V true he)
    by_cases hxa : x ≤ a
    · have F2 : ∀ u : Beh wa, Calls Tryd.prog 89 #[.agg #[.int .u32 x, .int .i64 n]] u.wd fun e w' => e = .returned (.int .u32 ((lst x n : Nat) : Int)) ∧ ∃ u' : Beh wa, w' = u'.wd := by
        obtain ⟨k, hk, hkn, hm⟩ := err_ok (by simpa using he)
        simp only at hkn hm
        have HL : lst x n = x + pw k - 1 := by unfold lst; rw [show 32 - n.toNat = k from by omega]
        exact fun u => Calls.beh (by rw [HL]; exact lastOf_any x k n _ hkn hx hk hm)
      have HH : Hid (has x n a = decide (a ≤ lst x n)) := by unfold Hid has; rw [he]; simp [hxa]
      generalize lst x n = ll at F2 HH
      have G2 := hid F2
      clear V he F2
      go_enter Tryd.func73, Tryd.ntmps73
      go_wp2_with fail
      rw [← HWA.out]
      refine (G1.out ⟨wa, Below.refl _ _⟩).mono ?_
      rintro _ _ ⟨rfl, u1, rfl⟩
      go_wp2_with fail
      refine (G2.out u1).mono ?_
      rintro _ _ ⟨rfl, u, rfl⟩
      have hbu := hb0.trans (u.ok.mono hb0.size)
      go_wp2_with fail
      go_ret
      exact ⟨ret_bool HH.out.symm, hbu⟩
    · have HH : Hid (has x n a = false) := by unfold Hid has; simp [hxa]
      clear V he
      go_enter Tryd.func73, Tryd.ntmps73
      go_wp2_with fail
      rw [← HWA.out]
      refine (G1.out ⟨wa, Below.refl _ _⟩).mono ?_
      rintro _ _ ⟨rfl, u, rfl⟩
      have hbu := hb0.trans (u.ok.mono hb0.size)
      go_wp2_with fail
      go_ret
      exact ⟨ret_bool HH.out.symm, hbu⟩

/-- What an address is for. -/
def cls (a : Nat) : Int := if a / 16777216 = 0 then 1 else if a / 16777216 = 127 then 2 else if 240 ≤ a / 16777216 then 4 else if 224 ≤ a / 16777216 then 3 else 0

theorem ret_cls {k : IntKind} {a b : Int} (h : a = b) : Ending.returned (.int k b) = .returned (.int k a) := by rw [h]

/-- The table of classes. -/
def rowsC : List Value := [.int .u32 0, .int .i64 8, .int .i64 1, .int .u32 2130706432, .int .i64 8, .int .i64 2, .int .u32 3758096384, .int .i64 4, .int .i64 3, .int .u32 4026531840, .int .i64 4, .int .i64 4]

/-- It lies in the world. -/
def TabC (w : World) : Prop := (∀ j (h : j < 12), w.cell? ⟨1, j, none⟩ = some rowsC[j]) ∧ 1 < w.heap.size

theorem TabC.below {w w' : World} (h : TabC w) (hb : Below w.heap.size w w') : TabC w' :=
  ⟨fun j hj => (hb.cell (p := ⟨1, j, none⟩) h.2).trans (h.1 j hj), Nat.lt_of_lt_of_le h.2 hb.size⟩

theorem has_0 (a : Nat) : has 0 8 a = decide (a / 16777216 = 0) := by
  unfold has lst
  rw [show err (0, 8) = 0 from by decide +kernel, show pw (32 - (8 : Int).toNat) = 16777216 from rfl]
  simp; omega
theorem has_1 (a : Nat) : has 2130706432 8 a = decide (a / 16777216 = 127) := by
  unfold has lst
  rw [show err (2130706432, 8) = 0 from by decide +kernel, show pw (32 - (8 : Int).toNat) = 16777216 from rfl]
  simp only [BEq.rfl, Bool.true_and, ← Bool.decide_and]
  congr 1; apply propext; omega
theorem has_2 (a : Nat) : has 3758096384 4 a = decide (224 ≤ a / 16777216 ∧ a / 16777216 < 240) := by
  unfold has lst
  rw [show err (3758096384, 4) = 0 from by decide +kernel, show pw (32 - (4 : Int).toNat) = 268435456 from rfl]
  simp only [BEq.rfl, Bool.true_and, ← Bool.decide_and]
  congr 1; apply propext; omega
theorem has_3 (a : Nat) (ha : a < 4294967296) : has 4026531840 4 a = decide (240 ≤ a / 16777216) := by
  unfold has lst
  rw [show err (4026531840, 4) = 0 from by decide +kernel, show pw (32 - (4 : Int).toNat) = 268435456 from rfl]
  simp only [BEq.rfl, Bool.true_and, ← Bool.decide_and]
  congr 1; apply propext; omega

theorem idx_0 (w : World) :
    (Instr.index 99 (.agg #[.int .u32 0, .int .i64 8, .int .i64 1, .int .u32 2130706432, .int .i64 8, .int .i64 2, .int .u32 3758096384, .int .i64 4, .int .i64 3, .int .u32 4026531840, .int .i64 4, .int .i64 4]) (.int .i64 0)).run Tryd.prog w = .ok (.agg #[.int .u32 0, .int .i64 8, .int .i64 1]) w := by
  have u84 : Tryd.prog.underlying 99 = some (.array 4 98) := by kernel_rfl
  simp [Instr.index, run_underlying u84, asIntOf, go_sem]

theorem idx_1 (w : World) :
    (Instr.index 99 (.agg #[.int .u32 0, .int .i64 8, .int .i64 1, .int .u32 2130706432, .int .i64 8, .int .i64 2, .int .u32 3758096384, .int .i64 4, .int .i64 3, .int .u32 4026531840, .int .i64 4, .int .i64 4]) (.int .i64 1)).run Tryd.prog w = .ok (.agg #[.int .u32 2130706432, .int .i64 8, .int .i64 2]) w := by
  have u84 : Tryd.prog.underlying 99 = some (.array 4 98) := by kernel_rfl
  simp [Instr.index, run_underlying u84, asIntOf, go_sem]

theorem idx_2 (w : World) :
    (Instr.index 99 (.agg #[.int .u32 0, .int .i64 8, .int .i64 1, .int .u32 2130706432, .int .i64 8, .int .i64 2, .int .u32 3758096384, .int .i64 4, .int .i64 3, .int .u32 4026531840, .int .i64 4, .int .i64 4]) (.int .i64 2)).run Tryd.prog w = .ok (.agg #[.int .u32 3758096384, .int .i64 4, .int .i64 3]) w := by
  have u84 : Tryd.prog.underlying 99 = some (.array 4 98) := by kernel_rfl
  simp [Instr.index, run_underlying u84, asIntOf, go_sem]

theorem idx_3 (w : World) :
    (Instr.index 99 (.agg #[.int .u32 0, .int .i64 8, .int .i64 1, .int .u32 2130706432, .int .i64 8, .int .i64 2, .int .u32 3758096384, .int .i64 4, .int .i64 3, .int .u32 4026531840, .int .i64 4, .int .i64 4]) (.int .i64 3)).run Tryd.prog w = .ok (.agg #[.int .u32 4026531840, .int .i64 4, .int .i64 4]) w := by
  have u84 : Tryd.prog.underlying 99 = some (.array 4 98) := by kernel_rfl
  simp [Instr.index, run_underlying u84, asIntOf, go_sem]

theorem contains_at (X : Int) (x : Nat) (n : Int) (a : Nat) (b : Bool) (w : World) (hX : X = (x : Int)) (hx : x < 4294967296) (hb : has x n a = b) :
    Calls Tryd.prog 73 #[.agg #[.int .u32 X, .int .i64 n], .int .u32 a] w fun e w' => e = .returned (.bool b) ∧ Below w.heap.size w w' := by
  subst hX; rw [← hb]; exact contains_any x n a w hx

set_option maxRecDepth 100000 in
theorem class_any (a : Nat) (w : World) (ha : a < 4294967296) (ht : TabC w) :
    Calls Tryd.prog 62 #[.int .u32 a] w fun e w' => e = .returned (.int .i64 (cls a)) ∧ Below w.heap.size w w' := by
  have HTB := hid ht
  have t0 : w.cell? ⟨1, 0, none⟩ = some (.int .u32 0) := ht.1 0 (by omega)
  have t1 : w.cell? ⟨1, 1, none⟩ = some (.int .i64 8) := ht.1 1 (by omega)
  have t2 : w.cell? ⟨1, 2, none⟩ = some (.int .i64 1) := ht.1 2 (by omega)
  have t3 : w.cell? ⟨1, 3, none⟩ = some (.int .u32 2130706432) := ht.1 3 (by omega)
  have t4 : w.cell? ⟨1, 4, none⟩ = some (.int .i64 8) := ht.1 4 (by omega)
  have t5 : w.cell? ⟨1, 5, none⟩ = some (.int .i64 2) := ht.1 5 (by omega)
  have t6 : w.cell? ⟨1, 6, none⟩ = some (.int .u32 3758096384) := ht.1 6 (by omega)
  have t7 : w.cell? ⟨1, 7, none⟩ = some (.int .i64 4) := ht.1 7 (by omega)
  have t8 : w.cell? ⟨1, 8, none⟩ = some (.int .i64 3) := ht.1 8 (by omega)
  have t9 : w.cell? ⟨1, 9, none⟩ = some (.int .u32 4026531840) := ht.1 9 (by omega)
  have t10 : w.cell? ⟨1, 10, none⟩ = some (.int .i64 4) := ht.1 10 (by omega)
  have t11 : w.cell? ⟨1, 11, none⟩ = some (.int .i64 4) := ht.1 11 (by omega)
  clear ht
  have i0 := idx_0
  have i1 := idx_1
  have i2 := idx_2
  have i3 := idx_3
  go_enter Tryd.func62, Tryd.ntmps62
  go_wp2_with fail
  refine wp_loop_rounds 5 ?_
  rw [rounds_succ]
  have hbw0 : Below w.heap.size w w := Below.refl _ _
  go_wp2_with fail
  by_cases h0 : a / 16777216 = 0
  · refine (contains_at 0 0 8 a true _ (by rfl) (by omega) ((has_0 a).trans (decide_eq_true h0))).mono ?_
    rintro e w1 ⟨rfl, hb1⟩
    have hbw1 : Below w.heap.size w w1 := (hbw0.alloc hbw0.size _).trans (hb1.mono (by simp))
    have c2 : w1.cell? ⟨w.heap.size, 2, none⟩ = some (.int .i64 1) := by
      have r : w1.heap[w.heap.size]? = some (.cells #[.int .u32 0, .int .i64 8, .int .i64 1] 98) := by
        rw [hb1.block _ (by simp)]; exact heap_alloc_new w _
      rw [cell_of_row w1 _ 2 _ _ _ r]; rfl
    have HC : Hid (cls a = 1) := by unfold Hid cls; grind
    clear h0
    go_wp2_with fail
    go_ret
    exact ⟨ret_cls HC.out, hbw1⟩
  · refine (contains_at 0 0 8 a false _ (by rfl) (by omega) ((has_0 a).trans (decide_eq_false h0))).mono ?_
    rintro e w1 ⟨rfl, hb1⟩
    have hbw1 : Below w.heap.size w w1 := (hbw0.alloc hbw0.size _).trans (hb1.mono (by simp))
    go_wp2_with fail
    rw [rounds_succ]
    go_wp2_with fail
    by_cases h1 : a / 16777216 = 127
    · refine (contains_at 2130706432 2130706432 8 a true _ (by rfl) (by omega) ((has_1 a).trans (decide_eq_true h1))).mono ?_
      rintro e w2 ⟨rfl, hb2⟩
      have hbw2 : Below w.heap.size w w2 := (hbw1.alloc hbw1.size _).trans (hb2.mono (by have := hbw1.size; simp; omega))
      have c2 : w2.cell? ⟨w1.heap.size, 2, none⟩ = some (.int .i64 2) := by
        have r : w2.heap[w1.heap.size]? = some (.cells #[.int .u32 2130706432, .int .i64 8, .int .i64 2] 98) := by
          rw [hb2.block _ (by simp)]; exact heap_alloc_new w1 _
        rw [cell_of_row w2 _ 2 _ _ _ r]; rfl
      have HC : Hid (cls a = 2) := by unfold Hid cls; grind
      clear h0 h1
      go_wp2_with fail
      go_ret
      exact ⟨ret_cls HC.out, hbw2⟩
    · refine (contains_at 2130706432 2130706432 8 a false _ (by rfl) (by omega) ((has_1 a).trans (decide_eq_false h1))).mono ?_
      rintro e w2 ⟨rfl, hb2⟩
      have hbw2 : Below w.heap.size w w2 := (hbw1.alloc hbw1.size _).trans (hb2.mono (by have := hbw1.size; simp; omega))
      go_wp2_with fail
      rw [rounds_succ]
      go_wp2_with fail
      by_cases h2 : 224 ≤ a / 16777216 ∧ a / 16777216 < 240
      · refine (contains_at 3758096384 3758096384 4 a true _ (by rfl) (by omega) ((has_2 a).trans (decide_eq_true h2))).mono ?_
        rintro e w3 ⟨rfl, hb3⟩
        have hbw3 : Below w.heap.size w w3 := (hbw2.alloc hbw2.size _).trans (hb3.mono (by have := hbw2.size; simp; omega))
        have c2 : w3.cell? ⟨w2.heap.size, 2, none⟩ = some (.int .i64 3) := by
          have r : w3.heap[w2.heap.size]? = some (.cells #[.int .u32 3758096384, .int .i64 4, .int .i64 3] 98) := by
            rw [hb3.block _ (by simp)]; exact heap_alloc_new w2 _
          rw [cell_of_row w3 _ 2 _ _ _ r]; rfl
        have HC : Hid (cls a = 3) := by unfold Hid cls; grind
        clear h0 h1 h2
        go_wp2_with fail
        go_ret
        exact ⟨ret_cls HC.out, hbw3⟩
      · refine (contains_at 3758096384 3758096384 4 a false _ (by rfl) (by omega) ((has_2 a).trans (decide_eq_false h2))).mono ?_
        rintro e w3 ⟨rfl, hb3⟩
        have hbw3 : Below w.heap.size w w3 := (hbw2.alloc hbw2.size _).trans (hb3.mono (by have := hbw2.size; simp; omega))
        go_wp2_with fail
        rw [rounds_succ]
        go_wp2_with fail
        by_cases h3 : 240 ≤ a / 16777216
        · refine (contains_at 4026531840 4026531840 4 a true _ (by rfl) (by omega) ((has_3 a ha).trans (decide_eq_true h3))).mono ?_
          rintro e w4 ⟨rfl, hb4⟩
          have hbw4 : Below w.heap.size w w4 := (hbw3.alloc hbw3.size _).trans (hb4.mono (by have := hbw3.size; simp; omega))
          have c2 : w4.cell? ⟨w3.heap.size, 2, none⟩ = some (.int .i64 4) := by
            have r : w4.heap[w3.heap.size]? = some (.cells #[.int .u32 4026531840, .int .i64 4, .int .i64 4] 98) := by
              rw [hb4.block _ (by simp)]; exact heap_alloc_new w3 _
            rw [cell_of_row w4 _ 2 _ _ _ r]; rfl
          have HC : Hid (cls a = 4) := by unfold Hid cls; grind
          clear h0 h1 h2 h3
          go_wp2_with fail
          go_ret
          exact ⟨ret_cls HC.out, hbw4⟩
        · refine (contains_at 4026531840 4026531840 4 a false _ (by rfl) (by omega) ((has_3 a ha).trans (decide_eq_false h3))).mono ?_
          rintro e w4 ⟨rfl, hb4⟩
          have hbw4 : Below w.heap.size w w4 := (hbw3.alloc hbw3.size _).trans (hb4.mono (by have := hbw3.size; simp; omega))
          go_wp2_with fail
          rw [rounds_succ]
          have HC : Hid (cls a = 0) := by unfold Hid cls; grind
          clear h0 h1 h2 h3
          go_wp2_with fail
          go_ret
          exact ⟨ret_cls HC.out, hbw4⟩
end Go.Proofs.YtcboenmmkaochabDoor.Ad

namespace Go.Proofs.YtcboenmmkaochabDoor.N
open Go.ChangeShapes Go.WideShapes Go.ChangeAt Go.RowKit
set_option maxRecDepth 100000

open Ad (rowsC TabC)

theorem own : ownKnob Tryd.prog.godebug = none := by kernel_rfl
theorem laidOut : laidOutB Tryd.prog = true := by kernel_rfl
theorem gK : Tryd.prog.globalNamed "weft/icmp.kinds" = some 0 := by kernel_rfl
theorem gC : Tryd.prog.globalNamed "weft/addr.classRows" = some 1 := by kernel_rfl
theorem gKType : (Tryd.prog.globals[0]?).map (·.type) = some 96 := by kernel_rfl
theorem gCType : (Tryd.prog.globals[1]?).map (·.type) = some 99 := by kernel_rfl
theorem uC : Tryd.prog.underlying 99 = some (.array 4 98) := by kernel_rfl
theorem uK : Tryd.prog.underlying 96 = some (.array 13 82) := by kernel_rfl
theorem cellsC : Tryd.prog.cellsOf 99 = 12 := by kernel_rfl
theorem cellsR : Tryd.prog.cellsOf 98 = 3 := by kernel_rfl
theorem cellsK : Tryd.prog.cellsOf 96 = 26 := by kernel_rfl
theorem cellsQ : Tryd.prog.cellsOf 82 = 2 := by kernel_rfl
theorem undR : ∃ f0 f1 f2, Tryd.prog.underlying 98 = some (.struct #[f0, f1, f2]) ∧ f0.type = 31 ∧ f0.offset = 0 ∧ f1.type = 3 ∧ f1.offset = 1 ∧ f2.type = 3 ∧ f2.offset = 2 := ⟨_, _, _, Tryd.underlying98, rfl, rfl, rfl, rfl, rfl, rfl⟩
theorem undQ : ∃ f0 f1, Tryd.prog.underlying 82 = some (.struct #[f0, f1]) ∧ f0.type = 4 ∧ f0.offset = 0 ∧ f1.type = 5 ∧ f1.offset = 1 := ⟨_, _, Tryd.underlying82, rfl, rfl, rfl, rfl⟩

section
variable {H : Type} {enc : TypeId × Value → H} {W : World} {sp : Nat → Bool} {held : Bool}

theorem row3 {fuel : Nat} {cs : List Value} {a b c : Int} {p : List MemPlace} (h : DataW.trod enc Tryd.prog W 0 sp held fuel 98 cs = some (.agg [.lit (.int .u32 a), .lit (.int .i64 b), .lit (.int .i64 c)], p)) :
    cs = [.int .u32 a, .int .i64 b, .int .i64 c] := by
  obtain ⟨f0, f1, f2, hu, t0, o0, t1, o1, t2, o2⟩ := undR
  obtain ⟨y0, y1, y2, n, hx, hl, g0, g1, g2⟩ := Go.Deep.trod_struct3 hu h
  rw [t0, o0, cell1_ad] at g0
  rw [t1, o1, cell1_3] at g1
  rw [t2, o2, cell1_3] at g2
  rw [cellsR] at hl
  obtain ⟨z0, e0, rfl, _⟩ := DataW.trod_int und_ad g0
  obtain ⟨z1, e1, rfl, _⟩ := DataW.trod_int u3 g1
  obtain ⟨z2, e2, rfl, _⟩ := DataW.trod_int u3 g2
  simp at hx
  obtain ⟨⟨rfl, rfl, rfl⟩, _⟩ := hx
  match cs, hl with
  | [c0, c1, c2], _ => simp at e0 e1 e2; rw [e0, e1, e2]

theorem row2 {fuel : Nat} {cs : List Value} {a : Bool} {b : Int} {p : List MemPlace} (h : DataW.trod enc Tryd.prog W 0 sp held fuel 82 cs = some (.agg [.lit (.bool a), .lit (.int .u8 b)], p)) :
    cs = [.bool a, .int .u8 b] := by
  obtain ⟨f0, f1, hu, t0, o0, t1, o1⟩ := undQ
  obtain ⟨y0, y1, n, hx, hl, g0, g1⟩ := trod_struct2 hu h
  rw [t0, o0, cell1_4] at g0
  rw [t1, o1, cell1_5] at g1
  rw [cellsQ] at hl
  obtain ⟨z0, e0, rfl⟩ := DataW.trod_bool u4 g0
  obtain ⟨z1, e1, rfl, _⟩ := DataW.trod_int u5 g1
  simp at hx
  obtain ⟨⟨rfl, rfl⟩, _⟩ := hx
  match cs, hl with
  | [c0, c1], _ => simp at e0 e1; rw [e0, e1]
end

theorem tabC {W : World} (h : laidMet Tryd.prog [("weft/addr.classRows", Rows.laid_weft_addr_classRows), ("weft/icmp.kinds", Rows.laid_weft_icmp_kinds)] W) : TabC W := by
  obtain ⟨ps, ⟨g, t, cs, fuel, p, q, hg, ht, hvar, hd, _, _⟩, _⟩ := h
  obtain rfl := Option.some.inj (gC.symm.trans hg)
  obtain rfl := Option.some.inj (gCType.symm.trans ht)
  obtain ⟨xs, m, _, hx, hl, hxl, hall⟩ := DataW.trod_array uC hd
  rw [cellsC] at hl
  rw [cellsR] at hall
  unfold Rows.laid_weft_addr_classRows at hx
  match xs, hxl with
  | [y0, y1, y2, y3], _ =>
    simp at hx
    obtain ⟨⟨e0, e1, e2, e3⟩, _⟩ := hx
    obtain ⟨d0, q0⟩ := y0
    obtain ⟨d1, q1⟩ := y1
    obtain ⟨d2, q2⟩ := y2
    obtain ⟨d3, q3⟩ := y3
    simp only at e0 e1 e2 e3
    subst e0 e1 e2 e3
    have r0 := row3 (hall 0 (by omega))
    have r1 := row3 (hall 1 (by omega))
    have r2 := row3 (hall 2 (by omega))
    have r3 := row3 (hall 3 (by omega))
    have hcs : cs.toList = rowsC := by
      match hc : cs.toList, hl with
      | [c0, c1, c2, c3, c4, c5, c6, c7, c8, c9, c10, c11], _ =>
        rw [hc] at r0 r1 r2 r3
        simp at r0 r1 r2 r3
        obtain ⟨rfl, rfl, rfl⟩ := r0
        obtain ⟨rfl, rfl, rfl⟩ := r1
        obtain ⟨rfl, rfl, rfl⟩ := r2
        obtain ⟨rfl, rfl, rfl⟩ := r3
        rfl
    have hcell : ∀ j (hj : j < 12), W.cell? ⟨1, j, none⟩ = some rowsC[j] := by
      intro j hj
      have h3 := World.var?_cell gC hvar j
      rw [h3, ← Array.getElem?_toList, hcs]
      exact List.getElem?_eq_getElem hj
    exact ⟨hcell, World.block_lt_of_cell? W _ (hcell 0 (by omega))⟩

theorem tabK {W : World} (h : laidMet Tryd.prog [("weft/addr.classRows", Rows.laid_weft_addr_classRows), ("weft/icmp.kinds", Rows.laid_weft_icmp_kinds)] W) : TabK W := by
  have h2 : laidMet Tryd.prog [("weft/icmp.kinds", Rows.laid_weft_icmp_kinds)] W := h.tail
  obtain ⟨ps, ⟨g, t, cs, fuel, p, q, hg, ht, hvar, hd, _, _⟩, _⟩ := h2
  obtain rfl := Option.some.inj (gK.symm.trans hg)
  obtain rfl := Option.some.inj (gKType.symm.trans ht)
  obtain ⟨xs, m, _, hx, hl, hxl, hall⟩ := DataW.trod_array uK hd
  rw [cellsK] at hl
  rw [cellsQ] at hall
  unfold Rows.laid_weft_icmp_kinds at hx
  match xs, hxl with
  | [(d0, q0), (d1, q1), (d2, q2), (d3, q3), (d4, q4), (d5, q5), (d6, q6), (d7, q7), (d8, q8), (d9, q9), (d10, q10), (d11, q11), (d12, q12)], _ =>
    simp at hx
    obtain ⟨⟨rfl, rfl, rfl, rfl, rfl, rfl, rfl, rfl, rfl, rfl, rfl, rfl, rfl⟩, _⟩ := hx
    have r0 := row2 (hall 0 (by omega))
    have r1 := row2 (hall 1 (by omega))
    have r2 := row2 (hall 2 (by omega))
    have r3 := row2 (hall 3 (by omega))
    have r4 := row2 (hall 4 (by omega))
    have r5 := row2 (hall 5 (by omega))
    have r6 := row2 (hall 6 (by omega))
    have r7 := row2 (hall 7 (by omega))
    have r8 := row2 (hall 8 (by omega))
    have r9 := row2 (hall 9 (by omega))
    have r10 := row2 (hall 10 (by omega))
    have r11 := row2 (hall 11 (by omega))
    have r12 := row2 (hall 12 (by omega))
    have hcs : cs.toList = rowsK := by
      match hc : cs.toList, hl with
      | [c0, c1, c2, c3, c4, c5, c6, c7, c8, c9, c10, c11, c12, c13, c14, c15, c16, c17, c18, c19, c20, c21, c22, c23, c24, c25], _ =>
        rw [hc] at r0 r1 r2 r3 r4 r5 r6 r7 r8 r9 r10 r11 r12
        simp at r0 r1 r2 r3 r4 r5 r6 r7 r8 r9 r10 r11 r12
        obtain ⟨rfl, rfl⟩ := r0
        obtain ⟨rfl, rfl⟩ := r1
        obtain ⟨rfl, rfl⟩ := r2
        obtain ⟨rfl, rfl⟩ := r3
        obtain ⟨rfl, rfl⟩ := r4
        obtain ⟨rfl, rfl⟩ := r5
        obtain ⟨rfl, rfl⟩ := r6
        obtain ⟨rfl, rfl⟩ := r7
        obtain ⟨rfl, rfl⟩ := r8
        obtain ⟨rfl, rfl⟩ := r9
        obtain ⟨rfl, rfl⟩ := r10
        obtain ⟨rfl, rfl⟩ := r11
        obtain ⟨rfl, rfl⟩ := r12
        rfl
    have hcell : ∀ j (hj : j < 26), W.cell? ⟨0, j, none⟩ = some rowsK[j] := by
      intro j hj
      have h3 := World.var?_cell gK hvar j
      rw [h3, ← Array.getElem?_toList, hcs]
      exact List.getElem?_eq_getElem hj
    exact ⟨hcell, World.block_lt_of_cell? W _ (hcell 0 (by omega))⟩

/-- The cells of a table of rows of numbers and bools. -/
def aggCells : DataW Unit → Array Value
  | .agg ds => (ds.flatMap fun d => match d with
    | .agg es => es.map fun e => match e with | .lit (.int k z) => Value.int k z | .lit (.bool b) => Value.bool b | _ => .bool false
    | _ => [.bool false]).toArray
  | _ => #[]

def put (d : DataW Unit) : Obj → Obj
  | .cells _ t frozen => .cells (aggCells d) t frozen
  | o => o

/-- A world for the witness: the settled one, the tables holding what their initialisers lay. -/
noncomputable def laidWorld (os : Os) : World :=
  { World.holding Tryd.prog os ⟨#[], #[], []⟩ with heap := ((World.holding Tryd.prog os ⟨#[], #[], []⟩).heap.modify 1 (put Rows.laid_weft_addr_classRows)).modify 0 (put Rows.laid_weft_icmp_kinds) }
end Go.Proofs.YtcboenmmkaochabDoor.N

namespace Go.Proofs.YtcboenmmkaochabDoor.N
open Go.ChangeShapes Go.WideShapes Go.ChangeAt Go.RowKit
set_option maxHeartbeats 2000000
set_option maxRecDepth 100000

/-- Is that address a plain one? -/
def pln (a : Nat) : Bool := decide (a / 16777216 ≠ 0) && decide (a / 16777216 ≠ 127) && decide (a / 16777216 < 224)

theorem cls_pln (a : Nat) : (Ad.cls a == 0) = pln a := by
  unfold Ad.cls pln
  split
  · simp; omega
  · split
    · simp; omega
    · split
      · simp; omega
      · split
        · simp; omega
        · simp; omega

theorem isPlain_any (a : Nat) (w : World) (ha : a < 4294967296) (ht : Ad.TabC w) :
    Calls Tryd.prog 40 #[.int .u32 (a : Int)] w fun e w' => e = .returned (.bool (pln a)) ∧ Below w.heap.size w w' := by
  have HC := hid (Ad.class_any a w ha ht)
  have HE := hid (cls_pln a)
  generalize Ad.cls a = c at *
  generalize pln a = b at *
  clear ht
  go_enter Tryd.func40, Tryd.ntmps40
  go_wp2_with fail
  refine HC.out.mono ?_
  rintro _ w2 ⟨rfl, hb⟩
  go_wp2_with fail
  go_ret
  exact ⟨ret_bool HE.out, hb⟩

theorem plainEnds_any (h : Hd) (vo : Value) (w : World) (hok : h.Ok) (ht : Ad.TabC w) :
    Calls Tryd.prog 46 #[.agg (hdCells h vo)] w fun e w' => e = .returned (.bool (pln h.src && pln h.dst)) ∧ Below w.heap.size w w' := by
  obtain ⟨w1, hw1⟩ : ∃ w1, w1 = w.alloc (.cells (hdCells h vo) 33) := ⟨_, rfl⟩
  have hb1 : Below w.heap.size w w1 := by rw [hw1]; exact (Below.refl _ _).alloc (Nat.le_refl _) _
  have hs1 : w1.heap.size = w.heap.size + 1 := by rw [hw1]; simp
  have HK : Hid (∀ u, Below w1.heap.size w1 u → u.cell? ⟨w.heap.size, 7, none⟩ = some (.int .u32 (h.src : Int)) ∧ u.cell? ⟨w.heap.size, 8, none⟩ = some (.int .u32 (h.dst : Int))) := fun u hu => by
    have hk : u.heap[w.heap.size]? = some (.cells (hdCells h vo) 33 (0, 0)) := by rw [hu.block _ (by omega), hw1]; exact heap_alloc_new w _
    obtain ⟨_, _, _, _, _, _, _, h7, h8, _⟩ := hd_at hk
    exact ⟨h7, h8⟩
  have HP : Hid (∀ (a : Nat), a < 4294967296 → ∀ u, Below w1.heap.size w1 u → Calls Tryd.prog 40 #[.int .u32 (a : Int)] u fun e w' => e = .returned (.bool (pln a)) ∧ Below u.heap.size u w') := fun a ha u hu => isPlain_any a u ha ((ht.below hb1).below hu)
  have hsrc := hok.src
  have hdst := hok.dst
  have HW1 := hid hw1
  have HB1 := hid hb1
  have c1 := (HK.out _ (Below.refl _ _)).1
  clear hw1 hb1 hs1 ht hok
  generalize hdCells h vo = pk at *
  generalize h.src = sr at *
  generalize h.dst = ds at *
  go_enter Tryd.func46, Tryd.ntmps46
  go_upto_region 1 with fail
  rw [← HW1.out]
  go_wp2_with fail
  refine (HP.out sr hsrc _ (Below.refl _ _)).mono ?_
  rintro _ w2 ⟨rfl, hb2⟩
  have c2 := (HK.out _ hb2).2
  cases hp : pln sr with
  | false =>
    go_wp2_with fail
    go_ret
    exact ⟨ret_bool (by simp [hp]), HB1.out.trans (hb2.mono HB1.out.size)⟩
  | true =>
    go_wp2_with fail
    refine (HP.out ds hdst _ hb2).mono ?_
    rintro _ w3 ⟨rfl, hb3⟩
    go_wp2_with fail
    go_ret
    exact ⟨ret_bool (by simp [hp]), HB1.out.trans ((hb2.trans (hb3.mono hb2.size)).mono HB1.out.size)⟩

/-- May a fault be told about that packet? -/
def told (h : Hd) (B : List Nat) : Bool := !decide (0 < h.off) && ((pln h.src && pln h.dst) && (decide (h.proto ≠ 1) || (decide (B ≠ []) && !kF (byt B 0))))

theorem told_any (h : Hd) (vo vb : Value) (B : List Nat) (w : World) (hok : h.Ok) (hvb : SeesB w vb B) (htC : Ad.TabC w) (htK : TabK w) :
    Calls Tryd.prog 42 #[.agg (pkCells h vo vb)] w fun e w' => e = .returned (.bool (told h B)) ∧ Below w.heap.size w w' := by
  obtain ⟨w1, hw1⟩ : ∃ w1, w1 = w.alloc (.cells (pkCells h vo vb) 35) := ⟨_, rfl⟩
  have hb1 : Below w.heap.size w w1 := by rw [hw1]; exact (Below.refl _ _).alloc (Nat.le_refl _) _
  have hs1 : w1.heap.size = w.heap.size + 1 := by rw [hw1]; simp
  obtain ⟨ab, nb, capb, rfl, HNB, hnb1, hnb2⟩ := hvb.shape
  unfold maxLen at hnb2
  have HK : Hid (∀ u, Below w1.heap.size w1 u → u.heap[w.heap.size]? = some (.cells (pkCells h vo (.slice ab nb capb)) 35 (0, 0))) := fun u hu => by
    rw [hu.block _ (by omega), hw1]; exact heap_alloc_new w _
  have HC : Hid (∀ u, Below w1.heap.size w1 u → u.cell? ⟨w.heap.size, 4, none⟩ = some (.int .i64 h.off) ∧ u.cell? ⟨w.heap.size, 6, none⟩ = some (.int .u8 (h.proto : Int)) ∧ u.cell? ⟨w.heap.size, 10, none⟩ = some (.slice ab nb capb) ∧ (Instr.loadAt 33 (.pointer (some ⟨w.heap.size, 0, none⟩))).run Tryd.prog u = .ok (.agg (hdCells h vo)) u) := fun u hu =>
    ⟨pk_at (HK.out u hu) 4 (by omega), pk_at (HK.out u hu) 6 (by omega), pk_at (HK.out u hu) 10 (by omega), pk_loadH (HK.out u hu)⟩
  have HE := hid (plainEnds_any h vo w1 hok (htC.below hb1))
  have HF : Hid (∀ (t : Nat), t < 256 → ∀ u, Below w1.heap.size w1 u → Calls Tryd.prog 48 #[.int .u8 (t : Int)] u fun e w' => e = .returned (.bool (kF t)) ∧ Below u.heap.size u w') := fun t ht u hu => isFault_any t u ht ((htK.below hb1).below hu)
  have HVB := hid hvb
  have HW1 := hid hw1
  have HB1 := hid hb1
  have HR : Hid (told h B = (!decide (0 < h.off) && ((pln h.src && pln h.dst) && (decide (h.proto ≠ 1) || (decide (B ≠ []) && !kF (byt B 0)))))) := rfl
  obtain ⟨c4, c6, c10, q0⟩ := HC.out _ (Below.refl _ _)
  have HL0 := hid q0
  have HOK := hid hok.proto
  clear hw1 hb1 hs1 htC htK hvb hok q0
  generalize told h B = R at *
  generalize pkCells h vo (.slice ab nb capb) = pk at *
  generalize hdCells h vo = hc at *
  generalize (pln h.src && pln h.dst) = en at *
  generalize h.off = off at *
  generalize h.proto = pr at *
  by_cases ho : 0 < off
  · go_enter Tryd.func42, Tryd.ntmps42
    go_upto_region 1 with fail
    rw [← HW1.out]
    go_wp2_with fail
    go_ret
    exact ⟨ret_bool (by rw [HR.out]; simp [ho]), HB1.out⟩
  · cases en with
    | false =>
      go_enter Tryd.func42, Tryd.ntmps42
      go_upto_region 1 with fail
      rw [← HW1.out]
      go_wp2_with (first | (refine wpList_ld 33 ⟨w.heap.size, 0, none⟩ _ rfl rfl HL0.out rfl ?_) | fail)
      refine HE.out.mono ?_
      rintro _ w2 ⟨rfl, hb2⟩
      go_wp2_with fail
      go_ret
      exact ⟨ret_bool (by rw [HR.out]; simp), HB1.out.trans (hb2.mono HB1.out.size)⟩
    | true =>
      by_cases hp : pr = 1
      · subst hp
        by_cases hn : nb = 0
        · have HBN : Hid (B = []) := List.eq_nil_of_length_eq_zero (by have := HNB.out; omega)
          subst hn
          go_enter Tryd.func42, Tryd.ntmps42
          go_upto_region 1 with fail
          rw [← HW1.out]
          go_wp2_with (first | (refine wpList_ld 33 ⟨w.heap.size, 0, none⟩ _ rfl rfl HL0.out rfl ?_) | fail)
          refine HE.out.mono ?_
          rintro _ w2 ⟨rfl, hb2⟩
          obtain ⟨e4, e6, e10, _⟩ := HC.out _ hb2
          go_wp2_with fail
          go_ret
          exact ⟨ret_bool (by rw [HR.out, HBN.out]; simp), HB1.out.trans (hb2.mono HB1.out.size)⟩
        · have HBN : Hid (B ≠ []) := fun e => hn (by rw [HNB.out, e]; rfl)
          have hpos : 0 < nb := by omega
          have hposi : (0 : Int) < (nb : Int) := by omega
          obtain ⟨g0, o0, rfl, hg0, hc0⟩ := HVB.out.atB 0 hpos
          rw [Nat.add_zero] at hc0
          have hlt := byt_lt HVB.out.bytes 0
          generalize byt B 0 = x0 at *
          go_enter Tryd.func42, Tryd.ntmps42
          go_upto_region 1 with fail
          rw [← HW1.out]
          go_wp2_with (first | (refine wpList_ld 33 ⟨w.heap.size, 0, none⟩ _ rfl rfl HL0.out rfl ?_) | fail)
          refine HE.out.mono ?_
          rintro _ w2 ⟨rfl, hb2⟩
          obtain ⟨e4, e6, e10, _⟩ := HC.out _ hb2
          have hbw2 := HB1.out.trans (hb2.mono HB1.out.size)
          have d0 : w2.cell? ⟨g0, o0, none⟩ = some (.int .u8 (x0 : Int)) := (hbw2.cell (p := ⟨g0, _, none⟩) hg0).trans hc0
          have HBW2 := hid hbw2
          clear hbw2
          go_wp2_with fail
          refine (HF.out x0 hlt _ hb2).mono ?_
          rintro _ w3 ⟨rfl, hb3⟩
          go_wp2_with fail
          go_ret
          exact ⟨ret_bool (by rw [HR.out]; simp [HBN.out]; omega), HBW2.out.trans (hb3.mono HBW2.out.size)⟩
      · have q1 : ((pr : Int) != 1) = true := by simp; omega
        go_enter Tryd.func42, Tryd.ntmps42
        go_upto_region 1 with fail
        rw [← HW1.out]
        go_wp2_with (first | (refine wpList_ld 33 ⟨w.heap.size, 0, none⟩ _ rfl rfl HL0.out rfl ?_) | fail)
        refine HE.out.mono ?_
        rintro _ w2 ⟨rfl, hb2⟩
        obtain ⟨e4, e6, e10, _⟩ := HC.out _ hb2
        go_wp2_with fail
        go_ret
        exact ⟨ret_bool (by rw [HR.out]; simp [hp]; omega), HB1.out.trans (hb2.mono HB1.out.size)⟩
end Go.Proofs.YtcboenmmkaochabDoor.N

namespace Go.Proofs.YtcboenmmkaochabDoor.N
open Go.ChangeShapes Go.WideShapes Go.ChangeAt Go.RowKit
set_option maxHeartbeats 4000000
set_option maxRecDepth 100000

def small6 : Hd := ⟨0, 7, false, false, 0, 1, 17, 167838211, 167904004, [131, 3, 4, 0]⟩
def body6 : List Nat := [1, 2, 3, 4, 5, 6, 7, 8, 9, 10]

theorem small6_ok : small6.Ok := ⟨by decide, by decide, by decide, by decide, by decide, by decide, by decide⟩

theorem size_pk : (Tryd.prog.info? 35).map (·.size) = some 11 := by kernel_rfl

theorem pk_one (h : Hd) {w : World} {vo vb : Value} {L B : List Nat} (ho : SeesB w vo L) (hb : SeesB w vb B) : (pkCells h vo vb).all (·.oneCell') = true := by
  obtain ⟨a1, n1, c1, rfl, _, _, _⟩ := ho.shape
  obtain ⟨a2, n2, c2, rfl, _, _, _⟩ := hb.shape
  simp [pkCells, Value.oneCell']

def zeroP : Array Value := #[.int .u8 0, .int .u16 0, .bool false, .bool false, .int .i64 0, .int .u8 0, .int .u8 0, .int .u32 0, .int .u32 0, .slice none 0 0, .slice none 0 0]

theorem small_any (w : World) :
    Calls Tryd.prog 13 #[] w fun e w' => ∃ a1 n1 c1 a2 n2 c2, e = .returned (.agg (pkCells small6 (.slice a1 n1 c1) (.slice a2 n2 c2))) ∧ SeesB w' (.slice a1 n1 c1) small6.opts ∧ SeesB w' (.slice a2 n2 c2) body6 ∧ (∀ a, a1 = some a → w.heap.size ≤ a.block) ∧ Below w.heap.size w w' := by
  obtain ⟨w1, hw1⟩ : ∃ w1, w1 = w.alloc (.cells zeroP 35) := ⟨_, rfl⟩
  have hs1 : w1.heap.size = w.heap.size + 1 := by rw [hw1]; simp
  have hb1 : Below w.heap.size w w1 := by rw [hw1]; exact (Below.refl _ _).alloc (Nat.le_refl _) _
  obtain ⟨w2, hw2⟩ : ∃ w2, w2 = w1.alloc (.cells #[.int .u8 131, .int .u8 3, .int .u8 4, .int .u8 0] 5) := ⟨_, rfl⟩
  have hs2 : w2.heap.size = w1.heap.size + 1 := by rw [hw2]; simp
  have hb2 : Below w1.heap.size w1 w2 := by rw [hw2]; exact (Below.refl _ _).alloc (Nat.le_refl _) _
  obtain ⟨w3, hw3⟩ : ∃ w3, w3 = w2.alloc (.cells #[.int .u8 1, .int .u8 2, .int .u8 3, .int .u8 4, .int .u8 5, .int .u8 6, .int .u8 7, .int .u8 8, .int .u8 9, .int .u8 10] 5) := ⟨_, rfl⟩
  have hb3 : Below w2.heap.size w2 w3 := by rw [hw3]; exact (Below.refl _ _).alloc (Nat.le_refl _) _
  have ho2 : SeesB w3 (.slice (some ⟨w.heap.size + 1, 0, none⟩) 4 4) small6.opts := by
    refine SeesB.below (w := w2) (sees_blk (t := 5) ?_ rfl (by decide) (by decide)) hb3
    rw [← hs1, hw2]; exact heap_alloc_new w1 _
  have ho3 : SeesB w3 (.slice (some ⟨w.heap.size + 2, 0, none⟩) 10 10) body6 := by
    refine sees_blk (t := 5) ?_ rfl (by decide) (by decide)
    rw [show w.heap.size + 2 = w2.heap.size by omega, hw3]; exact heap_alloc_new w2 _
  have hth : w3.there w.heap.size 0 11 := there_blk (C := zeroP) (t := 35) (by
    rw [hb3.block _ (by omega), hb2.block _ (by omega), hw1]; exact heap_alloc_new w _) rfl
  have hbw : Below w.heap.size w w3 := hb1.trans ((hb2.trans (hb3.mono (by omega))).mono (by omega))
  obtain ⟨zz, hzz⟩ : ∃ zz : Array Value, zz = pkCells small6 (.slice (some ⟨w.heap.size + 1, 0, none⟩) 4 4) (.slice (some ⟨w.heap.size + 2, 0, none⟩) 10 10) := ⟨_, rfl⟩
  have HZ := hid hzz
  have HONE : Hid (zz.all (·.oneCell') = true) := by unfold Hid; rw [hzz]; exact pk_one _ ho2 ho3
  have HINF : Hid ((Tryd.prog.info? 35).map (·.size) = some zz.size) := by unfold Hid; rw [hzz]; exact size_pk
  have HTU : Hid (w3.there w.heap.size 0 zz.size) := by unfold Hid; rw [hzz]; exact hth
  have HLV := hid (load_cell HTU.out Tryd.underlying35 HINF.out)
  have HBF := hid (below_setCells (Nat.le_refl _) zz.toList 0 w3 hbw)
  have HS2 := hid (sees_setI (b := w.heap.size) (vs := zz.toList) ho2 (fun a ha => by cases ha; show w.heap.size + 1 ≠ w.heap.size; omega))
  have HS3 := hid (sees_setI (b := w.heap.size) (vs := zz.toList) ho3 (fun a ha => by cases ha; show w.heap.size + 2 ≠ w.heap.size; omega))
  have HW : Hid (w3 = ((w.alloc (.cells #[.int .u8 0, .int .u16 0, .bool false, .bool false, .int .i64 0, .int .u8 0, .int .u8 0, .int .u32 0, .int .u32 0, .slice none 0 0, .slice none 0 0] 35)).alloc (.cells #[.int .u8 131, .int .u8 3, .int .u8 4, .int .u8 0] 5)).alloc (.cells #[.int .u8 1, .int .u8 2, .int .u8 3, .int .u8 4, .int .u8 5, .int .u8 6, .int .u8 7, .int .u8 8, .int .u8 9, .int .u8 10] 5)) := by
    unfold Hid; rw [hw3, hw2, hw1]; rfl
  clear hw1 hw2 hw3 hs1 hs2 hb1 hb2 hb3 ho2 ho3 hth hbw hzz
  go_enter Tryd.func13, Tryd.ntmps13
  go_wp2_with (first
    | (rw [← HW.out]; refine wpList_store_mid rfl 35 (.tmp 0) (.tmp 4) rfl w.heap.size 0 zz rfl (by rw [HZ.out]; rfl) HTU.out HINF.out HONE.out ?_)
    | fail)
  generalize w3.setCells w.heap.size 0 zz.toList = wf at HLV HBF HS2 HS3 ⊢
  refine bodyPost_ret (v := .agg zz) (by simp [results, Tryd.results13, asAddr, Act.put, HLV.out]) rfl ?_
  exact ⟨_, _, _, _, _, _, by rw [HZ.out], HS2.out, HS3.out, (fun a ha => by cases ha; show w.heap.size ≤ w.heap.size + 1; omega), HBF.out⟩

/-- Cells written one behind the other. -/
def wr (C : Array Value) : Nat → List Value → Array Value
  | _, [] => C
  | o, v :: vs => wr (C.setIfInBounds o v) (o + 1) vs

theorem heap_setCell_row {w : World} {b o : Nat} {C : Array Value} {T : TypeId} {fz : Nat × Nat} (h : w.heap[b]? = some (.cells C T fz)) (v : Value) : (w.setCell ⟨b, o, none⟩ v).heap[b]? = some (.cells (C.setIfInBounds o v) T fz) := by
  simp only [World.setCell, Array.getElem?_modify, h]
  simp

theorem heap_setCells_row {b : Nat} {T : TypeId} {fz : Nat × Nat} : ∀ (vs : List Value) (o : Nat) (w : World) (C : Array Value), w.heap[b]? = some (.cells C T fz) → (w.setCells b o vs).heap[b]? = some (.cells (wr C o vs) T fz)
  | [], _, _, _, h => h
  | v :: vs, o, w, C, h => by
    rw [World.setCells]
    exact heap_setCells_row vs (o + 1) _ _ (heap_setCell_row h v)

theorem wr_pk (h : Hd) (vo vb : Value) : wr zeroP 0 (pkCells h vo vb).toList = pkCells h vo vb := by
  simp [wr, zeroP, pkCells]

def req6 : Hd := ⟨0, 7, false, false, 0, 1, 1, 167838211, 167904004, [131, 3, 4, 0]⟩
def reqB : List Nat := [8, 0, 51, 154, 0, 1, 0, 2, 97, 98, 99]
theorem req6_ok : req6.Ok := ⟨by decide, by decide, by decide, by decide, by decide, by decide, by decide⟩

theorem request_any (w : World) :
    Calls Tryd.prog 12 #[] w fun e w' => ∃ a1 n1 c1 a2 n2 c2, e = .returned (.agg (pkCells req6 (.slice a1 n1 c1) (.slice a2 n2 c2))) ∧ SeesB w' (.slice a1 n1 c1) req6.opts ∧ SeesB w' (.slice a2 n2 c2) reqB ∧ Below w.heap.size w w' := by
  obtain ⟨w1, hw1⟩ : ∃ w1, w1 = w.alloc (.cells zeroP 35) := ⟨_, rfl⟩
  have hs1 : w1.heap.size = w.heap.size + 1 := by rw [hw1]; simp
  have hb1 : Below w.heap.size w w1 := by rw [hw1]; exact (Below.refl _ _).alloc (Nat.le_refl _) _
  have HSM := hid (small_any w1)
  have HTH : Hid (∀ u, Below w1.heap.size w1 u → u.there w.heap.size 0 11) := fun u hu => there_blk (C := zeroP) (t := 35) (by
    rw [hu.block _ (by omega), hw1]; exact heap_alloc_new w _) rfl
  have HW1 : Hid (w1 = w.alloc (.cells #[.int .u8 0, .int .u16 0, .bool false, .bool false, .int .i64 0, .int .u8 0, .int .u8 0, .int .u32 0, .int .u32 0, .slice none 0 0, .slice none 0 0] 35)) := hw1
  have HB1 := hid hb1
  have HS1 := hid hs1
  clear hw1 hs1 hb1
  go_enter Tryd.func12, Tryd.ntmps12
  go_upto_region 1 with fail
  rw [← HW1.out]
  go_wp2_with fail
  refine HSM.out.mono ?_
  rintro _ w2 ⟨a1, n1, c1, a2, n2, c2, rfl, ho, hbd, hnew, hb2⟩
  obtain ⟨pa, hpa⟩ : ∃ pa : Array Value, pa = pkCells small6 (.slice a1 n1 c1) (.slice a2 n2 c2) := ⟨_, rfl⟩
  obtain ⟨w3, hw3⟩ : ∃ w3, w3 = (w2.alloc (.cells zeroP 35)).setCells w2.heap.size 0 pa.toList := ⟨_, rfl⟩
  have hr3 : w3.heap[w2.heap.size]? = some (.cells (pkCells small6 (.slice a1 n1 c1) (.slice a2 n2 c2)) 35 (0, 0)) := by
    rw [hw3, hpa]
    have := heap_setCells_row (b := w2.heap.size) (T := 35) (pkCells small6 (.slice a1 n1 c1) (.slice a2 n2 c2)).toList 0 _ zeroP (heap_alloc_new w2 (.cells zeroP 35))
    rwa [wr_pk] at this
  have hb23 : Below w2.heap.size w2 w3 := by rw [hw3]; exact below_setCells (Nat.le_refl _) _ _ _ ((Below.refl _ _).alloc (Nat.le_refl _) _)
  have HTA : Hid ((w2.alloc (.cells zeroP 35)).there w2.heap.size 0 pa.size) := by unfold Hid; rw [hpa]; exact there_blk (C := zeroP) (t := 35) (heap_alloc_new w2 _) rfl
  have HONA : Hid (pa.all (·.oneCell') = true) := by unfold Hid; rw [hpa]; exact pk_one _ ho hbd
  have HINA : Hid ((Tryd.prog.info? 35).map (·.size) = some pa.size) := by unfold Hid; rw [hpa]; exact size_pk
  have HW3 : Hid (w3 = (w2.alloc (.cells #[.int .u8 0, .int .u16 0, .bool false, .bool false, .int .i64 0, .int .u8 0, .int .u8 0, .int .u32 0, .int .u32 0, .slice none 0 0, .slice none 0 0] 35)).setCells w2.heap.size 0 pa.toList) := hw3
  have d6 : w3.cell? ⟨w2.heap.size, 6, none⟩ = some (.int .u8 17) := by rw [cell_of_row _ _ _ _ _ _ hr3]; rfl
  have f6 : w3.frozen? ⟨w2.heap.size, 6, none⟩ = false := frozen_of_row _ _ _ _ _ hr3
  obtain ⟨w4, hw4⟩ : ∃ w4, w4 = w3.setCell ⟨w2.heap.size, 6, none⟩ (.int .u8 1) := ⟨_, rfl⟩
  have hr4 : w4.heap[w2.heap.size]? = some (.cells (pkCells req6 (.slice a1 n1 c1) (.slice a2 n2 c2)) 35 (0, 0)) := by rw [hw4]; exact heap_setCell_row hr3 _
  obtain ⟨w5, hw5⟩ : ∃ w5, w5 = w4.alloc (.cells (bs reqB).toArray 5) := ⟨_, rfl⟩
  have hs4 : w4.heap.size = w3.heap.size := by rw [hw4]; simp [World.setCell]
  have hlt3 : w2.heap.size < w3.heap.size := (Array.getElem?_eq_some_iff.1 hr3).1
  have hr5 : w5.heap[w2.heap.size]? = some (.cells (pkCells req6 (.slice a1 n1 c1) (.slice a2 n2 c2)) 35 (0, 0)) := by
    rw [hw5, Below.heap_alloc _ _ _ (by omega)]; exact hr4
  have d10 : w5.cell? ⟨w2.heap.size, 10, none⟩ = some (.slice a2 n2 c2) := by rw [cell_of_row _ _ _ _ _ _ hr5]; rfl
  have f10 : w5.frozen? ⟨w2.heap.size, 10, none⟩ = false := frozen_of_row _ _ _ _ _ hr5
  obtain ⟨w6, hw6⟩ : ∃ w6, w6 = w5.setCell ⟨w2.heap.size, 10, none⟩ (.slice (some ⟨w4.heap.size, 0, none⟩) 11 11) := ⟨_, rfl⟩
  have hr6 : w6.heap[w2.heap.size]? = some (.cells (pkCells req6 (.slice a1 n1 c1) (.slice (some ⟨w4.heap.size, 0, none⟩) 11 11)) 35 (0, 0)) := by rw [hw6]; exact heap_setCell_row hr5 _
  have hb24 : Below w2.heap.size w2 w4 := by rw [hw4]; exact hb23.setCell (p := ⟨w2.heap.size, 6, none⟩) (Nat.le_refl _) _
  have hb25 : Below w2.heap.size w2 w5 := by rw [hw5]; exact hb24.alloc hb24.size _
  have hb26 : Below w2.heap.size w2 w6 := by rw [hw6]; exact hb25.setCell (p := ⟨w2.heap.size, 10, none⟩) (Nat.le_refl _) _
  have hb16 : Below w1.heap.size w1 w6 := hb2.trans (hb26.mono hb2.size)
  have hbk6 : w6.heap[w4.heap.size]? = some (.cells (bs reqB).toArray 5 (0, 0)) := by
    rw [hw6]
    have : w5.heap[w4.heap.size]? = some (.cells (bs reqB).toArray 5 (0, 0)) := by rw [hw5]; exact heap_alloc_new w4 _
    simp only [World.setCell, Array.getElem?_modify]
    rw [if_neg (by show ¬ w2.heap.size = w4.heap.size; omega)]
    exact this
  have hsb : SeesB w6 (.slice (some ⟨w4.heap.size, 0, none⟩) 11 11) reqB := sees_blk hbk6 rfl (by decide) (by decide)
  have HSO := hid (ho.below hb26)
  have HSB := hid hsb
  have HLD := hid (pk_load hr6)
  have HW4 := hid hw4
  have HW5 : Hid (w5 = w4.alloc (.cells #[.int .u8 8, .int .u8 0, .int .u8 51, .int .u8 154, .int .u8 0, .int .u8 1, .int .u8 0, .int .u8 2, .int .u8 97, .int .u8 98, .int .u8 99] 5)) := hw5
  have HW6 := hid hw6
  obtain ⟨zz, hzz⟩ : ∃ zz : Array Value, zz = pkCells req6 (.slice a1 n1 c1) (.slice (some ⟨w4.heap.size, 0, none⟩) 11 11) := ⟨_, rfl⟩
  have HZ := hid hzz
  have HONE : Hid (zz.all (·.oneCell') = true) := by unfold Hid; rw [hzz]; exact pk_one _ HSO.out hsb
  have HINF : Hid ((Tryd.prog.info? 35).map (·.size) = some zz.size) := by unfold Hid; rw [hzz]; exact size_pk
  have HTU : Hid (w6.there w.heap.size 0 zz.size) := by unfold Hid; rw [hzz]; exact HTH.out _ hb16
  have HLV := hid (load_cell HTU.out Tryd.underlying35 HINF.out)
  have HBF := hid (below_setCells (Nat.le_refl _) zz.toList 0 w6 (HB1.out.trans (hb16.mono HB1.out.size)))
  have hw12 := hb2.size
  have HS2 : Hid (SeesB (w6.setCells w.heap.size 0 zz.toList) (.slice a1 n1 c1) req6.opts) := sees_setI HSO.out (fun a ha => by have := hnew a ha; have := HS1.out; omega)
  have HS3 := hid (sees_setI (b := w.heap.size) (vs := zz.toList) hsb (fun a ha => by cases ha; show w4.heap.size ≠ w.heap.size; have := HS1.out; omega))
  rw [← hzz] at HLD
  rw [← hpa]
  clear hpa hw3 hw4 hw5 hw6 hzz hr3 hr4 hr5 hr6 hbk6 hsb hb23 hb24 hb25 hb26 hb16 hs4 hlt3 hw12 ho hbd hnew hb2 HSM HTH
  go_upto_region 2 with (first
    | (refine wpList_store_mid rfl 35 (.tmp 1) (.tmp 2) rfl w2.heap.size 0 pa rfl rfl HTA.out HINA.out HONA.out ?_)
    | fail)
  rw [← HW3.out]
  go_upto_region 3 with fail
  rw [← HW4.out]
  rw [HW5.out] at d10 f10
  go_upto_region 4 with fail
  rw [← HW5.out, ← HW6.out]
  go_wp2_with (first
    | (refine wpList_ld 35 ⟨w2.heap.size, 0, none⟩ _ rfl rfl HLD.out rfl ?_)
    | (refine wpList_store_mid rfl 35 (.tmp 0) (.tmp 7) rfl w.heap.size 0 zz rfl rfl HTU.out HINF.out HONE.out ?_)
    | fail)
  generalize w6.setCells w.heap.size 0 zz.toList = wf at HLV HBF HS2 HS3 ⊢
  refine bodyPost_ret (v := .agg zz) (by simp [results, Tryd.results12, asAddr, Act.put, HLV.out]) rfl ?_
  exact ⟨_, _, _, _, _, _, by rw [HZ.out], HS2.out, HS3.out, HBF.out⟩
end Go.Proofs.YtcboenmmkaochabDoor.N

namespace Go.Proofs.YtcboenmmkaochabDoor.N
open Go.ChangeShapes Go.WideShapes Go.ChangeAt Go.RowKit
set_option maxHeartbeats 1000000
set_option maxRecDepth 100000

theorem built_bytes {h : Hd} {B : List Nat} (hok : h.Ok) (ho : ∀ x ∈ h.opts, x < 256) (hb : ∀ x ∈ B, x < 256) : ∀ x ∈ builtL h B, x < 256 := by
  unfold builtL
  by_cases he : refE h B.length = 0
  · rw [if_pos he]
    obtain ⟨r1, r2, r3⟩ := refE_ok he
    obtain ⟨l1, l2⟩ := area_len r1
    obtain ⟨f, hf, hf1⟩ : ∃ f : Nat, h.off = (f : Int) ∧ f ≤ 65528 := by
      unfold M.pieceOk at r2
      simp at r2
      exact ⟨h.off.toNat, by omega, by omega⟩
    intro x hx
    rcases List.mem_append.1 hx with hx | hx
    · exact hdBytes_ok hok ho l1 hf hf1 (by unfold lenOfPk; omega) (M.csum_lt _) x hx
    · exact hb x hx
  · rw [if_neg he]
    intro x hx; cases hx

/-- The program's Build. -/
theorem build_code (h : Hd) (vo vb : Value) (B : List Nat) (w : World) (hok : h.Ok) (hvo : SeesB w vo h.opts) (hvb : SeesB w vb B) (hlo : h.opts.length ≤ 140737488355328) (hlb : B.length ≤ 140737488355328) :
    Calls Tryd.prog 41 #[.agg (pkCells h vo vb)] w fun e w' => ∃ ao n cap, e = .returned (.tuple #[.slice ao n cap, .int .i64 (refE h B.length)]) ∧ SeesB w' (.slice ao n cap) (builtL h B) ∧ Below w.heap.size w w' := by
  by_cases he : refE h B.length = 0
  · rw [he]
    exact build_good h vo vb B w hok hvo hvb he
  · refine (build_bad h vo vb B w hok hvo hvb hlo hlb he).mono ?_
    rintro e w' ⟨rfl, hb⟩
    refine ⟨none, 0, 0, rfl, ?_, hb⟩
    unfold builtL
    rw [if_neg he]
    exact sees_nil _

theorem build_refS (h : Hd) (vo vb : Value) (B : List Nat) (w : World) (hok : h.Ok) (hvo : SeesB w vo h.opts) (hvb : SeesB w vb B) (hlb : B.length ≤ 140737488355328) :
    Calls Tryd.prog 30 #[.agg (pkCells h vo vb)] w fun e w' => ∃ ao n cap, e = .returned (.tuple #[.slice ao n cap, .int .i64 (refE h B.length)]) ∧ SeesB w' (.slice ao n cap) (builtL h B) ∧ Below w.heap.size w w' := by
  refine (build_ref h vo vb B w hok hvo hvb (by omega)).mono ?_
  rintro e w' ⟨v', rfl, hO, hb⟩
  have hs := hO.sees (built_bytes hok hvo.bytes hvb.bytes)
  obtain ⟨ao, n, cap, rfl, _, _, _⟩ := hs.shape
  exact ⟨ao, n, cap, rfl, hs, hb⟩

end Go.Proofs.YtcboenmmkaochabDoor.N

namespace Go.Proofs.YtcboenmmkaochabDoor.N
open Go.ChangeShapes Go.WideShapes Go.ChangeAt Go.RowKit
set_option maxHeartbeats 2000000
set_option maxRecDepth 100000

/-- The head of a packet that is made here. -/
def mdH (tos src dst : Nat) : Hd := ⟨tos, 0, false, false, 0, 64, 1, src, dst, []⟩
def md0 (tos src dst : Nat) : Hd := ⟨tos, 0, false, false, 0, 0, 0, src, dst, []⟩

theorem build_md (tos src dst : Int) (p : Option Addr) (n cap : Nat) (u : World) : (Instr.build 35 #[(0, .agg #[.int .u8 tos, .int .u16 0, .bool false, .bool false, .int .i64 0, .int .u8 64, .int .u8 1, .int .u32 src, .int .u32 dst, .slice none 0 0]), (1, .slice p n cap)]).run Tryd.prog u = .ok (.agg #[.int .u8 tos, .int .u16 0, .bool false, .bool false, .int .i64 0, .int .u8 64, .int .u8 1, .int .u32 src, .int .u32 dst, .slice none 0 0, .slice p n cap]) u := by
  simp [Instr.build, run_underlying Tryd.underlying35, go_sem]

/-- A result that lies in a cell of its own. -/
theorem res_end {w u : World} {r : Nat} {T : TypeId} {fs : Array Field} {zz : Array Value} (hth : u.there r 0 zz.size) (hr : w.heap.size ≤ r) (hb : Below w.heap.size w u) (hu : Tryd.prog.underlying T = some (.struct fs)) (hi : (Tryd.prog.info? T).map (·.size) = some zz.size) :
    (loadVar T ⟨r, 0, none⟩).run Tryd.prog (u.setCells r 0 zz.toList) = .ok (.agg zz) (u.setCells r 0 zz.toList) ∧ Below w.heap.size w (u.setCells r 0 zz.toList) :=
  ⟨load_cell hth hu hi, below_setCells hr _ _ _ hb⟩

def FC (hc ct : Array Value) (mk : Value → Value) (L : List Nat) (base : Nat) : Nat → Value → World → Prop
  | 0, v, _ => v = .agg hc
  | 1, v, _ => v = .agg ct
  | 2, v, w => ∃ g k, v = .slice (some ⟨g, 0, none⟩) k k ∧ SeesB w v L ∧ base ≤ g
  | 3, v, w => ∃ g k, v = mk (.slice (some ⟨g, 0, none⟩) k k) ∧ SeesB w (.slice (some ⟨g, 0, none⟩) k k) L ∧ base ≤ g
  | _, _, _ => True

theorem FC.keeps (hc ct : Array Value) (mk : Value → Value) (L : List Nat) (base : Nat) : ∀ (i : Nat) (v : Value) (w w' : World), FC hc ct mk L base i v w → Below w.heap.size w w' → FC hc ct mk L base i v w' := fun i v w w' h hb => by
  match i, h with
  | 0, h => exact h
  | 1, h => exact h
  | 2, ⟨g, k, e, hs, hg⟩ => exact ⟨g, k, e, hs.below hb, hg⟩
  | 3, ⟨g, k, e, hs, hg⟩ => exact ⟨g, k, e, hs.below hb, hg⟩
  | n + 4, _ => trivial

theorem carry_any (m : Im.Ct) (vm : Value) (tos src dst : Nat) (w : World) (hok : m.Ok) (hvm : SeesB w vm m.B) (hl : m.B.length ≤ 65507) :
    Calls Tryd.prog 44 #[.agg (ctCells m vm), .agg (hdCells (md0 tos src dst) (.slice none 0 0))] w fun e w' => ∃ g k, e = .returned (.agg (pkCells (mdH tos src dst) (.slice none 0 0) (.slice (some ⟨g, 0, none⟩) k k))) ∧ SeesB w' (.slice (some ⟨g, 0, none⟩) k k) (Im.laid m) ∧ w.heap.size ≤ g ∧ Below w.heap.size w w' := by
  obtain ⟨wa, hwa⟩ : ∃ wa, wa = w.alloc (.cells (ctCells m vm) 29) := ⟨_, rfl⟩
  obtain ⟨wb, hwb⟩ : ∃ wb, wb = wa.alloc (.cells (hdCells (md0 tos src dst) (.slice none 0 0)) 33) := ⟨_, rfl⟩
  obtain ⟨w1, hw1⟩ : ∃ w1, w1 = wb.alloc (.cells zeroP 35) := ⟨_, rfl⟩
  have hsa : wa.heap.size = w.heap.size + 1 := by rw [hwa]; simp
  have hsb : wb.heap.size = w.heap.size + 2 := by rw [hwb]; simp [hsa]
  have hs1 : w1.heap.size = w.heap.size + 3 := by rw [hw1]; simp [hsb]
  have hba : Below w.heap.size w wa := by rw [hwa]; exact (Below.refl _ _).alloc (Nat.le_refl _) _
  have hbb : Below wa.heap.size wa wb := by rw [hwb]; exact (Below.refl _ _).alloc (Nat.le_refl _) _
  have hbc : Below wb.heap.size wb w1 := by rw [hw1]; exact (Below.refl _ _).alloc (Nat.le_refl _) _
  have hb1 : Below w.heap.size w w1 := hba.trans ((hbb.trans (hbc.mono (by omega))).mono (by omega))
  have k0 : w1.heap[w.heap.size]? = some (.cells (ctCells m vm) 29 (0, 0)) := by
    rw [hbc.block _ (by omega), hbb.block _ (by omega), hwa]; exact heap_alloc_new w _
  have k1 : w1.heap[w.heap.size + 1]? = some (.cells (hdCells (md0 tos src dst) (.slice none 0 0)) 33 (0, 0)) := by
    rw [hbc.block _ (by omega), ← hsa, hwb]; exact heap_alloc_new wa _
  have k2 : w1.heap[w.heap.size + 2]? = some (.cells zeroP 35 (0, 0)) := by
    rw [← hsb, hw1]; exact heap_alloc_new wb _
  obtain ⟨w2, hw2⟩ : ∃ w2, w2 = (w1.setCell ⟨w.heap.size + 1, 5, none⟩ (.int .u8 64)).setCell ⟨w.heap.size + 1, 6, none⟩ (.int .u8 1) := ⟨_, rfl⟩
  have j1 : w2.heap[w.heap.size + 1]? = some (.cells (hdCells (mdH tos src dst) (.slice none 0 0)) 33 (0, 0)) := by
    rw [hw2]; exact heap_setCell_row (heap_setCell_row k1 _) _
  have hu2 : But (w.heap.size + 1) w1 w2 := by rw [hw2]; exact (But.set _ _ _ _).trans (But.set _ _ _ _)
  have j0 : w2.heap[w.heap.size]? = some (.cells (ctCells m vm) 29 (0, 0)) := (hu2.block _ (by omega) (by omega)).trans k0
  have j2 : w2.heap[w.heap.size + 2]? = some (.cells zeroP 35 (0, 0)) := (hu2.block _ (by omega) (by omega)).trans k2
  have hb2 : Below w.heap.size w w2 := hu2.below hb1 hb1.size (by omega)
  have hs2 : w2.heap.size = w.heap.size + 3 := by rw [hw2]; simp [World.setCell, hs1]
  have d5 : w1.cell? ⟨w.heap.size + 1, 5, none⟩ = some (.int .u8 0) := by rw [cell_of_row _ _ _ _ _ _ k1]; rfl
  have d6 : w1.cell? ⟨w.heap.size + 1, 6, none⟩ = some (.int .u8 0) := by rw [cell_of_row _ _ _ _ _ _ k1]; rfl
  have f5 : w1.frozen? ⟨w.heap.size + 1, 5, none⟩ = false := frozen_of_row _ _ _ _ _ k1
  have f6 : w1.frozen? ⟨w.heap.size + 1, 6, none⟩ = false := frozen_of_row _ _ _ _ _ k1
  have HLH : Hid (∀ u, Below w2.heap.size w2 u → (Instr.loadAt 33 (.pointer (some ⟨w.heap.size + 1, 0, none⟩))).run Tryd.prog u = .ok (.agg (hdCells (mdH tos src dst) (.slice none 0 0))) u) := fun u hu => by
    have hk := (hu.block (w.heap.size + 1) (by omega)).trans j1
    obtain ⟨fs, hu27⟩ := und27
    refine run_loadAt_mid u (w.heap.size + 1) 0 33 (hdCells (mdH tos src dst) (.slice none 0 0)).toList (.struct fs) (fun j v hv => ?_) hu27 rfl (by rw [show (Tryd.prog.info? 33).map (·.size) = some 10 from by kernel_rfl]; rfl)
    rw [Nat.zero_add, cell_of_row _ _ _ _ _ _ hk, ← hv, Array.getElem?_toList]
  have HLC : Hid (∀ u, Below w2.heap.size w2 u → (Instr.loadAt 29 (.pointer (some ⟨w.heap.size, 0, none⟩))).run Tryd.prog u = .ok (.agg (ctCells m vm)) u) := fun u hu => by
    have hk := (hu.block w.heap.size (by omega)).trans j0
    refine run_loadAt_mid u w.heap.size 0 29 (ctCells m vm).toList (.struct _) (fun j v hv => ?_) Tryd.underlying29 rfl (by rw [size_ct]; rfl)
    rw [Nat.zero_add, cell_of_row _ _ _ _ _ _ hk, ← hv, Array.getElem?_toList]
  have HLAY : Hid (∀ u, Below w2.heap.size w2 u → Calls Tryd.prog 37 #[.agg (ctCells m vm)] u fun e w' => ∃ g k, e = .returned (.slice (some ⟨g, 0, none⟩) k k) ∧ SeesB w' (.slice (some ⟨g, 0, none⟩) k k) (Im.laid m) ∧ Blk w' g (Im.laid m) ∧ u.heap.size ≤ g ∧ Below u.heap.size u w') := fun u hu => lay_any m vm u hok (hvm.below (hb2.trans (hu.mono hb2.size))) hl
  have HTH : Hid (∀ u, Below w2.heap.size w2 u → u.there (w.heap.size + 2) 0 11) := fun u hu => there_blk (C := zeroP) (t := 35) ((hu.block _ (by omega)).trans j2) rfl
  have HW1 : Hid (w1 = ((w.alloc (.cells (ctCells m vm) 29)).alloc (.cells (hdCells (md0 tos src dst) (.slice none 0 0)) 33)).alloc (.cells #[.int .u8 0, .int .u16 0, .bool false, .bool false, .int .i64 0, .int .u8 0, .int .u8 0, .int .u32 0, .int .u32 0, .slice none 0 0, .slice none 0 0] 35)) := by unfold Hid; rw [hw1, hwb, hwa]; rfl
  have HW2 := hid hw2
  have HB2 := hid hb2
  have HS2 := hid hs2
  have hne : ¬ w.heap.size + 1 = w.heap.size := by omega
  have HHD : Hid (hdCells (mdH tos src dst) (.slice none 0 0) = #[.int .u8 (tos : Int), .int .u16 0, .bool false, .bool false, .int .i64 0, .int .u8 64, .int .u8 1, .int .u32 (src : Int), .int .u32 (dst : Int), .slice none 0 0]) := rfl
  clear hwa hwb hw1 hw2 hsa hsb hs1 hba hbb hbc hb1 k0 k1 k2 j0 j1 j2 hu2 hb2 hs2 hvm hok hl
  generalize hdCells (md0 tos src dst) (.slice none 0 0) = hc0 at *
  generalize hhc : hdCells (mdH tos src dst) (.slice none 0 0) = hc at *
  generalize ctCells m vm = ct at *
  go_enter Tryd.func44, Tryd.ntmps44
  go_upto_region 1 with fail
  rw [← HW1.out]
  go_upto_region 2 with fail
  rw [← HW2.out]
  refine wp_region_mono' 4 (fun i => 7 + i) (FC hc ct (fun v => .agg (pkCells (mdH tos src dst) (.slice none 0 0) v)) (Im.laid m) w2.heap.size) (by kernel_rfl) (by kernel_rfl) (FC.keeps _ _ _ _ _) ?_ ?_
  · simp only [List.take_succ_cons, List.take_zero, stepsOk]
    refine ⟨?_, ?_, ?_, ?_, trivial⟩
    · intro a u vs hb hold hdep
      exact wp_load 33 ⟨w.heap.size + 1, 0, none⟩ (.tmp 3) _ rfl (hold 3 (fun j _ => low (by decide))) (HLH.out u hb) ⟨_, rfl, rfl, hb, Below.refl _ _⟩
    · intro a u vs hb hold hdep
      exact wp_load 29 ⟨w.heap.size, 0, none⟩ (.tmp 2) _ rfl (hold 2 (fun j _ => low (by decide))) (HLC.out u hb) ⟨_, rfl, rfl, hb, Below.refl _ _⟩
    · intro a u vs hb hold hdep
      have h1 := hdep ⟨1, .data⟩ (by simp) rfl (by decide)
      have e1 : a.eval (.tmp 8) = .agg ct := h1.1.trans h1.2
      refine wp_call 37 _ _ rfl (enters_of Tryd.func37 (by kernel_rfl) rfl) #[.agg ct] (by simp only [List.map_toArray, List.map_cons, List.map_nil, e1]) ?_
      refine (HLAY.out u hb).mono ?_
      rintro _ u' ⟨g, k, rfl, hs, _, hg, hb'⟩
      exact ⟨_, rfl, _, rfl, ⟨g, k, rfl, hs, Nat.le_trans hb.size hg⟩, hb.trans (hb'.mono hb.size), hb'⟩
    · intro a u vs hb hold hdep
      have h0 := hdep ⟨0, .data⟩ (by simp) rfl (by decide)
      have h2 := hdep ⟨2, .data⟩ (by simp) rfl (by decide)
      obtain ⟨g, k, ev, hs, hg⟩ := h2.2
      rw [ev] at hs
      have e0 : a.eval (.tmp 7) = .agg #[.int .u8 (tos : Int), .int .u16 0, .bool false, .bool false, .int .i64 0, .int .u8 64, .int .u8 1, .int .u32 (src : Int), .int .u32 (dst : Int), .slice none 0 0] := (h0.1.trans h0.2).trans (by rw [HHD.out])
      have e2 : a.eval (.tmp 9) = .slice (some ⟨g, 0, none⟩) k k := h2.1.trans ev
      exact wp_val (ex_build _ _ #[(0, .agg #[.int .u8 (tos : Int), .int .u16 0, .bool false, .bool false, .int .i64 0, .int .u8 64, .int .u8 1, .int .u32 (src : Int), .int .u32 (dst : Int), .slice none 0 0]), (1, .slice (some ⟨g, 0, none⟩) k k)] (.agg (pkCells (mdH tos src dst) (.slice none 0 0) (.slice (some ⟨g, 0, none⟩) k k))) rfl (by simp only [List.map_toArray, List.map_cons, List.map_nil, e0, e2]) (build_md _ _ _ _ _ _ u))
        ⟨_, rfl, ⟨g, k, rfl, hs, hg⟩, hb, Below.refl _ _⟩
  intro vs u hb hF
  have e0 : vs 0 = .agg hc := hF 0 (by decide)
  have e1 : vs 1 = .agg ct := hF 1 (by decide)
  obtain ⟨g, k, e3, hs, hg⟩ := hF 3 (by decide)
  obtain ⟨zz, hzz⟩ : ∃ zz : Array Value, zz = pkCells (mdH tos src dst) (.slice none 0 0) (.slice (some ⟨g, 0, none⟩) k k) := ⟨_, rfl⟩
  have e3 : vs 3 = .agg zz := e3.trans (by rw [hzz])
  generalize vs 2 = v2
  simp only [List.drop_succ_cons, List.drop_zero, puts, List.range, List.range.loop, List.foldr, if_true, Act.put, e0, e1, e3, Nat.reduceAdd, List.setIfInBounds_toArray, List.set_cons_succ, List.set_cons_zero]
  clear e0 e1 e3 hF
  have HZ := hid hzz
  have HONE : Hid (zz.all (·.oneCell') = true) := by unfold Hid; rw [hzz]; exact pk_one _ (sees_nil u) hs
  have HINF : Hid ((Tryd.prog.info? 35).map (·.size) = some zz.size) := by unfold Hid; rw [hzz]; exact size_pk
  have HTU : Hid (u.there (w.heap.size + 2) 0 zz.size) := by unfold Hid; rw [hzz]; exact HTH.out u hb
  obtain ⟨q1, q2⟩ := res_end (w := w) HTU.out (by omega) (HB2.out.trans (hb.mono HB2.out.size)) Tryd.underlying35 HINF.out
  have HLV := hid q1
  have HBF := hid q2
  have HSF := hid (sees_setI (b := w.heap.size + 2) (vs := zz.toList) hs (fun a ha => by cases ha; show g ≠ w.heap.size + 2; have := HS2.out; omega))
  clear q1 q2 hzz hs
  go_wp2_with (first
    | (refine wpList_store_mid rfl 35 (.tmp 4) (.tmp 10) rfl (w.heap.size + 2) 0 zz rfl rfl HTU.out HINF.out HONE.out ?_)
    | fail)
  generalize u.setCells (w.heap.size + 2) 0 zz.toList = wf at HLV HBF HSF ⊢
  refine bodyPost_ret (v := .agg zz) (by simp [results, Tryd.results44, asAddr, HLV.out]) rfl ?_
  exact ⟨g, k, by rw [HZ.out], HSF.out, by have := HS2.out; omega, HBF.out⟩

/-- The error of the message that a packet carries. -/
def msgE (h : Hd) (B : List Nat) : Int := if refE h B.length ≠ 0 then refE h B.length else if h.proto ≠ 1 ∨ 0 < h.off ∨ h.mf = true then 60 else Im.prE B
def msgC (h : Hd) (B : List Nat) : Im.Ct := if msgE h B = 0 then Im.prC B else Im.none0

theorem msg_bad {h : Hd} {B : List Nat} {e : Int} (hr : refE h B.length = e) (he : e ≠ 0) : msgE h B = e ∧ msgC h B = Im.none0 := by
  have h1 : msgE h B = e := by unfold msgE; rw [if_pos (by rw [hr]; exact he), hr]
  exact ⟨h1, by unfold msgC; rw [if_neg (by rw [h1]; exact he)]⟩

theorem msg_60 {h : Hd} {B : List Nat} (hr : refE h B.length = 0) (hc : h.proto ≠ 1 ∨ 0 < h.off ∨ h.mf = true) : msgE h B = 60 ∧ msgC h B = Im.none0 := by
  have h1 : msgE h B = 60 := by unfold msgE; rw [if_neg (by rw [hr]; simp), if_pos hc]
  exact ⟨h1, by unfold msgC; rw [if_neg (by rw [h1]; decide)]⟩

theorem msg_pr {h : Hd} {B : List Nat} (hr : refE h B.length = 0) (hc : ¬ (h.proto ≠ 1 ∨ 0 < h.off ∨ h.mf = true)) : msgE h B = Im.prE B ∧ msgC h B = Im.prC B := by
  have h1 : msgE h B = Im.prE B := by unfold msgE; rw [if_neg (by rw [hr]; simp), if_neg hc]
  refine ⟨h1, ?_⟩
  unfold msgC
  rw [h1]
  split
  · rfl
  · rename_i h2; unfold Im.prC; rw [if_neg h2]

theorem message_any (h : Hd) (vo vb : Value) (B : List Nat) (w : World) (hok : h.Ok) (hvo : SeesB w vo h.opts) (hvb : SeesB w vb B) (hlo : h.opts.length ≤ 140737488355328) (hlb : B.length ≤ 140737488355328) :
    Calls Tryd.prog 45 #[.agg (pkCells h vo vb)] w fun e w' => ∃ ao n cap, e = .returned (.tuple #[.agg (ctCells (msgC h B) (.slice ao n cap)), .int .i64 (msgE h B)]) ∧ SeesB w' (.slice ao n cap) (msgC h B).B ∧ (∀ a, ao = some a → w.heap.size ≤ a.block) ∧ Below w.heap.size w w' := by
  obtain ⟨wa, hwa⟩ : ∃ wa, wa = w.alloc (.cells (pkCells h vo vb) 35) := ⟨_, rfl⟩
  obtain ⟨w1, hw1⟩ : ∃ w1, w1 = wa.alloc (.cells zeroC 29) := ⟨_, rfl⟩
  have hsa : wa.heap.size = w.heap.size + 1 := by rw [hwa]; simp
  have hs1 : w1.heap.size = w.heap.size + 2 := by rw [hw1]; simp [hsa]
  have hba : Below w.heap.size w wa := by rw [hwa]; exact (Below.refl _ _).alloc (Nat.le_refl _) _
  have hbb : Below wa.heap.size wa w1 := by rw [hw1]; exact (Below.refl _ _).alloc (Nat.le_refl _) _
  have hb1 : Below w.heap.size w w1 := hba.trans (hbb.mono (by omega))
  have k0 : w1.heap[w.heap.size]? = some (.cells (pkCells h vo vb) 35 (0, 0)) := by
    rw [hbb.block _ (by omega), hwa]; exact heap_alloc_new w _
  have k1 : w1.heap[w.heap.size + 1]? = some (.cells zeroC 29 (0, 0)) := by
    rw [← hsa, hw1]; exact heap_alloc_new wa _
  have HLD := hid (pk_load k0)
  have HBD := hid (build_code h vo vb B w1 hok (hvo.below hb1) (hvb.below hb1) hlo hlb)
  obtain ⟨ab, nb, capb, rfl, HNB, hnb1, hnb2⟩ := hvb.shape
  have HC : Hid (∀ u, Below w1.heap.size w1 u → u.cell? ⟨w.heap.size, 3, none⟩ = some (.bool h.mf) ∧ u.cell? ⟨w.heap.size, 4, none⟩ = some (.int .i64 h.off) ∧ u.cell? ⟨w.heap.size, 6, none⟩ = some (.int .u8 (h.proto : Int)) ∧ u.cell? ⟨w.heap.size, 10, none⟩ = some (.slice ab nb capb)) := fun u hu => by
    have hk := (hu.block w.heap.size (by omega)).trans k0
    exact ⟨pk_at hk 3 (by omega), pk_at hk 4 (by omega), pk_at hk 6 (by omega), pk_at hk 10 (by omega)⟩
  have HTH : Hid (∀ u, Below w1.heap.size w1 u → u.there (w.heap.size + 1) 0 4) := fun u hu => there_blk (C := zeroC) (t := 29) ((hu.block _ (by omega)).trans k1) rfl
  have HPR : Hid (∀ u, Below w1.heap.size w1 u → Calls Tryd.prog 15 #[.slice ab nb capb] u fun e w' => ∃ ao n cap, e = .returned (.tuple #[.agg (ctCells (Im.prC B) (.slice ao n cap)), .int .i64 (Im.prE B)]) ∧ SeesB w' (.slice ao n cap) (Im.prC B).B ∧ (∀ a, ao = some a → u.heap.size ≤ a.block) ∧ Below u.heap.size u w') := fun u hu => iparse_any _ B u (hvb.below (hb1.trans (hu.mono hb1.size)))
  have HW1 : Hid (w1 = (w.alloc (.cells (pkCells h vo (.slice ab nb capb)) 35)).alloc (.cells #[.int .u8 0, .int .u8 0, .int .u32 0, .slice none 0 0] 29)) := by unfold Hid; rw [hw1, hwa]; rfl
  have HB1 := hid hb1
  have HS1 := hid hs1
  have HBW : Hid (∀ u, Below w1.heap.size w1 u → Below w.heap.size w u) := fun u hu => hb1.trans (hu.mono hb1.size)
  have HM0 := fun (e : Int) => @msg_bad h B e
  have HM1 := @msg_60 h B
  have HM2 := @msg_pr h B
  have HM := hid (And.intro HM0 (And.intro HM1 HM2))
  clear HM0 HM1 HM2 hwa hw1 hsa hs1 hba hbb hb1 k0 k1 hvb hvo hok hlo hlb
  generalize msgE h B = ME at *
  generalize msgC h B = MC at *
  generalize refE h B.length = q at *
  generalize pkCells h vo (.slice ab nb capb) = pk at *
  generalize h.mf = mf at *
  generalize h.off = off at *
  generalize h.proto = pr at *
  obtain ⟨zz, hzz⟩ : ∃ zz : Array Value, zz = zeroC := ⟨_, rfl⟩
  have HZ : Hid (zz = #[.int .u8 0, .int .u8 0, .int .u32 0, .slice none 0 0]) := hzz
  have HONE : Hid (zz.all (·.oneCell') = true) := by unfold Hid; rw [hzz]; simp [zeroC, Value.oneCell']
  have HINF : Hid ((Tryd.prog.info? 29).map (·.size) = some zz.size) := by unfold Hid; rw [hzz]; exact size_ct
  have HZC : Hid (zz = ctCells Im.none0 (.slice none 0 0)) := hzz
  have HZS : Hid (zz.size = 4) := by unfold Hid; rw [hzz]; rfl
  clear hzz
  by_cases hq : q = 0
  · subst hq
    by_cases hp : pr = 1
    · subst hp
      by_cases ho : 0 < off
      · have HE := hid (HM.out.2.1 rfl (.inr (.inl ho)))
        clear HM
        go_enter Tryd.func45, Tryd.ntmps45
        go_upto_region 1 with fail
        rw [← HW1.out]
        go_wp2_with (first | (refine wpList_ld 35 ⟨w.heap.size, 0, none⟩ _ rfl rfl HLD.out rfl ?_) | fail)
        refine HBD.out.mono ?_
        rintro _ w2 ⟨a2, n2, c2, rfl, _, hb2⟩
        obtain ⟨e3, e4, e6, e10⟩ := HC.out _ hb2
        have HTU : Hid (w2.there (w.heap.size + 1) 0 zz.size) := by unfold Hid; rw [HZS.out]; exact HTH.out _ hb2
        obtain ⟨q1, q2⟩ := res_end (w := w) HTU.out (by omega) (HBW.out _ hb2) Tryd.underlying29 HINF.out
        have HLV := hid q1
        have HBF := hid q2
        clear q1 q2
        go_wp2_with (first
          | (refine wpList_store_mid rfl 29 (.tmp 2) (.tmp 30) rfl (w.heap.size + 1) 0 zz rfl (by rw [HZ.out]; rfl) HTU.out HINF.out HONE.out ?_)
          | fail)
        generalize w2.setCells (w.heap.size + 1) 0 zz.toList = wf at HLV HBF ⊢
        refine bodyPost_ret (v := .tuple #[.agg zz, .int .i64 60]) (by simp [results, Tryd.results45, asAddr, HLV.out]) rfl ?_
        rw [HE.out.1, HE.out.2]
        exact ⟨none, 0, 0, by rw [HZC.out], sees_nil _, (fun a ha => by cases ha), HBF.out⟩
      · cases mf with
        | true =>
          have HE := hid (HM.out.2.1 rfl (.inr (.inr rfl)))
          clear HM
          go_enter Tryd.func45, Tryd.ntmps45
          go_upto_region 1 with fail
          rw [← HW1.out]
          go_wp2_with (first | (refine wpList_ld 35 ⟨w.heap.size, 0, none⟩ _ rfl rfl HLD.out rfl ?_) | fail)
          refine HBD.out.mono ?_
          rintro _ w2 ⟨a2, n2, c2, rfl, _, hb2⟩
          obtain ⟨e3, e4, e6, e10⟩ := HC.out _ hb2
          have HTU : Hid (w2.there (w.heap.size + 1) 0 zz.size) := by unfold Hid; rw [HZS.out]; exact HTH.out _ hb2
          obtain ⟨q1, q2⟩ := res_end (w := w) HTU.out (by omega) (HBW.out _ hb2) Tryd.underlying29 HINF.out
          have HLV := hid q1
          have HBF := hid q2
          clear q1 q2
          go_wp2_with (first
            | (refine wpList_store_mid rfl 29 (.tmp 2) (.tmp 30) rfl (w.heap.size + 1) 0 zz rfl (by rw [HZ.out]; rfl) HTU.out HINF.out HONE.out ?_)
            | fail)
          generalize w2.setCells (w.heap.size + 1) 0 zz.toList = wf at HLV HBF ⊢
          refine bodyPost_ret (v := .tuple #[.agg zz, .int .i64 60]) (by simp [results, Tryd.results45, asAddr, HLV.out]) rfl ?_
          rw [HE.out.1, HE.out.2]
          exact ⟨none, 0, 0, by rw [HZC.out], sees_nil _, (fun a ha => by cases ha), HBF.out⟩
        | false =>
          have HE := hid (HM.out.2.2 rfl (by simp; omega))
          clear HM
          go_enter Tryd.func45, Tryd.ntmps45
          go_upto_region 1 with fail
          rw [← HW1.out]
          go_wp2_with (first | (refine wpList_ld 35 ⟨w.heap.size, 0, none⟩ _ rfl rfl HLD.out rfl ?_) | fail)
          refine HBD.out.mono ?_
          rintro _ w2 ⟨a2, n2, c2, rfl, _, hb2⟩
          obtain ⟨e3, e4, e6, e10⟩ := HC.out _ hb2
          go_wp2_with fail
          refine (HPR.out _ hb2).mono ?_
          rintro _ w3 ⟨a3, n3, c3, rfl, hs3, hn3, hb3⟩
          obtain ⟨yy, hyy⟩ : ∃ yy : Array Value, yy = ctCells (Im.prC B) (.slice a3 n3 c3) := ⟨_, rfl⟩
          have HYC := hid hyy
          have HOY : Hid (yy.all (·.oneCell') = true) := by
            unfold Hid; rw [hyy]; simp [ctCells, Value.oneCell']
          have HIY : Hid ((Tryd.prog.info? 29).map (·.size) = some yy.size) := by unfold Hid; rw [hyy]; exact size_ct
          have hb13 := hb2.trans (hb3.mono hb2.size)
          have HTU : Hid (w3.there (w.heap.size + 1) 0 yy.size) := by unfold Hid; rw [hyy]; exact HTH.out _ hb13
          obtain ⟨q1, q2⟩ := res_end (w := w) HTU.out (by omega) (HBW.out _ hb13) Tryd.underlying29 HIY.out
          have HLV := hid q1
          have HBF := hid q2
          have HNW : Hid (∀ a, a3 = some a → w.heap.size + 2 ≤ a.block) := fun a ha => by have := hn3 a ha; have := hb2.size; have := HS1.out; omega
          have HSF := hid (sees_setI (b := w.heap.size + 1) (vs := yy.toList) hs3 (fun a ha => by have := HNW.out a ha; omega))
          rw [← hyy]
          clear q1 q2 hyy hs3 hn3 hb13
          go_wp2_with (first
            | (refine wpList_store_mid rfl 29 (.tmp 2) (.tmp 34) rfl (w.heap.size + 1) 0 yy rfl rfl HTU.out HIY.out HOY.out ?_)
            | fail)
          generalize w3.setCells (w.heap.size + 1) 0 yy.toList = wf at HLV HBF HSF ⊢
          refine bodyPost_ret (v := .tuple #[.agg yy, .int .i64 (Im.prE B)]) (by simp [results, Tryd.results45, asAddr, HLV.out]) rfl ?_
          rw [HE.out.1, HE.out.2]
          exact ⟨_, _, _, by rw [HYC.out], HSF.out, (fun a ha => by have := HNW.out a ha; omega), HBF.out⟩
    · have HE := hid (HM.out.2.1 rfl (.inl hp))
      have q1 : ((pr : Int) != 1) = true := by simp; omega
      clear HM
      go_enter Tryd.func45, Tryd.ntmps45
      go_upto_region 1 with fail
      rw [← HW1.out]
      go_wp2_with (first | (refine wpList_ld 35 ⟨w.heap.size, 0, none⟩ _ rfl rfl HLD.out rfl ?_) | fail)
      refine HBD.out.mono ?_
      rintro _ w2 ⟨a2, n2, c2, rfl, _, hb2⟩
      obtain ⟨e3, e4, e6, e10⟩ := HC.out _ hb2
      have HTU : Hid (w2.there (w.heap.size + 1) 0 zz.size) := by unfold Hid; rw [HZS.out]; exact HTH.out _ hb2
      obtain ⟨q1, q2⟩ := res_end (w := w) HTU.out (by omega) (HBW.out _ hb2) Tryd.underlying29 HINF.out
      have HLV := hid q1
      have HBF := hid q2
      clear q1 q2
      go_wp2_with (first
        | (refine wpList_store_mid rfl 29 (.tmp 2) (.tmp 30) rfl (w.heap.size + 1) 0 zz rfl (by rw [HZ.out]; rfl) HTU.out HINF.out HONE.out ?_)
        | fail)
      generalize w2.setCells (w.heap.size + 1) 0 zz.toList = wf at HLV HBF ⊢
      refine bodyPost_ret (v := .tuple #[.agg zz, .int .i64 60]) (by simp [results, Tryd.results45, asAddr, HLV.out]) rfl ?_
      rw [HE.out.1, HE.out.2]
      exact ⟨none, 0, 0, by rw [HZC.out], sees_nil _, (fun a ha => by cases ha), HBF.out⟩
  · have HE := hid (HM.out.1 q rfl hq)
    have hqq : (q != 0) = true := by simp [hq]
    clear HM
    go_enter Tryd.func45, Tryd.ntmps45
    go_upto_region 1 with fail
    rw [← HW1.out]
    go_wp2_with (first | (refine wpList_ld 35 ⟨w.heap.size, 0, none⟩ _ rfl rfl HLD.out rfl ?_) | fail)
    refine HBD.out.mono ?_
    rintro _ w2 ⟨a2, n2, c2, rfl, _, hb2⟩
    obtain ⟨e3, e4, e6, e10⟩ := HC.out _ hb2
    have HTU : Hid (w2.there (w.heap.size + 1) 0 zz.size) := by unfold Hid; rw [HZS.out]; exact HTH.out _ hb2
    obtain ⟨q1, q2⟩ := res_end (w := w) HTU.out (by omega) (HBW.out _ hb2) Tryd.underlying29 HINF.out
    have HLV := hid q1
    have HBF := hid q2
    clear q1 q2
    go_wp2_with (first
      | (refine wpList_store_mid rfl 29 (.tmp 2) (.tmp 13) rfl (w.heap.size + 1) 0 zz rfl (by rw [HZ.out]; rfl) HTU.out HINF.out HONE.out ?_)
      | fail)
    generalize w2.setCells (w.heap.size + 1) 0 zz.toList = wf at HLV HBF ⊢
    refine bodyPost_ret (v := .tuple #[.agg zz, .int .i64 q]) (by simp [results, Tryd.results45, asAddr, HLV.out]) rfl ?_
    rw [HE.out.1, HE.out.2]
    exact ⟨none, 0, 0, by rw [HZC.out], sees_nil _, (fun a ha => by cases ha), HBF.out⟩
end Go.Proofs.YtcboenmmkaochabDoor.N

namespace Go.Proofs.YtcboenmmkaochabDoor.N
open Go.ChangeShapes Go.WideShapes Go.ChangeAt Go.RowKit
set_option maxHeartbeats 1000000
set_option maxRecDepth 100000

theorem read_false (v : Value) (L : List Nat) (w : World) (hv : SeesB w v L) (hl : L.length ≤ 140737488355328) :
    Calls Tryd.prog 49 #[v] w fun e w' => ∃ vo vb, e = .returned (.tuple #[.agg (hdCells (readL L false).1 vo), vb, .int .i64 (readL L false).2.2]) ∧ SeesB w' vo (readL L false).1.opts ∧ SeesB w' vb (readL L false).2.1 ∧ (∀ a n c, vo = .slice (some a) n c → w.heap.size ≤ a.block) ∧ (∀ a n c, vb = .slice (some a) n c → w.heap.size ≤ a.block) ∧ Below w.heap.size w w' := by
  by_cases he : (exam L false).2.2 = 0
  · have hp : readL L false = (rdH (L.take (exam L false).2.1) (exam L false).1, (L.take (exam L false).2.1).drop (exam L false).1, 0) := by unfold readL; rw [if_pos he]
    rw [hp]
    exact peek_good v L w hv hl he
  · have hp : readL L false = (zeroH, [], (exam L false).2.2) := by unfold readL; rw [if_neg he]
    rw [hp]
    refine (peek_bad v L w hv hl he).mono ?_
    rintro e w' ⟨rfl, hb⟩
    exact ⟨.slice none 0 0, .slice none 0 0, rfl, sees_nil _, sees_nil _, (fun _ _ _ h => by cases h), (fun _ _ _ h => by cases h), hb⟩

set_option maxHeartbeats 2000000 in
theorem peek_ref (v : Value) (L : List Nat) (w : World) (hv : SeesB w v L) (hl : L.length ≤ 140737488355328) :
    Calls Tryd.prog 51 #[v] w fun e w' => ∃ vo vb, e = .returned (.tuple #[.agg (hdCells (readL L false).1 vo), vb, .int .i64 (readL L false).2.2]) ∧ SeesB w' vo (readL L false).1.opts ∧ SeesB w' vb (readL L false).2.1 ∧ (∀ a n c, vo = .slice (some a) n c → w.heap.size ≤ a.block) ∧ (∀ a n c, vb = .slice (some a) n c → w.heap.size ≤ a.block) ∧ Below w.heap.size w w' := by
  obtain ⟨w1, hw1⟩ : ∃ w1, w1 = w.alloc (.cells Z27c 33) := ⟨_, rfl⟩
  have hb1 : Below w.heap.size w w1 := by rw [hw1]; exact (Below.refl _ _).alloc (Nat.le_refl _) _
  have hs1 : w1.heap.size = w.heap.size + 1 := by rw [hw1]; simp
  have HRD := hid (read_any v L false w1 (hv.below hb1) hl)
  have HTH : Hid (∀ u, Below w1.heap.size w1 u → u.heap[w.heap.size]? = some (.cells (hdCells zeroH (.slice none 0 0)) 33)) := fun u hu => by
    rw [hu.block _ (by omega), hw1]
    exact heap_alloc_new w _
  have HW1 : Hid (w1 = w.alloc (.cells #[.int .u8 0, .int .u16 0, .bool false, .bool false, .int .i64 0, .int .u8 0, .int .u8 0, .int .u32 0, .int .u32 0, .slice none 0 0] 33)) := hw1
  have HB1 := hid hb1
  have HS1 := hid hs1
  obtain ⟨ao, n, cap, rfl, _, _, _⟩ := hv.shape
  clear hw1 hb1 hs1 hv
  generalize readL L false = t at *
  obtain ⟨h, B, z⟩ := t
  simp only at *
  go_enter Tryd.func51, Tryd.ntmps51
  go_upto_region 1 with fail
  rw [← HW1.out]
  go_wp2_with fail
  refine HRD.out.mono ?_
  rintro _ w2 ⟨vo, vb, rfl, hso, hsb, hko, hkb, hb2⟩
  obtain ⟨a1, n1, c1, rfl, _, _, _⟩ := hso.shape
  obtain ⟨a2, n2, c2, rfl, _, _, _⟩ := hsb.shape
  obtain ⟨tos, id, df, mf, off, ttl, proto, src, dst, opts⟩ := h
  obtain ⟨pa, hpa⟩ : ∃ pa : Array Value, pa = pkCells ⟨tos, id, df, mf, off, ttl, proto, src, dst, opts⟩ (.slice a1 n1 c1) (.slice a2 n2 c2) := ⟨_, rfl⟩
  have HPA := hid hpa
  have hpz : pa.size = Z29.size := by rw [hpa]; rfl
  have HZA : Hid ((Tryd.prog.info? 35).map (·.size) = some pa.size) := by unfold Hid; rw [hpa]; exact size29'
  have HOA : Hid (pa.all (·.oneCell') = true) := by unfold Hid; rw [hpa]; simp [pkCells, Value.oneCell']
  have HTA := hid (new_there (u := w2) (T := 35) hpz)
  have HNW := new_put (u := w2) (T := 35) hpz
  obtain ⟨w4, hw4⟩ : ∃ w4, w4 = (w2.alloc (.cells Z29 35)).setCells w2.heap.size 0 pa.toList := ⟨_, rfl⟩
  rw [← hw4] at HNW
  have HW4 : Hid (w4 = (w2.alloc (.cells #[.int .u8 0, .int .u16 0, .bool false, .bool false, .int .i64 0, .int .u8 0, .int .u8 0, .int .u32 0, .int .u32 0, .slice none 0 0, .slice none 0 0] 35)).setCells w2.heap.size 0 pa.toList) := hw4
  have hb4 : Below w1.heap.size w1 w4 := hb2.trans (HNW.below.mono hb2.size)
  have hrow := HTH.out _ hb4
  obtain ⟨z0, z1, z2, z3, z4, z5, z6, z7, z8, z9⟩ := hd_at hrow
  have hfz : ∀ j, w4.frozen? ⟨w.heap.size, j, none⟩ = false := fun j => frozen_of_row _ _ _ _ _ hrow
  have hr : ∀ (j : Nat) (v : Value), pa[j]? = some v → w4.cell? ⟨w2.heap.size, j, none⟩ = some v := fun j v hv => by
    have := HNW.range j v (by rw [Array.getElem?_toList]; exact hv)
    rwa [Nat.zero_add] at this
  rw [hpa] at hr
  have r0 : w4.cell? ⟨w2.heap.size, 0, none⟩ = some (.int .u8 (tos : Int)) := hr 0 _ rfl
  have r1 : w4.cell? ⟨w2.heap.size, 1, none⟩ = some (.int .u16 (id : Int)) := hr 1 _ rfl
  have r2 : w4.cell? ⟨w2.heap.size, 2, none⟩ = some (.bool df) := hr 2 _ rfl
  have r3 : w4.cell? ⟨w2.heap.size, 3, none⟩ = some (.bool mf) := hr 3 _ rfl
  have r4 : w4.cell? ⟨w2.heap.size, 4, none⟩ = some (.int .i64 off) := hr 4 _ rfl
  have r5 : w4.cell? ⟨w2.heap.size, 5, none⟩ = some (.int .u8 (ttl : Int)) := hr 5 _ rfl
  have r6 : w4.cell? ⟨w2.heap.size, 6, none⟩ = some (.int .u8 (proto : Int)) := hr 6 _ rfl
  have r7 : w4.cell? ⟨w2.heap.size, 7, none⟩ = some (.int .u32 (src : Int)) := hr 7 _ rfl
  have r8 : w4.cell? ⟨w2.heap.size, 8, none⟩ = some (.int .u32 (dst : Int)) := hr 8 _ rfl
  have r9 : w4.cell? ⟨w2.heap.size, 9, none⟩ = some (.slice a1 n1 c1) := hr 9 _ rfl
  have r10 : w4.cell? ⟨w2.heap.size, 10, none⟩ = some (.slice a2 n2 c2) := hr 10 _ rfl
  simp only [zeroH] at z0 z1 z2 z3 z4 z5 z6 z7 z8 z9
  have hlt2 : w.heap.size < w2.heap.size := by have := hb2.size; have := HS1.out; omega
  have hne : ¬ w2.heap.size = w.heap.size := by omega
  have hne' : ¬ w.heap.size = w2.heap.size := by omega
  obtain ⟨fs, hu27⟩ := und27
  have hthc : w4.there w.heap.size 0 10 := there_blk hrow rfl
  have HLV : Hid ((loadVar 33 ⟨w.heap.size, 0, none⟩).run Tryd.prog (w4.setCells w.heap.size 0 [.int .u8 (tos : Int), .int .u16 (id : Int), .bool df, .bool mf, .int .i64 off, .int .u8 (ttl : Int), .int .u8 (proto : Int), .int .u32 (src : Int), .int .u32 (dst : Int), .slice a1 n1 c1]).drew = .ok (.agg #[.int .u8 (tos : Int), .int .u16 (id : Int), .bool df, .bool mf, .int .i64 off, .int .u8 (ttl : Int), .int .u8 (proto : Int), .int .u32 (src : Int), .int .u32 (dst : Int), .slice a1 n1 c1]) (w4.setCells w.heap.size 0 [.int .u8 (tos : Int), .int .u16 (id : Int), .bool df, .bool mf, .int .i64 off, .int .u8 (ttl : Int), .int .u8 (proto : Int), .int .u32 (src : Int), .int .u32 (dst : Int), .slice a1 n1 c1]).drew) :=
    run_loadVar_mid _ w.heap.size 0 33 [.int .u8 (tos : Int), .int .u16 (id : Int), .bool df, .bool mf, .int .i64 off, .int .u8 (ttl : Int), .int .u8 (proto : Int), .int .u32 (src : Int), .int .u32 (dst : Int), .slice a1 n1 c1] (.struct fs) ((World.rangeAt_drew _ _ _ _).2 (World.rangeAt_setCells_same w4 w.heap.size 0 _ hthc)) hu27 rfl size27
  have HBF : Hid (Below w.heap.size w (w4.setCells w.heap.size 0 [.int .u8 (tos : Int), .int .u16 (id : Int), .bool df, .bool mf, .int .i64 off, .int .u8 (ttl : Int), .int .u8 (proto : Int), .int .u32 (src : Int), .int .u32 (dst : Int), .slice a1 n1 c1]).drew) := below_drew (below_setCells' (Nat.le_refl _) _ _ _ (HB1.out.trans (hb4.mono HB1.out.size)))
  have HSO : Hid (SeesB (w4.setCells w.heap.size 0 [.int .u8 (tos : Int), .int .u16 (id : Int), .bool df, .bool mf, .int .i64 off, .int .u8 (ttl : Int), .int .u8 (proto : Int), .int .u32 (src : Int), .int .u32 (dst : Int), .slice a1 n1 c1]).drew (.slice a1 n1 c1) opts) := sees_set (hso.below HNW.below) (fun a ha => by have := hko a n1 c1 (by rw [ha]); have := HS1.out; omega)
  have HSB : Hid (SeesB (w4.setCells w.heap.size 0 [.int .u8 (tos : Int), .int .u16 (id : Int), .bool df, .bool mf, .int .i64 off, .int .u8 (ttl : Int), .int .u8 (proto : Int), .int .u32 (src : Int), .int .u32 (dst : Int), .slice a1 n1 c1]).drew (.slice a2 n2 c2) B) := sees_set (hsb.below HNW.below) (fun a ha => by have := hkb a n2 c2 (by rw [ha]); have := HS1.out; omega)
  have HKO : Hid (∀ a n c, (Value.slice a1 n1 c1) = .slice (some a) n c → w.heap.size ≤ a.block) := fun a n c e => by have := hko a n c e; have := HS1.out; omega
  have HKB : Hid (∀ a n c, (Value.slice a2 n2 c2) = .slice (some a) n c → w.heap.size ≤ a.block) := fun a n c e => by have := hkb a n c e; have := HS1.out; omega
  rw [← hpa]
  clear hpa hpz hw4 hb2 hb4 hso hsb hko hkb HRD HTH HNW hrow hr hu27 hthc hlt2
  go_upto_region 2 with (first
    | (refine wpList_store_mid rfl 35 (.tmp 5) (.tmp 10) rfl w2.heap.size 0 pa rfl rfl HTA.out HZA.out HOA.out ?_)
    | fail)
  rw [← HW4.out]
  go_region_held3 (fun w' => w'.cell? ⟨w2.heap.size, 0, none⟩ = some (.int .u8 (tos : Int)) ∧ w'.cell? ⟨w2.heap.size, 1, none⟩ = some (.int .u16 (id : Int)) ∧ w'.cell? ⟨w2.heap.size, 2, none⟩ = some (.bool df) ∧ w'.cell? ⟨w2.heap.size, 3, none⟩ = some (.bool mf) ∧ w'.cell? ⟨w2.heap.size, 4, none⟩ = some (.int .i64 off) ∧ w'.cell? ⟨w2.heap.size, 5, none⟩ = some (.int .u8 (ttl : Int)) ∧ w'.cell? ⟨w2.heap.size, 6, none⟩ = some (.int .u8 (proto : Int)) ∧ w'.cell? ⟨w2.heap.size, 7, none⟩ = some (.int .u32 (src : Int)) ∧ w'.cell? ⟨w2.heap.size, 8, none⟩ = some (.int .u32 (dst : Int)) ∧ w'.cell? ⟨w2.heap.size, 9, none⟩ = some (.slice a1 n1 c1) ∧ w'.cell? ⟨w2.heap.size, 10, none⟩ = some (.slice a2 n2 c2)) (go_keep) (fail)
  go_wp2_with fail
  show bodyPost Tryd.prog Tryd.f51 _ Exit.ret _ (World.setCells w4 w.heap.size 0 [.int .u8 (tos : Int), .int .u16 (id : Int), .bool df, .bool mf, .int .i64 off, .int .u8 (ttl : Int), .int .u8 (proto : Int), .int .u32 (src : Int), .int .u32 (dst : Int), .slice a1 n1 c1]).drew
  generalize (World.setCells w4 w.heap.size 0 [.int .u8 (tos : Int), .int .u16 (id : Int), .bool df, .bool mf, .int .i64 off, .int .u8 (ttl : Int), .int .u8 (proto : Int), .int .u32 (src : Int), .int .u32 (dst : Int), .slice a1 n1 c1]).drew = wf at HLV HBF HSO HSB ⊢
  refine bodyPost_ret (v := .tuple #[.agg #[.int .u8 (tos : Int), .int .u16 (id : Int), .bool df, .bool mf, .int .i64 off, .int .u8 (ttl : Int), .int .u8 (proto : Int), .int .u32 (src : Int), .int .u32 (dst : Int), .slice a1 n1 c1], .slice a2 n2 c2, .int .i64 z]) (by simp [results, Tryd.results51, asAddr, HLV.out]) rfl ?_
  exact ⟨.slice a1 n1 c1, .slice a2 n2 c2, rfl, HSO.out, HSB.out, HKO.out, HKB.out, HBF.out⟩
end Go.Proofs.YtcboenmmkaochabDoor.N

namespace Go.Proofs.YtcboenmmkaochabDoor.N
open Go.ChangeShapes Go.WideShapes Go.ChangeAt Go.RowKit
set_option maxHeartbeats 2000000
set_option maxRecDepth 100000

/-- What a fault speaks of: header, bytes, error. -/
def abt (h : Hd) (B : List Nat) : Hd × List Nat × Int :=
  if msgE h B ≠ 0 then (zeroH, [], msgE h B) else if kF (msgC h B).t then readL (msgC h B).B false else (zeroH, [], 62)

theorem size_hd : (Tryd.prog.info? 33).map (·.size) = some 10 := by kernel_rfl
def zeroHC : Array Value := #[.int .u8 0, .int .u16 0, .bool false, .bool false, .int .i64 0, .int .u8 0, .int .u8 0, .int .u32 0, .int .u32 0, .slice none 0 0]

theorem msgC_ok {h : Hd} {B : List Nat} (hb : ∀ x ∈ B, x < 256) : (msgC h B).Ok ∧ (∀ x ∈ (msgC h B).B, x < 256) ∧ (msgC h B).B.length ≤ 65507 := by
  unfold msgC
  split
  · exact ⟨Im.prC_ok hb, Im.prC_bytes hb, Im.prC_len B⟩
  · exact ⟨Im.none_ok, fun x hx => by (cases hx), by simp [Im.none0]⟩

theorem about_any (h : Hd) (vo vb : Value) (B : List Nat) (w : World) (hok : h.Ok) (hvo : SeesB w vo h.opts) (hvb : SeesB w vb B) (hlo : h.opts.length ≤ 140737488355328) (hlb : B.length ≤ 140737488355328) (htK : TabK w) :
    Calls Tryd.prog 25 #[.agg (pkCells h vo vb)] w fun e w' => ∃ a1 n1 c1 a2 n2 c2, e = .returned (.tuple #[.agg (hdCells (abt h B).1 (.slice a1 n1 c1)), .slice a2 n2 c2, .int .i64 (abt h B).2.2]) ∧ SeesB w' (.slice a1 n1 c1) (abt h B).1.opts ∧ SeesB w' (.slice a2 n2 c2) (abt h B).2.1 ∧ Below w.heap.size w w' := by
  obtain ⟨wa, hwa⟩ : ∃ wa, wa = w.alloc (.cells (pkCells h vo vb) 35) := ⟨_, rfl⟩
  obtain ⟨w1, hw1⟩ : ∃ w1, w1 = wa.alloc (.cells zeroHC 33) := ⟨_, rfl⟩
  have hsa : wa.heap.size = w.heap.size + 1 := by rw [hwa]; simp
  have hs1 : w1.heap.size = w.heap.size + 2 := by rw [hw1]; simp [hsa]
  have hba : Below w.heap.size w wa := by rw [hwa]; exact (Below.refl _ _).alloc (Nat.le_refl _) _
  have hbb : Below wa.heap.size wa w1 := by rw [hw1]; exact (Below.refl _ _).alloc (Nat.le_refl _) _
  have hb1 : Below w.heap.size w w1 := hba.trans (hbb.mono (by omega))
  have k0 : w1.heap[w.heap.size]? = some (.cells (pkCells h vo vb) 35 (0, 0)) := by
    rw [hbb.block _ (by omega), hwa]; exact heap_alloc_new w _
  have k1 : w1.heap[w.heap.size + 1]? = some (.cells zeroHC 33 (0, 0)) := by
    rw [← hsa, hw1]; exact heap_alloc_new wa _
  have HLD := hid (pk_load k0)
  have HMS := hid (message_any h vo vb B w1 hok (hvo.below hb1) (hvb.below hb1) hlo hlb)
  obtain ⟨hC1, hC2, hC3⟩ := msgC_ok (h := h) hvb.bytes
  have HTH : Hid (∀ u, Below w1.heap.size w1 u → u.there (w.heap.size + 1) 0 10) := fun u hu => there_blk (C := zeroHC) (t := 33) ((hu.block _ (by omega)).trans k1) rfl
  have HFL : Hid (∀ u, Below w1.heap.size w1 u → Calls Tryd.prog 48 #[.int .u8 ((msgC h B).t : Int)] u fun e w' => e = .returned (.bool (kF (msgC h B).t)) ∧ Below u.heap.size u w') := fun u hu => isFault_any _ u hC1.t ((htK.below hb1).below hu)
  have HPK : Hid (∀ (v : Value) (u : World), SeesB u v (msgC h B).B → Calls Tryd.prog 49 #[v] u fun e w' => ∃ vo vb, e = .returned (.tuple #[.agg (hdCells (readL (msgC h B).B false).1 vo), vb, .int .i64 (readL (msgC h B).B false).2.2]) ∧ SeesB w' vo (readL (msgC h B).B false).1.opts ∧ SeesB w' vb (readL (msgC h B).B false).2.1 ∧ (∀ a n c, vo = .slice (some a) n c → u.heap.size ≤ a.block) ∧ (∀ a n c, vb = .slice (some a) n c → u.heap.size ≤ a.block) ∧ Below u.heap.size u w') := fun v u hs => read_false v _ u hs (by omega)
  have HW1 : Hid (w1 = (w.alloc (.cells (pkCells h vo vb) 35)).alloc (.cells #[.int .u8 0, .int .u16 0, .bool false, .bool false, .int .i64 0, .int .u8 0, .int .u8 0, .int .u32 0, .int .u32 0, .slice none 0 0] 33)) := by unfold Hid; rw [hw1, hwa]; rfl
  have HB1 := hid hb1
  have HS1 := hid hs1
  have HBW : Hid (∀ u, Below w1.heap.size w1 u → Below w.heap.size w u) := fun u hu => hb1.trans (hu.mono hb1.size)
  have HA : Hid (abt h B = if msgE h B ≠ 0 then (zeroH, [], msgE h B) else if kF (msgC h B).t then readL (msgC h B).B false else (zeroH, [], 62)) := rfl
  clear hwa hw1 hsa hs1 hba hbb hb1 k0 k1 hvb hvo hok hlo hlb hC1 hC2 hC3 htK
  generalize abt h B = AB at *
  generalize msgE h B = q at *
  generalize msgC h B = MC at *
  generalize pkCells h vo vb = pk at *
  obtain ⟨zz, hzz⟩ : ∃ zz : Array Value, zz = zeroHC := ⟨_, rfl⟩
  have HZ : Hid (zz = #[.int .u8 0, .int .u16 0, .bool false, .bool false, .int .i64 0, .int .u8 0, .int .u8 0, .int .u32 0, .int .u32 0, .slice none 0 0]) := hzz
  have HONE : Hid (zz.all (·.oneCell') = true) := by unfold Hid; rw [hzz]; simp [zeroHC, Value.oneCell']
  have HINF : Hid ((Tryd.prog.info? 33).map (·.size) = some zz.size) := by unfold Hid; rw [hzz]; exact size_hd
  have HZC : Hid (zz = hdCells zeroH (.slice none 0 0)) := hzz
  have HZS : Hid (zz.size = 10) := by unfold Hid; rw [hzz]; rfl
  clear hzz
  go_enter Tryd.func25, Tryd.ntmps25
  go_upto_region 1 with fail
  rw [← HW1.out]
  go_wp2_with (first | (refine wpList_ld 35 ⟨w.heap.size, 0, none⟩ _ rfl rfl HLD.out rfl ?_) | fail)
  refine HMS.out.mono ?_
  rintro _ w2 ⟨a2, n2, c2, rfl, hs2, hn2, hb2⟩
  obtain ⟨pa, hpa⟩ : ∃ pa : Array Value, pa = ctCells MC (.slice a2 n2 c2) := ⟨_, rfl⟩
  obtain ⟨w3, hw3⟩ : ∃ w3, w3 = (w2.alloc (.cells zeroC 29)).setCells w2.heap.size 0 pa.toList := ⟨_, rfl⟩
  have HZA : Hid ((Tryd.prog.info? 29).map (·.size) = some pa.size) := by unfold Hid; rw [hpa]; exact size_ct
  have HOA : Hid (pa.all (·.oneCell') = true) := by unfold Hid; rw [hpa]; simp [ctCells, Value.oneCell']
  have HTA : Hid ((w2.alloc (.cells zeroC 29)).there w2.heap.size 0 pa.size) := by unfold Hid; rw [hpa]; exact there_blk (C := zeroC) (t := 29) (heap_alloc_new w2 _) rfl
  have hr3 : w3.heap[w2.heap.size]? = some (.cells (ctCells MC (.slice a2 n2 c2)) 29 (0, 0)) := by
    rw [hw3, hpa]
    have := heap_setCells_row (b := w2.heap.size) (T := 29) (ctCells MC (.slice a2 n2 c2)).toList 0 _ zeroC (heap_alloc_new w2 (.cells zeroC 29))
    rwa [show wr zeroC 0 (ctCells MC (.slice a2 n2 c2)).toList = ctCells MC (.slice a2 n2 c2) by simp [wr, zeroC, ctCells]] at this
  have hb23 : Below w2.heap.size w2 w3 := by rw [hw3]; exact below_setCells (Nat.le_refl _) _ _ _ ((Below.refl _ _).alloc (Nat.le_refl _) _)
  have hb3 : Below w1.heap.size w1 w3 := hb2.trans (hb23.mono hb2.size)
  obtain ⟨d0, d1, d2, d3⟩ := ct_at hr3
  have HR3 := hid hr3
  have HS3 := hid (hs2.below hb23)
  have HW3 : Hid (w3 = (w2.alloc (.cells #[.int .u8 0, .int .u8 0, .int .u32 0, .slice none 0 0] 29)).setCells w2.heap.size 0 pa.toList) := hw3
  have HB3 := hid hb3
  have hlt3 : w2.heap.size < w3.heap.size := (Array.getElem?_eq_some_iff.1 hr3).1
  have HLT := hid hlt3
  rw [← hpa]
  clear hpa hw3 hr3 hb23 hb3 hs2 hn2 hb2 hlt3
  go_upto_region 2 with (first
    | (refine wpList_store_mid rfl 29 (.tmp 5) (.tmp 10) rfl w2.heap.size 0 pa rfl rfl HTA.out HZA.out HOA.out ?_)
    | fail)
  rw [← HW3.out]
  by_cases hq : q = 0
  · subst hq
    have HA2 : Hid (AB = if kF MC.t then readL MC.B false else (zeroH, [], 62)) := by unfold Hid; rw [HA.out, if_neg (by simp)]
    cases hk : kF MC.t with
    | false =>
      have HA3 : Hid (AB = (zeroH, [], 62)) := by unfold Hid; rw [HA2.out, hk]; rfl
      have HF3 := hid (HFL.out _ HB3.out)
      rw [hk] at HF3
      generalize MC.t = mt at *
      go_wp2_with fail
      refine HF3.out.mono ?_
      rintro _ w4 ⟨rfl, hb4⟩
      have hb14 := HB3.out.trans (hb4.mono HB3.out.size)
      have HTU : Hid (w4.there (w.heap.size + 1) 0 zz.size) := by unfold Hid; rw [HZS.out]; exact HTH.out _ hb14
      obtain ⟨q1, q2⟩ := res_end (w := w) HTU.out (by omega) (HBW.out _ hb14) Tryd.underlying33 HINF.out
      have HLV := hid q1
      have HBF := hid q2
      clear q1 q2 hb14
      go_wp2_with (first
        | (refine wpList_store_mid rfl 33 (.tmp 2) (.tmp 20) rfl (w.heap.size + 1) 0 zz rfl (by rw [HZ.out]; rfl) HTU.out HINF.out HONE.out ?_)
        | fail)
      generalize w4.setCells (w.heap.size + 1) 0 zz.toList = wf at HLV HBF ⊢
      refine bodyPost_ret (v := .tuple #[.agg zz, .slice none 0 0, .int .i64 62]) (by simp [results, Tryd.results25, asAddr, HLV.out]) rfl ?_
      rw [HA3.out]
      exact ⟨none, 0, 0, none, 0, 0, by rw [HZC.out], sees_nil _, sees_nil _, HBF.out⟩
    | true =>
      have HA3 : Hid (AB = readL MC.B false) := by unfold Hid; rw [HA2.out, hk]; rfl
      have HF3 := hid (HFL.out _ HB3.out)
      rw [hk] at HF3
      have HC4 : Hid (∀ u, Below w3.heap.size w3 u → u.cell? ⟨w2.heap.size, 3, none⟩ = some (.slice a2 n2 c2)) := fun u hu => (ct_at ((hu.block _ HLT.out).trans HR3.out)).2.2.2
      go_wp2_with fail
      refine HF3.out.mono ?_
      rintro _ w4 ⟨rfl, hb4⟩
      have e4 := HC4.out _ hb4
      have HP4 := hid (HPK.out _ w4 (HS3.out.below hb4))
      have hb14 := HB3.out.trans (hb4.mono HB3.out.size)
      have HB14 := hid hb14
      clear d0 d1 d2 d3 hb14 HC4 hb4 HF3 HFL HPK
      generalize readL MC.B false = RL at *
      go_wp2_with fail
      refine HP4.out.mono ?_
      rintro _ w5 ⟨vo5, vb5, rfl, ho5, hbd5, hno, hnb, hb5⟩
      obtain ⟨a5, n5, c5, rfl, _, _, _⟩ := ho5.shape
      obtain ⟨a6, n6, c6, rfl, _, _, _⟩ := hbd5.shape
      obtain ⟨yy, hyy⟩ : ∃ yy : Array Value, yy = hdCells RL.1 (.slice a5 n5 c5) := ⟨_, rfl⟩
      have HYC := hid hyy
      have HOY : Hid (yy.all (·.oneCell') = true) := by unfold Hid; rw [hyy]; exact hd_one _ _ _ _
      have HIY : Hid ((Tryd.prog.info? 33).map (·.size) = some yy.size) := by unfold Hid; rw [hyy]; exact size_hd
      have hb15 := HB14.out.trans (hb5.mono HB14.out.size)
      have HTU : Hid (w5.there (w.heap.size + 1) 0 yy.size) := by unfold Hid; rw [hyy]; exact HTH.out _ hb15
      obtain ⟨q1, q2⟩ := res_end (w := w) HTU.out (by omega) (HBW.out _ hb15) Tryd.underlying33 HIY.out
      have HLV := hid q1
      have HBF := hid q2
      have hsz : w.heap.size + 2 ≤ w4.heap.size := by have := HB14.out.size; have := HS1.out; omega
      have HSO := hid (sees_setI (b := w.heap.size + 1) (vs := yy.toList) ho5 (fun a ha => by have := hno a n5 c5 (by rw [ha]); omega))
      have HSB := hid (sees_setI (b := w.heap.size + 1) (vs := yy.toList) hbd5 (fun a ha => by have := hnb a n6 c6 (by rw [ha]); omega))
      rw [← hyy]
      clear q1 q2 hyy ho5 hbd5 hno hnb hb15 hsz hb5
      go_wp2_with (first
        | (refine wpList_store_mid rfl 33 (.tmp 2) (.tmp 24) rfl (w.heap.size + 1) 0 yy rfl rfl HTU.out HIY.out HOY.out ?_)
        | fail)
      generalize w5.setCells (w.heap.size + 1) 0 yy.toList = wf at HLV HBF HSO HSB ⊢
      refine bodyPost_ret (v := .tuple #[.agg yy, .slice a6 n6 c6, .int .i64 RL.2.2]) (by simp [results, Tryd.results25, asAddr, HLV.out]) rfl ?_
      rw [HA3.out]
      exact ⟨_, _, _, _, _, _, by rw [HYC.out], HSO.out, HSB.out, HBF.out⟩
  · have HA3 : Hid (AB = (zeroH, [], q)) := by unfold Hid; rw [HA.out, if_pos hq]
    have hqq : (q != 0) = true := by simp [hq]
    have HTU : Hid (w3.there (w.heap.size + 1) 0 zz.size) := by unfold Hid; rw [HZS.out]; exact HTH.out _ HB3.out
    obtain ⟨q1, q2⟩ := res_end (w := w) HTU.out (by omega) (HBW.out _ HB3.out) Tryd.underlying33 HINF.out
    have HLV := hid q1
    have HBF := hid q2
    clear q1 q2
    go_wp2_with (first
      | (refine wpList_store_mid rfl 33 (.tmp 2) (.tmp 14) rfl (w.heap.size + 1) 0 zz rfl (by rw [HZ.out]; rfl) HTU.out HINF.out HONE.out ?_)
      | fail)
    generalize w3.setCells (w.heap.size + 1) 0 zz.toList = wf at HLV HBF ⊢
    refine bodyPost_ret (v := .tuple #[.agg zz, .slice none 0 0, .int .i64 q]) (by simp [results, Tryd.results25, asAddr, HLV.out]) rfl ?_
    rw [HA3.out]
    exact ⟨none, 0, 0, none, 0, 0, by rw [HZC.out], sees_nil _, sees_nil _, HBF.out⟩
end Go.Proofs.YtcboenmmkaochabDoor.N
