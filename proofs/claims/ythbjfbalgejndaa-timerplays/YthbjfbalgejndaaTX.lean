import Derived.Test.YthbjfbalgejndaaTW
namespace Go.Proofs.Ythbjfbalgejndaa
open Go.ChangeShapes Go.WideShapes Go.ChangeAt Go.RowKit Go.Maps H
set_option maxHeartbeats 4000000
set_option maxRecDepth 100000

theorem Nxt.from {w wa w2 : World} {b1 m1 : Nat} {g1 : Option Nat} {b2 : Nat} {g2 : Option Nat} {lim : Int} (h : Nxt wa b1 m1 g1 b2 g2 lim w2) (hb : Below w.heap.size w wa) : Nxt w b1 m1 g1 b2 g2 lim w2 := by
  obtain ⟨g1', g2', S', hP, hx, hf⟩ := h
  exact ⟨g1', g2', S', hP, fun x h => (hx x h).imp_right (fun h => Nat.le_trans hb.size h), (Fr.of_below hb _).trans hf⟩

theorem plays_any {w : World} {b1 m1 : Nat} {g1 : Option Nat} {b2 : Nat} {g2 : Option Nat} {lim : Int} {S : List Dl} (h : Pr w b1 m1 g1 b2 g2 lim S) (kd on i a : Int) (hi : In64 i) (ha : In64 a) :
    Calls Try.prog 25 #[.pointer (some ⟨b1, 0, none⟩), .pointer (some ⟨b2, 0, none⟩), .agg #[.int .i64 kd, .int .i64 on, .int .i64 i, .int .i64 a]] w fun e w' => e = .returned (.bool true) ∧ Nxt w b1 m1 g1 b2 g2 lim w' := by
  obtain ⟨wa, hwa⟩ : ∃ wa, wa = w.alloc (.cells #[.int .i64 kd, .int .i64 on, .int .i64 i, .int .i64 a] 57) := ⟨_, rfl⟩
  have hsa : wa.heap.size = w.heap.size + 1 := by rw [hwa]; simp
  have hba : Below w.heap.size w wa := by rw [hwa]; exact (Below.refl _ _).alloc (Nat.le_refl _) _
  have hr1 : wa.heap[w.heap.size]? = some (.cells #[.int .i64 kd, .int .i64 on, .int .i64 i, .int .i64 a] 57 (0, 0)) := by rw [hwa]; exact heap_alloc_new w _
  have c0 : wa.cell? ⟨w.heap.size, 0, none⟩ = some (.int .i64 kd) := by rw [cell_of_row _ _ _ _ _ _ hr1]; rfl
  have c2 : wa.cell? ⟨w.heap.size, 2, none⟩ = some (.int .i64 i) := by rw [cell_of_row _ _ _ _ _ _ hr1]; rfl
  have c3 : wa.cell? ⟨w.heap.size, 3, none⟩ = some (.int .i64 a) := by rw [cell_of_row _ _ _ _ _ _ hr1]; rfl
  have HBOX : Hid (∀ w1, Fr (fp b1 m1 g1) wa w1 → w1.cell? ⟨w.heap.size, 2, none⟩ = some (.int .i64 i) ∧ w1.cell? ⟨w.heap.size, 3, none⟩ = some (.int .i64 a)) := fun w1 hf => by
    have hbk : w1.heap[w.heap.size]? = some (.cells #[.int .i64 kd, .int .i64 on, .int .i64 i, .int .i64 a] 57 (0, 0)) := (hf.block w.heap.size (by omega) (fun hm => by have := h.tm.lt _ hm; omega)).trans hr1
    exact ⟨by rw [cell_of_row _ _ _ _ _ _ hbk]; rfl, by rw [cell_of_row _ _ _ _ _ _ hbk]; rfl⟩
  have HP := hid (h.below hba)
  have HX : Hid (∀ w2, Nxt wa b1 m1 g1 b2 g2 lim w2 → Nxt w b1 m1 g1 b2 g2 lim w2) := fun w2 hn => hn.from hba
  have HSTAY : Hid (Nxt w b1 m1 g1 b2 g2 lim wa) := h.stay hba
  have HWA := hid hwa
  have HIA : Hid (In64 i ∧ In64 a) := ⟨hi, ha⟩
  clear hwa hsa hba hr1 h hi ha
  by_cases h1 : kd = 1
  · subst h1
    have HC := hid (HP.out.set i a HIA.out.1 HIA.out.2)
    go_enter Try.func25, Try.ntmps25
    go_upto_region 1 with fail
    rw [← HWA.out]
    clear HWA
    go_wp2_with fail
    refine HC.out.mono ?_
    rintro _ w1 ⟨z, rfl, hf1, hc1⟩
    obtain ⟨d2, d3⟩ := HBOX.out w1 hf1
    have HC1 := hid hc1
    have hq_z : (z == z) = true := by simp
    clear hf1 hc1 HC c0 c2 c3 HBOX
    go_wp2_with fail
    refine HC1.out.mono ?_
    rintro _ w2 ⟨rfl, hn⟩
    have HN := hid (HX.out w2 hn)
    clear hn HC1
    go_wp2_with fail
    go_ret
    exact ⟨rfl, HN.out⟩
  have hk1 : (kd == 1) = false := by simp [h1]
  by_cases h2 : kd = 2
  · subst h2
    have HC := hid (HP.out.drop i HIA.out.1)
    go_enter Try.func25, Try.ntmps25
    go_upto_region 1 with fail
    rw [← HWA.out]
    clear HWA
    go_wp2_with fail
    refine HC.out.mono ?_
    rintro _ w1 ⟨z, rfl, hf1, hc1⟩
    obtain ⟨d2, d3⟩ := HBOX.out w1 hf1
    have HC1 := hid hc1
    have hq_z : (z == z) = true := by simp
    clear hf1 hc1 HC c0 c2 c3 HBOX
    go_wp2_with fail
    refine HC1.out.mono ?_
    rintro _ w2 ⟨rfl, hn⟩
    have HN := hid (HX.out w2 hn)
    clear hn HC1
    go_wp2_with fail
    go_ret
    exact ⟨rfl, HN.out⟩
  have hk2 : (kd == 2) = false := by simp [h2]
  by_cases h3 : kd = 3
  · subst h3
    have HC := hid (HP.out.when i HIA.out.1)
    go_enter Try.func25, Try.ntmps25
    go_upto_region 1 with fail
    rw [← HWA.out]
    clear HWA
    go_wp2_with fail
    refine HC.out.mono ?_
    rintro _ w1 ⟨y, z, rfl, hf1, hc1⟩
    obtain ⟨d2, d3⟩ := HBOX.out w1 hf1
    have HC1 := hid hc1
    have hq_y : (y == y) = true := by simp
    have hq_z : (z == z) = true := by simp
    clear hf1 hc1 HC c0 c2 c3 HBOX
    go_wp2_with fail
    refine HC1.out.mono ?_
    rintro _ w2 ⟨rfl, hn⟩
    have HN := hid (HX.out w2 hn)
    clear hn HC1
    go_wp2_with fail
    go_ret
    exact ⟨rfl, HN.out⟩
  have hk3 : (kd == 3) = false := by simp [h3]
  by_cases h4 : kd = 4
  · subst h4
    have HC := hid (HP.out.nextc)
    go_enter Try.func25, Try.ntmps25
    go_upto_region 1 with fail
    rw [← HWA.out]
    clear HWA
    go_wp2_with fail
    refine HC.out.mono ?_
    rintro _ w1 ⟨x, y, z, rfl, hf1, hc1⟩
    obtain ⟨d2, d3⟩ := HBOX.out w1 hf1
    have HC1 := hid hc1
    have hq_x : (x == x) = true := by simp
    have hq_y : (y == y) = true := by simp
    have hq_z : (z == z) = true := by simp
    clear hf1 hc1 HC c0 c2 c3 HBOX
    go_wp2_with fail
    refine HC1.out.mono ?_
    rintro _ w2 ⟨rfl, hn⟩
    have HN := hid (HX.out w2 hn)
    clear hn HC1
    go_wp2_with fail
    go_ret
    exact ⟨rfl, HN.out⟩
  have hk4 : (kd == 4) = false := by simp [h4]
  by_cases h5 : kd = 5
  · subst h5
    have HC := hid (HP.out.due a HIA.out.2)
    go_enter Try.func25, Try.ntmps25
    go_upto_region 1 with fail
    rw [← HWA.out]
    clear HWA
    go_wp2_with fail
    refine HC.out.mono ?_
    rintro _ w1 ⟨v, rfl, hf1, hc1⟩
    obtain ⟨d2, d3⟩ := HBOX.out w1 hf1
    have HC1 := hid hc1
    clear hf1 hc1 HC c0 c2 c3 HBOX
    go_wp2_with fail
    refine HC1.out.mono ?_
    rintro _ w2 ⟨v2, rfl, hc2⟩
    have HC2 := hid hc2
    clear hc2 HC1
    go_wp2_with fail
    refine HC2.out.mono ?_
    rintro _ w3 ⟨rfl, hn⟩
    have HN := hid (HX.out w3 hn)
    clear hn HC2
    go_wp2_with fail
    go_ret
    exact ⟨rfl, HN.out⟩
  have hk5 : (kd == 5) = false := by simp [h5]
  by_cases h6 : kd = 6
  · subst h6
    have HC := hid (HP.out.len)
    go_enter Try.func25, Try.ntmps25
    go_upto_region 1 with fail
    rw [← HWA.out]
    clear HWA
    go_wp2_with fail
    refine HC.out.mono ?_
    rintro _ w1 ⟨z, rfl, hf1, hc1⟩
    obtain ⟨d2, d3⟩ := HBOX.out w1 hf1
    have HC1 := hid hc1
    have hq_z : (z == z) = true := by simp
    clear hf1 hc1 HC c0 c2 c3 HBOX
    go_wp2_with fail
    refine HC1.out.mono ?_
    rintro _ w2 ⟨rfl, hn⟩
    have HN := hid (HX.out w2 hn)
    clear hn HC1
    go_wp2_with fail
    go_ret
    exact ⟨rfl, HN.out⟩
  have hk6 : (kd == 6) = false := by simp [h6]
  clear h1 h2 h3 h4 h5 h6
  go_enter Try.func25, Try.ntmps25
  go_upto_region 1 with fail
  rw [← HWA.out]
  clear HWA
  go_wp2_with fail
  go_ret
  exact ⟨rfl, HSTAY.out⟩
end Go.Proofs.Ythbjfbalgejndaa
