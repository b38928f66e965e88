import Derived.Test.YtpdnnikkaojnkaaGreatYLYF
namespace Go.Proofs.YtpdnnikkaojnkaaGreat.Rt
open Go.Proofs.YtpdnnikkaojnkaaGreat Go.ChangeShapes Go.WideShapes Go.ChangeAt Go.RowKit Go.Maps Tri N
set_option maxHeartbeats 4000000
set_option maxRecDepth 100000
theorem eqP_t (x : Nat) (n : Int) (u : World) : (Op.equalIn 10000 36 (.agg #[.int .u32 (x : Int), .int .i64 n]) (.agg #[.int .u32 (x : Int), .int .i64 n])).run Tryz.prog u = .ok true u := by
 simp [go_sem]
theorem eqP_f {x y : Nat} {n m : Int} (h : (x, n) ≠ (y, m)) (u : World) : (Op.equalIn 10000 36 (.agg #[.int .u32 (x : Int), .int .i64 n]) (.agg #[.int .u32 (y : Int), .int .i64 m])).run Tryz.prog u = .ok false u := by
 by_cases hx : x = y
 ·have hn : ¬ n = m := fun e => h (by rw [hx, e])
  simp [go_sem, hx, hn]
 ·have hx' : ¬ (x : Int) = (y : Int) := by omega
  simp [go_sem, hx']
theorem routeT_any (w : World) (x y z : Value) {A : List Vt} (px : Nat) (pn : Int) (h : Own kR w 0 x A) (hl : A.length <= 256) :
  Calls Tryz.prog 57 #[.agg #[x, y, z], .agg #[.int .u32 (px : Int), .int .i64 pn]] w fun e w' => e = .returned (.int .i64 (pz (ix Tri.Vt.key A (px, pn)))) /\ Below w.heap.size w w' := by
 obtain ⟨av, nv, cv, rfl, HN, hnc, -⟩ := h.shape
 obtain ⟨w1, HW1⟩ : ∃ w1, Hid (w1 = (w.alloc (.cells #[.slice av nv cv, y, z] 51)).alloc (.cells #[.int .u32 (px : Int), .int .i64 pn] 36)) := ⟨_, rfl⟩
 have hz : (w.alloc (.cells #[.slice av nv cv, y, z] 51)).heap.size = w.heap.size + 1 := by simp
 have hb1 : Below w.heap.size w w1 := by rw [HW1.out]; exact (bR.alloc nL _).alloc (by rw [hz]; omega) _
 have r1 : w1.heap[w.heap.size + 1]? = some (.cells #[.int .u32 (px : Int), .int .i64 pn] 36) := by rw [HW1.out, <- hz]; exact heap_alloc_new _ _
 have r0 : w1.heap[w.heap.size]? = some (.cells #[.slice av nv cv, y, z] 51) := by
  rw [HW1.out]
  exact below_keeps (bR.alloc nL _) (heap_alloc_new w _) (by rw [hz]; omega)
 have HQC : Hid (∀ t : Beh w1, t.wd.heap[w.heap.size + 1]? = some (.cells #[.int .u32 (px : Int), .int .i64 pn] 36)) := fun t => below_keeps t.ok r1 (gsl r1)
 have HC0 : Hid (∀ t : Beh w1, t.wd.cell? ⟨w.heap.size, 0, none⟩ = some (.slice av nv cv)) := fun t => by rw [cell_of_row _ _ _ _ _ _ (below_keeps t.ok r0 (gsl r0))]; rfl
 have HO := hid (h.below hb1)
 have HB1 := hid hb1
 have hle : nv <= 256 := by have := HN.out; omega
 obtain ⟨P, HP⟩ : ∃ P, Hid (P = pz (ix Tri.Vt.key A (px, pn))) := ⟨_, rfl⟩
 rw [<- HP.out]
 clear h hb1 r1 r0 hz
 go_enter Tryz.func57, Tryz.ntmps57
 go_upto_region 1 with fail
 rw [<- HW1.out]
 clear HW1
 go_upto_region 2 with fail
 go_loopw [5] (fun i wr => ∃ (j : Nat) (t : Beh w1), i = .int .i64 (j : Int) /\ j <= nv /\ Hid (∀ i x', i < j -> A[i]? = some x' -> x'.key ≠ (px, pn)) /\ wr = t.wd) (fun i _ => nv - (intOf i).toNat)
 case atStart => exact ⟨0, ⟨w1, bR⟩, rfl, Nat.zero_le _, fun i x hi => absurd hi (by omega), rfl⟩
 case round =>
  obtain ⟨j, t, rfl, hj, HI, rfl⟩ := hrel
  have c00 := HC0.out t
  by_cases hlt : j < nv
  ·have hlt' : (j : Int) < (nv : Int) := int_lt hlt
   have hj0 : decide ((j : Int) < 0) = false := by simp
   have hj1 : (0 : Int) <= (j : Int) := by omega
   obtain ⟨e, HX⟩ : ∃ e, Hid (A[j]? = some e) := ⟨_, hid (List.getElem?_eq_getElem (by have := HN.out; omega))⟩
   obtain ⟨g, rfl, hg, hcl⟩ := atR HO.out HX.out
   have ku : ∀ t2 : Beh t.wd, t2.wd.heap[g]? = w1.heap[g]? := fun t2 => (t.ok.trans (t2.ok.mono t.ok.size)).block g hg
   have k0 := fun t2 : Beh t.wd => (hcl t2.wd (ku t2)).1
   have k1 := fun t2 : Beh t.wd => (hcl t2.wd (ku t2)).2.1
   have kq : ∀ t2 : Beh t.wd, t2.wd.heap[w.heap.size + 1]? = _ := fun t2 => HQC.out ⟨t2.wd, t.ok.trans (t2.ok.mono t.ok.size)⟩
   have m0 : ∀ t2 : Beh t.wd, t2.wd.cell? ⟨w.heap.size + 1, 0, none⟩ = some (.int .u32 (px : Int)) := fun t2 => by rw [cell_of_row _ _ _ _ _ _ (kq t2)]; rfl
   have m1 : ∀ t2 : Beh t.wd, t2.wd.cell? ⟨w.heap.size + 1, 1, none⟩ = some (.int .i64 pn) := fun t2 => by rw [cell_of_row _ _ _ _ _ _ (kq t2)]; rfl
   have kc : ∀ t2 : Beh t.wd, t2.wd.cell? ⟨w.heap.size, 0, none⟩ = some (.slice (some ⟨g, 0, none⟩) nv cv) := fun t2 => HC0.out ⟨t2.wd, t.ok.trans (t2.ok.mono t.ok.size)⟩
   clear hcl hg ku kq
   by_cases hk : e.key = (px, pn)
   ·have HE : Hid (P = (j : Int)) := by unfold Hid; rw [HP.out]; exact ix_stop HI.out HX.out hk
    have heq := eqP_t px pn
    have e1 : e.x = px := congrArg Prod.fst hk
    have e2 : e.n = pn := congrArg Prod.snd hk
    rw [e1] at k0
    rw [e2] at k1
    clear hk e1 e2
    go_upto_region 4 with fail
    refine wp_region_beh (by kernel_rfl) (by kernel_rfl) ?_
    repeat (go_big_quiet_step (fail))
    refine wpQuiet_nil ?_
    rintro _ ⟨t2, rfl⟩
    clear k0 k1 m0 m1 kc c00 heq
    go_wp2_with fail
    go_ret
    exact ⟨ret_int HE.out.symm, HB1.out.trans ((t.ok.trans (t2.ok.mono t.ok.size)).mono HB1.out.size)⟩
   ·have HI2 : Hid (∀ i x', i < j + 1 -> A[i]? = some x' -> x'.key ≠ (px, pn)) := ahead_more HI.out HX.out hk
    have heq := eqP_f (x := e.x) (n := e.n) hk
    clear hk
    go_upto_region 4 with fail
    refine wp_region_beh (by kernel_rfl) (by kernel_rfl) ?_
    repeat (go_big_quiet_step (fail))
    refine wpQuiet_nil ?_
    rintro _ ⟨t2, rfl⟩
    clear k0 k1 m0 m1 kc c00 heq
    go_wp2_with fail
    go_roundw
    case rel => exact ⟨j + 1, ⟨t2.wd, t.ok.trans (t2.ok.mono t.ok.size)⟩, by go_num, hlt, HI2, rfl⟩
    case measure => simp [intOf]; omega
  ·have hlt' : ¬ (j : Int) < (nv : Int) := int_nlt hlt
   have HE : Hid (P = -1) := by unfold Hid; rw [HP.out]; exact ix_end HI.out (by have := HN.out; omega)
   have HT : Hid (Below w.heap.size w t.wd) := HB1.out.trans (t.ok.mono HB1.out.size)
   go_wp2_with fail
   go_ret
   exact ⟨ret_int HE.out.symm, HT.out⟩
theorem validT_any {x : Nat} {y : Int} (w : World) (hx : x < 4294967296) :
  Calls Tryz.prog 56 #[.agg #[.int .u32 (x : Int), .int .i64 y]] w fun e w' => e = .returned (.bool (valB x y)) /\ Below w.heap.size w w' := by
 obtain ⟨wa, HWA⟩ : ∃ wa, Hid (wa = w.alloc (.cells #[.int .u32 (x : Int), .int .i64 y] 36)) := ⟨_, rfl⟩
 have hb0 : Below w.heap.size w wa := by rw [HWA.out]; exact bR.alloc nL _
 have r1 : wa.heap[w.heap.size]? = some (.cells #[.int .u32 (x : Int), .int .i64 y] 36) := by rw [HWA.out]; exact heap_alloc_new w _
 have p0 : wa.cell? ⟨w.heap.size, 0, none⟩ = some (.int .u32 (x : Int)) := crw r1 rfl
 have p1 : wa.cell? ⟨w.heap.size, 1, none⟩ = some (.int .i64 y) := crw r1 rfl
 have HB0 := hid hb0
 clear r1 hb0
 by_cases h1 : y < 0
 ·have HF : Hid (valB x y = false) := by unfold Hid valB; rw [decide_eq_false_iff_not]; omega
  go_enter Tryz.func56, Tryz.ntmps56
  go_upto_region 1 with fail
  rw [<- HWA.out]
  go_wp2_with fail
  go_ret
  exact ⟨ret_bool HF.out.symm, HB0.out⟩
 ·by_cases h2 : 32 < y
  ·have HF : Hid (valB x y = false) := by unfold Hid valB; rw [decide_eq_false_iff_not]; omega
   go_enter Tryz.func56, Tryz.ntmps56
   go_upto_region 1 with fail
   rw [<- HWA.out]
   go_wp2_with fail
   go_ret
   exact ⟨ret_bool HF.out.symm, HB0.out⟩
  ·obtain ⟨n, rfl⟩ : ∃ n : Nat, y = (n : Int) := ⟨y.toNat, by omega⟩
   have hn32 : n <= 32 := by omega
   have h2' : (n : Int) <= 32 := by omega
   have h3 : ¬ 32 < n := by omega
   have HV : Hid (valB x (n : Int) = decide (x % 2 ^ (32 - n) = 0)) := by
    unfold Hid valB
    rw [Int.toNat_natCast, Bool.eq_iff_iff, decide_eq_true_eq, decide_eq_true_eq]
    exact ⟨fun h => h.2.2, fun h => ⟨by omega, h2', h⟩⟩
   have u1 : IntKind.i64.wrap (x : Int) = (x : Int) := by simp [IntKind.wrap, IntKind.bits, IntKind.signed]; omega
   go_enter Tryz.func56, Tryz.ntmps56
   go_upto_region 1 with fail
   rw [<- HWA.out]
   clear HWA
   go_upto_region 5 with fail
   go_loopw [3, 4] (fun v i wr => ∃ (k p : Nat), i = .int .i64 (k : Int) /\ v = .int .i64 (p : Int) /\ n <= k /\ k <= 32 /\ p < 4294967296 /\ Hid (x = p * 2 ^ (k - n)) /\ wr = wa) (fun _ i _ => 32 - (intOf i).toNat)
   case atStart => exact ⟨n, x, rfl, rfl, nL, hn32, hx, hid (by simp), rfl⟩
   case round =>
    obtain ⟨k, p, rfl, rfl, hk1, hk2, hp, HP, rfl⟩ := hrel
    by_cases hk : k < 32
    ·have hk' : (k : Int) < 32 := by omega
     have hp0 : (0 : Int) <= (p : Int) := by omega
     have hp1 : (p : Int) <= 9223372036854775807 := by omega
     obtain ⟨q, hq⟩ : ∃ q, q = p / 2 := ⟨_, rfl⟩
     by_cases he : p % 2 = 0
     ·have e1 : Int.tmod (p : Int) 2 = 0 := by rw [Int.tmod_eq_emod_of_nonneg hp0]; omega
      have e2 : (p : Int) % 2 = 0 := by omega
      have e3 : Int.tdiv (p : Int) 2 = (q : Int) := by rw [hq]; rfl
      have e4 : (p : Int) / 2 = (q : Int) := by omega
      have HQ : Hid (x = q * 2 ^ (k + 1 - n)) := by
       unfold Hid
       rw [HP.out, show k + 1 - n = (k - n) + 1 by omega, Nat.pow_succ, Nat.mul_comm (2 ^ (k - n)) 2, <- Nat.mul_assoc]
       congr 1
       omega
      have hq2 : q < 4294967296 := by omega
      clear hq he
      go_wp2_with fail
      go_roundw
      case rel => exact ⟨k + 1, q, by go_num, rfl, by omega, by omega, hq2, HQ, trivial⟩
      case measure => simp [intOf]; omega
     ·have e1 : Int.tmod (p : Int) 2 = 1 := by rw [Int.tmod_eq_emod_of_nonneg hp0]; omega
      have e2 : (p : Int) % 2 = 1 := by omega
      have HF : Hid (valB x (n : Int) = false) := by
       unfold Hid
       rw [HV.out, decide_eq_false_iff_not]
       intro h
       have hd : 2 ^ (32 - n) ∣ p * 2 ^ (k - n) := HP.out ▸ Nat.dvd_of_mod_eq_zero h
       rw [show 32 - n = (32 - k) + (k - n) by omega, Nat.pow_add] at hd
       have hd2 := Nat.dvd_of_mul_dvd_mul_right (Nat.two_pow_pos _) hd
       have h2d : 2 ∣ 2 ^ (32 - k) := ⟨2 ^ (31 - k), by rw [show 32 - k = (31 - k) + 1 by omega, Nat.pow_succ, Nat.mul_comm]⟩
       have := Nat.dvd_trans h2d hd2
       omega
      clear hq he HV
      go_wp2_with fail
      go_ret
      exact ⟨ret_bool HF.out.symm, HB0.out⟩
    ·have hk' : ¬ (k : Int) < 32 := by omega
     obtain rfl : k = 32 := by omega
     have HF : Hid (valB x (n : Int) = true) := by
      unfold Hid
      rw [HV.out, decide_eq_true_iff, HP.out]
      exact Nat.mul_mod_left _ _
     clear HV
     go_wp2_with fail
     go_ret
     exact ⟨ret_bool HF.out.symm, HB0.out⟩
theorem above_true {x y : Nat} {n m : Int} (w : World) (h : y < x \/ (x = y /\ m < n)) :
  Calls Tryz.prog 60 #[.agg #[.int .u32 (x : Int), .int .i64 n], .agg #[.int .u32 (y : Int), .int .i64 m]] w fun e w' => e = .returned (.bool true) /\ Below w.heap.size w w' := by
 obtain ⟨w1, HW1⟩ : ∃ w1, Hid (w1 = (w.alloc (.cells #[.int .u32 (x : Int), .int .i64 n] 36)).alloc (.cells #[.int .u32 (y : Int), .int .i64 m] 36)) := ⟨_, rfl⟩
 have hz : (w.alloc (.cells #[.int .u32 (x : Int), .int .i64 n] 36)).heap.size = w.heap.size + 1 := by simp
 have hb1 : Below w.heap.size w w1 := by rw [HW1.out]; exact (bR.alloc nL _).alloc (by rw [hz]; omega) _
 have r1 : w1.heap[w.heap.size + 1]? = some (.cells #[.int .u32 (y : Int), .int .i64 m] 36) := by rw [HW1.out, <- hz]; exact heap_alloc_new _ _
 have r0 : w1.heap[w.heap.size]? = some (.cells #[.int .u32 (x : Int), .int .i64 n] 36) := by
  rw [HW1.out]
  exact below_keeps (bR.alloc nL _) (heap_alloc_new w _) (by rw [hz]; omega)
 have a0 : w1.cell? ⟨w.heap.size, 0, none⟩ = some (.int .u32 (x : Int)) := crw r0 rfl
 have a1 : w1.cell? ⟨w.heap.size, 1, none⟩ = some (.int .i64 n) := crw r0 rfl
 have b0 : w1.cell? ⟨w.heap.size + 1, 0, none⟩ = some (.int .u32 (y : Int)) := crw r1 rfl
 have b1 : w1.cell? ⟨w.heap.size + 1, 1, none⟩ = some (.int .i64 m) := crw r1 rfl
 have HB1 := hid hb1
 clear r0 r1 hb1 hz
 rcases h with h | ⟨rfl, h⟩
 ·have h' : (y : Int) < (x : Int) := by omega
  go_enter Tryz.func60, Tryz.ntmps60
  go_upto_region 1 with fail
  rw [<- HW1.out]
  go_wp2_with fail
  go_ret
  exact ⟨rfl, HB1.out⟩
 ·go_enter Tryz.func60, Tryz.ntmps60
  go_upto_region 1 with fail
  rw [<- HW1.out]
  go_wp2_with fail
  go_ret
  exact ⟨rfl, HB1.out⟩
def Mc.cs (m : Mc) : Array Value := #[.int .u8 (m.b0 : Int), .int .u8 (m.b1 : Int), .int .u8 (m.b2 : Int), .int .u8 (m.b3 : Int), .int .u8 (m.b4 : Int), .int .u8 (m.b5 : Int)]
theorem mc_cell {u : World} {b : Nat} {m : Mc} {T : TypeId} (h : u.heap[b]? = some (.cells m.cs T)) {j x : Nat} (hx : m.L[j]? = some x) : u.cell? ⟨b, j, none⟩ = some (.int .u8 (x : Int)) := by
 rw [cell_of_row _ _ _ _ _ _ h]
 match j, hx with
 | 0, hx => cases hx; rfl
 | 1, hx => cases hx; rfl
 | 2, hx => cases hx; rfl
 | 3, hx => cases hx; rfl
 | 4, hx => cases hx; rfl
 | 5, hx => cases hx; rfl
 | j + 6, hx => cases hx
theorem mc_at {m : Mc} {j : Nat} (hj : j < 6) : ∃ x, m.L[j]? = some x := ⟨_, List.getElem?_eq_getElem (by show j < 6; exact hj)⟩
theorem mc_first {m n : Mc} (hm : m.Ok) (hn : n.Ok) (h : n.num < m.num) {j : Nat} (he : ∀ i x y, i < j -> m.L[i]? = some x -> n.L[i]? = some y -> x = y) : j < 6 /\ ∀ x y, m.L[j]? = some x -> n.L[j]? = some y -> x ≠ y -> y < x := by
 have h1 := m.lt hm
 have h2 := n.lt hn
 rw [m.num_eq, n.num_eq] at h
 have q0 : 0 < j -> m.b0 = n.b0 := fun hj => he 0 _ _ hj rfl rfl
 have q1 : 1 < j -> m.b1 = n.b1 := fun hj => he 1 _ _ hj rfl rfl
 have q2 : 2 < j -> m.b2 = n.b2 := fun hj => he 2 _ _ hj rfl rfl
 have q3 : 3 < j -> m.b3 = n.b3 := fun hj => he 3 _ _ hj rfl rfl
 have q4 : 4 < j -> m.b4 = n.b4 := fun hj => he 4 _ _ hj rfl rfl
 have q5 : 5 < j -> m.b5 = n.b5 := fun hj => he 5 _ _ hj rfl rfl
 clear he
 refine ⟨?_, fun x y hx hy hne => ?_⟩
 ·rcases Nat.lt_or_ge j 6 with h' | h'
  ·exact h'
  ·have := q0 (by omega); have := q1 (by omega); have := q2 (by omega); have := q3 (by omega); have := q4 (by omega); have := q5 (by omega)
   omega
 ·match j, hx, hy with
  | 0, hx, hy => cases hx; cases hy; omega
  | 1, hx, hy => cases hx; cases hy; have := q0 (by omega); omega
  | 2, hx, hy => cases hx; cases hy; have := q0 (by omega); have := q1 (by omega); omega
  | 3, hx, hy => cases hx; cases hy; have := q0 (by omega); have := q1 (by omega); have := q2 (by omega); omega
  | 4, hx, hy => cases hx; cases hy; have := q0 (by omega); have := q1 (by omega); have := q2 (by omega); have := q3 (by omega); omega
  | 5, hx, hy => cases hx; cases hy; have := q0 (by omega); have := q1 (by omega); have := q2 (by omega); have := q3 (by omega); have := q4 (by omega); omega
  | j + 6, hx, hy => cases hx
theorem macAbove_true {m n : Mc} (w : World) (hm : m.Ok) (hn : n.Ok) (h : n.num < m.num) :
  Calls Tryz.prog 61 #[.agg m.cs, .agg n.cs] w fun e w' => e = .returned (.bool true) /\ Below w.heap.size w w' := by
 obtain ⟨w1, HW1⟩ : ∃ w1, Hid (w1 = (w.alloc (.cells m.cs 40)).alloc (.cells n.cs 40)) := ⟨_, rfl⟩
 have hz : (w.alloc (.cells m.cs 40)).heap.size = w.heap.size + 1 := by simp
 have hb1 : Below w.heap.size w w1 := by rw [HW1.out]; exact (bR.alloc nL _).alloc (by rw [hz]; omega) _
 have r1 : w1.heap[w.heap.size + 1]? = some (.cells n.cs 40) := by rw [HW1.out, <- hz]; exact heap_alloc_new _ _
 have r0 : w1.heap[w.heap.size]? = some (.cells m.cs 40) := by
  rw [HW1.out]
  exact below_keeps (bR.alloc nL _) (heap_alloc_new w _) (by rw [hz]; omega)
 have R0 : Hid (∀ t : Beh w1, t.wd.heap[w.heap.size]? = some (.cells m.cs 40)) := fun t => below_keeps t.ok r0 (gsl r0)
 have R1 : Hid (∀ t : Beh w1, t.wd.heap[w.heap.size + 1]? = some (.cells n.cs 40)) := fun t => below_keeps t.ok r1 (gsl r1)
 have HF : Hid (∀ j, (∀ i x y, i < j -> m.L[i]? = some x -> n.L[i]? = some y -> x = y) -> j < 6 /\ ∀ x y, m.L[j]? = some x -> n.L[j]? = some y -> x ≠ y -> y < x) := fun j he => mc_first hm hn h he
 have HB1 := hid hb1
 unfold Mc.cs at HW1
 unfold Mc.cs
 clear hm hn h hz hb1 r0 r1
 go_enter Tryz.func61, Tryz.ntmps61
 go_upto_region 1 with fail
 rw [<- HW1.out]
 clear HW1
 go_upto_region 2 with fail
 go_loopw [5] (fun i wr => ∃ (j : Nat) (t : Beh w1), i = .int .i64 (j : Int) /\ j <= 6 /\ Hid (∀ i x y, i < j -> m.L[i]? = some x -> n.L[i]? = some y -> x = y) /\ wr = t.wd) (fun i _ => 6 - (intOf i).toNat)
 case atStart => exact ⟨0, ⟨w1, bR⟩, rfl, by decide, fun i x y hi => absurd hi (by omega), rfl⟩
 case round =>
  obtain ⟨j, t, rfl, hj, HI, rfl⟩ := hrel
  obtain ⟨hlt, hgt⟩ := HF.out j HI.out
  have hlt' : (j : Int) < 6 := by omega
  have hj0 : decide ((j : Int) < 0) = false := by simp
  have hj1 : (0 : Int) <= (j : Int) := by omega
  obtain ⟨x, HX⟩ : ∃ x, Hid (m.L[j]? = some x) := mc_at hlt
  obtain ⟨y, HY⟩ : ∃ y, Hid (n.L[j]? = some y) := mc_at hlt
  have hyx := hgt x y HX.out HY.out
  have k0 : ∀ t2 : Beh t.wd, t2.wd.cell? ⟨w.heap.size, j, none⟩ = some (.int .u8 (x : Int)) := fun t2 => mc_cell (R0.out ⟨t2.wd, t.ok.trans (t2.ok.mono t.ok.size)⟩) HX.out
  have k1 : ∀ t2 : Beh t.wd, t2.wd.cell? ⟨w.heap.size + 1, j, none⟩ = some (.int .u8 (y : Int)) := fun t2 => mc_cell (R1.out ⟨t2.wd, t.ok.trans (t2.ok.mono t.ok.size)⟩) HY.out
  clear hgt
  by_cases hk : x = y
  ·have HI2 : Hid (∀ i x y, i < j + 1 -> m.L[i]? = some x -> n.L[i]? = some y -> x = y) := fun i x' y' hi hx' hy' => by
    rcases Nat.lt_or_ge i j with h | h
    ·exact HI.out i x' y' h hx' hy'
    ·obtain rfl : i = j := by omega
     rw [HX.out] at hx'
     rw [HY.out] at hy'
     rw [<- Option.some.inj hx', <- Option.some.inj hy']
     exact hk
   rw [<- hk] at k1
   clear hyx hk
   go_upto_region 4 with fail
   refine wp_region_beh (by kernel_rfl) (by kernel_rfl) ?_
   repeat (go_big_quiet_step (fail))
   refine wpQuiet_nil ?_
   rintro _ ⟨t2, rfl⟩
   clear k0 k1
   go_wp2_with fail
   go_roundw
   case rel => exact ⟨j + 1, ⟨t2.wd, t.ok.trans (t2.ok.mono t.ok.size)⟩, by go_num, by omega, HI2, rfl⟩
   case measure => simp [intOf]; omega
  ·have hne : ((x : Int) == (y : Int)) = false := by simp; omega
   have hne2 : ¬ (x : Int) = (y : Int) := by omega
   have hgt : (y : Int) < (x : Int) := by have := hyx hk; omega
   have hgt2 : y < x := hyx hk
   clear hyx hk
   go_upto_region 4 with fail
   refine wp_region_beh (by kernel_rfl) (by kernel_rfl) ?_
   repeat (go_big_quiet_step (fail))
   refine wpQuiet_nil ?_
   rintro _ ⟨t2, rfl⟩
   have k2 : ∀ t3 : Beh t2.wd, t3.wd.cell? ⟨w.heap.size, j, none⟩ = some (.int .u8 (x : Int)) := fun t3 => k0 ⟨t3.wd, t2.ok.trans (t3.ok.mono t2.ok.size)⟩
   have k3 : ∀ t3 : Beh t2.wd, t3.wd.cell? ⟨w.heap.size + 1, j, none⟩ = some (.int .u8 (y : Int)) := fun t3 => k1 ⟨t3.wd, t2.ok.trans (t3.ok.mono t2.ok.size)⟩
   clear k0 k1
   go_upto_region 5 with fail
   refine wp_region_beh (by kernel_rfl) (by kernel_rfl) ?_
   repeat (go_big_quiet_step (fail))
   refine wpQuiet_nil ?_
   rintro _ ⟨t3, rfl⟩
   have HT : Hid (Below w.heap.size w t3.wd) := HB1.out.trans ((t.ok.trans ((t2.ok.trans (t3.ok.mono t2.ok.size)).mono t.ok.size)).mono HB1.out.size)
   clear k2 k3
   go_wp2_with fail
   go_ret
   exact ⟨rfl, HT.out⟩
def mayB (o : Opv) : Bool := if o.kind = 1 then valB o.r.x o.r.n && !(o.r.loc && o.r.via != 0) else if o.kind = 2 then valB o.r.x o.r.n else decide (3 <= o.kind /\ o.kind <= 6)
theorem may_any (w : World) (o : Opv) (ho : o.Ok) : Calls Tryz.prog 30 #[.agg o.cells] w fun e w' => e = .returned (.bool (mayB o)) /\ Below w.heap.size w w' := by
 obtain ⟨w1, HW1⟩ : ∃ w1, Hid (w1 = w.alloc (.cells o.cells 46)) := ⟨_, rfl⟩
 have hb1 : Below w.heap.size w w1 := by rw [HW1.out]; exact bR.alloc nL _
 have r1 : w1.heap[w.heap.size]? = some (.cells o.cells 46) := by rw [HW1.out]; exact heap_alloc_new w _
 have c0 : w1.cell? ⟨w.heap.size, 0, none⟩ = some (.int .i64 o.kind) := crw r1 rfl
 have c1 : w1.cell? ⟨w.heap.size, 1, none⟩ = some (.int .u32 (o.r.x : Int)) := crw r1 rfl
 have c2 : w1.cell? ⟨w.heap.size, 2, none⟩ = some (.int .i64 o.r.n) := crw r1 rfl
 have HB1 := hid hb1
 have HR1 := hid r1
 have HV := hid (validT_any (y := o.r.n) w1 ho.rx)
 obtain ⟨R, HR⟩ : ∃ R, Hid (R = mayB o) := ⟨_, rfl⟩
 rw [<- HR.out]
 unfold Opv.cells at HW1
 unfold Opv.cells
 clear hb1 r1 ho
 by_cases k1 : o.kind = 1
 ·rw [k1] at c0 HW1 ⊢
  cases hv : valB o.r.x o.r.n with
  | false =>
   have HE : Hid (R = false) := by unfold Hid; rw [HR.out]; simp [mayB, k1, hv]
   rw [hv] at HV
   clear k1 hv
   go_enter Tryz.func30, Tryz.ntmps30
   go_upto_region 1 with fail
   rw [<- HW1.out]
   go_wp2_with fail
   refine HV.out.mono ?_
   rintro _ w2 ⟨rfl, hb2⟩
   have HT : Hid (Below w.heap.size w w2) := HB1.out.trans (hb2.mono HB1.out.size)
   clear hb2
   go_wp2_with fail
   go_ret
   exact ⟨ret_bool HE.out.symm, HT.out⟩
  | true =>
   rw [hv] at HV
   cases hl : o.r.loc with
   | false =>
    have HE : Hid (R = true) := by unfold Hid; rw [HR.out]; simp [mayB, k1, hv, hl]
    rw [hl] at HW1
    clear k1 hv
    go_enter Tryz.func30, Tryz.ntmps30
    go_upto_region 1 with fail
    rw [<- HW1.out]
    go_wp2_with fail
    refine HV.out.mono ?_
    rintro _ w2 ⟨rfl, hb2⟩
    have HT : Hid (Below w.heap.size w w2) := HB1.out.trans (hb2.mono HB1.out.size)
    have r2 := below_keeps hb2 HR1.out (gsl HR1.out)
    have d0 : w2.cell? ⟨w.heap.size, 0, none⟩ = some (.int .i64 1) := (hb2.cell (p := ⟨w.heap.size, 0, none⟩) (gsl HR1.out)).trans c0
    have d4 : w2.cell? ⟨w.heap.size, 4, none⟩ = some (.bool false) := by rw [cell_of_row _ _ _ _ _ _ r2, <- hl]; rfl
    clear hb2 r2 c0 c1 c2 hl
    go_wp2_with fail
    go_ret
    exact ⟨ret_bool HE.out.symm, HT.out⟩
   | true =>
    have HE : Hid (R = !(o.r.via != 0)) := by unfold Hid; rw [HR.out]; unfold mayB; rw [if_pos k1, hv, hl]; rfl
    rw [hl] at HW1
    clear k1 hv
    go_enter Tryz.func30, Tryz.ntmps30
    go_upto_region 1 with fail
    rw [<- HW1.out]
    go_wp2_with fail
    refine HV.out.mono ?_
    rintro _ w2 ⟨rfl, hb2⟩
    have HT : Hid (Below w.heap.size w w2) := HB1.out.trans (hb2.mono HB1.out.size)
    have r2 := below_keeps hb2 HR1.out (gsl HR1.out)
    have d0 : w2.cell? ⟨w.heap.size, 0, none⟩ = some (.int .i64 1) := (hb2.cell (p := ⟨w.heap.size, 0, none⟩) (gsl HR1.out)).trans c0
    have d3 : w2.cell? ⟨w.heap.size, 3, none⟩ = some (.int .u32 (o.r.via : Int)) := crw r2 rfl
    have d4 : w2.cell? ⟨w.heap.size, 4, none⟩ = some (.bool true) := by rw [cell_of_row _ _ _ _ _ _ r2, <- hl]; rfl
    clear hb2 r2 c0 c1 c2 hl
    by_cases hz : o.r.via = 0
    ·have HE2 : Hid (R = true) := HE.out.trans (by simp [hz])
     rw [hz] at d3
     clear hz HE
     go_wp2_with fail
     go_ret
     exact ⟨ret_bool HE2.out.symm, HT.out⟩
    ·have HE2 : Hid (R = false) := HE.out.trans (by simp [hz])
     have hz2 : ((o.r.via : Int) == 0) = false := by simp; omega
     have hz3 : ((o.r.via : Int) != 0) = true := by simp; omega
     clear hz HE
     go_wp2_with fail
     go_ret
     exact ⟨ret_bool HE2.out.symm, HT.out⟩
 ·by_cases k2 : o.kind = 2
  ·have HE : Hid (R = valB o.r.x o.r.n) := by unfold Hid; rw [HR.out]; simp [mayB, k2]
   rw [k2] at c0 HW1 ⊢
   generalize valB o.r.x o.r.n = V at *
   clear k1 k2 HR
   cases V with
   | true =>
    go_enter Tryz.func30, Tryz.ntmps30
    go_upto_region 1 with fail
    rw [<- HW1.out]
    go_wp2_with fail
    refine HV.out.mono ?_
    rintro _ w2 ⟨rfl, hb2⟩
    have HT : Hid (Below w.heap.size w w2) := HB1.out.trans (hb2.mono HB1.out.size)
    have d0 : w2.cell? ⟨w.heap.size, 0, none⟩ = some (.int .i64 2) := (hb2.cell (p := ⟨w.heap.size, 0, none⟩) (gsl HR1.out)).trans c0
    clear hb2 c0 c1 c2
    go_wp2_with fail
    go_ret
    exact ⟨ret_bool HE.out.symm, HT.out⟩
   | false =>
    go_enter Tryz.func30, Tryz.ntmps30
    go_upto_region 1 with fail
    rw [<- HW1.out]
    go_wp2_with fail
    refine HV.out.mono ?_
    rintro _ w2 ⟨rfl, hb2⟩
    have HT : Hid (Below w.heap.size w w2) := HB1.out.trans (hb2.mono HB1.out.size)
    clear hb2
    go_wp2_with fail
    go_ret
    exact ⟨ret_bool HE.out.symm, HT.out⟩
  ·have HE : Hid (R = decide (3 <= o.kind /\ o.kind <= 6)) := by unfold Hid; rw [HR.out]; simp [mayB, k1, k2]
   generalize o.kind = kd at *
   clear HV HR c1 c2
   by_cases h1 : kd < 1
   ·have HE2 : Hid (R = false) := HE.out.trans (decide_eq_false (by omega))
    clear k1 k2 HE
    go_enter Tryz.func30, Tryz.ntmps30
    go_upto_region 1 with fail
    rw [<- HW1.out]
    go_wp2_with fail
    go_ret
    exact ⟨ret_bool HE2.out.symm, HB1.out⟩
   ·by_cases h6 : 6 < kd
    ·have HE2 : Hid (R = false) := HE.out.trans (decide_eq_false (by omega))
     clear k1 k2 HE
     go_enter Tryz.func30, Tryz.ntmps30
     go_upto_region 1 with fail
     rw [<- HW1.out]
     go_wp2_with fail
     go_ret
     exact ⟨ret_bool HE2.out.symm, HB1.out⟩
    ·have HE2 : Hid (R = true) := HE.out.trans (decide_eq_true (by omega))
     have h3 : 2 < kd := by omega
     clear k1 k2 HE
     go_enter Tryz.func30, Tryz.ntmps30
     go_upto_region 1 with fail
     rw [<- HW1.out]
     go_wp2_with fail
     go_ret
     exact ⟨ret_bool HE2.out.symm, HB1.out⟩
def fullB (A : List Vt) (B : List Nb) (C : List Fd) (cr cn cf : Nat) (o : Opv) : Bool :=
 if o.kind = 1 then decide (cr <= A.length) && (ix Tri.Vt.key A o.r.key).isNone
 else if o.kind = 3 then decide (cn <= B.length) && (ix Nb.ip B o.n.ip).isNone
 else if o.kind = 5 then decide (cf <= C.length) && (ix Fd.mac C o.f.mac).isNone
 else false
theorem three_boxes (w : World) (a b c : Obj) : (((w.alloc a).alloc b).alloc c).heap[w.heap.size]? = some a /\ (((w.alloc a).alloc b).alloc c).heap[w.heap.size + 1]? = some b /\ (((w.alloc a).alloc b).alloc c).heap[w.heap.size + 2]? = some c /\ Below w.heap.size w (((w.alloc a).alloc b).alloc c) := by
 have s1 : (w.alloc a).heap.size = w.heap.size + 1 := by simp
 have s2 : ((w.alloc a).alloc b).heap.size = w.heap.size + 2 := by simp
 have h1 : (w.alloc a).heap[w.heap.size]? = some a := heap_alloc_new w a
 have h2 : ((w.alloc a).alloc b).heap[w.heap.size]? = some a := below_keeps (bR.alloc nL _) h1 (by rw [s1]; omega)
 have h3 : ((w.alloc a).alloc b).heap[w.heap.size + 1]? = some b := by rw [<- s1]; exact heap_alloc_new _ b
 refine ⟨below_keeps (bR.alloc nL _) h2 (by rw [s2]; omega), below_keeps (bR.alloc nL _) h3 (by rw [s2]; omega), by rw [<- s2]; exact heap_alloc_new _ c, ?_⟩
 exact ((bR.alloc nL _).alloc (by rw [s1]; omega) _).alloc (by rw [s2]; omega) _
theorem pz_none {x : Option Nat} (h : x = none) : pz x = -1 := by rw [h]; rfl
theorem pz_some {x : Option Nat} {i : Nat} (h : x = some i) : pz x = (i : Int) := by rw [h]; rfl
theorem full_any (w : World) (x1 y1 z1 : Value) {A : List Vt} {B : List Nb} {C : List Fd} (cr cn cf : Nat) (o : Opv) (hx : Own kR w 0 x1 A) (hy : Own kN w 0 y1 B) (hz : Own kF w 0 z1 C) (hA : A.length <= 256) (hB : B.length <= 256) (hC : C.length <= 256) :
  Calls Tryz.prog 31 #[.agg #[x1, y1, z1], .agg o.cells, .agg #[.int .i64 (cr : Int), .int .i64 (cn : Int), .int .i64 (cf : Int)]] w fun e w' => e = .returned (.bool (fullB A B C cr cn cf o)) /\ Below w.heap.size w w' := by
 obtain ⟨a1, n1, c1, rfl, HN1, -, -⟩ := hx.shape
 obtain ⟨a3, n3, c3, rfl, HN3, -, -⟩ := hy.shape
 obtain ⟨a5, n5, c5, rfl, HN5, -, -⟩ := hz.shape
 obtain ⟨w1, HW1⟩ : ∃ w1, Hid (w1 = ((w.alloc (.cells #[.slice a1 n1 c1, .slice a3 n3 c3, .slice a5 n5 c5] 51)).alloc (.cells o.cells 46)).alloc (.cells #[.int .i64 (cr : Int), .int .i64 (cn : Int), .int .i64 (cf : Int)] 23)) := ⟨_, rfl⟩
 obtain ⟨r0, r1, r2, hb1⟩ : w1.heap[w.heap.size]? = some (.cells #[.slice a1 n1 c1, .slice a3 n3 c3, .slice a5 n5 c5] 51) /\ w1.heap[w.heap.size + 1]? = some (.cells o.cells 46) /\ w1.heap[w.heap.size + 2]? = some (.cells #[.int .i64 (cr : Int), .int .i64 (cn : Int), .int .i64 (cf : Int)] 23) /\ Below w.heap.size w w1 := by rw [HW1.out]; exact three_boxes w _ _ _
 have HR0 := hid r0
 have HB1 := hid hb1
 have HX := hid (hx.below hb1)
 have HY := hid (hy.below hb1)
 have HZ := hid (hz.below hb1)
 have t0 : w1.cell? ⟨w.heap.size, 0, none⟩ = some (.slice a1 n1 c1) := crw r0 rfl
 have t1 : w1.cell? ⟨w.heap.size, 1, none⟩ = some (.slice a3 n3 c3) := crw r0 rfl
 have t2 : w1.cell? ⟨w.heap.size, 2, none⟩ = some (.slice a5 n5 c5) := crw r0 rfl
 have o0 : w1.cell? ⟨w.heap.size + 1, 0, none⟩ = some (.int .i64 o.kind) := crw r1 rfl
 have q0 : w1.cell? ⟨w.heap.size + 2, 0, none⟩ = some (.int .i64 (cr : Int)) := crw r2 rfl
 have q1 : w1.cell? ⟨w.heap.size + 2, 1, none⟩ = some (.int .i64 (cn : Int)) := crw r2 rfl
 have q2 : w1.cell? ⟨w.heap.size + 2, 2, none⟩ = some (.int .i64 (cf : Int)) := crw r2 rfl
 have HLA : Hid (A.length <= 256 /\ B.length <= 256 /\ C.length <= 256) := ⟨hA, hB, hC⟩
 have l1 : n1 <= 256 := by rw [HN1.out]; exact hA
 have l3 : n3 <= 256 := by rw [HN3.out]; exact hB
 have l5 : n5 <= 256 := by rw [HN5.out]; exact hC
 obtain ⟨R, HR⟩ : ∃ R, Hid (R = fullB A B C cr cn cf o) := ⟨_, rfl⟩
 rw [<- HR.out]
 have HRO := hid r1
 clear hx hy hz hA hB hC hb1 r0 r1 r2
 by_cases k1 : o.kind = 1
 ·have HE : Hid (R = (decide (cr <= A.length) && (ix Tri.Vt.key A (o.r.x, o.r.n)).isNone)) := by unfold Hid; rw [HR.out]; simp only [fullB, k1, if_true]; rfl
  have o1 : w1.cell? ⟨w.heap.size + 1, 1, none⟩ = some (.int .u32 (o.r.x : Int)) := crw HRO.out rfl
  have o2 : w1.cell? ⟨w.heap.size + 1, 2, none⟩ = some (.int .i64 o.r.n) := crw HRO.out rfl
  have HC := hid (routeT_any w1 (.slice a1 n1 c1) (.slice a3 n3 c3) (.slice a5 n5 c5) o.r.x o.r.n HX.out HLA.out.1)
  rw [k1] at o0
  unfold Opv.cells at HW1
  unfold Opv.cells
  rw [k1] at HW1 ⊢
  by_cases hf : cr <= n1
  ·have hf' : (cr : Int) <= (n1 : Int) := by omega
   cases hix : ix Tri.Vt.key A (o.r.x, o.r.n) with
   | none =>
    have HE2 : Hid (R = true) := by unfold Hid; rw [HE.out, hix]; simp; rw [<- HN1.out]; exact hf
    rw [pz_none hix] at HC
    clear HE HR hix
    go_enter Tryz.func31, Tryz.ntmps31
    go_upto_region 1 with fail
    rw [<- HW1.out]
    clear HW1
    go_wp2_with fail
    refine HC.out.mono ?_
    rintro _ w2 ⟨rfl, hb2⟩
    have HT : Hid (Below w.heap.size w w2) := HB1.out.trans (hb2.mono HB1.out.size)
    clear hb2
    go_wp2_with fail
    go_ret
    exact ⟨ret_bool HE2.out.symm, HT.out⟩
   | some i =>
    have HE2 : Hid (R = false) := by unfold Hid; rw [HE.out, hix]; simp
    rw [pz_some hix] at HC
    have hi0 : ¬ (i : Int) < 0 := by omega
    have hi1 : decide ((i : Int) < 0) = false := by simp
    clear HE HR hix
    go_enter Tryz.func31, Tryz.ntmps31
    go_upto_region 1 with fail
    rw [<- HW1.out]
    clear HW1
    go_wp2_with fail
    refine HC.out.mono ?_
    rintro _ w2 ⟨rfl, hb2⟩
    have HT : Hid (Below w.heap.size w w2) := HB1.out.trans (hb2.mono HB1.out.size)
    clear hb2
    go_wp2_with fail
    go_ret
    exact ⟨ret_bool HE2.out.symm, HT.out⟩
  ·have hf' : ¬ (cr : Int) <= (n1 : Int) := by omega
   have HE2 : Hid (R = false) := by unfold Hid; rw [HE.out, <- HN1.out, decide_eq_false hf]; rfl
   clear HE HR HC
   go_enter Tryz.func31, Tryz.ntmps31
   go_upto_region 1 with fail
   rw [<- HW1.out]
   clear HW1
   go_wp2_with fail
   go_ret
   exact ⟨ret_bool HE2.out.symm, HB1.out⟩
 ·by_cases k3 : o.kind = 3
  ·have HE : Hid (R = (decide (cn <= B.length) && (ix Nb.ip B o.n.ip).isNone)) := by unfold Hid; rw [HR.out]; simp [fullB, k3]
   have o5 : w1.cell? ⟨w.heap.size + 1, 5, none⟩ = some (.int .u32 (o.n.ip : Int)) := crw HRO.out rfl
   have HC := hid (neighT_any w1 (.slice a1 n1 c1) (.slice a3 n3 c3) (.slice a5 n5 c5) o.n.ip HY.out HLA.out.2.1)
   rw [k3] at o0
   unfold Opv.cells at HW1
   unfold Opv.cells
   rw [k3] at HW1 ⊢
   by_cases hf : cn <= n3
   ·have hf' : (cn : Int) <= (n3 : Int) := by omega
    cases hix : ix Nb.ip B o.n.ip with
    | none =>
     have HE2 : Hid (R = true) := by unfold Hid; rw [HE.out, hix]; simp; rw [<- HN3.out]; exact hf
     rw [pz_none hix] at HC
     clear HE HR hix
     go_enter Tryz.func31, Tryz.ntmps31
     go_upto_region 1 with fail
     rw [<- HW1.out]
     clear HW1
     go_wp2_with fail
     refine HC.out.mono ?_
     rintro _ w2 ⟨rfl, hb2⟩
     have HT : Hid (Below w.heap.size w w2) := HB1.out.trans (hb2.mono HB1.out.size)
     clear hb2
     go_wp2_with fail
     go_ret
     exact ⟨ret_bool HE2.out.symm, HT.out⟩
    | some i =>
     have HE2 : Hid (R = false) := by unfold Hid; rw [HE.out, hix]; simp
     rw [pz_some hix] at HC
     have hi0 : ¬ (i : Int) < 0 := by omega
     have hi1 : decide ((i : Int) < 0) = false := by simp
     clear HE HR hix
     go_enter Tryz.func31, Tryz.ntmps31
     go_upto_region 1 with fail
     rw [<- HW1.out]
     clear HW1
     go_wp2_with fail
     refine HC.out.mono ?_
     rintro _ w2 ⟨rfl, hb2⟩
     have HT : Hid (Below w.heap.size w w2) := HB1.out.trans (hb2.mono HB1.out.size)
     clear hb2
     go_wp2_with fail
     go_ret
     exact ⟨ret_bool HE2.out.symm, HT.out⟩
   ·have hf' : ¬ (cn : Int) <= (n3 : Int) := by omega
    have HE2 : Hid (R = false) := by unfold Hid; rw [HE.out, <- HN3.out, decide_eq_false hf]; rfl
    clear HE HR HC
    go_enter Tryz.func31, Tryz.ntmps31
    go_upto_region 1 with fail
    rw [<- HW1.out]
    clear HW1
    go_wp2_with fail
    go_ret
    exact ⟨ret_bool HE2.out.symm, HB1.out⟩
  ·by_cases k5 : o.kind = 5
   ·have HE : Hid (R = (decide (cf <= C.length) && (ix Fd.mac C o.f.mac).isNone)) := by unfold Hid; rw [HR.out]; simp [fullB, k5]
    have o12 : w1.cell? ⟨w.heap.size + 1, 12, none⟩ = some (.int .u8 (o.f.mac.b0 : Int)) := crw HRO.out rfl
    have o13 : w1.cell? ⟨w.heap.size + 1, 13, none⟩ = some (.int .u8 (o.f.mac.b1 : Int)) := crw HRO.out rfl
    have o14 : w1.cell? ⟨w.heap.size + 1, 14, none⟩ = some (.int .u8 (o.f.mac.b2 : Int)) := crw HRO.out rfl
    have o15 : w1.cell? ⟨w.heap.size + 1, 15, none⟩ = some (.int .u8 (o.f.mac.b3 : Int)) := crw HRO.out rfl
    have o16 : w1.cell? ⟨w.heap.size + 1, 16, none⟩ = some (.int .u8 (o.f.mac.b4 : Int)) := crw HRO.out rfl
    have o17 : w1.cell? ⟨w.heap.size + 1, 17, none⟩ = some (.int .u8 (o.f.mac.b5 : Int)) := crw HRO.out rfl
    have HC := hid (fdbT_any w1 (.slice a1 n1 c1) (.slice a3 n3 c3) (.slice a5 n5 c5) o.f.mac HZ.out HLA.out.2.2)
    rw [k5] at o0
    unfold Opv.cells at HW1
    unfold Opv.cells
    rw [k5] at HW1 ⊢
    by_cases hf : cf <= n5
    ·have hf' : (cf : Int) <= (n5 : Int) := by omega
     cases hix : ix Fd.mac C o.f.mac with
     | none =>
      have HE2 : Hid (R = true) := by unfold Hid; rw [HE.out, hix]; simp; rw [<- HN5.out]; exact hf
      rw [pz_none hix] at HC
      clear HE HR hix
      go_enter Tryz.func31, Tryz.ntmps31
      go_upto_region 1 with fail
      rw [<- HW1.out]
      clear HW1
      go_wp2_with fail
      refine HC.out.mono ?_
      rintro _ w2 ⟨rfl, hb2⟩
      have HT : Hid (Below w.heap.size w w2) := HB1.out.trans (hb2.mono HB1.out.size)
      clear hb2
      go_wp2_with fail
      go_ret
      exact ⟨ret_bool HE2.out.symm, HT.out⟩
     | some i =>
      have HE2 : Hid (R = false) := by unfold Hid; rw [HE.out, hix]; simp
      rw [pz_some hix] at HC
      have hi0 : ¬ (i : Int) < 0 := by omega
      have hi1 : decide ((i : Int) < 0) = false := by simp
      clear HE HR hix
      go_enter Tryz.func31, Tryz.ntmps31
      go_upto_region 1 with fail
      rw [<- HW1.out]
      clear HW1
      go_wp2_with fail
      refine HC.out.mono ?_
      rintro _ w2 ⟨rfl, hb2⟩
      have HT : Hid (Below w.heap.size w w2) := HB1.out.trans (hb2.mono HB1.out.size)
      clear hb2
      go_wp2_with fail
      go_ret
      exact ⟨ret_bool HE2.out.symm, HT.out⟩
    ·have hf' : ¬ (cf : Int) <= (n5 : Int) := by omega
     have HE2 : Hid (R = false) := by unfold Hid; rw [HE.out, <- HN5.out, decide_eq_false hf]; rfl
     clear HE HR HC
     go_enter Tryz.func31, Tryz.ntmps31
     go_upto_region 1 with fail
     rw [<- HW1.out]
     clear HW1
     go_wp2_with fail
     go_ret
     exact ⟨ret_bool HE2.out.symm, HB1.out⟩
   ·have HE2 : Hid (R = false) := by unfold Hid; rw [HR.out]; simp [fullB, k1, k3, k5]
    unfold Opv.cells at HW1
    unfold Opv.cells
    generalize o.kind = kd at *
    have j1 : (kd == 1) = false := by simpa using k1
    have j3 : (kd == 3) = false := by simpa using k3
    have j5 : (kd == 5) = false := by simpa using k5
    clear HR
    go_enter Tryz.func31, Tryz.ntmps31
    go_upto_region 1 with fail
    rw [<- HW1.out]
    clear HW1
    go_wp2_with fail
    go_ret
    exact ⟨ret_bool HE2.out.symm, HB1.out⟩
def HasP (A : List Vt) (B : List Nb) (C : List Fd) (o : Opv) : Prop :=
 (o.kind = 1 /\ ∃ i, ix Tri.Vt.key A (o.r.x, o.r.n) = some i /\ A[i]? = some o.r) \/ (o.kind = 2 /\ ix Tri.Vt.key A (o.r.x, o.r.n) = none) \/
 (o.kind = 3 /\ ∃ i, ix Nb.ip B o.n.ip = some i /\ B[i]? = some o.n) \/ (o.kind = 4 /\ ix Nb.ip B o.n.ip = none) \/
 (o.kind = 5 /\ ∃ i, ix Fd.mac C o.f.mac = some i /\ C[i]? = some o.f) \/ (o.kind = 6 /\ ix Fd.mac C o.f.mac = none)
theorem eqRt (x : Nat) (n : Int) (v : Nat) (l : Bool) (u : World) : (Op.equalIn 10000 38 (.agg #[.int .u32 (x : Int), .int .i64 n, .int .u32 (v : Int), .bool l]) (.agg #[.int .u32 (x : Int), .int .i64 n, .int .u32 (v : Int), .bool l])).run Tryz.prog u = .ok true u := by
 simp [go_sem]
theorem eqNb (i : Nat) (m : Mc) (u : World) : (Op.equalIn 10000 42 (.agg #[.int .u32 (i : Int), .int .u8 (m.b0 : Int), .int .u8 (m.b1 : Int), .int .u8 (m.b2 : Int), .int .u8 (m.b3 : Int), .int .u8 (m.b4 : Int), .int .u8 (m.b5 : Int)]) (.agg #[.int .u32 (i : Int), .int .u8 (m.b0 : Int), .int .u8 (m.b1 : Int), .int .u8 (m.b2 : Int), .int .u8 (m.b3 : Int), .int .u8 (m.b4 : Int), .int .u8 (m.b5 : Int)])).run Tryz.prog u = .ok true u := by
 have h6 := eq6 m
 simp [go_sem, h6]
theorem eqFd (i : Nat) (m : Mc) (u : World) : (Op.equalIn 10000 44 (.agg #[.int .u8 (m.b0 : Int), .int .u8 (m.b1 : Int), .int .u8 (m.b2 : Int), .int .u8 (m.b3 : Int), .int .u8 (m.b4 : Int), .int .u8 (m.b5 : Int), .int .u32 (i : Int)]) (.agg #[.int .u8 (m.b0 : Int), .int .u8 (m.b1 : Int), .int .u8 (m.b2 : Int), .int .u8 (m.b3 : Int), .int .u8 (m.b4 : Int), .int .u8 (m.b5 : Int), .int .u32 (i : Int)])).run Tryz.prog u = .ok true u := by
 have h6 := eq6 m
 simp [go_sem, h6]
theorem two_bx (w : World) (a b : Obj) : ((w.alloc a).alloc b).heap[w.heap.size]? = some a /\ ((w.alloc a).alloc b).heap[w.heap.size + 1]? = some b /\ Below w.heap.size w ((w.alloc a).alloc b) := by
 have s1 : (w.alloc a).heap.size = w.heap.size + 1 := by simp
 have h1 : (w.alloc a).heap[w.heap.size]? = some a := heap_alloc_new w a
 refine ⟨below_keeps (bR.alloc nL _) h1 (by rw [s1]; omega), by rw [<- s1]; exact heap_alloc_new _ b, ?_⟩
 exact (bR.alloc nL _).alloc (by rw [s1]; omega) _
theorem has_true (w : World) (x1 y1 z1 : Value) {A : List Vt} {B : List Nb} {C : List Fd} (o : Opv) (hx : Own kR w 0 x1 A) (hy : Own kN w 0 y1 B) (hz : Own kF w 0 z1 C) (hA : A.length <= 256) (hB : B.length <= 256) (hC : C.length <= 256) (hh : HasP A B C o) :
  Calls Tryz.prog 32 #[.agg #[x1, y1, z1], .agg o.cells] w fun e w' => e = .returned (.bool true) /\ Below w.heap.size w w' := by
 obtain ⟨a1, n1, c1, rfl, HN1, -, -⟩ := hx.shape
 obtain ⟨a3, n3, c3, rfl, HN3, -, -⟩ := hy.shape
 obtain ⟨a5, n5, c5, rfl, HN5, -, -⟩ := hz.shape
 obtain ⟨w1, HW1⟩ : ∃ w1, Hid (w1 = (w.alloc (.cells #[.slice a1 n1 c1, .slice a3 n3 c3, .slice a5 n5 c5] 51)).alloc (.cells o.cells 46)) := ⟨_, rfl⟩
 obtain ⟨r0, r1, hb1⟩ : w1.heap[w.heap.size]? = some (.cells #[.slice a1 n1 c1, .slice a3 n3 c3, .slice a5 n5 c5] 51) /\ w1.heap[w.heap.size + 1]? = some (.cells o.cells 46) /\ Below w.heap.size w w1 := by rw [HW1.out]; exact two_bx w _ _
 have HR0 : Hid (∀ u, Below w1.heap.size w1 u -> u.heap[w.heap.size]? = some (.cells #[.slice a1 n1 c1, .slice a3 n3 c3, .slice a5 n5 c5] 51)) := fun u hu => below_keeps hu r0 (gsl r0)
 have HRO : Hid (∀ u, Below w1.heap.size w1 u -> u.heap[w.heap.size + 1]? = some (.cells o.cells 46)) := fun u hu => below_keeps hu r1 (gsl r1)
 have HB1 := hid hb1
 have HX := hid (hx.below hb1)
 have HY := hid (hy.below hb1)
 have HZ := hid (hz.below hb1)
 have t0 : w1.cell? ⟨w.heap.size, 0, none⟩ = some (.slice a1 n1 c1) := crw r0 rfl
 have t1 : w1.cell? ⟨w.heap.size, 1, none⟩ = some (.slice a3 n3 c3) := crw r0 rfl
 have t2 : w1.cell? ⟨w.heap.size, 2, none⟩ = some (.slice a5 n5 c5) := crw r0 rfl
 have o0 : w1.cell? ⟨w.heap.size + 1, 0, none⟩ = some (.int .i64 o.kind) := crw r1 rfl
 have HLA : Hid (A.length <= 256 /\ B.length <= 256 /\ C.length <= 256) := ⟨hA, hB, hC⟩
 have l1 : n1 <= 256 := by rw [HN1.out]; exact hA
 have l3 : n3 <= 256 := by rw [HN3.out]; exact hB
 have l5 : n5 <= 256 := by rw [HN5.out]; exact hC
 unfold Opv.cells at HW1
 unfold Opv.cells
 clear hx hy hz hA hB hC hb1
 rcases hh with ⟨hk, i, hix, hat⟩ | ⟨hk, hix⟩ | ⟨hk, i, hix, hat⟩ | ⟨hk, hix⟩ | ⟨hk, i, hix, hat⟩ | ⟨hk, hix⟩
 ·have HC := hid (routeT_any w1 (.slice a1 n1 c1) (.slice a3 n3 c3) (.slice a5 n5 c5) o.r.x o.r.n HX.out HLA.out.1)
  rw [pz_some hix] at HC
  have o1 : w1.cell? ⟨w.heap.size + 1, 1, none⟩ = some (.int .u32 (o.r.x : Int)) := crw r1 rfl
  have o2 : w1.cell? ⟨w.heap.size + 1, 2, none⟩ = some (.int .i64 o.r.n) := crw r1 rfl
  rw [hk] at o0 HW1 ⊢
  have HAT := hid hat
  obtain ⟨g, hg0, hg, hcl⟩ := HX.out.at hat
  cases hg0
  have hin : i < n1 := by rw [HN1.out]; exact (List.getElem?_eq_some_iff.1 hat).1
  have hi1 : (i : Int) < (n1 : Int) := int_lt hin
  have hi2 : (0 : Int) <= (i : Int) := by omega
  have hi3 : decide ((i : Int) < 0) = false := by simp
  have HG := hid hg
  have HCL := hid hcl
  clear r0 r1 hk hix hat hg hcl hin
  go_enter Tryz.func32, Tryz.ntmps32
  go_upto_region 1 with fail
  rw [<- HW1.out]
  clear HW1
  go_wp2_with fail
  refine HC.out.mono ?_
  rintro _ w2 ⟨rfl, hb2⟩
  have hu : ∀ t : Beh w2, Below w1.heap.size w1 t.wd := fun t => hb2.trans (t.ok.mono hb2.size)
  have kc : ∀ t : Beh w2, t.wd.cell? ⟨w.heap.size, 0, none⟩ = some (.slice (some ⟨g, 0, none⟩) n1 c1) := fun t => by rw [cell_of_row _ _ _ _ _ _ (HR0.out t.wd (hu t))]; rfl
  have k0 : ∀ t : Beh w2, t.wd.cell? ⟨g, i * 4, none⟩ = some (.int .u32 (o.r.x : Int)) := fun t => ((HCL.out t.wd ((hu t).block g HG.out)).1 0 (by decide)).1
  have m0 : ∀ t : Beh w2, t.wd.cell? ⟨w.heap.size + 1, 1, none⟩ = some (.int .u32 (o.r.x : Int)) := fun t => by rw [cell_of_row _ _ _ _ _ _ (HRO.out t.wd (hu t))]; rfl
  have k1 : ∀ t : Beh w2, t.wd.cell? ⟨g, i * 4 + 1, none⟩ = some (.int .i64 o.r.n) := fun t => ((HCL.out t.wd ((hu t).block g HG.out)).1 1 (by decide)).1
  have m1 : ∀ t : Beh w2, t.wd.cell? ⟨w.heap.size + 1, 2, none⟩ = some (.int .i64 o.r.n) := fun t => by rw [cell_of_row _ _ _ _ _ _ (HRO.out t.wd (hu t))]; rfl
  have k2 : ∀ t : Beh w2, t.wd.cell? ⟨g, i * 4 + 2, none⟩ = some (.int .u32 (o.r.via : Int)) := fun t => ((HCL.out t.wd ((hu t).block g HG.out)).1 2 (by decide)).1
  have m2 : ∀ t : Beh w2, t.wd.cell? ⟨w.heap.size + 1, 3, none⟩ = some (.int .u32 (o.r.via : Int)) := fun t => by rw [cell_of_row _ _ _ _ _ _ (HRO.out t.wd (hu t))]; rfl
  have k3 : ∀ t : Beh w2, t.wd.cell? ⟨g, i * 4 + 3, none⟩ = some (.bool o.r.loc) := fun t => ((HCL.out t.wd ((hu t).block g HG.out)).1 3 (by decide)).1
  have m3 : ∀ t : Beh w2, t.wd.cell? ⟨w.heap.size + 1, 4, none⟩ = some (.bool o.r.loc) := fun t => by rw [cell_of_row _ _ _ _ _ _ (HRO.out t.wd (hu t))]; rfl
  have HT : Hid (∀ t : Beh w2, Below w.heap.size w t.wd) := fun t => HB1.out.trans ((hu t).mono HB1.out.size)
  have heq := eqRt o.r.x o.r.n o.r.via o.r.loc
  clear hb2 hu HCL HG
  go_upto_region 4 with fail
  refine wp_region_beh (by kernel_rfl) (by kernel_rfl) ?_
  repeat (go_big_quiet_step (fail))
  refine wpQuiet_nil ?_
  rintro _ ⟨t, rfl⟩
  have HT2 := hid (HT.out t)
  clear kc heq k0 m0 k1 m1 k2 m2 k3 m3
  go_wp2_with fail
  go_ret
  exact ⟨rfl, HT2.out⟩
 ·have HC := hid (routeT_any w1 (.slice a1 n1 c1) (.slice a3 n3 c3) (.slice a5 n5 c5) o.r.x o.r.n HX.out HLA.out.1)
  rw [pz_none hix] at HC
  have o1 : w1.cell? ⟨w.heap.size + 1, 1, none⟩ = some (.int .u32 (o.r.x : Int)) := crw r1 rfl
  have o2 : w1.cell? ⟨w.heap.size + 1, 2, none⟩ = some (.int .i64 o.r.n) := crw r1 rfl
  rw [hk] at o0 HW1 ⊢
  clear r0 r1 hk hix
  go_enter Tryz.func32, Tryz.ntmps32
  go_upto_region 1 with fail
  rw [<- HW1.out]
  clear HW1
  go_wp2_with fail
  refine HC.out.mono ?_
  rintro _ w2 ⟨rfl, hb2⟩
  have HT : Hid (Below w.heap.size w w2) := HB1.out.trans (hb2.mono HB1.out.size)
  clear hb2
  go_wp2_with fail
  go_ret
  exact ⟨rfl, HT.out⟩
 ·have HC := hid (neighT_any w1 (.slice a1 n1 c1) (.slice a3 n3 c3) (.slice a5 n5 c5) o.n.ip HY.out HLA.out.2.1)
  rw [pz_some hix] at HC
  have o5 : w1.cell? ⟨w.heap.size + 1, 5, none⟩ = some (.int .u32 (o.n.ip : Int)) := crw r1 rfl
  rw [hk] at o0 HW1 ⊢
  have HAT := hid hat
  obtain ⟨g, hg0, hg, hcl⟩ := HY.out.at hat
  cases hg0
  have hin : i < n3 := by rw [HN3.out]; exact (List.getElem?_eq_some_iff.1 hat).1
  have hi1 : (i : Int) < (n3 : Int) := int_lt hin
  have hi2 : (0 : Int) <= (i : Int) := by omega
  have hi3 : decide ((i : Int) < 0) = false := by simp
  have HG := hid hg
  have HCL := hid hcl
  clear r0 r1 hk hix hat hg hcl hin
  go_enter Tryz.func32, Tryz.ntmps32
  go_upto_region 1 with fail
  rw [<- HW1.out]
  clear HW1
  go_wp2_with fail
  refine HC.out.mono ?_
  rintro _ w2 ⟨rfl, hb2⟩
  have hu : ∀ t : Beh w2, Below w1.heap.size w1 t.wd := fun t => hb2.trans (t.ok.mono hb2.size)
  have kc : ∀ t : Beh w2, t.wd.cell? ⟨w.heap.size, 1, none⟩ = some (.slice (some ⟨g, 0, none⟩) n3 c3) := fun t => by rw [cell_of_row _ _ _ _ _ _ (HR0.out t.wd (hu t))]; rfl
  have k0 : ∀ t : Beh w2, t.wd.cell? ⟨g, i * 7, none⟩ = some (.int .u32 (o.n.ip : Int)) := fun t => ((HCL.out t.wd ((hu t).block g HG.out)).1 0 (by decide)).1
  have m0 : ∀ t : Beh w2, t.wd.cell? ⟨w.heap.size + 1, 5, none⟩ = some (.int .u32 (o.n.ip : Int)) := fun t => by rw [cell_of_row _ _ _ _ _ _ (HRO.out t.wd (hu t))]; rfl
  have k1 : ∀ t : Beh w2, t.wd.cell? ⟨g, i * 7 + 1, none⟩ = some (.int .u8 (o.n.mac.b0 : Int)) := fun t => ((HCL.out t.wd ((hu t).block g HG.out)).1 1 (by decide)).1
  have m1 : ∀ t : Beh w2, t.wd.cell? ⟨w.heap.size + 1, 6, none⟩ = some (.int .u8 (o.n.mac.b0 : Int)) := fun t => by rw [cell_of_row _ _ _ _ _ _ (HRO.out t.wd (hu t))]; rfl
  have k2 : ∀ t : Beh w2, t.wd.cell? ⟨g, i * 7 + 2, none⟩ = some (.int .u8 (o.n.mac.b1 : Int)) := fun t => ((HCL.out t.wd ((hu t).block g HG.out)).1 2 (by decide)).1
  have m2 : ∀ t : Beh w2, t.wd.cell? ⟨w.heap.size + 1, 7, none⟩ = some (.int .u8 (o.n.mac.b1 : Int)) := fun t => by rw [cell_of_row _ _ _ _ _ _ (HRO.out t.wd (hu t))]; rfl
  have k3 : ∀ t : Beh w2, t.wd.cell? ⟨g, i * 7 + 3, none⟩ = some (.int .u8 (o.n.mac.b2 : Int)) := fun t => ((HCL.out t.wd ((hu t).block g HG.out)).1 3 (by decide)).1
  have m3 : ∀ t : Beh w2, t.wd.cell? ⟨w.heap.size + 1, 8, none⟩ = some (.int .u8 (o.n.mac.b2 : Int)) := fun t => by rw [cell_of_row _ _ _ _ _ _ (HRO.out t.wd (hu t))]; rfl
  have k4 : ∀ t : Beh w2, t.wd.cell? ⟨g, i * 7 + 4, none⟩ = some (.int .u8 (o.n.mac.b3 : Int)) := fun t => ((HCL.out t.wd ((hu t).block g HG.out)).1 4 (by decide)).1
  have m4 : ∀ t : Beh w2, t.wd.cell? ⟨w.heap.size + 1, 9, none⟩ = some (.int .u8 (o.n.mac.b3 : Int)) := fun t => by rw [cell_of_row _ _ _ _ _ _ (HRO.out t.wd (hu t))]; rfl
  have k5 : ∀ t : Beh w2, t.wd.cell? ⟨g, i * 7 + 5, none⟩ = some (.int .u8 (o.n.mac.b4 : Int)) := fun t => ((HCL.out t.wd ((hu t).block g HG.out)).1 5 (by decide)).1
  have m5 : ∀ t : Beh w2, t.wd.cell? ⟨w.heap.size + 1, 10, none⟩ = some (.int .u8 (o.n.mac.b4 : Int)) := fun t => by rw [cell_of_row _ _ _ _ _ _ (HRO.out t.wd (hu t))]; rfl
  have k6 : ∀ t : Beh w2, t.wd.cell? ⟨g, i * 7 + 6, none⟩ = some (.int .u8 (o.n.mac.b5 : Int)) := fun t => ((HCL.out t.wd ((hu t).block g HG.out)).1 6 (by decide)).1
  have m6 : ∀ t : Beh w2, t.wd.cell? ⟨w.heap.size + 1, 11, none⟩ = some (.int .u8 (o.n.mac.b5 : Int)) := fun t => by rw [cell_of_row _ _ _ _ _ _ (HRO.out t.wd (hu t))]; rfl
  have HT : Hid (∀ t : Beh w2, Below w.heap.size w t.wd) := fun t => HB1.out.trans ((hu t).mono HB1.out.size)
  have heq := eqNb o.n.ip o.n.mac
  clear hb2 hu HCL HG
  go_upto_region 9 with fail
  refine wp_region_beh (by kernel_rfl) (by kernel_rfl) ?_
  repeat (go_big_quiet_step (fail))
  refine wpQuiet_nil ?_
  rintro _ ⟨t, rfl⟩
  have HT2 := hid (HT.out t)
  clear kc heq k0 m0 k1 m1 k2 m2 k3 m3 k4 m4 k5 m5 k6 m6
  go_wp2_with fail
  go_ret
  exact ⟨rfl, HT2.out⟩
 ·have HC := hid (neighT_any w1 (.slice a1 n1 c1) (.slice a3 n3 c3) (.slice a5 n5 c5) o.n.ip HY.out HLA.out.2.1)
  rw [pz_none hix] at HC
  have o5 : w1.cell? ⟨w.heap.size + 1, 5, none⟩ = some (.int .u32 (o.n.ip : Int)) := crw r1 rfl
  rw [hk] at o0 HW1 ⊢
  clear r0 r1 hk hix
  go_enter Tryz.func32, Tryz.ntmps32
  go_upto_region 1 with fail
  rw [<- HW1.out]
  clear HW1
  go_wp2_with fail
  refine HC.out.mono ?_
  rintro _ w2 ⟨rfl, hb2⟩
  have HT : Hid (Below w.heap.size w w2) := HB1.out.trans (hb2.mono HB1.out.size)
  clear hb2
  go_wp2_with fail
  go_ret
  exact ⟨rfl, HT.out⟩
 ·have HC := hid (fdbT_any w1 (.slice a1 n1 c1) (.slice a3 n3 c3) (.slice a5 n5 c5) o.f.mac HZ.out HLA.out.2.2)
  rw [pz_some hix] at HC
  have o12 : w1.cell? ⟨w.heap.size + 1, 12, none⟩ = some (.int .u8 (o.f.mac.b0 : Int)) := crw r1 rfl
  have o13 : w1.cell? ⟨w.heap.size + 1, 13, none⟩ = some (.int .u8 (o.f.mac.b1 : Int)) := crw r1 rfl
  have o14 : w1.cell? ⟨w.heap.size + 1, 14, none⟩ = some (.int .u8 (o.f.mac.b2 : Int)) := crw r1 rfl
  have o15 : w1.cell? ⟨w.heap.size + 1, 15, none⟩ = some (.int .u8 (o.f.mac.b3 : Int)) := crw r1 rfl
  have o16 : w1.cell? ⟨w.heap.size + 1, 16, none⟩ = some (.int .u8 (o.f.mac.b4 : Int)) := crw r1 rfl
  have o17 : w1.cell? ⟨w.heap.size + 1, 17, none⟩ = some (.int .u8 (o.f.mac.b5 : Int)) := crw r1 rfl
  rw [hk] at o0 HW1 ⊢
  have HAT := hid hat
  obtain ⟨g, hg0, hg, hcl⟩ := HZ.out.at hat
  cases hg0
  have hin : i < n5 := by rw [HN5.out]; exact (List.getElem?_eq_some_iff.1 hat).1
  have hi1 : (i : Int) < (n5 : Int) := int_lt hin
  have hi2 : (0 : Int) <= (i : Int) := by omega
  have hi3 : decide ((i : Int) < 0) = false := by simp
  have HG := hid hg
  have HCL := hid hcl
  clear r0 r1 hk hix hat hg hcl hin
  go_enter Tryz.func32, Tryz.ntmps32
  go_upto_region 1 with fail
  rw [<- HW1.out]
  clear HW1
  go_wp2_with fail
  refine HC.out.mono ?_
  rintro _ w2 ⟨rfl, hb2⟩
  have hu : ∀ t : Beh w2, Below w1.heap.size w1 t.wd := fun t => hb2.trans (t.ok.mono hb2.size)
  have kc : ∀ t : Beh w2, t.wd.cell? ⟨w.heap.size, 2, none⟩ = some (.slice (some ⟨g, 0, none⟩) n5 c5) := fun t => by rw [cell_of_row _ _ _ _ _ _ (HR0.out t.wd (hu t))]; rfl
  have k0 : ∀ t : Beh w2, t.wd.cell? ⟨g, i * 7, none⟩ = some (.int .u8 (o.f.mac.b0 : Int)) := fun t => ((HCL.out t.wd ((hu t).block g HG.out)).1 0 (by decide)).1
  have m0 : ∀ t : Beh w2, t.wd.cell? ⟨w.heap.size + 1, 12, none⟩ = some (.int .u8 (o.f.mac.b0 : Int)) := fun t => by rw [cell_of_row _ _ _ _ _ _ (HRO.out t.wd (hu t))]; rfl
  have k1 : ∀ t : Beh w2, t.wd.cell? ⟨g, i * 7 + 1, none⟩ = some (.int .u8 (o.f.mac.b1 : Int)) := fun t => ((HCL.out t.wd ((hu t).block g HG.out)).1 1 (by decide)).1
  have m1 : ∀ t : Beh w2, t.wd.cell? ⟨w.heap.size + 1, 13, none⟩ = some (.int .u8 (o.f.mac.b1 : Int)) := fun t => by rw [cell_of_row _ _ _ _ _ _ (HRO.out t.wd (hu t))]; rfl
  have k2 : ∀ t : Beh w2, t.wd.cell? ⟨g, i * 7 + 2, none⟩ = some (.int .u8 (o.f.mac.b2 : Int)) := fun t => ((HCL.out t.wd ((hu t).block g HG.out)).1 2 (by decide)).1
  have m2 : ∀ t : Beh w2, t.wd.cell? ⟨w.heap.size + 1, 14, none⟩ = some (.int .u8 (o.f.mac.b2 : Int)) := fun t => by rw [cell_of_row _ _ _ _ _ _ (HRO.out t.wd (hu t))]; rfl
  have k3 : ∀ t : Beh w2, t.wd.cell? ⟨g, i * 7 + 3, none⟩ = some (.int .u8 (o.f.mac.b3 : Int)) := fun t => ((HCL.out t.wd ((hu t).block g HG.out)).1 3 (by decide)).1
  have m3 : ∀ t : Beh w2, t.wd.cell? ⟨w.heap.size + 1, 15, none⟩ = some (.int .u8 (o.f.mac.b3 : Int)) := fun t => by rw [cell_of_row _ _ _ _ _ _ (HRO.out t.wd (hu t))]; rfl
  have k4 : ∀ t : Beh w2, t.wd.cell? ⟨g, i * 7 + 4, none⟩ = some (.int .u8 (o.f.mac.b4 : Int)) := fun t => ((HCL.out t.wd ((hu t).block g HG.out)).1 4 (by decide)).1
  have m4 : ∀ t : Beh w2, t.wd.cell? ⟨w.heap.size + 1, 16, none⟩ = some (.int .u8 (o.f.mac.b4 : Int)) := fun t => by rw [cell_of_row _ _ _ _ _ _ (HRO.out t.wd (hu t))]; rfl
  have k5 : ∀ t : Beh w2, t.wd.cell? ⟨g, i * 7 + 5, none⟩ = some (.int .u8 (o.f.mac.b5 : Int)) := fun t => ((HCL.out t.wd ((hu t).block g HG.out)).1 5 (by decide)).1
  have m5 : ∀ t : Beh w2, t.wd.cell? ⟨w.heap.size + 1, 17, none⟩ = some (.int .u8 (o.f.mac.b5 : Int)) := fun t => by rw [cell_of_row _ _ _ _ _ _ (HRO.out t.wd (hu t))]; rfl
  have k6 : ∀ t : Beh w2, t.wd.cell? ⟨g, i * 7 + 6, none⟩ = some (.int .u32 (o.f.dest : Int)) := fun t => ((HCL.out t.wd ((hu t).block g HG.out)).1 6 (by decide)).1
  have m6 : ∀ t : Beh w2, t.wd.cell? ⟨w.heap.size + 1, 18, none⟩ = some (.int .u32 (o.f.dest : Int)) := fun t => by rw [cell_of_row _ _ _ _ _ _ (HRO.out t.wd (hu t))]; rfl
  have HT : Hid (∀ t : Beh w2, Below w.heap.size w t.wd) := fun t => HB1.out.trans ((hu t).mono HB1.out.size)
  have heq := eqFd o.f.dest o.f.mac
  clear hb2 hu HCL HG
  go_upto_region 14 with fail
  refine wp_region_beh (by kernel_rfl) (by kernel_rfl) ?_
  repeat (go_big_quiet_step (fail))
  refine wpQuiet_nil ?_
  rintro _ ⟨t, rfl⟩
  have HT2 := hid (HT.out t)
  clear kc heq k0 m0 k1 m1 k2 m2 k3 m3 k4 m4 k5 m5 k6 m6
  go_wp2_with fail
  go_ret
  exact ⟨rfl, HT2.out⟩
 ·have HC := hid (fdbT_any w1 (.slice a1 n1 c1) (.slice a3 n3 c3) (.slice a5 n5 c5) o.f.mac HZ.out HLA.out.2.2)
  rw [pz_none hix] at HC
  have o12 : w1.cell? ⟨w.heap.size + 1, 12, none⟩ = some (.int .u8 (o.f.mac.b0 : Int)) := crw r1 rfl
  have o13 : w1.cell? ⟨w.heap.size + 1, 13, none⟩ = some (.int .u8 (o.f.mac.b1 : Int)) := crw r1 rfl
  have o14 : w1.cell? ⟨w.heap.size + 1, 14, none⟩ = some (.int .u8 (o.f.mac.b2 : Int)) := crw r1 rfl
  have o15 : w1.cell? ⟨w.heap.size + 1, 15, none⟩ = some (.int .u8 (o.f.mac.b3 : Int)) := crw r1 rfl
  have o16 : w1.cell? ⟨w.heap.size + 1, 16, none⟩ = some (.int .u8 (o.f.mac.b4 : Int)) := crw r1 rfl
  have o17 : w1.cell? ⟨w.heap.size + 1, 17, none⟩ = some (.int .u8 (o.f.mac.b5 : Int)) := crw r1 rfl
  rw [hk] at o0 HW1 ⊢
  clear r0 r1 hk hix
  go_enter Tryz.func32, Tryz.ntmps32
  go_upto_region 1 with fail
  rw [<- HW1.out]
  clear HW1
  go_wp2_with fail
  refine HC.out.mono ?_
  rintro _ w2 ⟨rfl, hb2⟩
  have HT : Hid (Below w.heap.size w w2) := HB1.out.trans (hb2.mono HB1.out.size)
  clear hb2
  go_wp2_with fail
  go_ret
  exact ⟨rfl, HT.out⟩
theorem ris_lt {α : Type} {num : α -> Nat} {L : List α} (h : RisBy num L) {i j : Nat} {x y : α} (hij : i < j) (hx : L[i]? = some x) (hy : L[j]? = some y) : num x < num y := by
 unfold RisBy Ris at h
 rw [List.pairwise_map] at h
 obtain ⟨hi, rfl⟩ := List.getElem?_eq_some_iff.1 hx
 obtain ⟨hj, rfl⟩ := List.getElem?_eq_some_iff.1 hy
 exact List.pairwise_iff_getElem.1 h i j hi hj hij
theorem rising_true (w : World) (x1 y1 z1 : Value) {A : List Vt} {B : List Nb} {C : List Fd} (cr cn cf : Nat) (hx : Own kR w 0 x1 A) (hy : Own kN w 0 y1 B) (hz : Own kF w 0 z1 C) (hA : A.length <= cr /\ cr <= 256) (hB : B.length <= cn /\ cn <= 256) (hC : C.length <= cf /\ cf <= 256) (rA : RisBy Tri.Vt.num A) (rB : RisBy (fun e : Nb => e.ip) B) (rC : RisBy (fun e : Fd => e.mac.num) C) (kA : ∀ v ∈ A, v.Ok) (kC : ∀ e ∈ C, e.mac.Ok /\ e.dest < 4294967296) :
  Calls Tryz.prog 34 #[.agg #[x1, y1, z1], .agg #[.int .i64 (cr : Int), .int .i64 (cn : Int), .int .i64 (cf : Int)]] w fun e w' => e = .returned (.bool true) /\ Below w.heap.size w w' := by
 obtain ⟨a1, n1, c1, rfl, HN1, -, -⟩ := hx.shape
 obtain ⟨a3, n3, c3, rfl, HN3, -, -⟩ := hy.shape
 obtain ⟨a5, n5, c5, rfl, HN5, -, -⟩ := hz.shape
 obtain ⟨w1, HW1⟩ : ∃ w1, Hid (w1 = (w.alloc (.cells #[.slice a1 n1 c1, .slice a3 n3 c3, .slice a5 n5 c5] 51)).alloc (.cells #[.int .i64 (cr : Int), .int .i64 (cn : Int), .int .i64 (cf : Int)] 23)) := ⟨_, rfl⟩
 obtain ⟨r0, r1, hb1⟩ : w1.heap[w.heap.size]? = some (.cells #[.slice a1 n1 c1, .slice a3 n3 c3, .slice a5 n5 c5] 51) /\ w1.heap[w.heap.size + 1]? = some (.cells #[.int .i64 (cr : Int), .int .i64 (cn : Int), .int .i64 (cf : Int)] 23) /\ Below w.heap.size w w1 := by rw [HW1.out]; exact two_bx w _ _
 have HR0 : Hid (∀ u, Below w1.heap.size w1 u -> u.heap[w.heap.size]? = some (.cells #[.slice a1 n1 c1, .slice a3 n3 c3, .slice a5 n5 c5] 51)) := fun u hu => below_keeps hu r0 (gsl r0)
 have HB1 := hid hb1
 have HX := hid (hx.below hb1)
 have HY := hid (hy.below hb1)
 have HZ := hid (hz.below hb1)
 have t0 : w1.cell? ⟨w.heap.size, 0, none⟩ = some (.slice a1 n1 c1) := crw r0 rfl
 have t1 : w1.cell? ⟨w.heap.size, 1, none⟩ = some (.slice a3 n3 c3) := crw r0 rfl
 have t2 : w1.cell? ⟨w.heap.size, 2, none⟩ = some (.slice a5 n5 c5) := crw r0 rfl
 have q0 : w1.cell? ⟨w.heap.size + 1, 0, none⟩ = some (.int .i64 (cr : Int)) := crw r1 rfl
 have q1 : w1.cell? ⟨w.heap.size + 1, 1, none⟩ = some (.int .i64 (cn : Int)) := crw r1 rfl
 have q2 : w1.cell? ⟨w.heap.size + 1, 2, none⟩ = some (.int .i64 (cf : Int)) := crw r1 rfl
 have l1 : n1 <= 256 := by rw [HN1.out]; omega
 have l3 : n3 <= 256 := by rw [HN3.out]; omega
 have l5 : n5 <= 256 := by rw [HN5.out]; omega
 have g1 : ¬ (cr : Int) < (n1 : Int) := by have := HN1.out; omega
 have g3 : ¬ (cn : Int) < (n3 : Int) := by have := HN3.out; omega
 have g5 : ¬ (cf : Int) < (n5 : Int) := by have := HN5.out; omega
 have f1 : ¬ cr < n1 := by omega
 have f3 : ¬ cn < n3 := by omega
 have f5 : ¬ cf < n5 := by omega
 have HRA := hid rA
 have HRB := hid rB
 have HRC := hid rC
 have HKA := hid kA
 have HKC := hid kC
 clear hx hy hz hA hB hC hb1 r0 r1 rA rB rC kA kC
 go_enter Tryz.func34, Tryz.ntmps34
 go_upto_region 1 with fail
 rw [<- HW1.out]
 clear HW1
 go_upto_region 3 with fail
 clear q0 q1 q2 g1 g3 g5 f1 f3 f5
 go_upto_region 4 with fail
 go_loopw [5] (fun i wr => ∃ (j : Nat) (t : Beh w1), i = .int .i64 (j : Int) /\ 1 <= j /\ j <= 257 /\ wr = t.wd) (fun i _ => n1 - (intOf i).toNat)
 case atStart => exact ⟨1, ⟨w1, bR⟩, rfl, by decide, by decide, rfl⟩
 case round =>
 obtain ⟨j, t, rfl, hj, hj7, rfl⟩ := hrel
 have c00 : t.wd.cell? ⟨w.heap.size, 0, none⟩ = some (.slice a1 n1 c1) := by rw [cell_of_row _ _ _ _ _ _ (HR0.out t.wd t.ok)]; rfl
 by_cases hlt : j < n1
 ·have hlt' : (j : Int) < (n1 : Int) := int_lt hlt
  have hj0 : decide ((j : Int) < 0) = false := by simp
  have hj1 : (0 : Int) <= (j : Int) := by omega
  obtain ⟨m, HM⟩ : ∃ m, Hid (j = m + 1) := ⟨j - 1, hid (by omega)⟩
  have hw : IntKind.i64.wrap ((j : Int) - 1) = (m : Int) := by rw [IntKind.wrap_i64]; have := HM.out; omega
  have hw2 : (j : Int) - 1 = (m : Int) := by have := HM.out; omega
  have hm1 : (m : Int) < (n1 : Int) := by have := HM.out; omega
  have hm2 : (0 : Int) <= (m : Int) := by omega
  have hm0 : decide ((m : Int) < 0) = false := by simp
  obtain ⟨e, HE⟩ : ∃ e, Hid (A[j]? = some e) := ⟨_, hid (List.getElem?_eq_getElem (by have := HN1.out; omega))⟩
  obtain ⟨d, HD⟩ : ∃ d, Hid (A[m]? = some d) := ⟨_, hid (List.getElem?_eq_getElem (by have := HN1.out; have := HM.out; omega))⟩
  obtain ⟨g, hg0, hg, hcl⟩ := HX.out.at HE.out
  cases hg0
  obtain ⟨g', hg0, -, hcm⟩ := HX.out.at HD.out
  cases hg0
  have ku : ∀ t2 : Beh t.wd, t2.wd.heap[g]? = w1.heap[g]? := fun t2 => (t.ok.trans (t2.ok.mono t.ok.size)).block g hg
  have kc : ∀ t2 : Beh t.wd, t2.wd.cell? ⟨w.heap.size, 0, none⟩ = some (.slice (some ⟨g, 0, none⟩) n1 c1) := fun t2 => by rw [cell_of_row _ _ _ _ _ _ (HR0.out t2.wd (t.ok.trans (t2.ok.mono t.ok.size)))]; rfl
  have k0 : ∀ t2 : Beh t.wd, t2.wd.cell? ⟨g, j * 4, none⟩ = some (.int .u32 (e.x : Int)) := fun t2 => ((hcl t2.wd (ku t2)).1 0 (by decide)).1
  have m0 : ∀ t2 : Beh t.wd, t2.wd.cell? ⟨g, m * 4, none⟩ = some (.int .u32 (d.x : Int)) := fun t2 => ((hcm t2.wd (ku t2)).1 0 (by decide)).1
  have k1 : ∀ t2 : Beh t.wd, t2.wd.cell? ⟨g, j * 4 + 1, none⟩ = some (.int .i64 e.n) := fun t2 => ((hcl t2.wd (ku t2)).1 1 (by decide)).1
  have m1 : ∀ t2 : Beh t.wd, t2.wd.cell? ⟨g, m * 4 + 1, none⟩ = some (.int .i64 d.n) := fun t2 => ((hcm t2.wd (ku t2)).1 1 (by decide)).1
  have hlq := (Vt_num_lt (HKA.out d (List.mem_of_getElem? HD.out)) (HKA.out e (List.mem_of_getElem? HE.out))).1 (ris_lt HRA.out (by have := HM.out; omega) HD.out HE.out)
  have hS : ∀ t2 : Beh t.wd, Hid (Calls Tryz.prog 60 #[.agg #[.int .u32 (e.x : Int), .int .i64 e.n], .agg #[.int .u32 (d.x : Int), .int .i64 d.n]] t2.wd fun r u => r = .returned (.bool true) /\ ∃ t' : Beh t.wd, u = t'.wd) := fun t2 => (above_true t2.wd (hlq.imp id fun h => ⟨h.1.symm, h.2⟩)).mono fun r u ⟨he, hb⟩ => ⟨he, ⟨u, t2.ok.trans (hb.mono t2.ok.size)⟩, rfl⟩
  clear hcl hcm hg ku hlq
  go_upto_region 6 with fail
  refine wp_region_beh (by kernel_rfl) (by kernel_rfl) ?_
  repeat (go_big_quiet_step (first | (go_at_call 60; exact (hS _).out)))
  refine wpQuiet_nil ?_
  rintro _ ⟨t2, rfl⟩
  clear kc hw hw2 k0 m0 k1 m1 hS
  go_wp2_with fail
  go_roundw
  case rel => exact ⟨j + 1, ⟨t2.wd, t.ok.trans (t2.ok.mono t.ok.size)⟩, by go_num, by omega, by omega, rfl⟩
  case measure => simp [intOf]; omega
 ·have hlt' : ¬ (j : Int) < (n1 : Int) := int_nlt hlt
  have c01 : t.wd.cell? ⟨w.heap.size, 1, none⟩ = some (.slice a3 n3 c3) := by rw [cell_of_row _ _ _ _ _ _ (HR0.out t.wd t.ok)]; rfl
  have HTB : Hid (Below w1.heap.size w1 t.wd) := t.ok
  go_upto_region 9 with fail
  go_loopw [6] (fun i wr => ∃ (j : Nat) (t : Beh w1), i = .int .i64 (j : Int) /\ 1 <= j /\ j <= 257 /\ wr = t.wd) (fun i _ => n3 - (intOf i).toNat)
  case atStart => exact ⟨1, ⟨t.wd, HTB.out⟩, rfl, by decide, by decide, rfl⟩
  case round =>
  obtain ⟨j, t, rfl, hj, hj7, rfl⟩ := hrel
  have c00 : t.wd.cell? ⟨w.heap.size, 1, none⟩ = some (.slice a3 n3 c3) := by rw [cell_of_row _ _ _ _ _ _ (HR0.out t.wd t.ok)]; rfl
  by_cases hlt : j < n3
  ·have hlt' : (j : Int) < (n3 : Int) := int_lt hlt
   have hj0 : decide ((j : Int) < 0) = false := by simp
   have hj1 : (0 : Int) <= (j : Int) := by omega
   obtain ⟨m, HM⟩ : ∃ m, Hid (j = m + 1) := ⟨j - 1, hid (by omega)⟩
   have hw : IntKind.i64.wrap ((j : Int) - 1) = (m : Int) := by rw [IntKind.wrap_i64]; have := HM.out; omega
   have hw2 : (j : Int) - 1 = (m : Int) := by have := HM.out; omega
   have hm1 : (m : Int) < (n3 : Int) := by have := HM.out; omega
   have hm2 : (0 : Int) <= (m : Int) := by omega
   have hm0 : decide ((m : Int) < 0) = false := by simp
   obtain ⟨e, HE⟩ : ∃ e, Hid (B[j]? = some e) := ⟨_, hid (List.getElem?_eq_getElem (by have := HN3.out; omega))⟩
   obtain ⟨d, HD⟩ : ∃ d, Hid (B[m]? = some d) := ⟨_, hid (List.getElem?_eq_getElem (by have := HN3.out; have := HM.out; omega))⟩
   obtain ⟨g, hg0, hg, hcl⟩ := HY.out.at HE.out
   cases hg0
   obtain ⟨g', hg0, -, hcm⟩ := HY.out.at HD.out
   cases hg0
   have ku : ∀ t2 : Beh t.wd, t2.wd.heap[g]? = w1.heap[g]? := fun t2 => (t.ok.trans (t2.ok.mono t.ok.size)).block g hg
   have kc : ∀ t2 : Beh t.wd, t2.wd.cell? ⟨w.heap.size, 1, none⟩ = some (.slice (some ⟨g, 0, none⟩) n3 c3) := fun t2 => by rw [cell_of_row _ _ _ _ _ _ (HR0.out t2.wd (t.ok.trans (t2.ok.mono t.ok.size)))]; rfl
   have k0 : ∀ t2 : Beh t.wd, t2.wd.cell? ⟨g, j * 7, none⟩ = some (.int .u32 (e.ip : Int)) := fun t2 => ((hcl t2.wd (ku t2)).1 0 (by decide)).1
   have m0 : ∀ t2 : Beh t.wd, t2.wd.cell? ⟨g, m * 7, none⟩ = some (.int .u32 (d.ip : Int)) := fun t2 => ((hcm t2.wd (ku t2)).1 0 (by decide)).1
   have hlq := ris_lt HRB.out (i := m) (j := j) (by have := HM.out; omega) HD.out HE.out
   have hnl : ¬ (e.ip : Int) <= (d.ip : Int) := by have : d.ip < e.ip := hlq; omega
   have hnl2 : ¬ e.ip <= d.ip := by have : d.ip < e.ip := hlq; omega
   clear hcl hcm hg ku hlq
   go_upto_region 11 with fail
   refine wp_region_beh (by kernel_rfl) (by kernel_rfl) ?_
   repeat (go_big_quiet_step (fail))
   refine wpQuiet_nil ?_
   rintro _ ⟨t2, rfl⟩
   clear kc hw hw2 k0 m0
   go_wp2_with fail
   go_roundw
   case rel => exact ⟨j + 1, ⟨t2.wd, t.ok.trans (t2.ok.mono t.ok.size)⟩, by go_num, by omega, by omega, rfl⟩
   case measure => simp [intOf]; omega
  ·have hlt' : ¬ (j : Int) < (n3 : Int) := int_nlt hlt
   have c01 : t.wd.cell? ⟨w.heap.size, 2, none⟩ = some (.slice a5 n5 c5) := by rw [cell_of_row _ _ _ _ _ _ (HR0.out t.wd t.ok)]; rfl
   have HTB : Hid (Below w1.heap.size w1 t.wd) := t.ok
   go_upto_region 14 with fail
   go_loopw [7] (fun i wr => ∃ (j : Nat) (t : Beh w1), i = .int .i64 (j : Int) /\ 1 <= j /\ j <= 257 /\ wr = t.wd) (fun i _ => n5 - (intOf i).toNat)
   case atStart => exact ⟨1, ⟨t.wd, HTB.out⟩, rfl, by decide, by decide, rfl⟩
   case round =>
   obtain ⟨j, t, rfl, hj, hj7, rfl⟩ := hrel
   have c00 : t.wd.cell? ⟨w.heap.size, 2, none⟩ = some (.slice a5 n5 c5) := by rw [cell_of_row _ _ _ _ _ _ (HR0.out t.wd t.ok)]; rfl
   by_cases hlt : j < n5
   ·have hlt' : (j : Int) < (n5 : Int) := int_lt hlt
    have hj0 : decide ((j : Int) < 0) = false := by simp
    have hj1 : (0 : Int) <= (j : Int) := by omega
    obtain ⟨m, HM⟩ : ∃ m, Hid (j = m + 1) := ⟨j - 1, hid (by omega)⟩
    have hw : IntKind.i64.wrap ((j : Int) - 1) = (m : Int) := by rw [IntKind.wrap_i64]; have := HM.out; omega
    have hw2 : (j : Int) - 1 = (m : Int) := by have := HM.out; omega
    have hm1 : (m : Int) < (n5 : Int) := by have := HM.out; omega
    have hm2 : (0 : Int) <= (m : Int) := by omega
    have hm0 : decide ((m : Int) < 0) = false := by simp
    obtain ⟨e, HE⟩ : ∃ e, Hid (C[j]? = some e) := ⟨_, hid (List.getElem?_eq_getElem (by have := HN5.out; omega))⟩
    obtain ⟨d, HD⟩ : ∃ d, Hid (C[m]? = some d) := ⟨_, hid (List.getElem?_eq_getElem (by have := HN5.out; have := HM.out; omega))⟩
    obtain ⟨g, hg0, hg, hcl⟩ := HZ.out.at HE.out
    cases hg0
    obtain ⟨g', hg0, -, hcm⟩ := HZ.out.at HD.out
    cases hg0
    have ku : ∀ t2 : Beh t.wd, t2.wd.heap[g]? = w1.heap[g]? := fun t2 => (t.ok.trans (t2.ok.mono t.ok.size)).block g hg
    have kc : ∀ t2 : Beh t.wd, t2.wd.cell? ⟨w.heap.size, 2, none⟩ = some (.slice (some ⟨g, 0, none⟩) n5 c5) := fun t2 => by rw [cell_of_row _ _ _ _ _ _ (HR0.out t2.wd (t.ok.trans (t2.ok.mono t.ok.size)))]; rfl
    have k0 : ∀ t2 : Beh t.wd, t2.wd.cell? ⟨g, j * 7, none⟩ = some (.int .u8 (e.mac.b0 : Int)) := fun t2 => ((hcl t2.wd (ku t2)).1 0 (by decide)).1
    have m0 : ∀ t2 : Beh t.wd, t2.wd.cell? ⟨g, m * 7, none⟩ = some (.int .u8 (d.mac.b0 : Int)) := fun t2 => ((hcm t2.wd (ku t2)).1 0 (by decide)).1
    have k1 : ∀ t2 : Beh t.wd, t2.wd.cell? ⟨g, j * 7 + 1, none⟩ = some (.int .u8 (e.mac.b1 : Int)) := fun t2 => ((hcl t2.wd (ku t2)).1 1 (by decide)).1
    have m1 : ∀ t2 : Beh t.wd, t2.wd.cell? ⟨g, m * 7 + 1, none⟩ = some (.int .u8 (d.mac.b1 : Int)) := fun t2 => ((hcm t2.wd (ku t2)).1 1 (by decide)).1
    have k2 : ∀ t2 : Beh t.wd, t2.wd.cell? ⟨g, j * 7 + 2, none⟩ = some (.int .u8 (e.mac.b2 : Int)) := fun t2 => ((hcl t2.wd (ku t2)).1 2 (by decide)).1
    have m2 : ∀ t2 : Beh t.wd, t2.wd.cell? ⟨g, m * 7 + 2, none⟩ = some (.int .u8 (d.mac.b2 : Int)) := fun t2 => ((hcm t2.wd (ku t2)).1 2 (by decide)).1
    have k3 : ∀ t2 : Beh t.wd, t2.wd.cell? ⟨g, j * 7 + 3, none⟩ = some (.int .u8 (e.mac.b3 : Int)) := fun t2 => ((hcl t2.wd (ku t2)).1 3 (by decide)).1
    have m3 : ∀ t2 : Beh t.wd, t2.wd.cell? ⟨g, m * 7 + 3, none⟩ = some (.int .u8 (d.mac.b3 : Int)) := fun t2 => ((hcm t2.wd (ku t2)).1 3 (by decide)).1
    have k4 : ∀ t2 : Beh t.wd, t2.wd.cell? ⟨g, j * 7 + 4, none⟩ = some (.int .u8 (e.mac.b4 : Int)) := fun t2 => ((hcl t2.wd (ku t2)).1 4 (by decide)).1
    have m4 : ∀ t2 : Beh t.wd, t2.wd.cell? ⟨g, m * 7 + 4, none⟩ = some (.int .u8 (d.mac.b4 : Int)) := fun t2 => ((hcm t2.wd (ku t2)).1 4 (by decide)).1
    have k5 : ∀ t2 : Beh t.wd, t2.wd.cell? ⟨g, j * 7 + 5, none⟩ = some (.int .u8 (e.mac.b5 : Int)) := fun t2 => ((hcl t2.wd (ku t2)).1 5 (by decide)).1
    have m5 : ∀ t2 : Beh t.wd, t2.wd.cell? ⟨g, m * 7 + 5, none⟩ = some (.int .u8 (d.mac.b5 : Int)) := fun t2 => ((hcm t2.wd (ku t2)).1 5 (by decide)).1
    have hlq := ris_lt HRC.out (i := m) (j := j) (by have := HM.out; omega) HD.out HE.out
    have hS : ∀ t2 : Beh t.wd, Hid (Calls Tryz.prog 61 #[.agg #[.int .u8 (e.mac.b0 : Int), .int .u8 (e.mac.b1 : Int), .int .u8 (e.mac.b2 : Int), .int .u8 (e.mac.b3 : Int), .int .u8 (e.mac.b4 : Int), .int .u8 (e.mac.b5 : Int)], .agg #[.int .u8 (d.mac.b0 : Int), .int .u8 (d.mac.b1 : Int), .int .u8 (d.mac.b2 : Int), .int .u8 (d.mac.b3 : Int), .int .u8 (d.mac.b4 : Int), .int .u8 (d.mac.b5 : Int)]] t2.wd fun r u => r = .returned (.bool true) /\ ∃ t' : Beh t.wd, u = t'.wd) := fun t2 => (macAbove_true (m := e.mac) (n := d.mac) t2.wd (HKC.out e (List.mem_of_getElem? HE.out)).1 (HKC.out d (List.mem_of_getElem? HD.out)).1 hlq).mono fun r u ⟨he, hb⟩ => ⟨he, ⟨u, t2.ok.trans (hb.mono t2.ok.size)⟩, rfl⟩
    clear hcl hcm hg ku hlq
    go_upto_region 16 with fail
    refine wp_region_beh (by kernel_rfl) (by kernel_rfl) ?_
    repeat (go_big_quiet_step (first | (go_at_call 61; exact (hS _).out)))
    refine wpQuiet_nil ?_
    rintro _ ⟨t2, rfl⟩
    clear kc hw hw2 k0 m0 k1 m1 k2 m2 k3 m3 k4 m4 k5 m5 hS
    go_wp2_with fail
    go_roundw
    case rel => exact ⟨j + 1, ⟨t2.wd, t.ok.trans (t2.ok.mono t.ok.size)⟩, by go_num, by omega, by omega, rfl⟩
    case measure => simp [intOf]; omega
   ·have hlt' : ¬ (j : Int) < (n5 : Int) := int_nlt hlt
    have HT : Hid (Below w.heap.size w t.wd) := HB1.out.trans (t.ok.mono HB1.out.size)
    go_wp2_with fail
    go_ret
    exact ⟨rfl, HT.out⟩
end Go.Proofs.YtpdnnikkaojnkaaGreat.Rt
