/-
  tables, the law: the law's inside, neigh (for Hops, Rebuilt, Frame).
-/
import Derived.Test.YtpdokaoholifkabGreatLS1
namespace Go.Proofs.YtpdokaoholifkabGreat.Rt
open Go.Proofs.YtpdokaoholifkabGreat Go.ChangeShapes Go.WideShapes Go.ChangeAt Go.RowKit Go.Maps Tri N
set_option maxHeartbeats 2000000
set_option maxRecDepth 100000

theorem neighT_any (w : World) (x y z : Value) {B : List Nb} (a : Nat) (h : Own kN w 0 y B) (hl : B.length ≤ 256) :
    Calls Tryz.prog 52 #[.agg #[x, y, z], .int .u32 (a : Int)] w fun e w' => e = .returned (.int .i64 (pz (ix Nb.ip B a))) ∧ Below w.heap.size w w' := by
  obtain ⟨av, nv, cv, rfl, HN, hnc, -⟩ := h.shape
  obtain ⟨w1, HW1⟩ : ∃ w1, Hid (w1 = w.alloc (.cells #[x, .slice av nv cv, z] 63)) := ⟨_, rfl⟩
  have hb1 : Below w.heap.size w w1 := by rw [HW1.out]; exact (Below.refl _ _).alloc (Nat.le_refl _) _
  have r1 : w1.heap[w.heap.size]? = some (.cells #[x, .slice av nv cv, z] 63) := by rw [HW1.out]; exact heap_alloc_new w _
  have c1 : w1.cell? ⟨w.heap.size, 1, none⟩ = some (.slice av nv cv) := by rw [cell_of_row _ _ _ _ _ _ r1]; rfl
  have HO := hid (h.below hb1)
  have HB1 := hid hb1
  have hle : nv ≤ 256 := by have := HN.out; omega
  obtain ⟨P, HP⟩ : ∃ P, Hid (P = pz (ix Nb.ip B a)) := ⟨_, rfl⟩
  rw [← HP.out]
  clear h hb1 r1
  go_enter Tryz.func52, Tryz.ntmps52
  go_upto_region 1 with fail
  rw [← HW1.out]
  clear HW1
  go_upto_region 2 with fail
  go_loopw [5] (fun i wr => ∃ j : Nat, i = .int .i64 (j : Int) ∧ j ≤ nv ∧ Hid (∀ i x, i < j → B[i]? = some x → x.ip ≠ a) ∧ wr = w1) (fun i _ => nv - (intOf i).toNat)
  case atStart => exact ⟨0, rfl, Nat.zero_le _, fun i x hi => absurd hi (by omega), rfl⟩
  case round =>
    obtain ⟨j, rfl, hj, HI, rfl⟩ := hrel
    by_cases hlt : j < nv
    · have hlt' : (j : Int) < (nv : Int) := int_lt hlt
      have hj0 : decide ((j : Int) < 0) = false := by simp
      obtain ⟨e, HX⟩ : ∃ e, Hid (B[j]? = some e) := ⟨_, hid (List.getElem?_eq_getElem (by have := HN.out; omega))⟩
      obtain ⟨g, rfl, hg, hcl⟩ := atN HO.out HX.out
      have d0 := (hcl wr rfl).1
      clear hcl hg
      by_cases hk : e.ip = a
      · have HE : Hid (P = (j : Int)) := by unfold Hid; rw [HP.out]; exact ix_stop HI.out HX.out hk
        have hk' : (e.ip : Int) = (a : Int) := by omega
        clear hk
        go_wp2_with fail
        go_ret
        exact ⟨ret_int HE.out.symm, HB1.out⟩
      · have HI2 : Hid (∀ i x, i < j + 1 → B[i]? = some x → x.ip ≠ a) := ahead_more HI.out HX.out hk
        have hk' : ¬ (e.ip : Int) = (a : Int) := by omega
        clear hk
        go_wp2_with fail
        go_roundw
        case rel => exact ⟨j + 1, by go_num, hlt, HI2, trivial⟩
        case measure => simp [intOf]; omega
    · have hlt' : ¬ (j : Int) < (nv : Int) := int_nlt hlt
      have HE : Hid (P = -1) := by unfold Hid; rw [HP.out]; exact ix_end HI.out (by have := HN.out; omega)
      go_wp2_with fail
      go_ret
      exact ⟨ret_int HE.out.symm, HB1.out⟩

theorem has_div {x s a : Nat} (hs : 0 < s) (hx : s ∣ x) : (x ≤ a ∧ a < x + s) ↔ x / s = a / s := by
  obtain ⟨k, rfl⟩ := hx
  rw [Nat.mul_div_cancel_left k hs]
  constructor
  · rintro ⟨h1, h2⟩
    refine (Nat.div_eq_of_lt_le ?_ ?_).symm
    · rw [Nat.mul_comm]; exact h1
    · rw [Nat.mul_comm, Nat.mul_add]; omega
  · intro h
    have h1 := Nat.div_mul_le_self a s
    have h2 := Nat.lt_div_mul_add hs (a := a)
    rw [← h, Nat.mul_comm] at h1 h2
    exact ⟨h1, h2⟩
theorem insideT_any {p : K} (a : Nat) (w : World) (hp : p.Ok) (ha : a < 4294967296) :
    Calls Tryz.prog 51 #[.agg #[.int .u32 (p.x : Int), .int .i64 (p.n : Int)], .int .u32 (a : Int)] w fun e w' => e = .returned (.bool (hasK p a)) ∧ Below w.heap.size w w' := by
  obtain ⟨w1, HW1⟩ : ∃ w1, Hid (w1 = w.alloc (.cells #[.int .u32 (p.x : Int), .int .i64 (p.n : Int)] 49)) := ⟨_, rfl⟩
  have hb1 : Below w.heap.size w w1 := by rw [HW1.out]; exact (Below.refl _ _).alloc (Nat.le_refl _) _
  have r1 : w1.heap[w.heap.size]? = some (.cells #[.int .u32 (p.x : Int), .int .i64 (p.n : Int)] 49) := by rw [HW1.out]; exact heap_alloc_new w _
  have c0 : w1.cell? ⟨w.heap.size, 0, none⟩ = some (.int .u32 (p.x : Int)) := by rw [cell_of_row _ _ _ _ _ _ r1]; rfl
  have c1 : w1.cell? ⟨w.heap.size, 1, none⟩ = some (.int .i64 (p.n : Int)) := by rw [cell_of_row _ _ _ _ _ _ r1]; rfl
  have HB1 := hid hb1
  have hx := hp.2.2
  have hn := hp.1
  have HH : Hid (hasK p a = decide (p.x / 2 ^ (32 - p.n) = a / 2 ^ (32 - p.n))) := by
    unfold Hid hasK
    rw [Bool.eq_iff_iff, decide_eq_true_iff, decide_eq_true_iff]
    exact has_div (Nat.two_pow_pos _) hp.2.1
  clear hb1 r1 hp
  generalize hasK p a = R at *
  generalize p.x = px at *
  generalize p.n = pn at *
  have hn0 : ¬ (pn : Int) < 0 := by omega
  have hn1 : decide ((pn : Int) < 0) = false := by simp
  have hn2 : ¬ (32 : Int) < (pn : Int) := by omega
  have hn3 : ¬ 32 < pn := by omega
  have u1 : IntKind.i64.wrap (px : Int) = (px : Int) := by simp [IntKind.wrap, IntKind.bits, IntKind.signed]; omega
  have u2 : IntKind.i64.wrap (a : Int) = (a : Int) := by simp [IntKind.wrap, IntKind.bits, IntKind.signed]; omega
  go_enter Tryz.func51, Tryz.ntmps51
  go_upto_region 1 with fail
  rw [← HW1.out]
  clear HW1
  go_upto_region 5 with fail
  go_loopw [5, 6, 7] (fun x y i wr => ∃ (k p q : Nat), i = .int .i64 (k : Int) ∧ x = .int .i64 (p : Int) ∧ y = .int .i64 (q : Int) ∧ pn ≤ k ∧ k ≤ 32 ∧ p < 4294967296 ∧ q < 4294967296 ∧ Hid (p = px / 2 ^ (k - pn) ∧ q = a / 2 ^ (k - pn)) ∧ wr = w1) (fun _ _ i _ => 32 - (intOf i).toNat)
  case atStart => exact ⟨pn, px, a, rfl, rfl, rfl, Nat.le_refl _, hn, hx, ha, hid (by simp), rfl⟩
  case round =>
    obtain ⟨k, p, q, rfl, rfl, rfl, h1, h2, h3, h4, HP, rfl⟩ := hrel
    by_cases hk : k < 32
    · have hk' : (k : Int) < 32 := by omega
      have HP2 : Hid (p / 2 = px / 2 ^ (k + 1 - pn) ∧ q / 2 = a / 2 ^ (k + 1 - pn)) := by
        unfold Hid
        rw [HP.out.1, HP.out.2, show k + 1 - pn = (k - pn) + 1 by omega, Nat.pow_succ, Nat.div_div_eq_div_mul, Nat.div_div_eq_div_mul]
        exact ⟨rfl, rfl⟩
      obtain ⟨p2, hp2⟩ : ∃ p2, p2 = p / 2 := ⟨_, rfl⟩
      obtain ⟨q2, hq2⟩ : ∃ q2, q2 = q / 2 := ⟨_, rfl⟩
      rw [← hp2, ← hq2] at HP2
      have e1 : Int.tdiv (p : Int) 2 = (p2 : Int) := by rw [hp2]; rfl
      have e2 : Int.tdiv (q : Int) 2 = (q2 : Int) := by rw [hq2]; rfl
      have e3 : (p : Int) / 2 = (p2 : Int) := by omega
      have e4 : (q : Int) / 2 = (q2 : Int) := by omega
      have b1 : p2 < 4294967296 := by omega
      have b2 : q2 < 4294967296 := by omega
      have HB2 := hid (And.intro b1 b2)
      clear hp2 hq2
      go_wp2_with fail
      go_roundw
      case rel => exact ⟨k + 1, p2, q2, by go_num, rfl, rfl, by omega, by omega, HB2.out.1, HB2.out.2, HP2, trivial⟩
      case measure => simp [intOf]; omega
    · have hk' : ¬ (k : Int) < 32 := by omega
      obtain rfl : k = 32 := by omega
      have HF : Hid (R = decide (p = q)) := by unfold Hid; rw [HH.out, HP.out.1, HP.out.2]
      by_cases hpq : p = q
      · have hpq' : (p : Int) = (q : Int) := by omega
        have HF2 : Hid (R = true) := HF.out.trans (decide_eq_true hpq)
        clear HF HH hpq
        go_wp2_with fail
        go_ret
        exact ⟨ret_bool HF2.out.symm, HB1.out⟩
      · have hpq' : ¬ (p : Int) = (q : Int) := by omega
        have hpq2 : ((p : Int) == (q : Int)) = false := by simpa using hpq'
        have HF2 : Hid (R = false) := HF.out.trans (decide_eq_false hpq)
        clear HF HH
        go_wp2_with fail
        go_ret
        exact ⟨ret_bool HF2.out.symm, HB1.out⟩
end Go.Proofs.YtpdokaoholifkabGreat.Rt
