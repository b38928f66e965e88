/-
  The law's sound.
-/
import Derived.Test.YtahoileampdnkaaMI
namespace Go.Proofs.Ytahoileampdnkaa
open Go.ChangeShapes Go.WideShapes Go.ChangeAt Go.RowKit Ru N Tri
set_option maxHeartbeats 4000000
set_option maxRecDepth 100000

theorem newE_ne {x lo hi : Nat} {y s : Int} {L : List (Nat × Int)} (h : y < 0 ∨ 32 < y ∨ s < y ∨ 32 < s ∨ hi < lo ∨ 1024 < L.length) : newE x y s lo hi L ≠ 0 := by
  intro h0
  unfold newE at h0
  split at h0
  · cases h0
  · split at h0
    · rename_i h1; exact h1 h0
    · rename_i h2 h1
      simp at h1
      obtain ⟨k1, k2, k3, k4, -⟩ := ck_zero h1
      have := valB_range k1
      omega

theorem wrap_sum {a b : Nat} (ha : a ≤ 4294967296) (hb : b ≤ 4294967296) : wrap64 ((a : Int) + (b : Int)) = (a : Int) + (b : Int) := by
  unfold wrap64; omega

theorem int_ne {a : Nat} (h : ¬ a = 0) : ¬ (a : Int) = 0 := by omega
theorem int_lt {a b : Nat} (h : a < b) : (a : Int) < (b : Int) := by omega
theorem int_nlt {a b : Nat} (h : ¬ a < b) : ¬ (a : Int) < (b : Int) := by omega
theorem int_sle {a b c : Nat} (h : a + b ≤ c) : (a : Int) + (b : Int) ≤ (c : Int) := by omega
theorem int_nsle {a b c : Nat} (h : ¬ a + b ≤ c) : ¬ (a : Int) + (b : Int) ≤ (c : Int) := by omega

theorem tmod_nat (a b : Nat) : (a : Int).tmod (b : Int) = ((a % b : Nat) : Int) := rfl

theorem wrap_nat' {a : Nat} (h : a ≤ 4294967296) : wrap64 (a : Int) = (a : Int) := by
  unfold wrap64; omega

theorem ck_nat {x lo hi yn sn : Nat} (hy : yn ≤ 32) (hs : sn ≤ 32) (h1 : yn ≤ sn) (h2 : lo ≤ hi) : ck x (yn : Int) (sn : Int) lo hi = 0 ↔ x % 2 ^ (32 - yn) = 0 ∧ lo % 2 ^ (32 - sn) = 0 ∧ hi % 2 ^ (32 - sn) = 0 ∧ x ≤ lo ∧ hi < x + 2 ^ (32 - yn) := by
  have v : ∀ (z m : Nat), m ≤ 32 → (valB z (m : Int) = true ↔ z % 2 ^ (32 - m) = 0) := fun z m hm => by
    unfold valB; rw [decide_eq_true_eq, Int.toNat_natCast]
    constructor
    · exact fun h => h.2.2
    · exact fun h => ⟨by omega, by omega, h⟩
  have i : ∀ z : Nat, inN x (yn : Int) z = true ↔ x ≤ z ∧ z < x + 2 ^ (32 - yn) := fun z => by unfold inN; rw [decide_eq_true_eq, Int.toNat_natCast]
  constructor
  · intro h
    obtain ⟨k1, _, _, _, k5, k6, k7, k8⟩ := ck_zero h
    exact ⟨(v _ _ hy).1 k1, (v _ _ hs).1 k5, (v _ _ hs).1 k6, ((i _).1 k7).1, ((i _).1 k8).2⟩
  · rintro ⟨a1, a2, a3, a4, a5⟩
    have b1 := (v x yn hy).2 a1
    have b2 := (v lo sn hs).2 a2
    have b3 := (v hi sn hs).2 a3
    have b4 := (i lo).2 ⟨a4, by omega⟩
    have b5 := (i hi).2 ⟨by omega, a5⟩
    have b6 : ¬ ((sn : Int) < (yn : Int) ∨ (32 : Int) < (sn : Int) ∨ hi < lo) := by omega
    unfold ck
    rw [if_neg (by rw [b1]; simp), if_neg b6, if_neg (by rw [b2, b3]; simp), if_neg (by rw [b4, b5]; simp)]

theorem sound_out (x lo hi : Nat) (y s : Int) (kv : Value) (L : List (Nat × Int)) (w : World) (hq : Sp.Ok w ⟨x, y, s, lo, hi, kv, L⟩) (hbad : y < 0 ∨ 32 < y ∨ s < y ∨ 32 < s ∨ hi < lo ∨ 1024 < L.length) :
    Calls Try.prog 11 #[.agg #[.int .u32 (x : Int), .int .i64 y, .int .i64 s, .int .u32 (lo : Int), .int .u32 (hi : Int), kv]] w fun e w' => e = .returned (.bool false) ∧ Below w.heap.size w w' := by
  obtain ⟨ak, nk, ck0, rfl, HNK, hk1, hk2⟩ := hq.kv.shape
  replace HNK : Hid (nk = L.length) := HNK
  unfold maxLen at hk2
  obtain ⟨w2, HW2⟩ : ∃ w2, Hid (w2 = w.alloc (.cells #[.int .u32 (x : Int), .int .i64 y, .int .i64 s, .int .u32 (lo : Int), .int .u32 (hi : Int), .slice ak nk ck0] 28)) := ⟨_, rfl⟩
  have hb2 : Below w.heap.size w w2 := by rw [HW2.out]; exact (Below.refl _ _).alloc (Nat.le_refl _) _
  have r2 : w2.heap[w.heap.size]? = some (.cells #[.int .u32 (x : Int), .int .i64 y, .int .i64 s, .int .u32 (lo : Int), .int .u32 (hi : Int), .slice ak nk ck0] 28 (0, 0)) := by rw [HW2.out]; exact heap_alloc_new w _
  obtain ⟨sb, HSB⟩ : ∃ sb, Hid (sb = w.heap.size) := ⟨_, rfl⟩
  rw [← HSB.out] at r2
  have HCL : Hid (∀ u : World, Below w2.heap.size w2 u → u.cell? ⟨sb, 0, none⟩ = some (.int .u32 (x : Int)) ∧ u.cell? ⟨sb, 1, none⟩ = some (.int .i64 y) ∧ u.cell? ⟨sb, 2, none⟩ = some (.int .i64 s) ∧ u.cell? ⟨sb, 3, none⟩ = some (.int .u32 (lo : Int)) ∧ u.cell? ⟨sb, 4, none⟩ = some (.int .u32 (hi : Int)) ∧ u.cell? ⟨sb, 5, none⟩ = some (.slice ak nk ck0)) := fun u hu => by
    have hr := below_keeps hu r2 (Array.getElem?_eq_some_iff.1 r2).1
    refine ⟨?_, ?_, ?_, ?_, ?_, ?_⟩ <;> (rw [cell_of_row _ _ _ _ _ _ hr]; rfl)
  have HQ := hid (hq.below hb2)
  have HB2 := hid hb2
  have hx : x < 4294967296 := hq.x
  have hlo : lo < 4294967296 := hq.lo
  have hhi : hi < 4294967296 := hq.hi
  obtain ⟨c0, c1, c2, c3, c4, c5⟩ := HCL.out w2 (Below.refl _ _)
  have HNL := hid (below_keeps (Below.refl _ w2) r2 (Array.getElem?_eq_some_iff.1 r2).1)
  clear hq hb2 r2 HNL
  rw [← HNK.out] at hbad
  by_cases k0 : y < 0
  · clear hbad
    go_enter Try.func11, Try.ntmps11
    go_upto_region 1 with fail
    rw [← HW2.out, ← HSB.out]
    go_wp2_with fail
    go_ret
    exact ⟨rfl, HB2.out⟩
  · have hq0 := k0
    by_cases k1 : 32 < y
    · clear hbad
      go_enter Try.func11, Try.ntmps11
      go_upto_region 1 with fail
      rw [← HW2.out, ← HSB.out]
      go_wp2_with fail
      go_ret
      exact ⟨rfl, HB2.out⟩
    · have hq1 := k1
      by_cases k2 : s < y
      · clear hbad
        go_enter Try.func11, Try.ntmps11
        go_upto_region 1 with fail
        rw [← HW2.out, ← HSB.out]
        go_wp2_with fail
        go_ret
        exact ⟨rfl, HB2.out⟩
      · have hq2 := k2
        by_cases k3 : 32 < s
        · clear hbad
          go_enter Try.func11, Try.ntmps11
          go_upto_region 1 with fail
          rw [← HW2.out, ← HSB.out]
          go_wp2_with fail
          go_ret
          exact ⟨rfl, HB2.out⟩
        · have hq3 := k3
          by_cases k4 : hi < lo
          · clear hbad
            go_enter Try.func11, Try.ntmps11
            go_upto_region 1 with fail
            rw [← HW2.out, ← HSB.out]
            go_wp2_with fail
            go_ret
            exact ⟨rfl, HB2.out⟩
          · have hq4 := k4
            have k5 : 1024 < nk := by
              rcases hbad with h | h | h | h | h | h
              · exact absurd h k0
              · exact absurd h k1
              · exact absurd h k2
              · exact absurd h k3
              · exact absurd h k4
              · exact h
            clear hbad hq0 hq1 hq2 hq3 hq4
            go_enter Try.func11, Try.ntmps11
            go_upto_region 1 with fail
            rw [← HW2.out, ← HSB.out]
            go_wp2_with fail
            go_ret
            exact ⟨rfl, HB2.out⟩
end Go.Proofs.Ytahoileampdnkaa
