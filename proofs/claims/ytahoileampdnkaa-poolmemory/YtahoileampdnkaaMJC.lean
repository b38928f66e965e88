/-
  The law's sound, a failing branch.
-/
import Derived.Test.YtahoileampdnkaaMJ
namespace Go.Proofs.Ytahoileampdnkaa
open Go.ChangeShapes Go.WideShapes Go.ChangeAt Go.RowKit Ru N Tri
set_option maxHeartbeats 4000000
set_option maxRecDepth 100000

theorem sound_b2 (x lo hi yn sn : Nat) (kv : Value) (L : List (Nat × Int)) (w : World) (hq : Sp.Ok w ⟨x, (yn : Int), (sn : Int), lo, hi, kv, L⟩) (hy32 : yn ≤ 32) (hs32 : sn ≤ 32) (hys : yn ≤ sn) (hlh : lo ≤ hi) (hn0 : L.length ≤ 1024) (b0 : x % 2 ^ (32 - yn) = 0) (b1 : lo % 2 ^ (32 - sn) = 0) (b2 : ¬ hi % 2 ^ (32 - sn) = 0) :
    Calls Try.prog 11 #[.agg #[.int .u32 (x : Int), .int .i64 (yn : Int), .int .i64 (sn : Int), .int .u32 (lo : Int), .int .u32 (hi : Int), kv]] w fun e w' => e = .returned (.bool false) ∧ Below w.heap.size w w' := by
  obtain ⟨ak, nk, ck0, rfl, HNK, hk1, hk2⟩ := hq.kv.shape
  replace HNK : Hid (nk = L.length) := HNK
  unfold maxLen at hk2
  obtain ⟨w2, HW2⟩ : ∃ w2, Hid (w2 = w.alloc (.cells #[.int .u32 (x : Int), .int .i64 (yn : Int), .int .i64 (sn : Int), .int .u32 (lo : Int), .int .u32 (hi : Int), .slice ak nk ck0] 28)) := ⟨_, rfl⟩
  have hb2 : Below w.heap.size w w2 := by rw [HW2.out]; exact (Below.refl _ _).alloc (Nat.le_refl _) _
  have r2 : w2.heap[w.heap.size]? = some (.cells #[.int .u32 (x : Int), .int .i64 (yn : Int), .int .i64 (sn : Int), .int .u32 (lo : Int), .int .u32 (hi : Int), .slice ak nk ck0] 28 (0, 0)) := by rw [HW2.out]; exact heap_alloc_new w _
  obtain ⟨sb, HSB⟩ : ∃ sb, Hid (sb = w.heap.size) := ⟨_, rfl⟩
  rw [← HSB.out] at r2
  have HCL : Hid (∀ u : World, Below w2.heap.size w2 u → u.cell? ⟨sb, 0, none⟩ = some (.int .u32 (x : Int)) ∧ u.cell? ⟨sb, 1, none⟩ = some (.int .i64 (yn : Int)) ∧ u.cell? ⟨sb, 2, none⟩ = some (.int .i64 (sn : Int)) ∧ u.cell? ⟨sb, 3, none⟩ = some (.int .u32 (lo : Int)) ∧ u.cell? ⟨sb, 4, none⟩ = some (.int .u32 (hi : Int)) ∧ u.cell? ⟨sb, 5, none⟩ = some (.slice ak nk ck0)) := fun u hu => by
    have hr := below_keeps hu r2 (Array.getElem?_eq_some_iff.1 r2).1
    refine ⟨?_, ?_, ?_, ?_, ?_, ?_⟩ <;> (rw [cell_of_row _ _ _ _ _ _ hr]; rfl)
  have HQ := hid (hq.below hb2)
  have HB2 := hid hb2
  have hx : x < 4294967296 := hq.x
  have hlo : lo < 4294967296 := hq.lo
  have hhi : hi < 4294967296 := hq.hi
  obtain ⟨c0, c1, c2, c3, c4, c5⟩ := HCL.out w2 (Below.refl _ _)
  have HNL := hid (below_keeps (Below.refl _ w2) r2 (Array.getElem?_eq_some_iff.1 r2).1)
  clear hq hb2 r2 HNL
  rw [← HNK.out] at hn0
  have k0 : ¬ (yn : Int) < 0 := by omega
  have k1 : ¬ (32 : Int) < (yn : Int) := by omega
  have k2 : ¬ (sn : Int) < (yn : Int) := by omega
  have k3 : ¬ (32 : Int) < (sn : Int) := by omega
  have k4 : ¬ hi < lo := by omega
  have k5 : ¬ 1024 < nk := by omega
  go_enter Try.func11, Try.ntmps11
  go_upto_region 1 with fail
  rw [← HW2.out, ← HSB.out]
  go_upto_region 6 with fail
  have e1 : wrap64 ((2 : Int) ^ (32 - yn)) = ((2 ^ (32 - yn) : Nat) : Int) := by
    have h : ((2 : Int) ^ (32 - yn)) = ((2 ^ (32 - yn) : Nat) : Int) := by simp
    rw [h]; exact wrap_nat' (pow_le32 yn)
  have e2 : wrap64 ((2 : Int) ^ (32 - sn)) = ((2 ^ (32 - sn) : Nat) : Int) := by
    have h : ((2 : Int) ^ (32 - sn)) = ((2 ^ (32 - sn) : Nat) : Int) := by simp
    rw [h]; exact wrap_nat' (pow_le32 sn)
  rw [e1, e2]
  clear e1 e2
  have hW1 := Nat.two_pow_pos (32 - yn)
  have hW2 := pow_le32 yn
  have hS1 := Nat.two_pow_pos (32 - sn)
  have hS2 := pow_le32 sn
  obtain ⟨W, HWW⟩ : ∃ W, Hid (W = 2 ^ (32 - yn)) := ⟨_, hid rfl⟩
  obtain ⟨S, HSS⟩ : ∃ S, Hid (S = 2 ^ (32 - sn)) := ⟨_, hid rfl⟩
  rw [← HWW.out] at hW1 hW2 ⊢
  rw [← HSS.out] at hS1 hS2 ⊢
  rw [← HWW.out] at b0
  have t0 : (x : Int).tmod (W : Int) = 0 := by rw [tmod_nat, b0]; rfl
  rw [← HSS.out] at b1
  have t1 : (lo : Int).tmod (S : Int) = 0 := by rw [tmod_nat, b1]; rfl
  rw [← HSS.out] at b2
  obtain ⟨rr, HRR⟩ : ∃ rr, Hid (rr = hi % S) := ⟨_, hid rfl⟩
  have t2 : (hi : Int).tmod (S : Int) = (rr : Int) := by rw [HRR.out]; exact tmod_nat _ _
  rw [← HRR.out] at b2
  have d2 : ¬ (rr : Int) = 0 := int_ne b2
  have i1 : ¬ (W : Int) = 0 := int_ne (Nat.ne_of_gt hW1)
  have i2 : ¬ (S : Int) = 0 := int_ne (Nat.ne_of_gt hS1)
  have wl : wrap64 (lo : Int) = (lo : Int) := wrap_nat' (Nat.le_of_lt hlo)
  have wh : wrap64 (hi : Int) = (hi : Int) := wrap_nat' (Nat.le_of_lt hhi)
  have wx : wrap64 (x : Int) = (x : Int) := wrap_nat' (Nat.le_of_lt hx)
  have wxw : wrap64 ((x : Int) + (W : Int)) = (x : Int) + (W : Int) := wrap_sum (Nat.le_of_lt hx) hW2
  clear hx hlo hhi hy32 hs32 hys hlh hn0 k0 k1 k2 k3 k4 k5 hW1 hW2 hS1 hS2 b0 b1 b2
  go_wp2_with fail
  go_ret
  exact ⟨rfl, HB2.out⟩
end Go.Proofs.Ytahoileampdnkaa
