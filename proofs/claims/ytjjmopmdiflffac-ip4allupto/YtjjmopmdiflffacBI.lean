import Derived.Test.YtjjmopmdiflffacBH
import Derived.Test.YtjjmopmdiflffacWG
namespace Go.Proofs.Ytjjmopmdiflffac
open Go.ChangeShapes Go.WideShapes Go.ChangeAt Go.RowKit
set_option maxHeartbeats 1000000
set_option maxRecDepth 100000

set_option maxHeartbeats 2000000 in
theorem plays_age (vy vp : Value) (L : List Nat) (x y z : Nat) (h : Hd) (vo vb : Value) (w : World) (hv : SeesB w vy L) (hl : L.length ≤ 140737488355328) :
    Calls Try.prog 16 #[.agg (opL 6 vy vp x y z h vo vb).toArray] w fun e w' => e = .returned (.bool true) ∧ Below w.heap.size w w' := by
  obtain ⟨w1, hw1⟩ : ∃ w1, w1 = w.alloc (.cells (opL 6 vy vp x y z h vo vb).toArray 45) := ⟨_, rfl⟩
  have hb1 : Below w.heap.size w w1 := by rw [hw1]; exact (Below.refl _ _).alloc (Nat.le_refl _) _
  have hs1 : w1.heap.size = w.heap.size + 1 := by rw [hw1]; simp
  have HC : Hid (∀ u, Below w1.heap.size w1 u → u.cell? ⟨w.heap.size, 1, none⟩ = some vy) := fun u hu =>
    blk_at (cs := opL 6 vy vp x y z h vo vb) (t := 45) (by rw [hu.block w.heap.size (by omega), hw1]; exact blk_new _ _ _) 1 vy rfl
  have HP1 := hid (age_code vy L w1 (hv.below hb1) hl)
  have HP2 : Hid (∀ u, Below w1.heap.size w1 u → Calls Try.prog 30 #[vy] u fun e w' => ∃ ao n cap, e = .returned (.tuple #[.slice ao n cap, .int .i64 (ageL L).2]) ∧ SeesB w' (.slice ao n cap) (ageL L).1 ∧ Below u.heap.size u w') := fun u hu => age_ref vy L u (hv.below (hb1.trans (hu.mono hb1.size))) hl
  obtain ⟨ao, n, cap, rfl, _, _, _⟩ := hv.shape
  have HW1 : Hid (w1 = w.alloc (.cells (opL 6 (.slice ao n cap) vp x y z h vo vb).toArray 45)) := hw1
  have HB1 := hid hb1
  have c1 := HC.out _ (Below.refl _ _)
  clear hw1 hb1 hs1 hv hl
  generalize ageL L = t at *
  obtain ⟨bl, q⟩ := t
  simp only at *
  have hqq : (q == q) = true := by simp
  unfold opL at HW1 ⊢
  go_enter Try.func16, Try.ntmps16
  go_upto_region 18 with fail
  rw [← HW1.out]
  go_wp2_with fail
  refine HP1.out.mono ?_
  rintro _ w2 ⟨a1, n1, c1', rfl, h1, hb2⟩
  have c2 := HC.out _ hb2
  have HH1 := hid h1
  clear h1 c1
  go_wp2_with fail
  refine (HP2.out _ hb2).mono ?_
  rintro _ w3 ⟨a2, n2, c2', rfl, h2, hb3⟩
  have HSM : Hid (Calls Try.prog 15 #[.slice a1 n1 c1', .slice a2 n2 c2'] w3 fun e w' => e = .returned (.bool true) ∧ Below w3.heap.size w3 w') := by
    have := same_any (.slice a1 n1 c1') (.slice a2 n2 c2') bl bl w3 (HH1.out.below hb3) h2
    rw [decide_eq_true (rfl : bl = bl)] at this
    exact this
  have HB3 := hid (hb2.trans (hb3.mono hb2.size))
  clear h2 hb3 hb2 c2
  go_wp2_with fail
  refine HSM.out.mono ?_
  rintro _ w4 ⟨rfl, hb4⟩
  go_wp2_with fail
  go_ret
  exact ⟨rfl, HB1.out.trans ((HB3.out.trans (hb4.mono HB3.out.size)).mono HB1.out.size)⟩

theorem head_age (w : World) :
    Calls Try.prog 10 #[.int .i64 6] w fun e w' => e = .returned (.bool true) ∧ Below w.heap.size w w' := by
  have HS := hid (small_build w)
  have HB := hid (smallW_below w)
  have HP : Hid (∀ (u : World) (v : Value), SeesB u v (builtL smallH [1, 2, 3]) → Calls Try.prog 16 #[.agg #[.int .i64 6, v, .slice none 0 0, .int .u16 0, .int .u16 0, .int .u16 0, .int .u8 0, .int .u16 0, .bool false, .bool false, .int .i64 0, .int .u8 0, .int .u8 0, .int .u32 0, .int .u32 0, .slice none 0 0, .slice none 0 0]] u fun e w' => e = .returned (.bool true) ∧ Below u.heap.size u w') :=
    fun u v hv => plays_age v (.slice none 0 0) _ 0 0 0 zeroHd (.slice none 0 0) (.slice none 0 0) u hv small_len
  unfold smallW smallC at *
  go_enter Try.func10, Try.ntmps10
  go_wp2_with fail
  refine HS.out.mono ?_
  rintro _ w2 ⟨ao, n, cap, rfl, hs, hb2⟩
  have hb3 := HB.out.trans (hb2.mono HB.out.size)
  have HSS := hid hs
  clear hs hb2
  go_wp2_with fail
  refine (HP.out _ _ HSS.out).mono ?_
  rintro _ w3 ⟨rfl, hb4⟩
  go_wp2_with fail
  go_ret
  exact ⟨rfl, hb3.trans (hb4.mono hb3.size)⟩
end Go.Proofs.Ytjjmopmdiflffac
