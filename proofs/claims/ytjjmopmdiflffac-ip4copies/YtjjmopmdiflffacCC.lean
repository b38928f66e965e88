import Derived.Test.YtjjmopmdiflffacCB
import Derived.Test.YtjjmopmdiflffacK
import Derived.Test.YtjjmopmdiflffacY
namespace Go.Proofs.Ytjjmopmdiflffac
open Go.ChangeShapes Go.WideShapes Go.ChangeAt Go.RowKit
set_option maxHeartbeats 1000000
set_option maxRecDepth 100000

theorem copied_bytes {L : List Nat} (h : ∀ x ∈ L, x < 256) : ∀ x ∈ (M.copied L).1, x < 256 := by
  unfold M.copied
  cases M.area L with
  | false => intro x hx; cases hx
  | true =>
    intro x hx
    have hx' : x ∈ M.pad (M.cop L) := hx
    unfold M.pad at hx'
    rcases List.mem_append.1 hx' with hx | hx
    · exact h x (M.cop_mem _ L (Nat.le_refl _) x hx)
    · have := List.eq_of_mem_replicate hx; omega

theorem own_shape {fn : Nat} {v : Value} {w : World} {C : List Nat × Int} (hx : ∀ x ∈ C.1, x < 256)
    (h : Calls Try.prog fn #[v] w fun e w' => ∃ v', e = .returned (.tuple #[v', .int .i64 C.2]) ∧ OwnB w' w.heap.size v' C.1 ∧ Below w.heap.size w w') :
    Calls Try.prog fn #[v] w fun e w' => ∃ ao n cap, e = .returned (.tuple #[.slice ao n cap, .int .i64 C.2]) ∧ SeesB w' (.slice ao n cap) C.1 ∧ Below w.heap.size w w' := by
  refine h.mono ?_
  rintro e w' ⟨v', rfl, hO, hb⟩
  have hs := hO.sees hx
  obtain ⟨ao, n, cap, rfl, _, _, _⟩ := hs.shape
  exact ⟨ao, n, cap, rfl, hs, hb⟩

set_option maxHeartbeats 2000000 in
theorem plays_copied (vy vp : Value) (L : List Nat) (x y z : Nat) (h : Hd) (vo vb : Value) (w : World) (hv : SeesB w vy L) :
    Calls Try.prog 16 #[.agg (opL 7 vy vp x y z h vo vb).toArray] w fun e w' => e = .returned (.bool true) ∧ Below w.heap.size w w' := by
  obtain ⟨w1, hw1⟩ : ∃ w1, w1 = w.alloc (.cells (opL 7 vy vp x y z h vo vb).toArray 45) := ⟨_, rfl⟩
  have hb1 : Below w.heap.size w w1 := by rw [hw1]; exact (Below.refl _ _).alloc (Nat.le_refl _) _
  have hs1 : w1.heap.size = w.heap.size + 1 := by rw [hw1]; simp
  have HC : Hid (∀ u, Below w1.heap.size w1 u → u.cell? ⟨w.heap.size, 1, none⟩ = some vy) := fun u hu =>
    blk_at (cs := opL 7 vy vp x y z h vo vb) (t := 45) (by rw [hu.block w.heap.size (by omega), hw1]; exact blk_new _ _ _) 1 vy rfl
  have hx := copied_bytes hv.bytes
  have HP1 := hid (own_shape hx (copied_code vy L w1 (hv.below hb1)))
  have HP2 : Hid (∀ u, Below w1.heap.size w1 u → Calls Try.prog 32 #[vy] u fun e w' => ∃ ao n cap, e = .returned (.tuple #[.slice ao n cap, .int .i64 (M.copied L).2]) ∧ SeesB w' (.slice ao n cap) (M.copied L).1 ∧ Below u.heap.size u w') := fun u hu => own_shape hx (copied_ref vy L u (hv.below (hb1.trans (hu.mono hb1.size))))
  obtain ⟨ao, n, cap, rfl, _, _, _⟩ := hv.shape
  have HW1 : Hid (w1 = w.alloc (.cells (opL 7 (.slice ao n cap) vp x y z h vo vb).toArray 45)) := hw1
  have HB1 := hid hb1
  have c1 := HC.out _ (Below.refl _ _)
  clear hw1 hb1 hs1 hv hx
  generalize M.copied L = t at *
  obtain ⟨bl, q⟩ := t
  simp only at *
  have hqq : (q == q) = true := by simp
  unfold opL at HW1 ⊢
  go_enter Try.func16, Try.ntmps16
  go_upto_region 22 with fail
  rw [← HW1.out]
  go_wp2_with fail
  refine HP1.out.mono ?_
  rintro _ w2 ⟨a1, n1, c1', rfl, h1, hb2⟩
  have c2 := HC.out _ hb2
  have HH1 := hid h1
  clear h1 c1
  go_wp2_with fail
  refine (HP2.out _ hb2).mono ?_
  rintro _ w3 ⟨a2, n2, c2', rfl, h2, hb3⟩
  have HSM : Hid (Calls Try.prog 15 #[.slice a1 n1 c1', .slice a2 n2 c2'] w3 fun e w' => e = .returned (.bool true) ∧ Below w3.heap.size w3 w') := by
    have := same_any (.slice a1 n1 c1') (.slice a2 n2 c2') bl bl w3 (HH1.out.below hb3) h2
    rw [decide_eq_true (rfl : bl = bl)] at this
    exact this
  have HB3 := hid (hb2.trans (hb3.mono hb2.size))
  clear h2 hb3 hb2 c2
  go_wp2_with fail
  refine HSM.out.mono ?_
  rintro _ w4 ⟨rfl, hb4⟩
  go_wp2_with fail
  go_ret
  exact ⟨rfl, HB1.out.trans ((HB3.out.trans (hb4.mono HB3.out.size)).mono HB1.out.size)⟩

theorem sees_four {w : World} {n : Nat} (hn : w.heap.size = n) (t : TypeId) : SeesB (w.alloc (.cells #[.int .u8 131, .int .u8 3, .int .u8 4, .int .u8 1] t)) (.slice (some ⟨n, 0, none⟩) 4 4) [131, 3, 4, 1] := by
  subst hn
  refine ⟨some ⟨w.heap.size, 0, none⟩, 4, rfl, ⟨by simp, fun h => by cases h⟩, by unfold maxLen; omega, fun j hj => ⟨w.heap.size, 0, rfl, by simp, ?_, ?_⟩⟩
  · match j, hj with
    | 0, _ => simp
    | 1, _ => simp
    | 2, _ => simp
    | 3, _ => simp
  · match j, hj with
    | 0, _ => show (_ : Nat) < 256; simp
    | 1, _ => show (_ : Nat) < 256; simp
    | 2, _ => show (_ : Nat) < 256; simp
    | 3, _ => show (_ : Nat) < 256; simp

theorem head_copied (w : World) :
    Calls Try.prog 10 #[.int .i64 7] w fun e w' => e = .returned (.bool true) ∧ Below w.heap.size w w' := by
  have HS := hid (small_build w)
  have HB := hid (smallW_below w)
  have HP : Hid (∀ (u : World) (v : Value), SeesB u v [131, 3, 4, 1] → Calls Try.prog 16 #[.agg #[.int .i64 7, v, .slice none 0 0, .int .u16 0, .int .u16 0, .int .u16 0, .int .u8 0, .int .u16 0, .bool false, .bool false, .int .i64 0, .int .u8 0, .int .u8 0, .int .u32 0, .int .u32 0, .slice none 0 0, .slice none 0 0]] u fun e w' => e = .returned (.bool true) ∧ Below u.heap.size u w') :=
    fun u v hv => plays_copied v (.slice none 0 0) _ 0 0 0 zeroHd (.slice none 0 0) (.slice none 0 0) u hv
  unfold smallW smallC at *
  go_enter Try.func10, Try.ntmps10
  go_wp2_with fail
  refine HS.out.mono ?_
  rintro _ w2 ⟨ao, n, cap, rfl, hs, hb2⟩
  have hb3 := HB.out.trans (hb2.mono HB.out.size)
  have HS4 := hid (sees_four (w := w2) rfl 5)
  have HB4 := hid (hb3.alloc hb3.size (.cells #[.int .u8 131, .int .u8 3, .int .u8 4, .int .u8 1] 5))
  clear hs hb2 hb3
  go_wp2_with fail
  refine (HP.out _ _ HS4.out).mono ?_
  rintro _ w3 ⟨rfl, hb4⟩
  go_wp2_with fail
  go_ret
  exact ⟨rfl, HB4.out.trans (hb4.mono HB4.out.size)⟩
end Go.Proofs.Ytjjmopmdiflffac
