import Derived.Test.YtenhofbhkchjoabDoorL
namespace Go.Proofs.YtenhofbhkchjoabDoor
open Go.ChangeShapes Go.WideShapes Go.ChangeAt Go.RowKit
set_option maxHeartbeats 400000

theorem refFormatPrefix_any (x : Nat) (n : Int) (hx : x < 4294967296) (w : World) (ht : Tab w) :
    Calls Tryd.prog 21 #[.agg #[.int .u32 (x : Int), .int .i64 n]] w fun e w' => e = .returned (ansFP x n) ∧ Below w.heap.size w w' := by
  have HTB := hid ht
  clear ht
  by_cases he : err (x, n) = 0
  · have HA : Hid (ansFP x n = .tuple #[.string (fmtA x ++ ⟨#[47]⟩ ++ dd n.toNat), .int .i64 0]) := if_pos he
    obtain ⟨kk, hk1, hk2, _⟩ := err_ok he
    have hn0 : 0 ≤ n ∧ n ≤ 32 := by simp at hk2; omega
    have HE := hid he
    clear hk2 hk1 he
    go_enter Tryd.func21, Tryd.ntmps21
    go_wp2_with fail
    refine (fault_any x n _ hx).mono ?_
    rintro e w1 ⟨rfl, hb1⟩
    rw [HE.out]
    have r1 : w1.heap[w.heap.size]? = some (.cells #[.int .u32 x, .int .i64 n] 31) := by
      rw [hb1.block _ (by simp)]; exact heap_alloc_new w _
    obtain ⟨c0, c1, _, _, hlt1⟩ := row_two r1
    have hb01 : Below w.heap.size w w1 := ((Below.refl _ _).alloc (Nat.le_refl _) _).trans (hb1.mono (by simp))
    go_wp2_with fail
    refine (refFormat_any x hx _ (HTB.out.below hb01)).mono ?_
    rintro e w2 ⟨rfl, hb2⟩
    have r2 : w2.heap[w.heap.size]? = some (.cells #[.int .u32 x, .int .i64 n] 31) := by
      rw [hb2.block _ hlt1]; exact r1
    obtain ⟨d0, d1, _, _, hlt2⟩ := row_two r2
    obtain ⟨q0, q1⟩ := Beh.two r2
    have hb02 := hb01.trans (hb2.mono hb01.size)
    have hz := fmtA_size x
    have hz3 : (dd n.toNat).size ≤ 3 := dd_size (by omega)
    have F2 : ∀ u : Beh w2, Calls Tryd.prog 46 #[.int .i64 n] u.wd fun e w' => e = .returned (.string (dd n.toNat)) ∧ ∃ u' : Beh w2, w' = u'.wd :=
      fun u => Calls.beh (itoa_any n n.toNat (by omega) (by omega) _ (HTB.out.below (hb02.trans (u.ok.mono hb02.size))))
    generalize fmtA x = fx at HA hz ⊢
    generalize dd n.toNat = sd at HA hz3 F2 ⊢
    have G2 := hid F2
    clear F2 r1 r2 c0 c1
    go_wp2_with fail
    refine (G2.out ⟨w2, Below.refl _ _⟩).mono ?_
    rintro _ _ ⟨rfl, u, rfl⟩
    have hbu := hb02.trans (u.ok.mono hb02.size)
    go_wp2_with fail
    go_ret2
    exact ⟨by rw [HA.out]; rfl, hbu⟩
  · have HA : Hid (ansFP x n = .tuple #[.string ⟨#[]⟩, .int .i64 (err (x, n))]) := if_neg he
    have hq : (err (x, n) != 0) = true := by rw [bne_iff_ne]; exact he
    clear he
    go_enter Tryd.func21, Tryd.ntmps21
    go_wp2_with fail
    refine (fault_any x n _ hx).mono ?_
    rintro e w1 ⟨rfl, hb1⟩
    generalize err (x, n) = ee at hq HA ⊢
    have hb01 : Below w.heap.size w w1 := ((Below.refl _ _).alloc (Nat.le_refl _) _).trans (hb1.mono (by simp))
    go_wp2_with fail
    go_ret2
    exact ⟨by rw [HA.out]; rfl, hb01⟩

theorem valid_any (x : Nat) (n : Int) (w : World) (hx : x < 4294967296) :
    Calls Tryd.prog 24 #[.agg #[.int .u32 x, .int .i64 n]] w fun e w' => e = .returned (.bool (err (x, n) == 0)) ∧ Below w.heap.size w w' := by
  go_enter Tryd.func24, Tryd.ntmps24
  go_wp2_with fail
  refine (check_any x n _ hx).mono ?_
  rintro e w1 ⟨rfl, hb1⟩
  obtain ⟨ee, hee⟩ : ∃ ee, ee = err (x, n) := ⟨_, rfl⟩
  rw [← hee]
  have HEE := hid hee
  clear hee
  have hb01 : Below w.heap.size w w1 := ((Below.refl _ _).alloc (Nat.le_refl _) _).trans (hb1.mono (by simp))
  go_wp2_with fail
  go_ret
  exact ⟨ret_bool (by rw [HEE.out]), hb01⟩

theorem refValid_any (x : Nat) (n : Int) (w : World) (hx : x < 4294967296) :
    Calls Tryd.prog 25 #[.agg #[.int .u32 x, .int .i64 n]] w fun e w' => e = .returned (.bool (err (x, n) == 0)) ∧ Below w.heap.size w w' := by
  go_enter Tryd.func25, Tryd.ntmps25
  go_wp2_with fail
  refine (fault_any x n _ hx).mono ?_
  rintro e w1 ⟨rfl, hb1⟩
  obtain ⟨ee, hee⟩ : ∃ ee, ee = err (x, n) := ⟨_, rfl⟩
  rw [← hee]
  have HEE := hid hee
  clear hee
  have hb01 : Below w.heap.size w w1 := ((Below.refl _ _).alloc (Nat.le_refl _) _).trans (hb1.mono (by simp))
  go_wp2_with fail
  go_ret
  exact ⟨ret_bool (by rw [HEE.out]), hb01⟩

theorem lastOf_any (x k : Nat) (n : Int) (w : World) (hn : n = 32 - (k : Int)) (hx : x < 4294967296) (hk : k ≤ 32) (hm : x % 2 ^ k = 0) :
    Calls Tryd.prog 47 #[.agg #[.int .u32 x, .int .i64 n]] w fun e w' => e = .returned (.int .u32 ((x + pw k - 1 : Nat) : Int)) ∧ Below w.heap.size w w' := by
  subst hn
  have hO := or_u32 x k hx hk hm
  have HO : Hid (bits .or .u32 (x : Int) ((M.mask k : Nat) : Int) = ((x + pw k - 1 : Nat) : Int)) := hO
  clear hO
  go_enter Tryd.func47, Tryd.ntmps47
  go_wp2
  go_quiet ((go_at_call 54; exact Calls.quiet_of_same (bits_any _ k _ (by omega) hk)))
  go_wp2
  go_ret
  exact ⟨ret_int HO.out, below_drewN ((Below.refl _ _).alloc (Nat.le_refl _) _) _⟩

theorem top_of (x k : Nat) (hx : x < 4294967296) (hk : k ≤ 32) (h : x % 2 ^ k = 0) : x + pw k ≤ 4294967296 :=
  M.step_le (d := 2 ^ k) h (show 4294967296 % 2 ^ k = 0 from M.mod_pow (k := 32) hk) hx

theorem ret_int3 {k l m : IntKind} {a b c d e f : Int} (h : a = b) (g : c = d) (i : e = f) : Ending.returned (.tuple #[.int k a, .int l c, .int m e]) = .returned (.tuple #[.int k b, .int l d, .int m f]) := by rw [h, g, i]

/-- The last address of a valid prefix. -/
def lst (x : Nat) (n : Int) : Nat := x + pw (32 - n.toNat) - 1

/-- Span's answer. -/
def ansS (x : Nat) (n : Int) : Value := if err (x, n) = 0 then .tuple #[.int .u32 (x : Int), .int .u32 ((lst x n : Nat) : Int), .int .i64 0] else .tuple #[.int .u32 0, .int .u32 0, .int .i64 (err (x, n))]

theorem span_any (x : Nat) (n : Int) (w : World) (hx : x < 4294967296) :
    Calls Tryd.prog 26 #[.agg #[.int .u32 x, .int .i64 n]] w fun e w' => e = .returned (ansS x n) ∧ Below w.heap.size w w' := by
  by_cases he : err (x, n) = 0
  · have HA : Hid (ansS x n = .tuple #[.int .u32 (x : Int), .int .u32 ((lst x n : Nat) : Int), .int .i64 0]) := if_pos he
    obtain ⟨k, hk, hkn, hm⟩ := err_ok he
    simp only at hkn hm
    have HL : Hid (lst x n = x + pw k - 1) := by unfold Hid lst; rw [show 32 - n.toNat = k from by omega]
    have HE := hid he
    have HN := hid hkn
    have HM := hid hm
    clear he hkn hm
    go_enter Tryd.func26, Tryd.ntmps26
    go_wp2_with fail
    refine (check_any x n _ hx).mono ?_
    rintro e w1 ⟨rfl, hb1⟩
    rw [HE.out]
    have r1 : w1.heap[w.heap.size]? = some (.cells #[.int .u32 x, .int .i64 n] 31) := by
      rw [hb1.block _ (by simp)]; exact heap_alloc_new w _
    obtain ⟨c0, c1, _, _, hlt1⟩ := row_two r1
    obtain ⟨q0, q1⟩ := Beh.two r1
    have hb01 : Below w.heap.size w w1 := ((Below.refl _ _).alloc (Nat.le_refl _) _).trans (hb1.mono (by simp))
    have F1 : ∀ u : Beh w1, Calls Tryd.prog 47 #[.agg #[.int .u32 x, .int .i64 n]] u.wd fun e w' => e = .returned (.int .u32 ((lst x n : Nat) : Int)) ∧ ∃ u' : Beh w1, w' = u'.wd :=
      fun u => Calls.beh (by rw [HL.out]; exact lastOf_any x k n _ HN.out hx hk HM.out)
    generalize lst x n = ll at F1 HA ⊢
    have G1 := hid F1
    clear F1 r1
    go_wp2_with fail
    refine wp_region_beh (by kernel_rfl) (by kernel_rfl) ?_
    repeat (go_big_quiet_step (first | (go_at_call 47; exact G1.out _)))
    refine wpQuiet_nil ?_
    rintro _ ⟨u, rfl⟩
    have hbu := hb01.trans (u.ok.mono hb01.size)
    go_wp2_with fail
    go_ret3
    exact ⟨by rw [HA.out]; rfl, hbu⟩
  · have HA : Hid (ansS x n = .tuple #[.int .u32 0, .int .u32 0, .int .i64 (err (x, n))]) := if_neg he
    have hq : (err (x, n) != 0) = true := by rw [bne_iff_ne]; exact he
    clear he
    go_enter Tryd.func26, Tryd.ntmps26
    go_wp2_with fail
    refine (check_any x n _ hx).mono ?_
    rintro e w1 ⟨rfl, hb1⟩
    generalize err (x, n) = ee at hq HA ⊢
    have hb01 : Below w.heap.size w w1 := ((Below.refl _ _).alloc (Nat.le_refl _) _).trans (hb1.mono (by simp))
    go_wp2_with fail
    go_ret3
    exact ⟨by rw [HA.out]; rfl, hb01⟩

theorem refSpan_any (x : Nat) (n : Int) (w : World) (hx : x < 4294967296) :
    Calls Tryd.prog 27 #[.agg #[.int .u32 x, .int .i64 n]] w fun e w' => e = .returned (ansS x n) ∧ Below w.heap.size w w' := by
  by_cases he : err (x, n) = 0
  · have HA : Hid (ansS x n = .tuple #[.int .u32 (x : Int), .int .u32 ((lst x n : Nat) : Int), .int .i64 0]) := if_pos he
    obtain ⟨k, hk, hkn, hm⟩ := err_ok he
    simp only at hkn hm
    have ht := top_of x k hx hk hm
    have hp := pw_pos k
    have HL : Hid ((x : Int) + (pw k : Int) - 1 = ((lst x n : Nat) : Int)) := by unfold Hid lst; rw [show 32 - n.toNat = k from by omega]; omega
    have HE := hid he
    have HN := hid hkn
    clear he hm hkn
    go_enter Tryd.func27, Tryd.ntmps27
    go_wp2_with fail
    refine (fault_any x n _ hx).mono ?_
    rintro e w1 ⟨rfl, hb1⟩
    rw [HE.out]
    have r1 : w1.heap[w.heap.size]? = some (.cells #[.int .u32 x, .int .i64 n] 31) := by
      rw [hb1.block _ (by simp)]; exact heap_alloc_new w _
    obtain ⟨c0, c1, _, _, hlt1⟩ := row_two r1
    have hb01 : Below w.heap.size w w1 := ((Below.refl _ _).alloc (Nat.le_refl _) _).trans (hb1.mono (by simp))
    clear r1
    go_wp2_with fail
    go_quiet ((go_at_call 48; exact Calls.quiet_of_same (size_any _ k _ HN.out hk)))
    go_wp2_with fail
    go_ret3
    exact ⟨by rw [HA.out]; exact ret_int3 rfl HL.out rfl, below_drewN hb01 _⟩
  · have HA : Hid (ansS x n = .tuple #[.int .u32 0, .int .u32 0, .int .i64 (err (x, n))]) := if_neg he
    have hq : (err (x, n) != 0) = true := by rw [bne_iff_ne]; exact he
    clear he
    go_enter Tryd.func27, Tryd.ntmps27
    go_wp2_with fail
    refine (fault_any x n _ hx).mono ?_
    rintro e w1 ⟨rfl, hb1⟩
    generalize err (x, n) = ee at hq HA ⊢
    have hb01 : Below w.heap.size w w1 := ((Below.refl _ _).alloc (Nat.le_refl _) _).trans (hb1.mono (by simp))
    go_wp2_with fail
    go_ret3
    exact ⟨by rw [HA.out]; rfl, hb01⟩
end Go.Proofs.YtenhofbhkchjoabDoor
