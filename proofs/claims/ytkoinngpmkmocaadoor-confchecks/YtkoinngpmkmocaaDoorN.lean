import Derived.Test.YtkoinngpmkmocaaDoorE
namespace Go.Proofs.YtkoinngpmkmocaaDoor
open Go.ChangeShapes Go.WideShapes Go.ChangeAt Go.RowKit
set_option maxHeartbeats 400000

theorem valid_any (x : Nat) (n : Int) (w : World) (hx : x < 4294967296) :
    Calls Tryd.prog 48 #[.agg #[.int .u32 x, .int .i64 n]] w fun e w' => e = .returned (.bool (err (x, n) == 0)) ∧ Below w.heap.size w w' := by
  go_enter Tryd.func48, Tryd.ntmps48
  go_wp2_with fail
  refine (check_any x n _ hx).mono ?_
  rintro e w1 ⟨rfl, hb1⟩
  obtain ⟨ee, hee⟩ : ∃ ee, ee = err (x, n) := ⟨_, rfl⟩
  rw [← hee]
  have HEE := hid hee
  clear hee
  have hb01 : Below w.heap.size w w1 := ((Below.refl _ _).alloc (Nat.le_refl _) _).trans (hb1.mono (by simp))
  go_wp2_with fail
  go_ret
  exact ⟨ret_bool (by rw [HEE.out]), hb01⟩

theorem refValid_any (x : Nat) (n : Int) (w : World) (hx : x < 4294967296) :
    Calls Tryd.prog 53 #[.agg #[.int .u32 x, .int .i64 n]] w fun e w' => e = .returned (.bool (err (x, n) == 0)) ∧ Below w.heap.size w w' := by
  go_enter Tryd.func53, Tryd.ntmps53
  go_wp2_with fail
  refine (fault_any x n _ hx).mono ?_
  rintro e w1 ⟨rfl, hb1⟩
  obtain ⟨ee, hee⟩ : ∃ ee, ee = err (x, n) := ⟨_, rfl⟩
  rw [← hee]
  have HEE := hid hee
  clear hee
  have hb01 : Below w.heap.size w w1 := ((Below.refl _ _).alloc (Nat.le_refl _) _).trans (hb1.mono (by simp))
  go_wp2_with fail
  go_ret
  exact ⟨ret_bool (by rw [HEE.out]), hb01⟩

theorem lastOf_any (x k : Nat) (n : Int) (w : World) (hn : n = 32 - (k : Int)) (hx : x < 4294967296) (hk : k ≤ 32) (hm : x % 2 ^ k = 0) :
    Calls Tryd.prog 82 #[.agg #[.int .u32 x, .int .i64 n]] w fun e w' => e = .returned (.int .u32 ((x + pw k - 1 : Nat) : Int)) ∧ Below w.heap.size w w' := by
  subst hn
  have hO := or_u32 x k hx hk hm
  have HO : Hid (bits .or .u32 (x : Int) ((M.mask k : Nat) : Int) = ((x + pw k - 1 : Nat) : Int)) := hO
  clear hO
  go_enter Tryd.func82, Tryd.ntmps82
  go_wp2
  go_quiet ((go_at_call 106; exact Calls.quiet_of_same (bits_any _ k _ (by omega) hk)))
  go_wp2
  go_ret
  exact ⟨ret_int HO.out, below_drewN ((Below.refl _ _).alloc (Nat.le_refl _) _) _⟩

theorem top_of (x k : Nat) (hx : x < 4294967296) (hk : k ≤ 32) (h : x % 2 ^ k = 0) : x + pw k ≤ 4294967296 :=
  M.step_le (d := 2 ^ k) h (show 4294967296 % 2 ^ k = 0 from M.mod_pow (k := 32) hk) hx

theorem ret_int3 {k l m : IntKind} {a b c d e f : Int} (h : a = b) (g : c = d) (i : e = f) : Ending.returned (.tuple #[.int k a, .int l c, .int m e]) = .returned (.tuple #[.int k b, .int l d, .int m f]) := by rw [h, g, i]

/-- The last address of a valid prefix. -/
def lst (x : Nat) (n : Int) : Nat := x + pw (32 - n.toNat) - 1

/-- Span's answer. -/
def ansS (x : Nat) (n : Int) : Value := if err (x, n) = 0 then .tuple #[.int .u32 (x : Int), .int .u32 ((lst x n : Nat) : Int), .int .i64 0] else .tuple #[.int .u32 0, .int .u32 0, .int .i64 (err (x, n))]

theorem refSpan_any (x : Nat) (n : Int) (w : World) (hx : x < 4294967296) :
    Calls Tryd.prog 55 #[.agg #[.int .u32 x, .int .i64 n]] w fun e w' => e = .returned (ansS x n) ∧ Below w.heap.size w w' := by
  by_cases he : err (x, n) = 0
  · have HA : Hid (ansS x n = .tuple #[.int .u32 (x : Int), .int .u32 ((lst x n : Nat) : Int), .int .i64 0]) := if_pos he
    obtain ⟨k, hk, hkn, hm⟩ := err_ok he
    simp only at hkn hm
    have ht := top_of x k hx hk hm
    have hp := pw_pos k
    have HL : Hid ((x : Int) + (pw k : Int) - 1 = ((lst x n : Nat) : Int)) := by unfold Hid lst; rw [show 32 - n.toNat = k from by omega]; omega
    have HE := hid he
    have HN := hid hkn
    clear he hm hkn
    go_enter Tryd.func55, Tryd.ntmps55
    go_wp2_with fail
    refine (fault_any x n _ hx).mono ?_
    rintro e w1 ⟨rfl, hb1⟩
    rw [HE.out]
    have r1 : w1.heap[w.heap.size]? = some (.cells #[.int .u32 x, .int .i64 n] 26) := by
      rw [hb1.block _ (by simp)]; exact heap_alloc_new w _
    obtain ⟨c0, c1, _, _, hlt1⟩ := row_two r1
    have hb01 : Below w.heap.size w w1 := ((Below.refl _ _).alloc (Nat.le_refl _) _).trans (hb1.mono (by simp))
    clear r1
    go_wp2_with fail
    go_quiet ((go_at_call 84; exact Calls.quiet_of_same (size_any _ k _ HN.out hk)))
    go_wp2_with fail
    go_ret3
    exact ⟨by rw [HA.out]; exact ret_int3 rfl HL.out rfl, below_drewN hb01 _⟩
  · have HA : Hid (ansS x n = .tuple #[.int .u32 0, .int .u32 0, .int .i64 (err (x, n))]) := if_neg he
    have hq : (err (x, n) != 0) = true := by rw [bne_iff_ne]; exact he
    clear he
    go_enter Tryd.func55, Tryd.ntmps55
    go_wp2_with fail
    refine (fault_any x n _ hx).mono ?_
    rintro e w1 ⟨rfl, hb1⟩
    generalize err (x, n) = ee at hq HA ⊢
    have hb01 : Below w.heap.size w w1 := ((Below.refl _ _).alloc (Nat.le_refl _) _).trans (hb1.mono (by simp))
    go_wp2_with fail
    go_ret3
    exact ⟨by rw [HA.out]; rfl, hb01⟩
end Go.Proofs.YtkoinngpmkmocaaDoor
