/-
  checkRow.
-/
import Derived.Test.YtahoileampdnkaaOS
namespace Go.Proofs.Ytahoileampdnkaa
open Go.ChangeShapes Go.WideShapes Go.ChangeAt Go.RowKit Ru N Tri
set_option maxHeartbeats 1000000
set_option maxRecDepth 100000

def valB (x : Nat) (y : Int) : Bool := decide (0 ≤ y ∧ y ≤ 32 ∧ x % 2 ^ (32 - y.toNat) = 0)

theorem valB_bad {x : Nat} {y : Int} (h : Bad x y) : valB x y = false := by
  unfold valB
  rw [decide_eq_false_iff_not]
  rintro ⟨h1, h2, h3⟩
  rcases h with h | h | h
  · omega
  · omega
  · exact h h3

theorem valB_ok {k : K} (h : k.Ok) : valB k.x (k.n : Int) = true := by
  unfold valB
  rw [decide_eq_true_eq]
  refine ⟨by omega, by have := h.1; omega, ?_⟩
  rw [Int.toNat_natCast]
  exact Nat.mod_eq_zero_of_dvd h.2.1

theorem valid_any (x : Nat) (y : Int) (w : World) (hx : x < 4294967296) :
    Calls Try.prog 47 #[.agg #[.int .u32 (x : Int), .int .i64 y]] w fun e w' => e = .returned (.bool (valB x y)) ∧ Below w.heap.size w w' := by
  rcases bad_or (y := y) hx with h | ⟨k, hk, rfl, rfl⟩
  · rw [valB_bad h]; exact valid_bad w hx h
  · rw [valB_ok hk]; exact valid_ok w hk

/-- The addresses of a prefix. -/
def inN (x : Nat) (y : Int) (a : Nat) : Bool := decide (x ≤ a ∧ a < x + 2 ^ (32 - y.toNat))

theorem contains_val (x : Nat) (y : Int) (a : Nat) (w : World) (hx : x < 4294967296) (h : valB x y = true) :
    Calls Try.prog 50 #[.agg #[.int .u32 (x : Int), .int .i64 y], .int .u32 (a : Int)] w fun e w' => e = .returned (.bool (inN x y a)) ∧ Below w.heap.size w w' := by
  rcases bad_or (y := y) hx with h0 | ⟨k, hk, rfl, rfl⟩
  · rw [valB_bad h0] at h; cases h
  · have e : inN k.x (k.n : Int) a = hasK k a := by unfold inN hasK K.s; rw [Int.toNat_natCast]
    rw [e]
    exact contains_ok a w hk

/-- What checkRow answers. -/
def ck (x : Nat) (y s : Int) (lo hi : Nat) : Int :=
  if valB x y = false then 11 else if s < y ∨ 32 < s ∨ hi < lo then 1 else if valB lo s = false ∨ valB hi s = false then 100 else if inN x y lo = false ∨ inN x y hi = false then 101 else 0

theorem check_row (x lo hi : Nat) (y s : Int) (w : World) (hx : x < 4294967296) (hl : lo < 4294967296) (hh : hi < 4294967296) :
    Calls Try.prog 36 #[.agg #[.int .u32 (x : Int), .int .i64 y], .int .i64 s, .int .u32 (lo : Int), .int .u32 (hi : Int)] w fun e w' => e = .returned (.int .i64 (ck x y s lo hi)) ∧ Below w.heap.size w w' := by
  obtain ⟨wa, HWA⟩ : ∃ wa, Hid (wa = w.alloc (.cells #[.int .u32 (x : Int), .int .i64 y] 25)) := ⟨_, rfl⟩
  have hb0 : Below w.heap.size w wa := by rw [HWA.out]; exact (Below.refl _ _).alloc (Nat.le_refl _) _
  have r1 : wa.heap[w.heap.size]? = some (.cells #[.int .u32 (x : Int), .int .i64 y] 25) := by rw [HWA.out]; exact heap_alloc_new w _
  obtain ⟨q0, q1⟩ := Beh.two r1
  have HB0 := hid hb0
  have HV : ∀ (x : Nat) (y : Int), x < 4294967296 → ∀ u : Beh wa, Hid (Calls Try.prog 47 #[.agg #[.int .u32 (x : Int), .int .i64 y]] u.wd fun e w' => e = .returned (.bool (valB x y)) ∧ ∃ u' : Beh wa, w' = u'.wd) := fun x y hx u => Calls.beh (valid_any x y _ hx)
  have HC : valB x y = true → ∀ (a : Nat) (u : Beh wa), Hid (Calls Try.prog 50 #[.agg #[.int .u32 (x : Int), .int .i64 y], .int .u32 (a : Int)] u.wd fun e w' => e = .returned (.bool (inN x y a)) ∧ ∃ u' : Beh wa, w' = u'.wd) := fun h a u => Calls.beh (contains_val x y a _ hx h)
  have HV1 := HV x y hx
  have HVl := HV lo s hl
  have HVh := HV hi s hh
  have HE : Hid (ck x y s lo hi = if valB x y = false then 11 else if s < y ∨ 32 < s ∨ hi < lo then 1 else if valB lo s = false ∨ valB hi s = false then 100 else if inN x y lo = false ∨ inN x y hi = false then 101 else 0) := rfl
  generalize ck x y s lo hi = ee at *
  generalize hv0 : valB x y = b0 at *
  generalize valB lo s = bl at *
  generalize valB hi s = bh at *
  clear r1 hb0 HV
  cases b0 with
  | false =>
    go_enter Try.func36, Try.ntmps36
    go_upto_region 1 with fail
    rw [← HWA.out]
    obtain ⟨p0, p1⟩ := And.intro (q0 ⟨wa, Below.refl _ _⟩) (q1 ⟨wa, Below.refl _ _⟩)
    go_wp2_with fail
    refine (HV1 ⟨wa, Below.refl _ _⟩).out.mono ?_
    rintro _ _ ⟨rfl, u1, rfl⟩
    go_wp2_with fail
    go_ret
    exact ⟨ret_int (by rw [HE.out]; rfl), HB0.out.trans (u1.ok.mono HB0.out.size)⟩
  | true =>
    have HCl := HC rfl lo
    have HCh := HC rfl hi
    generalize inN x y lo = cl at *
    generalize inN x y hi = ch at *
    go_enter Try.func36, Try.ntmps36
    go_upto_region 1 with fail
    rw [← HWA.out]
    obtain ⟨p0, p1⟩ := And.intro (q0 ⟨wa, Below.refl _ _⟩) (q1 ⟨wa, Below.refl _ _⟩)
    go_wp2_with fail
    refine (HV1 ⟨wa, Below.refl _ _⟩).out.mono ?_
    rintro _ _ ⟨rfl, u1, rfl⟩
    have t0 := q0 u1
    have t1 := q1 u1
    by_cases h1 : s < y ∨ 32 < s ∨ hi < lo
    · have HR : Hid (ee = 1) := by unfold Hid; rw [HE.out]; simp [h1]
      by_cases k1 : s < y
      · go_wp2_with fail
        go_ret
        exact ⟨ret_int HR.out.symm, HB0.out.trans (u1.ok.mono HB0.out.size)⟩
      · by_cases k2 : 32 < s
        · go_wp2_with fail
          go_ret
          exact ⟨ret_int HR.out.symm, HB0.out.trans (u1.ok.mono HB0.out.size)⟩
        · have k3 : hi < lo := by rcases h1 with h | h | h; exact absurd h k1; exact absurd h k2; exact h
          clear h1
          go_wp2_with fail
          go_ret
          exact ⟨ret_int HR.out.symm, HB0.out.trans (u1.ok.mono HB0.out.size)⟩
    · have k1 : ¬ s < y := fun h => h1 (.inl h)
      have k2 : ¬ 32 < s := fun h => h1 (.inr (.inl h))
      have k3 : ¬ hi < lo := fun h => h1 (.inr (.inr h))
      have HE2 : Hid (ee = if bl = false ∨ bh = false then 100 else if cl = false ∨ ch = false then 101 else 0) := by unfold Hid; rw [HE.out]; simp [h1]
      clear h1
      go_upto_region 5 with fail
      clear k1 k2 k3
      go_wp2_with fail
      refine (HVl u1).out.mono ?_
      rintro _ _ ⟨rfl, u2, rfl⟩
      cases bl with
      | false =>
        go_wp2_with fail
        go_ret
        exact ⟨ret_int (by rw [HE2.out]; rfl), HB0.out.trans (u2.ok.mono HB0.out.size)⟩
      | true =>
        go_wp2_with fail
        refine (HVh u2).out.mono ?_
        rintro _ _ ⟨rfl, u3, rfl⟩
        have s0 := q0 u3
        have s1 := q1 u3
        cases bh with
        | false =>
          go_wp2_with fail
          go_ret
          exact ⟨ret_int (by rw [HE2.out]; rfl), HB0.out.trans (u3.ok.mono HB0.out.size)⟩
        | true =>
          go_wp2_with fail
          refine (HCl u3).out.mono ?_
          rintro _ _ ⟨rfl, u4, rfl⟩
          have z0 := q0 u4
          have z1 := q1 u4
          cases cl with
          | false =>
            go_wp2_with fail
            go_ret
            exact ⟨ret_int (by rw [HE2.out]; rfl), HB0.out.trans (u4.ok.mono HB0.out.size)⟩
          | true =>
            go_wp2_with fail
            refine (HCh u4).out.mono ?_
            rintro _ _ ⟨rfl, u5, rfl⟩
            cases ch with
            | false =>
              go_wp2_with fail
              go_ret
              exact ⟨ret_int (by rw [HE2.out]; rfl), HB0.out.trans (u5.ok.mono HB0.out.size)⟩
            | true =>
              go_wp2_with fail
              go_ret
              exact ⟨ret_int (by rw [HE2.out]; rfl), HB0.out.trans (u5.ok.mono HB0.out.size)⟩
end Go.Proofs.Ytahoileampdnkaa
