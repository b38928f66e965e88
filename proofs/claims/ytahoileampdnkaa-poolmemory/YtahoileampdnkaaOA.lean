/-
  Prefixes: addr.Valid, addr.Contains.
-/
import Derived.Test.YtahoileampdnkaaVLX
namespace Go.Proofs.Ytahoileampdnkaa
open Go.ChangeShapes Go.WideShapes Go.ChangeAt Go.RowKit
set_option maxHeartbeats 400000
set_option maxRecDepth 100000
namespace Tri
structure K where
  x : Nat
  n : Nat
deriving DecidableEq

def K.s (k : K) : Nat := 2 ^ (32 - k.n)
def K.Ok (k : K) : Prop := k.n ≤ 32 ∧ k.s ∣ k.x ∧ k.x < 4294967296

theorem K.s_pos (k : K) : 0 < k.s := Nat.pow_pos (by omega)

theorem step {s a b : Nat} (h1 : s ∣ a) (h2 : s ∣ b) (h : a < b) : a + s ≤ b := by
  obtain ⟨i, rfl⟩ := h1
  obtain ⟨j, rfl⟩ := h2
  have : i < j := Nat.lt_of_mul_lt_mul_left h
  have := Nat.mul_le_mul_left s this
  rw [Nat.mul_succ] at this
  exact this

theorem s_le32 (k : K) : k.s ∣ 4294967296 := by
  have : (4294967296 : Nat) = 2 ^ 32 := by decide
  rw [this]
  exact Nat.pow_dvd_pow 2 (by omega)

theorem K.Ok.end {k : K} (h : k.Ok) : k.x + k.s ≤ 4294967296 := step h.2.1 (s_le32 k) h.2.2

def hasK (k : K) (a : Nat) : Bool := decide (k.x ≤ a ∧ a < k.x + k.s)
end Tri
open Tri

theorem hid {p : Prop} (h : p) : Hid p := h

theorem ret_int {k : IntKind} {a b : Int} (h : a = b) : Ending.returned (.int k a) = .returned (.int k b) := by rw [h]

theorem ret_bool {a b : Bool} (h : a = b) : Ending.returned (.bool a) = .returned (.bool b) := by rw [h]

theorem below_drewN {B : Nat} {a w : World} (h : Below B a w) (n : Nat) : Below B a (w.drewN n) := ⟨h.os, h.tape, h.output, h.size, h.block⟩

theorem below_keeps {B k : Nat} {w w' : World} {o : Obj} (h : Below B w w') (hk : w.heap[k]? = some o) (hlt : k < B) : w'.heap[k]? = some o := (h.block k hlt).trans hk

/-- A prefix as a value. -/
def pv (k : K) : Value := .agg #[.int .u32 (k.x : Int), .int .i64 (k.n : Int)]

theorem pow_pred (n : Nat) (h : n ≤ 32) : 4294967295 / 2 ^ n = 2 ^ (32 - n) - 1 := by
  have : ∀ m, m < 33 → 4294967295 / 2 ^ m = 2 ^ (32 - m) - 1 := by decide +kernel
  exact this n (by omega)

theorem pow_le32 (n : Nat) : 2 ^ (32 - n) ≤ 4294967296 := by
  have : (4294967296 : Nat) = 2 ^ 32 := by decide
  rw [this]
  exact Nat.pow_le_pow_right (by omega) (by omega)

theorem bits_ok (n : Nat) (w : World) (hn : n ≤ 32) :
    Calls Try.prog 65 #[.int .i64 (n : Int)] w fun e w' => e = .returned (.int .u32 ((2 ^ (32 - n) - 1 : Nat) : Int)) ∧ w' = w := by
  have HP := hid (pow_pred n hn)
  go_enter Try.func65, Try.ntmps65
  go_wp2
  go_ret
  refine ⟨ret_int ?_, rfl⟩
  rw [← HP.out]; simp

theorem and_ok {k : K} (h : k.Ok) : bits .and .u32 (k.x : Int) ((2 ^ (32 - k.n) - 1 : Nat) : Int) = 0 := by
  have := pow_le32 k.n
  rw [u32_and_nat _ _ h.2.2 (by have := k.s_pos; unfold K.s at this; omega), Nat.and_two_pow_sub_one_eq_mod]
  have e : k.x % 2 ^ (32 - k.n) = 0 := Nat.mod_eq_zero_of_dvd h.2.1
  rw [e]
  rfl

theorem or_ok {k : K} (h : k.Ok) : bits .or .u32 (k.x : Int) ((2 ^ (32 - k.n) - 1 : Nat) : Int) = ((k.x + k.s - 1 : Nat) : Int) := by
  have h1 := pow_le32 k.n
  have h2 := k.s_pos
  unfold K.s at h2 ⊢
  rw [u32_or_nat _ _ h.2.2 (by omega)]
  obtain ⟨i, hi⟩ := h.2.1
  unfold K.s at hi
  rw [hi, ← Nat.two_pow_add_eq_or_of_lt (by omega)]
  congr 1
  omega

theorem check_ok {k : K} (w : World) (h : k.Ok) :
    Calls Try.prog 54 #[pv k] w fun e w' => e = .returned (.int .i64 0) ∧ Below w.heap.size w w' := by
  have hA := and_ok h
  have hn := h.1
  have hq : (bits .and .u32 (k.x : Int) ((2 ^ (32 - k.n) - 1 : Nat) : Int) != 0) = false := by rw [hA]; rfl
  have HB := fun u => hid (bits_ok k.n u hn)
  have h1 : ¬ (k.n : Int) < 0 := by omega
  have h2 : ¬ (32 : Int) < (k.n : Int) := by omega
  unfold pv
  generalize 2 ^ (32 - k.n) - 1 = m at *
  generalize k.x = x at *
  generalize k.n = n at *
  clear hA
  go_enter Try.func54, Try.ntmps54
  go_wp2
  go_quiet ((go_at_call 65; exact Calls.quiet_of_same (HB _).out))
  go_wp2
  go_ret
  exact ⟨rfl, below_drewN ((Below.refl _ _).alloc (Nat.le_refl _) _) _⟩

theorem valid_ok {k : K} (w : World) (h : k.Ok) :
    Calls Try.prog 47 #[pv k] w fun e w' => e = .returned (.bool true) ∧ Below w.heap.size w w' := by
  have HC := fun u => hid (check_ok u h)
  unfold pv at *
  go_enter Try.func47, Try.ntmps47
  go_wp2_with fail
  refine (HC _).out.mono ?_
  rintro e w1 ⟨rfl, hb1⟩
  have hb01 : Below w.heap.size w w1 := ((Below.refl _ _).alloc (Nat.le_refl _) _).trans (hb1.mono (by simp))
  go_wp2_with fail
  go_ret
  exact ⟨rfl, hb01⟩

theorem lastOf_ok {k : K} (w : World) (h : k.Ok) :
    Calls Try.prog 62 #[pv k] w fun e w' => e = .returned (.int .u32 ((k.x + k.s - 1 : Nat) : Int)) ∧ Below w.heap.size w w' := by
  have HO := hid (or_ok h)
  have hn := h.1
  have HB := fun u => hid (bits_ok k.n u hn)
  unfold pv
  generalize 2 ^ (32 - k.n) - 1 = m at *
  generalize k.x + k.s - 1 = m2 at *
  generalize k.x = x at *
  generalize k.n = n at *
  go_enter Try.func62, Try.ntmps62
  go_wp2
  go_quiet ((go_at_call 65; exact Calls.quiet_of_same (HB _).out))
  go_wp2
  go_ret
  exact ⟨ret_int HO.out, below_drewN ((Below.refl _ _).alloc (Nat.le_refl _) _) _⟩

/-- A world behind calls that made memory and wrote none of the elder. -/
structure Beh (w : World) where
  wd : World
  ok : Below w.heap.size w wd

instance (w : World) : Nonempty (Beh w) := ⟨⟨w, Below.refl _ _⟩⟩

theorem Beh.two {w : World} {b : Nat} {x y : Value} {t : TypeId} (h : w.heap[b]? = some (.cells #[x, y] t)) : (∀ u : Beh w, u.wd.cell? ⟨b, 0, none⟩ = some x) ∧ (∀ u : Beh w, u.wd.cell? ⟨b, 1, none⟩ = some y) := by
  have hlt := (Array.getElem?_eq_some_iff.1 h).1
  refine ⟨fun u => ?_, fun u => ?_⟩
  · rw [cell_of_row _ _ _ _ _ _ (below_keeps u.ok h hlt)]; rfl
  · rw [cell_of_row _ _ _ _ _ _ (below_keeps u.ok h hlt)]; rfl

theorem Calls.beh {P : Program} {f : FuncId} {args : Array Value} {w : World} {u : Beh w} {v : Value}
    (h : Calls P f args u.wd fun e w' => e = .returned v ∧ Below u.wd.heap.size u.wd w') : Calls P f args u.wd fun e w'' => e = .returned v ∧ ∃ u' : Beh w, w'' = u'.wd :=
  h.mono fun _ w' ⟨he, hb⟩ => ⟨he, ⟨w', u.ok.trans (hb.mono u.ok.size)⟩, rfl⟩

theorem contains_ok {k : K} (a : Nat) (w : World) (h : k.Ok) :
    Calls Try.prog 50 #[pv k, .int .u32 (a : Int)] w fun e w' => e = .returned (.bool (hasK k a)) ∧ Below w.heap.size w w' := by
  obtain ⟨wa, hwa⟩ : ∃ wa, wa = w.alloc (.cells #[.int .u32 (k.x : Int), .int .i64 (k.n : Int)] 25) := ⟨_, rfl⟩
  have hb0 : Below w.heap.size w wa := by rw [hwa]; exact (Below.refl _ _).alloc (Nat.le_refl _) _
  have r1 : wa.heap[w.heap.size]? = some (.cells #[.int .u32 (k.x : Int), .int .i64 (k.n : Int)] 25) := by rw [hwa]; exact heap_alloc_new w _
  obtain ⟨q0, q1⟩ := Beh.two r1
  have HWA := hid hwa
  have G1 : ∀ u : Beh wa, Hid (Calls Try.prog 47 #[pv k] u.wd fun e w' => e = .returned (.bool true) ∧ ∃ u' : Beh wa, w' = u'.wd) := fun u => Calls.beh (valid_ok _ h)
  have G2 : ∀ u : Beh wa, Hid (Calls Try.prog 62 #[pv k] u.wd fun e w' => e = .returned (.int .u32 ((k.x + k.s - 1 : Nat) : Int)) ∧ ∃ u' : Beh wa, w' = u'.wd) := fun u => Calls.beh (lastOf_ok _ h)
  have hsp := k.s_pos
  have HH : Hid (hasK k a = (decide (k.x ≤ a) && decide (a ≤ k.x + k.s - 1))) := by
    unfold Hid hasK
    rw [Bool.eq_iff_iff]
    simp
    omega
  unfold pv at *
  clear hwa r1
  generalize hasK k a = R at *
  generalize k.x + k.s - 1 = ll at *
  clear hsp
  by_cases hxa : k.x ≤ a
  · have HR : Hid (R = decide (a ≤ ll)) := by unfold Hid; rw [HH.out]; simp [hxa]
    go_enter Try.func50, Try.ntmps50
    go_wp2_with fail
    rw [← HWA.out]
    refine (G1 ⟨wa, Below.refl _ _⟩).out.mono ?_
    rintro _ _ ⟨rfl, u1, rfl⟩
    go_wp2_with fail
    refine (G2 u1).out.mono ?_
    rintro _ _ ⟨rfl, u, rfl⟩
    have hbu := hb0.trans (u.ok.mono hb0.size)
    go_wp2_with fail
    go_ret
    exact ⟨ret_bool HR.out.symm, hbu⟩
  · have HR : Hid (R = false) := by unfold Hid; rw [HH.out]; simp [hxa]
    go_enter Try.func50, Try.ntmps50
    go_wp2_with fail
    rw [← HWA.out]
    refine (G1 ⟨wa, Below.refl _ _⟩).out.mono ?_
    rintro _ _ ⟨rfl, u, rfl⟩
    have hbu := hb0.trans (u.ok.mono hb0.size)
    go_wp2_with fail
    go_ret
    exact ⟨ret_bool HR.out.symm, hbu⟩

/-- A prefix by any two numbers. -/
def qv (x : Nat) (y : Int) : Value := .agg #[.int .u32 (x : Int), .int .i64 y]

/-- Any two numbers: a prefix, or none. -/
def Bad (x : Nat) (y : Int) : Prop := y < 0 ∨ 32 < y ∨ x % 2 ^ (32 - y.toNat) ≠ 0

theorem bad_or {x : Nat} {y : Int} (hx : x < 4294967296) : Bad x y ∨ ∃ k : K, k.Ok ∧ x = k.x ∧ y = (k.n : Int) := by
  unfold Bad
  by_cases h1 : y < 0
  · exact .inl (.inl h1)
  · by_cases h2 : 32 < y
    · exact .inl (.inr (.inl h2))
    · by_cases h3 : x % 2 ^ (32 - y.toNat) = 0
      · refine .inr ⟨⟨x, y.toNat⟩, ⟨by show y.toNat ≤ 32; omega, Nat.dvd_of_mod_eq_zero h3, hx⟩, rfl, by show y = (y.toNat : Int); omega⟩
      · exact .inl (.inr (.inr h3))

theorem check_bad {x : Nat} {y : Int} (w : World) (hx : x < 4294967296) (h : Bad x y) :
    Calls Try.prog 54 #[qv x y] w fun e w' => (∃ c : Int, e = .returned (.int .i64 c) ∧ c ≠ 0) ∧ Below w.heap.size w w' := by
  unfold qv
  by_cases h1 : y < 0
  · go_enter Try.func54, Try.ntmps54
    go_wp2
    go_ret
    exact ⟨⟨11, rfl, by decide⟩, (Below.refl _ _).alloc (Nat.le_refl _) _⟩
  · by_cases h2 : 32 < y
    · go_enter Try.func54, Try.ntmps54
      go_wp2
      go_ret
      exact ⟨⟨11, rfl, by decide⟩, (Below.refl _ _).alloc (Nat.le_refl _) _⟩
    · have h3 : x % 2 ^ (32 - y.toNat) ≠ 0 := by rcases h with h | h | h; exact absurd h h1; exact absurd h h2; exact h
      obtain ⟨n, hn⟩ : ∃ n : Nat, y = (n : Int) := ⟨y.toNat, by omega⟩
      subst hn
      have hn32 : n ≤ 32 := by omega
      rw [Int.toNat_natCast] at h3
      have hp := pow_le32 n
      have hA : bits .and .u32 (x : Int) ((2 ^ (32 - n) - 1 : Nat) : Int) = ((x % 2 ^ (32 - n) : Nat) : Int) := by
        rw [u32_and_nat _ _ hx (by have := Nat.pow_pos (n := 32 - n) (by omega : 0 < 2); omega), Nat.and_two_pow_sub_one_eq_mod]
      have hq : (bits .and .u32 (x : Int) ((2 ^ (32 - n) - 1 : Nat) : Int) != 0) = true := by
        rw [hA, bne_iff_ne]; intro e; exact h3 (by exact_mod_cast e)
      have HB := fun u => hid (bits_ok n u hn32)
      generalize 2 ^ (32 - n) - 1 = m at *
      clear hA h3 hp h
      go_enter Try.func54, Try.ntmps54
      go_wp2
      go_quiet ((go_at_call 65; exact Calls.quiet_of_same (HB _).out))
      go_wp2
      go_ret
      exact ⟨⟨12, rfl, by decide⟩, below_drewN ((Below.refl _ _).alloc (Nat.le_refl _) _) _⟩

theorem valid_bad {x : Nat} {y : Int} (w : World) (hx : x < 4294967296) (h : Bad x y) :
    Calls Try.prog 47 #[qv x y] w fun e w' => e = .returned (.bool false) ∧ Below w.heap.size w w' := by
  have HC := fun u => hid (check_bad u hx h)
  unfold qv at *
  go_enter Try.func47, Try.ntmps47
  go_wp2_with fail
  refine (HC _).out.mono ?_
  rintro e w1 ⟨⟨c, rfl, hc⟩, hb1⟩
  have hb01 : Below w.heap.size w w1 := ((Below.refl _ _).alloc (Nat.le_refl _) _).trans (hb1.mono (by simp))
  have hq : (c == 0) = false := by simp [hc]
  clear hc
  go_wp2_with fail
  go_ret
  exact ⟨rfl, hb01⟩

end Go.Proofs.Ytahoileampdnkaa
