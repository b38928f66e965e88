import Derived.Test.YtenhofbhkchjoaaB
namespace Go.Proofs.Ytenhofbhkchjoaa
open Go.ChangeShapes Go.WideShapes Go.ChangeAt Go.RowKit
set_option maxHeartbeats 400000

theorem u32_wf {a : Int} (h : (Lit.int .u32 a).wf = true) : ∃ n : Nat, a = (n : Int) ∧ n < 4294967296 := by
  have h' : (decide (IntKind.u32.min ≤ a) && decide (a ≤ IntKind.u32.max)) = true := h
  rw [show IntKind.u32.min = 0 from by decide +kernel, show IntKind.u32.max = 4294967295 from by decide +kernel] at h'
  simp at h'
  exact ⟨a.toNat, by omega, by omega⟩

/-- A power of two that an int holds. -/
theorem wrap_pow (m k : Nat) (hk : m = k) (h : k ≤ 33) : ∃ P : Int, wrap64 (2 ^ m) = P ∧ P = ((2 ^ k : Nat) : Int) ∧ 0 < P ∧ P ≤ 8589934592 := by
  subst hk
  have hp := Nat.two_pow_pos m
  have h33 : 2 ^ m ≤ 2 ^ 33 := M.p2_le h
  refine ⟨_, rfl, ?_⟩
  have e : wrap64 (2 ^ m) = ((2 ^ m : Nat) : Int) := by
    have c : (2 : Int) ^ m = ((2 ^ m : Nat) : Int) := by simp
    rw [c]
    generalize 2 ^ m = q at *
    unfold wrap64; omega
  rw [e]
  generalize 2 ^ m = q at *
  omega

theorem ret_int2 {k l : IntKind} {a b c d : Int} (h : a = b) (g : c = d) : Ending.returned (.tuple #[.int k a, .int l c]) = .returned (.tuple #[.int k b, .int l d]) := by rw [h, g]

theorem block_ok (x k : Nat) (w : World) (hx : x + 2 ^ k ≤ 4294967296) (hk : k ≤ 32) (hm : x % 2 ^ k = 0) :
    Calls Try.prog 10 #[.agg #[.int .u32 x, .int .i64 (32 - (k : Int))]] w fun e w' => e = .returned (.tuple #[.int .i64 x, .int .i64 ((x + 2 ^ k - 1 : Nat) : Int)]) ∧ Below w.heap.size w w' := by
  obtain ⟨P, hP, hPk, hP0, hP1⟩ := wrap_pow (32 - (32 - k)) k (by omega) (by omega)
  have hq : ((x : Int) % P != 0) = false := by
    rw [hPk]; simp only [bne_eq_false_iff_eq]; exact_mod_cast hm
  have hx' : x < 4294967296 := by have := Nat.two_pow_pos k; omega
  have HE : Hid ((x : Int) + P - 1 = ((x + 2 ^ k - 1 : Nat) : Int)) := by
    have := Nat.two_pow_pos k
    rw [hPk]; unfold Hid; omega
  clear hm hx hPk
  go_enter Try.func10, Try.ntmps10
  go_wp2
  go_quiet (fail)
  go_wp2
  go_ret2
  exact ⟨ret_int2 rfl HE.out, below_drewN ((Below.refl _ _).alloc (Nat.le_refl _) _) _⟩

theorem parent_ok (x k : Nat) (w : World) (hx : x < 4294967296) (hk : k ≤ 32) :
    Calls Try.prog 11 #[.agg #[.int .u32 x, .int .i64 (32 - (k : Int))]] w fun e w' => e = .returned (.tuple #[.int .i64 ((x / 2 ^ (k + 1) * 2 ^ (k + 1) : Nat) : Int), .int .i64 ((x / 2 ^ (k + 1) * 2 ^ (k + 1) + 2 ^ (k + 1) - 1 : Nat) : Int)]) ∧ Below w.heap.size w w' := by
  obtain ⟨P, hP, hPk, hP0, hP1⟩ := wrap_pow (33 - (32 - k)) (k + 1) (by omega) (by omega)
  have hd : (x : Int) / P = ((x / 2 ^ (k + 1) : Nat) : Int) := by rw [hPk]; simp
  have hq0 : 0 ≤ (x : Int) / P := by rw [hd]; exact Int.natCast_nonneg _
  have hq1 : (x : Int) / P ≤ 4294967296 := by rw [hd]; have := Nat.div_le_self x (2 ^ (k + 1)); generalize x / 2 ^ (k + 1) = q at *; omega
  have hm0 : 0 ≤ (x : Int) / P * P := Int.mul_nonneg hq0 (by omega)
  have hm1 : (x : Int) / P * P ≤ 4294967296 := by have := Int.ediv_mul_le (x : Int) (show P ≠ 0 by omega); omega
  have HE : Hid ((x : Int) / P * P = ((x / 2 ^ (k + 1) * 2 ^ (k + 1) : Nat) : Int) ∧ (x : Int) / P * P + P - 1 = ((x / 2 ^ (k + 1) * 2 ^ (k + 1) + 2 ^ (k + 1) - 1 : Nat) : Int)) := by
    have := Nat.two_pow_pos (k + 1)
    rw [hd, hPk, ← Int.natCast_mul]
    generalize x / 2 ^ (k + 1) * 2 ^ (k + 1) = q
    generalize 2 ^ (k + 1) = r at *
    exact ⟨rfl, by omega⟩
  clear hd hPk
  go_enter Try.func11, Try.ntmps11
  go_wp2
  go_ret2
  exact ⟨ret_int2 HE.out.1 HE.out.2, (Below.refl _ _).alloc (Nat.le_refl _) _⟩
/-- The slice value v shows, in the world w, the prefixes L (address, length). -/
def Sees (w : World) (v : Value) (L : List (Nat × Int)) : Prop :=
  ∃ ao cap, v = .slice ao L.length cap ∧ L.length ≤ cap ∧ cap ≤ maxLen ∧
    ∀ j (h : j < L.length), ∃ g off, ao = some ⟨g, off, none⟩ ∧ g < w.heap.size ∧ w.cell? ⟨g, off + j * 2, none⟩ = some (.int .u32 (L[j].1 : Int)) ∧ w.cell? ⟨g, off + j * 2 + 1, none⟩ = some (.int .i64 L[j].2)

def pv (p : Nat × Nat) : Nat × Int := (p.1, 32 - (p.2 : Int))

theorem cells_at (L : List (Nat × Nat)) (j : Nat) (h : j < L.length) : (cells L)[j * 2]? = some (.int .u32 (L[j].1 : Int)) ∧ (cells L)[j * 2 + 1]? = some (.int .i64 (32 - (L[j].2 : Int))) := by
  induction L generalizing j with
  | nil => cases h
  | cons p L ih =>
    cases j with
    | zero => simp [cells, pc]
    | succ j =>
      have h' : j < L.length := by simpa using h
      have := ih j h'
      have e : cells (p :: L) = .int .u32 (p.1 : Int) :: .int .i64 (32 - (p.2 : Int)) :: cells L := rfl
      rw [e, show (j + 1) * 2 = j * 2 + 1 + 1 from by omega, show j * 2 + 1 + 1 + 1 = (j * 2 + 1) + 1 + 1 from rfl]
      simp only [List.getElem?_cons_succ, List.getElem_cons_succ]
      exact this

theorem sees_of_owns {w : World} {base : Nat} {v : Value} {L : List (Nat × Nat)} (h : w.ownsRow base 30 2 v L.length (cells L)) : Sees w v (L.map pv) := by
  rcases h.2 with ⟨rfl, hn⟩ | ⟨g, cap, cur, rfl, hb, hg, hnc, hcm, hcs, htake⟩
  · have : L = [] := List.eq_nil_of_length_eq_zero hn
    subst this
    exact ⟨none, 0, rfl, by simp, by unfold maxLen; omega, fun j h => absurd h (by simp)⟩
  · refine ⟨some ⟨g, 0, none⟩, cap, by simp, by simpa using hnc, hcm, fun j hj => ⟨g, 0, rfl, (Array.getElem?_eq_some_iff.1 hg).1, ?_, ?_⟩⟩
    · have hj' : j < L.length := by simpa using hj
      rw [Nat.zero_add, h.cellAt (j * 2) (by omega), (cells_at L j hj').1]
      simp [pv]
    · have hj' : j < L.length := by simpa using hj
      rw [Nat.zero_add, h.cellAt (j * 2 + 1) (by omega), (cells_at L j hj').2]
      simp [pv]

theorem Sees.shape {w : World} {v : Value} {L : List (Nat × Int)} (h : Sees w v L) : ∃ ao n cap, v = .slice ao n cap ∧ Hid (n = L.length) ∧ n ≤ cap ∧ cap ≤ maxLen := by
  obtain ⟨ao, cap, hv, h1, h2, _⟩ := h
  exact ⟨ao, L.length, cap, hv, rfl, h1, h2⟩

theorem Sees.at {w : World} {ao : Option Addr} {n cap : Nat} {L : List (Nat × Int)} (h : Sees w (.slice ao n cap) L) (j : Nat) (hj : j < n) : ∃ g off p, ao = some ⟨g, off, none⟩ ∧ g < w.heap.size ∧ w.cell? ⟨g, off + j * 2, none⟩ = some (.int .u32 (p.1 : Int)) ∧ w.cell? ⟨g, off + j * 2 + 1, none⟩ = some (.int .i64 p.2) ∧ Hid (L[j]? = some p) := by
  obtain ⟨ao', cap', hv, h1, h2, h3⟩ := h
  simp at hv
  obtain ⟨rfl, rfl, rfl⟩ := hv
  obtain ⟨g, off, a, b, c, d⟩ := h3 j hj
  exact ⟨g, off, L[j], a, b, c, d, List.getElem?_eq_getElem hj⟩

theorem Sees.below {w w' : World} {v : Value} {L : List (Nat × Int)} (h : Sees w v L) (hb : Below w.heap.size w w') : Sees w' v L := by
  obtain ⟨ao, cap, hv, h1, h2, h3⟩ := h
  refine ⟨ao, cap, hv, h1, h2, fun j hj => ?_⟩
  obtain ⟨g, off, ha, hg, c0, c1⟩ := h3 j hj
  exact ⟨g, off, ha, Nat.lt_of_lt_of_le hg hb.size, (hb.cell (p := ⟨g, _, none⟩) hg).trans c0, (hb.cell (p := ⟨g, _, none⟩) hg).trans c1⟩

end Go.Proofs.Ytenhofbhkchjoaa
