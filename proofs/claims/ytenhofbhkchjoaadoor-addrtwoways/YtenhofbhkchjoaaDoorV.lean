import Derived.Test.YtenhofbhkchjoaaDoorMathV
namespace Go.Proofs.YtenhofbhkchjoaaDoor
open Go.ChangeShapes Go.WideShapes Go.ChangeAt Go.RowKit
set_option maxHeartbeats 400000

theorem fmtA_list (a : Nat) : (fmtA a).data.toList = S.quad a := by
  simp [fmtA, dd, dot, S.quad]

theorem fmtP_list (a : Nat) (n : Nat) : (fmtA a ++ ⟨#[47]⟩ ++ dd n).data.toList = S.quad a ++ 47 :: Lib.decDigits n := by
  rw [← fmtA_list]; simp [dd]

theorem byte_ext {a b : ByteArray} (h : a.data.toList = b.data.toList) : a = b := by
  obtain ⟨⟨a⟩⟩ := a
  obtain ⟨⟨b⟩⟩ := b
  simp at h; rw [h]

/-- Parse and Format, a text there and back. -/
theorem read_a (t : ByteArray) : ∃ (a : Nat) (e : Int), ansA (S.pa t.data.toList) = .tuple #[.int .u32 (a : Int), .int .i64 e] ∧ a < 4294967296 ∧ ((e == 0) = false ∨ (e = 0 ∧ fmtA a = t)) := by
  cases h : S.pa t.data.toList with
  | none => exact ⟨0, 10, rfl, by omega, .inl rfl⟩
  | some a => exact ⟨a, 0, rfl, (S.pa_len h).2, .inr ⟨rfl, byte_ext ((fmtA_list a).trans (S.quad_pa h))⟩⟩

theorem read_p (t : ByteArray) : ∃ (a : Nat) (n e : Int) (s : ByteArray) (f : Int), ansP t.data.toList = .tuple #[.agg #[.int .u32 (a : Int), .int .i64 n], .int .i64 e] ∧ a < 4294967296 ∧ ansFP a n = .tuple #[.string s, .int .i64 f] ∧ ((e == 0) = false ∨ (e = 0 ∧ f = 0 ∧ s = t)) := by
  unfold ansP
  cases h : pre t.data.toList with
  | none =>
    obtain ⟨s, f, hs⟩ := ansFP_shape 0 0
    exact ⟨0, 0, 11, s, f, rfl, by omega, hs, .inl rfl⟩
  | some p =>
    obtain ⟨a, n⟩ := p
    obtain ⟨h1, h2, h3⟩ := pre_inv h
    simp only
    by_cases he : err (a, (n : Int)) = 0
    · rw [if_pos he]
      refine ⟨a, n, 0, _, _, rfl, h3, if_pos he, .inr ⟨rfl, rfl, byte_ext ?_⟩⟩
      rw [fmtP_list, h1]; simp
    · rw [if_neg he]
      obtain ⟨s, f, hs⟩ := ansFP_shape 0 0
      exact ⟨0, 0, err (a, (n : Int)), s, f, rfl, by omega, hs, .inl (by rw [beq_eq_false_iff_ne]; exact he)⟩

theorem bt_lt (s : ByteArray) (k : Nat) : bt s k < 256 := by
  have h1 := hv_le (gb s (3 * k))
  have h2 := hv_le (gb s (3 * k + 1))
  unfold bt; omega

theorem gb_lt (s : ByteArray) (i : Nat) : gb s i < 256 := UInt8.toNat_lt _

/-- A hardware address that reads is printed with small letters. -/
theorem low_mac (s : ByteArray) (h : okM s = true) : ∀ i, i < 17 → ((mac (bt s) 6).getD i 0).toNat = low (gb s i) := by
  have hc : ∀ k, k < 6 → condM s k = true := fun k hk => List.all_eq_true.1 h k (by simpa using hk)
  have hk : ∀ k, k < 6 → (hd (bt s k / 16)).toNat = low (gb s (3 * k)) ∧ (hd (bt s k % 16)).toNat = low (gb s (3 * k + 1)) ∧ (0 < k → gb s (3 * k - 1) = 58) := by
    intro k hk
    have h1 := hc k hk
    simp [condM] at h1
    obtain ⟨⟨a, b⟩, c⟩ := h1
    have va := hv_le (gb s (3 * k))
    have vb := hv_le (gb s (3 * k + 1))
    unfold bt
    rw [show (hv (gb s (3 * k)) * 16 + hv (gb s (3 * k + 1))) / 16 = hv (gb s (3 * k)) from by omega, show (hv (gb s (3 * k)) * 16 + hv (gb s (3 * k + 1))) % 16 = hv (gb s (3 * k + 1)) from by omega]
    exact ⟨low_hx _ (gb_lt _ _) a, low_hx _ (gb_lt _ _) b, fun h0 => c.resolve_left (by omega)⟩
  intro i hi
  rw [mac_list]
  match i, hi with
  | 0, _ => exact (hk 0 (by omega)).1
  | 1, _ => exact (hk 0 (by omega)).2.1
  | 2, _ => rw [show gb s 2 = 58 from (hk 1 (by omega)).2.2 (by omega)]; rfl
  | 3, _ => exact (hk 1 (by omega)).1
  | 4, _ => exact (hk 1 (by omega)).2.1
  | 5, _ => rw [show gb s 5 = 58 from (hk 2 (by omega)).2.2 (by omega)]; rfl
  | 6, _ => exact (hk 2 (by omega)).1
  | 7, _ => exact (hk 2 (by omega)).2.1
  | 8, _ => rw [show gb s 8 = 58 from (hk 3 (by omega)).2.2 (by omega)]; rfl
  | 9, _ => exact (hk 3 (by omega)).1
  | 10, _ => exact (hk 3 (by omega)).2.1
  | 11, _ => rw [show gb s 11 = 58 from (hk 4 (by omega)).2.2 (by omega)]; rfl
  | 12, _ => exact (hk 4 (by omega)).1
  | 13, _ => exact (hk 4 (by omega)).2.1
  | 14, _ => rw [show gb s 14 = 58 from (hk 5 (by omega)).2.2 (by omega)]; rfl
  | 15, _ => exact (hk 5 (by omega)).1
  | 16, _ => exact (hk 5 (by omega)).2.1
  | k + 17, h => exact absurd h (by omega)
end Go.Proofs.YtenhofbhkchjoaaDoor
