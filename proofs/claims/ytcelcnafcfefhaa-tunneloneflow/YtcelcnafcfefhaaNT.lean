import Derived.Test.YtcelcnafcfefhaaNS
import Derived.Test.YtcelcnafcfefhaaNH
namespace Go.Proofs.Ytcelcnafcfefhaa.N
open Go.ChangeShapes Go.WideShapes Go.ChangeAt Go.RowKit
set_option maxHeartbeats 400000
set_option maxRecDepth 100000

/-- The first error of a header, its body's length told. -/
def hdE (H : List Nat) (nb : Nat) : Int :=
  if M.csum H ≠ 0 then 33
  else if 128 ≤ byt H 6 then 32
  else if M.area (H.drop 20) = false then 34
  else if M.pieceOk ((w16 H 6 % 8192 * 8 : Nat) : Int) nb (decide (byt H 6 / 32 % 2 = 1)) = false then 36
  else 0

theorem bit15 (H : List Nat) (hb : ∀ x ∈ H, x < 256) : (bits .and .u16 ((w16 H 6 : Nat) : Int) 32768 != 0) = decide (128 ≤ byt H 6) := by
  have h := and_u16_bit (w16 H 6) 15 (w16_lt hb 6) (by decide)
  rw [show ((2 ^ 15 : Nat) : Int) = 32768 from rfl] at h
  rw [h]
  have h1 := byt_lt hb 6
  have h2 := byt_lt hb 7
  unfold w16
  by_cases g : 128 ≤ byt H 6
  · rw [decide_eq_true g]; simp; omega
  · rw [decide_eq_false g]; simp; omega

theorem bit13 (H : List Nat) (hb : ∀ x ∈ H, x < 256) : (bits .and .u16 ((w16 H 6 : Nat) : Int) 8192 != 0) = decide (byt H 6 / 32 % 2 = 1) := by
  have h := and_u16_bit (w16 H 6) 13 (w16_lt hb 6) (by decide)
  rw [show ((2 ^ 13 : Nat) : Int) = 8192 from rfl] at h
  rw [h]
  have h1 := byt_lt hb 6
  have h2 := byt_lt hb 7
  unfold w16
  by_cases g : byt H 6 / 32 % 2 = 1
  · rw [decide_eq_true g]; simp; omega
  · rw [decide_eq_false g]; simp; omega

theorem bit14 (H : List Nat) (hb : ∀ x ∈ H, x < 256) : (bits .and .u16 ((w16 H 6 : Nat) : Int) 16384 != 0) = decide (byt H 6 / 64 % 2 = 1) := by
  have h := and_u16_bit (w16 H 6) 14 (w16_lt hb 6) (by decide)
  rw [show ((2 ^ 14 : Nat) : Int) = 16384 from rfl] at h
  rw [h]
  have h1 := byt_lt hb 6
  have h2 := byt_lt hb 7
  unfold w16
  by_cases g : byt H 6 / 64 % 2 = 1
  · rw [decide_eq_true g]; simp; omega
  · rw [decide_eq_false g]; simp; omega

set_option maxHeartbeats 2000000 in
theorem hdE_code (v : Value) (H : List Nat) (i : Int) (nb : Nat) (w : World) (hv : SeesB w v H) (h20 : 20 ≤ H.length) (h60 : H.length ≤ 60) (hi : i = (nb : Int)) (hnb : nb ≤ 65535) :
    Calls Try.prog 80 #[v, .int .i64 i] w fun e w' => e = .returned (.int .i64 (hdE H nb)) ∧ Below w.heap.size w w' := by
  subst hi
  obtain ⟨ao, n, cap, rfl, HN, hn1, hn2⟩ := hv.shape
  have hn20 : 20 ≤ n := by have := HN.out; omega
  have hn60 : n ≤ 60 := by have := HN.out; omega
  unfold maxLen at hn2
  obtain ⟨R, hR⟩ : ∃ R, R = hdE H nb := ⟨_, rfl⟩
  have HR := hid hR
  rw [← hR]
  unfold hdE at HR
  clear hR
  have h15 := bit15 H hv.bytes
  have h13 := bit13 H hv.bytes
  have hf := w16_lt hv.bytes 6
  obtain ⟨al, HSL, hlow⟩ := hv.low 6 6 rfl (by omega)
  obtain ⟨am, HSM, hlow2⟩ := hv.low 20 20 rfl (by omega)
  have HC := read16_x _ (H.drop 6) w HSL.out (by rw [List.length_drop]; omega)
  rw [w16_drop] at HC
  have HC := hid HC
  have HS := sum_code _ _ _ (seesBB_one (w := w.drew) rfl _ _ (sees_drew hv) 25) (by simp; omega)
  rw [show [H].flatten = H by simp] at HS
  have HS := hid HS
  have HA := hid (fun u (hu : Below w.heap.size w u) => area_code _ (H.drop 20) u (HSM.out.below hu))
  have HO := hid (fun u => offset_any (w16 H 6) u hf)
  have HP := hid (fun u => piece_code ((w16 H 6 % 8192 * 8 : Nat) : Int) nb (decide (byt H 6 / 32 % 2 = 1)) u (by omega) (by omega))
  have hcs := M.csum_lt H
  rw [show (6 : Nat) + 0 = 6 from rfl] at HC
  generalize M.csum H = s at *
  generalize M.area (H.drop 20) = a at *
  generalize M.pieceOk ((w16 H 6 % 8192 * 8 : Nat) : Int) nb (decide (byt H 6 / 32 % 2 = 1)) = p at *
  generalize decide (byt H 6 / 32 % 2 = 1) = b13 at *
  by_cases hg : 128 ≤ byt H 6
  all_goals (first | rw [decide_eq_true hg] at h15 | rw [decide_eq_false hg] at h15)
  all_goals generalize byt H 6 = x6 at *
  all_goals generalize w16 H 6 % 8192 * 8 = o8 at *
  all_goals generalize w16 H 6 = f at *
  all_goals (have hw1 : Below w.heap.size w (w.drew.alloc (.cells #[.slice ao n cap] 25)) := (below_drew (Below.refl _ _)).alloc (Nat.le_refl _) _)
  all_goals clear hv HSL HSM
  all_goals (by_cases hs : s = 0)
  · have HE : Hid (R = 32) := by unfold Hid; rw [HR.out, if_neg (by omega), if_pos hg]
    have hq : ((s : Int) != 0) = false := by simp [hs]
    clear hs HR hg
    go_enter Try.func80, Try.ntmps80
    go_wp2_with fail
    refine HC.out.mono ?_
    rintro _ _ ⟨rfl, rfl⟩
    go_wp2_with fail
    refine HS.out.mono ?_
    rintro _ w2 ⟨rfl, hb2⟩
    go_wp2_with fail
    go_ret
    exact ⟨ret_int (by rw [HE.out]), hw1.trans (hb2.mono hw1.size)⟩
  · have HE : Hid (R = 33) := by unfold Hid; rw [HR.out, if_pos (by omega)]
    have hq : ((s : Int) != 0) = true := by simp; omega
    clear hs HR hg
    go_enter Try.func80, Try.ntmps80
    go_wp2_with fail
    refine HC.out.mono ?_
    rintro _ _ ⟨rfl, rfl⟩
    go_wp2_with fail
    refine HS.out.mono ?_
    rintro _ w2 ⟨rfl, hb2⟩
    go_wp2_with fail
    go_ret
    exact ⟨ret_int (by rw [HE.out]), hw1.trans (hb2.mono hw1.size)⟩
  · rw [if_neg (by omega), if_neg hg] at HR
    have hq : ((s : Int) != 0) = false := by simp [hs]
    clear hs hg
    cases a with
    | false =>
      have HE : Hid (R = 34) := by unfold Hid; rw [HR.out, if_pos rfl]
      clear HR
      go_enter Try.func80, Try.ntmps80
      go_wp2_with fail
      refine HC.out.mono ?_
      rintro _ _ ⟨rfl, rfl⟩
      go_wp2_with fail
      refine HS.out.mono ?_
      rintro _ w2 ⟨rfl, hb2⟩
      have hb3 := hw1.trans (hb2.mono hw1.size)
      clear hb2
      go_wp2_with fail
      refine (HA.out _ hb3).mono ?_
      rintro _ _ ⟨rfl, rfl⟩
      go_wp2_with fail
      go_ret
      exact ⟨ret_int (by rw [HE.out]), hb3⟩
    | true =>
      rw [if_neg (by simp)] at HR
      cases p with
      | false =>
        have HE : Hid (R = 36) := by unfold Hid; rw [HR.out, if_pos rfl]
        clear HR
        go_enter Try.func80, Try.ntmps80
        go_wp2_with fail
        refine HC.out.mono ?_
        rintro _ _ ⟨rfl, rfl⟩
        go_wp2_with fail
        refine HS.out.mono ?_
        rintro _ w2 ⟨rfl, hb2⟩
        have hb3 := hw1.trans (hb2.mono hw1.size)
        clear hb2
        go_wp2_with fail
        refine (HA.out _ hb3).mono ?_
        rintro _ _ ⟨rfl, rfl⟩
        go_wp2_with fail
        refine (HO.out _).mono ?_
        rintro _ _ ⟨rfl, rfl⟩
        go_wp2_with fail
        refine (HP.out _).mono ?_
        rintro _ _ ⟨rfl, rfl⟩
        go_wp2_with fail
        go_ret
        exact ⟨ret_int (by rw [HE.out]), hb3⟩
      | true =>
        have HE : Hid (R = 0) := by unfold Hid; rw [HR.out, if_neg (by simp)]
        clear HR
        go_enter Try.func80, Try.ntmps80
        go_wp2_with fail
        refine HC.out.mono ?_
        rintro _ _ ⟨rfl, rfl⟩
        go_wp2_with fail
        refine HS.out.mono ?_
        rintro _ w2 ⟨rfl, hb2⟩
        have hb3 := hw1.trans (hb2.mono hw1.size)
        clear hb2
        go_wp2_with fail
        refine (HA.out _ hb3).mono ?_
        rintro _ _ ⟨rfl, rfl⟩
        go_wp2_with fail
        refine (HO.out _).mono ?_
        rintro _ _ ⟨rfl, rfl⟩
        go_wp2_with fail
        refine (HP.out _).mono ?_
        rintro _ _ ⟨rfl, rfl⟩
        go_wp2_with fail
        go_ret
        exact ⟨ret_int (by rw [HE.out]), hb3⟩
  · have HE : Hid (R = 33) := by unfold Hid; rw [HR.out, if_pos (by omega)]
    have hq : ((s : Int) != 0) = true := by simp; omega
    clear hs HR hg
    go_enter Try.func80, Try.ntmps80
    go_wp2_with fail
    refine HC.out.mono ?_
    rintro _ _ ⟨rfl, rfl⟩
    go_wp2_with fail
    refine HS.out.mono ?_
    rintro _ w2 ⟨rfl, hb2⟩
    go_wp2_with fail
    go_ret
    exact ⟨ret_int (by rw [HE.out]), hw1.trans (hb2.mono hw1.size)⟩
end Go.Proofs.Ytcelcnafcfefhaa.N
