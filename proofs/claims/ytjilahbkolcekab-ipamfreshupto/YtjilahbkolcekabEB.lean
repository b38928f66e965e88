/-
  ipam: names, the gateway, the address behind; New.
-/
import Derived.Test.YtjilahbkolcekabEA
namespace Go.Proofs.Ytjilahbkolcekab
open Go.ChangeShapes Go.WideShapes Go.ChangeAt Go.RowKit Go.Maps Tri
set_option maxHeartbeats 1000000
set_option maxRecDepth 100000

/-- The byte at a place. -/
def bOf (s : ByteArray) (i : Nat) : Nat := if h : i < s.size then (s[i]'h).toNat else 0
theorem bOf_at {s : ByteArray} {i : Nat} (h : i < s.size) : bOf s i = (s[i]'h).toNat := by unfold bOf; rw [dif_pos h]
theorem bOf_lt (s : ByteArray) (i : Nat) : bOf s i < 256 := by
  unfold bOf
  split
  · exact UInt8.toNat_lt _
  · omega

/-- May the byte stand in a name? -/
def nbB (c : Nat) : Bool := decide ((97 ≤ c ∧ c ≤ 122) ∨ (48 ≤ c ∧ c ≤ 57) ∨ c = 45)
/-- Is the text a name? -/
def nmB (s : ByteArray) : Bool := decide (1 ≤ s.size ∧ s.size ≤ 63 ∧ bOf s 0 ≠ 45 ∧ bOf s (s.size - 1) ≠ 45 ∧ ∀ i, i < s.size → nbB (bOf s i) = true)

theorem nameByte_any (c : Nat) (w : World) :
    Calls Try.prog 52 #[.int .u8 (c : Int)] w fun e w' => e = .returned (.bool (nbB c)) ∧ w' = w := by
  obtain ⟨R, HR⟩ : ∃ R, Hid (R = nbB c) := ⟨_, rfl⟩
  rw [← HR.out]
  by_cases h1 : (97 : Int) ≤ (c : Int)
  · by_cases h2 : (c : Int) ≤ 122
    · have HE : Hid (R = true) := by unfold Hid; rw [HR.out]; unfold nbB; rw [decide_eq_true_eq]; omega
      clear HR
      go_enter Try.func52, Try.ntmps52
      go_wp2
      go_ret
      exact ⟨ret_bool HE.out.symm, rfl⟩
    · have h3 : (48 : Int) ≤ (c : Int) := by omega
      have h4 : ¬ (c : Int) ≤ 57 := by omega
      have h5 : ((c : Int) == 45) = false := by simp; omega
      have HE : Hid (R = false) := by unfold Hid; rw [HR.out]; unfold nbB; rw [decide_eq_false_iff_not]; omega
      clear HR
      go_enter Try.func52, Try.ntmps52
      go_wp2
      go_ret
      exact ⟨ret_bool HE.out.symm, rfl⟩
  · by_cases h3 : (48 : Int) ≤ (c : Int)
    · by_cases h4 : (c : Int) ≤ 57
      · have HE : Hid (R = true) := by unfold Hid; rw [HR.out]; unfold nbB; rw [decide_eq_true_eq]; omega
        clear HR
        go_enter Try.func52, Try.ntmps52
        go_wp2
        go_ret
        exact ⟨ret_bool HE.out.symm, rfl⟩
      · have h5 : ((c : Int) == 45) = false := by simp; omega
        have HE : Hid (R = false) := by unfold Hid; rw [HR.out]; unfold nbB; rw [decide_eq_false_iff_not]; omega
        clear HR
        go_enter Try.func52, Try.ntmps52
        go_wp2
        go_ret
        exact ⟨ret_bool HE.out.symm, rfl⟩
    · obtain ⟨q, hq⟩ : ∃ q, ((c : Int) == 45) = q := ⟨_, rfl⟩
      have HE : Hid (R = q) := by
        unfold Hid; rw [HR.out, ← hq]; unfold nbB
        by_cases h5 : c = 45
        · simp [h5]
        · have : ((c : Int) == 45) = false := by simp; omega
          rw [this, decide_eq_false_iff_not]; omega
      clear HR
      go_enter Try.func52, Try.ntmps52
      go_wp2
      go_ret
      exact ⟨ret_bool HE.out.symm, rfl⟩


theorem isName_any (s : ByteArray) (w : World) (hs : s.size ≤ maxLen) :
    Calls Try.prog 40 #[.string s] w fun e w' => e = .returned (.bool (nmB s)) ∧ w' = w := by
  unfold maxLen at hs
  obtain ⟨R, HR⟩ : ∃ R, Hid (R = nmB s) := ⟨_, rfl⟩
  rw [← HR.out]
  have HF : ¬ (1 ≤ s.size ∧ s.size ≤ 63 ∧ bOf s 0 ≠ 45 ∧ bOf s (s.size - 1) ≠ 45 ∧ ∀ i, i < s.size → nbB (bOf s i) = true) → Hid (R = false) := fun h => by
    unfold Hid; rw [HR.out]; unfold nmB; exact decide_eq_false h
  by_cases h0 : s.size = 0
  · have e0 : s = ⟨#[]⟩ := by
      cases s with
      | mk d => congr 1; exact Array.eq_empty_of_size_eq_zero h0
    have HE := HF (by omega)
    subst e0
    clear HF HR h0 hs
    go_enter Try.func40, Try.ntmps40
    go_wp2
    go_ret
    exact ⟨ret_bool HE.out.symm, rfl⟩
  · have hnl : ¬ s.toList = [] := fun e => h0 (by
      rw [ByteArray.toList_eq] at e
      have := congrArg List.length e
      simpa using this)
    have hne2 : s.toList.isEmpty = false := by simpa using hnl
    by_cases h63 : s.size ≤ 63
    · have hp : 0 < s.size := by omega
      have g63 : ¬ (63 : Int) < (s.size : Int) := by omega
      have B0 := bOf_at hp
      by_cases c0 : (s[0]'hp).toNat = 45
      · have HE := HF (by rw [B0]; omega)
        have q0 : (((s[0]'hp).toNat : Int) == 45) = true := by simp [c0]
        clear HF HR B0 c0
        go_enter Try.func40, Try.ntmps40
        go_wp2
        go_ret
        exact ⟨ret_bool HE.out.symm, rfl⟩
      · have q0 : (((s[0]'hp).toNat : Int) == 45) = false := by simp; omega
        have hl : s.size - 1 < s.size := by omega
        have BL := bOf_at hl
        by_cases cl : (s[s.size - 1]'hl).toNat = 45
        · have HE := HF (by rw [BL]; omega)
          have ql : (((s[s.size - 1]'hl).toNat : Int) == 45) = true := by simp [cl]
          clear HF HR B0 BL cl c0
          go_enter Try.func40, Try.ntmps40
          go_wp2
          go_ret
          exact ⟨ret_bool HE.out.symm, rfl⟩
        · have ql : (((s[s.size - 1]'hl).toNat : Int) == 45) = false := by simp; omega
          have HT : (∀ i, i < s.size → nbB (bOf s i) = true) → Hid (R = true) := fun h => by
            unfold Hid; rw [HR.out]; unfold nmB; rw [decide_eq_true_eq]
            exact ⟨by omega, h63, by rw [B0]; exact c0, by rw [BL]; exact cl, h⟩
          have HBt : ∀ (j : Nat) (hj : j < s.size), Hid (nbB (bOf s j) = nbB (s[j]'hj).toNat) := fun j hj => by unfold Hid; rw [bOf_at hj]
          clear HR B0 BL cl c0
          go_enter Try.func40, Try.ntmps40
          go_upto_region 4 with fail
          go_loopw [26] (fun i wr => ∃ k : Nat, i = .int .i64 (k : Int) ∧ k ≤ s.size ∧ Hid (∀ i, i < k → nbB (bOf s i) = true) ∧ wr = w) (fun i _ => s.size - (intOf i).toNat)
          case atStart => exact ⟨0, rfl, Nat.zero_le _, fun i hi => absurd hi (by omega), rfl⟩
          case round =>
            obtain ⟨k, rfl, hk, HA, rfl⟩ := hrel
            by_cases hlt : k < s.size
            · have HC := hid (nameByte_any (s[k]'hlt).toNat wr)
              have hlt' : (k : Int) < (s.size : Int) := int_lt hlt
              cases hb : nbB (s[k]'hlt).toNat with
              | true =>
                have HA2 : Hid (∀ i, i < k + 1 → nbB (bOf s i) = true) := fun i hi => by
                  rcases Nat.lt_or_ge i k with h | h
                  · exact HA.out i h
                  · have : i = k := by omega
                    subst this
                    rw [(HBt i hlt).out]; exact hb
                rw [hb] at HC
                clear HBt HF HT hb
                go_wp2_with fail
                refine HC.out.mono ?_
                rintro _ _ ⟨rfl, ew⟩
                obtain rfl := ew.symm
                go_wp2_with fail
                go_roundw
                case rel => exact ⟨k + 1, by go_num, hlt, HA2, trivial⟩
                case measure => simp [intOf]; omega
              | false =>
                have HE := HF (fun h => by have := h.2.2.2.2 k hlt; rw [(HBt k hlt).out, hb] at this; cases this)
                rw [hb] at HC
                clear HBt HF HT hb
                go_wp2_with fail
                refine HC.out.mono ?_
                rintro _ _ ⟨rfl, ew⟩
                obtain rfl := ew.symm
                go_wp2_with fail
                go_ret
                exact ⟨ret_bool HE.out.symm, rfl⟩
            · have hlt' : ¬ (k : Int) < (s.size : Int) := int_nlt hlt
              have HE := HT (fun i hi => HA.out i (by omega))
              clear HBt HF HT
              go_wp2_with fail
              go_ret
              exact ⟨ret_bool HE.out.symm, rfl⟩
    · have HE := HF (by omega)
      have g63 : (63 : Int) < (s.size : Int) := by omega
      clear HF HR
      go_enter Try.func40, Try.ntmps40
      go_wp2
      go_ret
      exact ⟨ret_bool HE.out.symm, rfl⟩
end Go.Proofs.Ytjilahbkolcekab
