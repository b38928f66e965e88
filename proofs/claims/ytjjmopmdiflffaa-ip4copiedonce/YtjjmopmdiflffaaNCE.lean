import Derived.Test.YtjjmopmdiflffaaNMathF
import Derived.Test.YtjjmopmdiflffaaNL
namespace Go.Proofs.Ytjjmopmdiflffaa.N
open Go.ChangeShapes Go.WideShapes Go.ChangeAt Go.RowKit
set_option maxHeartbeats 400000
set_option maxRecDepth 100000

theorem at_drop {c : List Nat} {k j : Nat} {D : List Nat} (h : c.drop k = D) (Z : List Nat) (hj : j < D.length) : (c ++ Z)[k + j]? = D[j]? := by
  have hl : D.length = c.length - k := by rw [← h, List.length_drop]
  rw [List.getElem?_append_left (by omega), ← h, List.getElem?_drop]

theorem each_any (v : Value) (c : List Nat) (z : Nat) (w : World) (hv : SeesB w v (c ++ List.replicate z 0)) (hc : M.Chain c) (hz : z ≤ 3) (h4 : (c.length + z) % 4 = 0) (hl : c.length + z ≤ 40) :
    Calls Try.prog 17 #[v] w fun e w' => e = .returned (.bool true) ∧ w' = w := by
  obtain ⟨ao, n, cap, rfl, HN, hn1, hn2⟩ := hv.shape
  unfold maxLen at hn2
  have HV := hid hv
  obtain ⟨cl, hcl⟩ : ∃ cl, cl = c.length := ⟨_, rfl⟩
  have HCL := hid hcl
  have hnz : n = cl + z := by have := HN.out; rw [List.length_append, List.length_replicate] at this; omega
  have hn40 : n ≤ 40 := by omega
  have hn4 : n % 4 = 0 := by rw [hnz, hcl]; exact h4
  have HC : Hid (M.Chain (c.drop 0)) := by unfold Hid; rw [List.drop_zero]; exact hc
  have HZ : Hid (∀ (q p : Nat), cl ≤ q → (c ++ List.replicate z 0)[q]? = some p → p = 0) := fun q p hq hp => by
    rw [List.getElem?_append_right (by omega)] at hp
    have := List.mem_iff_getElem?.2 ⟨_, hp⟩
    exact (List.mem_replicate.1 this).2
  have hm4 : ((n : Int) % 4 == 0) = true := by simp; omega
  clear hv hc h4 hl hcl
  go_enter Try.func17, Try.ntmps17
  go_wp2_with fail
  go_loop [3] (fun i => ∃ k : Nat, i = .int .i64 k ∧ k ≤ cl ∧ Hid (M.Chain (c.drop k))) (fun i => n - (intOf i).toNat)
  case atStart => exact ⟨0, rfl, by omega, HC⟩
  case round =>
    clear HC
    obtain ⟨k, rfl, hk, HC⟩ := hrel
    rcases HC.out.cases with e | ⟨x, y, t, d, e, hx, hy, hd⟩
    · have hkc : k = cl := by
        have := congrArg List.length e
        rw [List.length_drop, ← HCL.out] at this
        simp at this
        omega
      subst hkc
      clear e HC
      by_cases hlt : k < n
      · obtain ⟨g, off, p, rfl, hg, hcc, hp, HP⟩ := HV.out.at k hlt
        obtain rfl := HZ.out k p (Nat.le_refl _) HP.out
        go_wp2_with fail
        go_loop [4] (fun j => ∃ q : Nat, j = .int .i64 q ∧ k ≤ q ∧ q ≤ n) (fun j => n - (intOf j).toNat)
        case atStart => exact ⟨k, rfl, by omega, by omega⟩
        case round =>
          obtain ⟨q, rfl, hkq, hqn⟩ := hrel
          by_cases hqlt : q < n
          · obtain ⟨g', off', p', e', hg', hc', hp', HP'⟩ := HV.out.at q hqlt
            simp at e'
            obtain ⟨rfl, rfl⟩ := e'
            obtain rfl := HZ.out q p' hkq HP'.out
            go_wp2_with fail
            go_round
            case rel => exact ⟨q + 1, by go_num, by omega, by omega⟩
            case measure => simp [intOf]; omega
          · go_wp2_with fail
            go_ret
            exact ⟨ret_bool (by simp; omega), rfl⟩
      · go_wp2_with fail
        go_loop [4] (fun j => ∃ q : Nat, j = .int .i64 q ∧ k ≤ q ∧ q ≤ n) (fun j => n - (intOf j).toNat)
        case atStart => exact ⟨k, rfl, by omega, by omega⟩
        case round =>
          obtain ⟨q, rfl, hkq, hqn⟩ := hrel
          have hqlt : ¬ q < n := by omega
          go_wp2_with fail
          go_ret
          exact ⟨ret_bool (by simp; omega), rfl⟩
    · have hlen : k + (t.length + d.length + 2) = cl := by
        have := congrArg List.length e
        rw [List.length_drop, ← HCL.out] at this
        simp at this
        omega
      have hk1 : k + 1 < n := by omega
      obtain ⟨g, off, p, rfl, hg, hcc, hp, HP⟩ := HV.out.at k (by omega)
      obtain ⟨g', off', p', e', hg', hc', hp', HP'⟩ := HV.out.at (k + 1) hk1
      simp at e'
      obtain ⟨rfl, rfl⟩ := e'
      have hpx : p = x := by
        have h1 := at_drop (j := 0) e (List.replicate z 0) (by simp)
        rw [Nat.add_zero, HP.out] at h1
        simpa using h1
      have hpy : p' = y := by
        have h1 := at_drop (j := 1) e (List.replicate z 0) (by simp)
        rw [HP'.out] at h1
        simpa using h1
      subst hpx hpy
      have HC2 : Hid (M.Chain (c.drop (k + p'))) := by
        unfold Hid
        rw [← List.drop_drop, e, ← hy]
        show M.Chain ((t ++ d).drop t.length)
        rw [List.drop_left' rfl]
        exact hd
      have hq : ((p : Int) != 0) = true := by simp; omega
      have hp2 : 2 ≤ p' := by omega
      have hkp : k + p' ≤ cl := by omega
      have hc1 : w.cell? ⟨g, off + k + 1, none⟩ = some (.int .u8 (p' : Int)) := by rw [Nat.add_assoc]; exact hc'
      clear e hy hd hlen HP HP' HC
      go_wp2_with fail
      go_round
      case rel => exact ⟨k + p', by go_num, by omega, HC2⟩
      case measure => simp [intOf]; omega
end Go.Proofs.Ytjjmopmdiflffaa.N
