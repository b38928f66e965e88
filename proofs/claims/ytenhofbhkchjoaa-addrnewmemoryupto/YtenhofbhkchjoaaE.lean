import Derived.Test.YtenhofbhkchjoaaC
namespace Go.Proofs.Ytenhofbhkchjoaa
open Go.ChangeShapes Go.WideShapes Go.ChangeAt Go.RowKit
set_option maxHeartbeats 400000

def pw (k : Nat) : Nat := 2 ^ k
theorem pw_succ (k : Nat) : pw (k + 1) = 2 * pw k := (M.p2 k).1
theorem pw_pos (k : Nat) : 0 < pw k := Nat.two_pow_pos k
theorem pw_le {k : Nat} (h : k ≤ 32) : pw k ≤ 4294967296 := M.p2_le (a := k) (b := 32) h

theorem size_any (n : Int) (k : Nat) (w : World) (h0 : n = 32 - (k : Int)) (h1 : k ≤ 32) :
    Calls Try.prog 34 #[.int .i64 n] w fun e w' => e = .returned (.int .i64 ((pw k : Nat) : Int)) ∧ w' = w := by
  subst h0
  go_enter Try.func34, Try.ntmps34
  go_wp2
  go_loop [3, 4] (fun t i => ∃ j : Nat, j ≤ k ∧ i = .int .i64 (32 - (k : Int) + (j : Int)) ∧ t = .int .i64 ((pw j : Nat) : Int)) (fun _ i => (32 - intOf i).toNat)
  case atStart => exact ⟨0, by omega, by simp, rfl⟩
  case round =>
    obtain ⟨j, hj, rfl, rfl⟩ := hrel
    have hp := pw_le (k := j) (by omega)
    have HS : Hid (pw (j + 1) = 2 * pw j) := pw_succ j
    by_cases hjk : j < k
    · go_wp2
      go_round
      case rel => exact ⟨j + 1, by omega, by go_num, by rw [HS.out]; go_num⟩
      case measure => simp [intOf]; omega
    · obtain rfl : j = k := by omega
      go_wp2
      go_ret
      exact ⟨rfl, rfl⟩

theorem same_any (v v' : Value) (L L' : List (Nat × Int)) (w : World) (h : Sees w v L) (h' : Sees w v' L') :
    Calls Try.prog 13 #[v, v'] w fun e w' => e = .returned (.bool (decide (L = L'))) ∧ ∃ q, w' = w.drewN q := by
  obtain ⟨ao, n, cap, rfl, HN, hn1, hn2⟩ := h.shape
  obtain ⟨ao', n', cap', rfl, HN', hn1', hn2'⟩ := h'.shape
  unfold maxLen at hn2 hn2'
  by_cases hnn : n = n'
  · subst hnn
    go_enter Try.func13, Try.ntmps13
    go_wp2
    go_loopw [5] (fun i wr => ∃ j q : Nat, j ≤ n ∧ i = .int .i64 j ∧ wr = w.drewN q ∧ Hid (L.take j = L'.take j)) (fun i _ => n - (intOf i).toNat)
    case atStart => exact ⟨0, 0, by omega, rfl, rfl, by simp [Hid]⟩
    case round =>
      obtain ⟨j, q, hj, rfl, rfl, HT⟩ := hrel
      by_cases hjn : j < n
      · obtain ⟨g, off, p, rfl, hg, c0, c1, HP⟩ := h.at j hjn
        obtain ⟨g', off', p', rfl, hg', c0', c1', HP'⟩ := h'.at j hjn
        have hj0 : (0 : Int) ≤ (j : Int) := by omega
        have hj1 : (j : Int) < (n : Int) := by omega
        by_cases hpp : p = p'
        · have HE : Hid (L.take (j + 1) = L'.take (j + 1)) := by
            have a1 := HP.out
            have a2 := HP'.out
            unfold Hid; rw [List.take_add_one, List.take_add_one, HT.out, a1, a2, hpp]
          go_wp2
          go_quiet (fail)
          go_wp2
          go_roundw
          case rel => exact ⟨j + 1, q + nq, by omega, by go_num, rfl, HE⟩
          case measure => simp [intOf]; omega
        · have HD : Hid (decide (L = L') = false) := by
            have a1 := HP.out
            have a2 := HP'.out
            unfold Hid; rw [decide_eq_false_iff_not]; intro e
            subst e; rw [a1] at a2; exact hpp (by simpa using a2)
          by_cases h1 : p.1 = p'.1
          · have h2 : (p.2 == p'.2) = false := by
              rw [beq_eq_false_iff_ne]; intro e; exact hpp (Prod.ext h1 e)
            go_wp2
            go_quiet (fail)
            go_wp2
            go_ret
            exact ⟨ret_bool HD.out.symm, q + nq, by simp⟩
          · have h2 : ((p.1 : Int) == (p'.1 : Int)) = false := by
              rw [beq_eq_false_iff_ne]; intro e; exact h1 (by exact_mod_cast e)
            go_wp2
            go_quiet (fail)
            go_wp2
            go_ret
            exact ⟨ret_bool HD.out.symm, q + nq, by simp⟩
      · have HE : Hid (decide (L = L') = true) := by
          have a1 := HN.out
          have a2 := HN'.out
          have a3 := HT.out
          rw [List.take_of_length_le (by omega), List.take_of_length_le (by omega)] at a3
          unfold Hid; simp [a3]
        go_wp2
        go_ret
        exact ⟨ret_bool HE.out.symm, q, rfl⟩
  · have HD : Hid (decide (L = L') = false) := by
      have a1 := HN.out
      have a2 := HN'.out
      unfold Hid; rw [decide_eq_false_iff_not]; intro e
      subst e; omega
    have hq : ((n : Int) != (n' : Int)) = true := by simp; omega
    go_enter Try.func13, Try.ntmps13
    go_wp2
    go_ret
    exact ⟨ret_bool HD.out.symm, 0, rfl⟩
theorem out_iff {K b lo hi : Nat} (h : (b : Int) + (pw K : Int) - 1 < (lo : Int) ∨ (hi : Int) < (b : Int)) : M.cut K b lo hi = [] := by
  have := pw_pos K
  apply M.cut_out
  show b + pw K - 1 < lo ∨ hi < b
  omega

theorem full_iff {K b lo hi : Nat} (h : (lo : Int) ≤ (b : Int)) (g : (b : Int) + (pw K : Int) - 1 ≤ (hi : Int)) : M.cut K b lo hi = [(b, K)] := by
  have := pw_pos K
  apply M.cut_full (by omega)
  show b + pw K - 1 ≤ hi
  omega

/-- What 'covered' says: the list l, with the cover of the range within the block behind it. -/
def CoveredSaid (K : Nat) : Prop := ∀ (B b lo hi : Nat) (bi li : Int) (v : Value) (acc : List (Nat × Nat)) (w : World),
    bi = (b : Int) → li = 32 - (K : Int) → b + pw K ≤ 4294967296 → lo < 4294967296 → hi < 4294967296 → acc.length + (M.cut K b lo hi).length ≤ 1099511627776 → B ≤ w.heap.size →
    w.ownsRow B 30 2 v acc.length (cells acc) →
    Calls Try.prog 25 #[v, .int .i64 bi, .int .i64 li, .int .i64 lo, .int .i64 hi] w fun e w' => ∃ v', e = .returned v' ∧ w'.ownsRow B 30 2 v' (acc ++ M.cut K b lo hi).length (cells (acc ++ M.cut K b lo hi)) ∧ Below B w w'

theorem covered_out (K : Nat) (hK : K ≤ 32) (B b lo hi : Nat) (li : Int) (v : Value) (acc : List (Nat × Nat)) (w : World)
    (hli : li = 32 - (K : Int)) (hb : b + pw K ≤ 4294967296)
    (hown : w.ownsRow B 30 2 v acc.length (cells acc)) (ho : (b : Int) + (pw K : Int) - 1 < (lo : Int) ∨ (hi : Int) < (b : Int)) :
    Calls Try.prog 25 #[v, .int .i64 b, .int .i64 li, .int .i64 lo, .int .i64 hi] w fun e w' => ∃ v', e = .returned v' ∧ w'.ownsRow B 30 2 v' (acc ++ M.cut K b lo hi).length (cells (acc ++ M.cut K b lo hi)) ∧ Below B w w' := by
  rw [out_iff ho, List.append_nil]
  have HL : Hid (li = 32 - (K : Int)) := hli
  have hp := pw_pos K
  have hp1 := pw_le hK
  clear hli
  by_cases h1 : (b : Int) + (pw K : Int) - 1 < (lo : Int)
  · clear ho
    go_enter Try.func25, Try.ntmps25
    go_wp2_with fail
    refine (size_any _ K _ HL.out hK).mono ?_
    rintro e w1 ⟨rfl, rfl⟩
    go_wp2_with fail
    go_ret
    exact ⟨_, rfl, hown, Below.refl _ _⟩
  · have h2 : (hi : Int) < (b : Int) := by omega
    clear ho
    go_enter Try.func25, Try.ntmps25
    go_wp2_with fail
    refine (size_any _ K _ HL.out hK).mono ?_
    rintro e w1 ⟨rfl, rfl⟩
    go_wp2_with fail
    go_ret
    exact ⟨_, rfl, hown, Below.refl _ _⟩

theorem covered_full (K : Nat) (hK : K ≤ 32) (B b lo hi : Nat) (v : Value) (acc : List (Nat × Nat)) (w : World)
    (hb : b + pw K ≤ 4294967296) (hN : acc.length + 1 ≤ 1099511627776) (hB : B ≤ w.heap.size)
    (hown : w.ownsRow B 30 2 v acc.length (cells acc)) (h1 : (lo : Int) ≤ (b : Int)) (h2 : (b : Int) + (pw K : Int) - 1 ≤ (hi : Int)) :
    Calls Try.prog 25 #[v, .int .i64 b, .int .i64 (32 - (K : Int)), .int .i64 lo, .int .i64 hi] w fun e w' => ∃ v', e = .returned v' ∧ w'.ownsRow B 30 2 v' (acc ++ M.cut K b lo hi).length (cells (acc ++ M.cut K b lo hi)) ∧ Below B w w' := by
  rw [full_iff h1 h2]
  obtain ⟨i0, hi0, hz0, hz1, hz2⟩ := info_parts Try.info30
  have HI : Hid (Try.prog.info? 30 = some i0) := hi0
  clear hi0
  have hp := pw_pos K
  have hp1 := pw_le hK
  go_enter Try.func25, Try.ntmps25
  go_wp2_with fail
  refine (size_any _ K _ rfl hK).mono ?_
  rintro e w1 ⟨rfl, rfl⟩
  go_wp2_with (at_builtin; refine wpList_append_own _ rfl _ _ 25 rfl B 30 i0 (.agg #[.int .u32 0, .int .i64 0]) 2 16 Try.underlying25 HI.out hz0 hz1 hz2 rfl (by decide) _ _ _ rfl (hown.alloc _) ⟨w1.heap.size, 0, none⟩ 1 1 [.int .u32 b, .int .i64 (32 - (K : Int))] rfl rfl ?c1 ?c2 ?c3 ?c4 ?c5 ?_)
  case c1 => exact two_at rfl _ _ _
  case c2 => intro u hu; simp at hu; rcases hu with rfl | rfl <;> rfl
  case c3 => unfold maxLen; omega
  case c4 => omega
  case c5 => simp; omega
  · intro v' w2 hown2 hgrow _
    have hb2 : Below B w1 w2 := ((Below.refl B w1).alloc hB _).grown hgrow (by simp; omega) (fun k hk => (hown.lt k hk).1)
    rw [cells_snoc] at hown2
    clear hgrow hown
    go_wp2_with fail
    go_ret
    exact ⟨_, rfl, by rw [List.length_append]; exact hown2, hb2⟩

theorem covered_half (K : Nat) (hK : K + 1 ≤ 32) (ih : Hid (CoveredSaid K)) (B b lo hi : Nat) (v : Value) (acc : List (Nat × Nat)) (w : World)
    (hb : b + pw (K + 1) ≤ 4294967296) (hlo : lo < 4294967296) (hhi : hi < 4294967296) (hN : acc.length + (M.cut (K + 1) b lo hi).length ≤ 1099511627776) (hB : B ≤ w.heap.size)
    (hown : w.ownsRow B 30 2 v acc.length (cells acc)) (ho : ¬ ((b : Int) + (pw (K + 1) : Int) - 1 < (lo : Int) ∨ (hi : Int) < (b : Int))) (hf : ¬ ((lo : Int) ≤ (b : Int) ∧ (b : Int) + (pw (K + 1) : Int) - 1 ≤ (hi : Int))) :
    Calls Try.prog 25 #[v, .int .i64 b, .int .i64 (32 - ((K + 1 : Nat) : Int)), .int .i64 lo, .int .i64 hi] w fun e w' => ∃ v', e = .returned v' ∧ w'.ownsRow B 30 2 v' (acc ++ M.cut (K + 1) b lo hi).length (cells (acc ++ M.cut (K + 1) b lo hi)) ∧ Below B w w' := by
  have hp := pw_pos K
  have hps := pw_succ K
  have hc : M.cut (K + 1) b lo hi = M.cut K b lo hi ++ M.cut K (b + pw K) lo hi := by
    apply M.cut_half
    · show ¬ (b + pw (K + 1) - 1 < lo ∨ hi < b); omega
    · show ¬ (lo ≤ b ∧ b + pw (K + 1) - 1 ≤ hi); omega
  rw [hc] at hN ⊢
  rw [List.length_append] at hN
  have HC1 : Hid (b + pw K ≤ 4294967296) := by unfold Hid; omega
  have HC2 : Hid ((b + pw K) + pw K ≤ 4294967296) := by unfold Hid; omega
  have HN1 : Hid (acc.length + (M.cut K b lo hi).length ≤ 1099511627776) := by unfold Hid; omega
  have HN2 : Hid ((acc ++ M.cut K b lo hi).length + (M.cut K (b + pw K) lo hi).length ≤ 1099511627776) := by unfold Hid; rw [List.length_append]; omega
  clear hc hN
  have hp1 := pw_le (k := K + 1) hK
  have h1 : ¬ (b : Int) + (pw (K + 1) : Int) - 1 < (lo : Int) := by omega
  have h2 : ¬ (hi : Int) < (b : Int) := by omega
  have hpK : pw K ≤ 4294967296 := by omega
  clear ho hps
  by_cases h3 : (lo : Int) ≤ (b : Int)
  · have h4 : ¬ (b : Int) + (pw (K + 1) : Int) - 1 ≤ (hi : Int) := by omega
    clear hf
    go_enter Try.func25, Try.ntmps25
    go_wp2_with fail
    refine (size_any _ (K + 1) _ rfl hK).mono ?_
    rintro e w1 ⟨rfl, rfl⟩
    go_wp2_with fail
    refine (size_any _ K _ (by omega) (by omega)).mono ?_
    rintro e w2 ⟨rfl, rfl⟩
    go_wp2_with fail
    refine (ih.out B b lo hi _ _ v acc _ rfl (by omega) HC1.out hlo hhi HN1.out hB hown).mono ?_
    rintro e w3 ⟨v3, rfl, hown3, hb3⟩
    go_wp2_with fail
    refine (ih.out B (b + pw K) lo hi _ _ v3 _ _ (by omega) (by omega) HC2.out hlo hhi HN2.out (by have := hb3.size; omega) hown3).mono ?_
    rintro e w4 ⟨v4, rfl, hown4, hb4⟩
    go_wp2_with fail
    go_ret
    exact ⟨_, rfl, by rw [← List.append_assoc]; exact hown4, hb3.trans hb4⟩
  · clear hf
    go_enter Try.func25, Try.ntmps25
    go_wp2_with fail
    refine (size_any _ (K + 1) _ rfl hK).mono ?_
    rintro e w1 ⟨rfl, rfl⟩
    go_wp2_with fail
    refine (size_any _ K _ (by omega) (by omega)).mono ?_
    rintro e w2 ⟨rfl, rfl⟩
    go_wp2_with fail
    refine (ih.out B b lo hi _ _ v acc _ rfl (by omega) HC1.out hlo hhi HN1.out hB hown).mono ?_
    rintro e w3 ⟨v3, rfl, hown3, hb3⟩
    go_wp2_with fail
    refine (ih.out B (b + pw K) lo hi _ _ v3 _ _ (by omega) (by omega) HC2.out hlo hhi HN2.out (by have := hb3.size; omega) hown3).mono ?_
    rintro e w4 ⟨v4, rfl, hown4, hb4⟩
    go_wp2_with fail
    go_ret
    exact ⟨_, rfl, by rw [← List.append_assoc]; exact hown4, hb3.trans hb4⟩

theorem covered_any : ∀ (K : Nat), K ≤ 32 → CoveredSaid K := by
  intro K
  induction K with
  | zero =>
    intro _ B b lo hi bi li v acc w hbi hli hb hlo hhi hN hB hown
    subst hbi; subst hli
    by_cases ho : (b : Int) + (pw 0 : Int) - 1 < (lo : Int) ∨ (hi : Int) < (b : Int)
    · exact covered_out 0 (by omega) B b lo hi _ v acc w rfl hb hown ho
    · have e : pw 0 = 1 := rfl
      have h1 : (lo : Int) ≤ (b : Int) := by omega
      have h2 : (b : Int) + (pw 0 : Int) - 1 ≤ (hi : Int) := by omega
      exact covered_full 0 (by omega) B b lo hi v acc w hb (by rw [full_iff h1 h2] at hN; simpa using hN) hB hown h1 h2
  | succ K ih =>
    intro hK B b lo hi bi li v acc w hbi hli hb hlo hhi hN hB hown
    subst hbi; subst hli
    by_cases ho : (b : Int) + (pw (K + 1) : Int) - 1 < (lo : Int) ∨ (hi : Int) < (b : Int)
    · exact covered_out (K + 1) hK B b lo hi _ v acc w rfl hb hown ho
    · by_cases hf : (lo : Int) ≤ (b : Int) ∧ (b : Int) + (pw (K + 1) : Int) - 1 ≤ (hi : Int)
      · exact covered_full (K + 1) hK B b lo hi v acc w hb (by rw [full_iff hf.1 hf.2] at hN; simpa using hN) hB hown hf.1 hf.2
      · exact covered_half K hK (ih (by omega)) B b lo hi v acc w hb hlo hhi hN hB hown ho hf

theorem refCover_any (lo hi : Nat) (w : World) (hl : lo < 4294967296) (hh : hi < 4294967296) :
    Calls Try.prog 12 #[.int .u32 lo, .int .u32 hi] w fun e w' => ∃ v, e = .returned v ∧ w'.ownsRow w.heap.size 30 2 v (M.cv lo hi).length (cells (M.cv lo hi)) ∧ Below w.heap.size w w' := by
  by_cases hle : lo ≤ hi
  · have hc := covered_any 32 (Nat.le_refl _)
    have HC := hc
    go_enter Try.func12, Try.ntmps12
    go_wp2_with fail
    refine (HC w.heap.size 0 lo hi _ _ _ [] w rfl (by omega) (by decide +kernel) hl hh (by have := M.cv_len lo hi; unfold M.cv at this; simp; omega) (Nat.le_refl _) (World.ownsRow_nil _ _ _ _)).mono ?_
    rintro e w1 ⟨v, rfl, hown, hb⟩
    go_wp2_with fail
    go_ret
    exact ⟨_, rfl, hown, hb⟩
  · go_enter Try.func12, Try.ntmps12
    go_wp2_with fail
    go_ret
    refine ⟨_, rfl, ?_, Below.refl _ _⟩
    rw [M.cv_gt (by omega)]
    exact World.ownsRow_nil _ _ _ _

theorem covers_walk (lo hi : Nat) (w : World) (hl : lo < 4294967296) (hh : hi < 4294967296) :
    Calls Try.prog 4 #[.int .u32 lo, .int .u32 hi] w fun e w' => e = .returned (.bool true) ∧ Below w.heap.size w w' := by
  go_enter Try.func4, Try.ntmps4
  go_wp2_with fail
  refine (begun_any _).mono ?_
  rintro e w0 ⟨rfl, rfl⟩
  go_wp2_with fail
  refine (cover_any lo hi _ hl hh).mono ?_
  rintro e w1 ⟨v1, rfl, hown1, hb1⟩
  go_wp2_with fail
  refine (refCover_any lo hi _ hl hh).mono ?_
  rintro e w2 ⟨v2, rfl, hown2, hb2⟩
  have hs1 := (sees_of_owns hown1).below hb2
  have hs2 := sees_of_owns hown2
  go_wp2_with fail
  refine (same_any v1 v2 _ _ _ hs1 hs2).mono ?_
  rintro e w3 ⟨rfl, q, rfl⟩
  go_wp2_with fail
  go_ret
  exact ⟨ret_bool (by simp), below_drewN (hb1.trans (hb2.mono hb1.size)) q⟩
end Go.Proofs.Ytenhofbhkchjoaa
