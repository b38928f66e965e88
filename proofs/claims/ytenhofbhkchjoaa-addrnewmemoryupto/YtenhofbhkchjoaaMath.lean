/-
  Plain mathematics of covers: blocks of powers of two, the cover by halving, and that it goes block by block from the left.
-/
namespace Go.Proofs.Ytenhofbhkchjoaa.M

/-- The cover by halving, of the range from lo to hi, within the block of 2^K addresses at base. -/
def cut : Nat → Nat → Nat → Nat → List (Nat × Nat)
  | 0, base, lo, hi => if base < lo ∨ hi < base then [] else [(base, 0)]
  | K + 1, base, lo, hi =>
    if base + 2 ^ (K + 1) - 1 < lo ∨ hi < base then []
    else if lo ≤ base ∧ base + 2 ^ (K + 1) - 1 ≤ hi then [(base, K + 1)]
    else cut K base lo hi ++ cut K (base + 2 ^ K) lo hi

def cv (lo hi : Nat) : List (Nat × Nat) := cut 32 0 lo hi

/-- k is the greatest exponent of a block that begins at x and ends at hi at the latest. -/
def Wid (x hi k : Nat) : Prop := k ≤ 32 ∧ x % 2 ^ k = 0 ∧ x + 2 ^ k - 1 ≤ hi ∧ (k < 32 → ¬ (x % 2 ^ (k + 1) = 0 ∧ x + 2 ^ (k + 1) - 1 ≤ hi))

theorem p2 (K : Nat) : 2 ^ (K + 1) = 2 * 2 ^ K ∧ 0 < 2 ^ K := ⟨by rw [Nat.pow_succ]; omega, Nat.two_pow_pos K⟩

theorem p2_le {a b : Nat} (h : a ≤ b) : 2 ^ a ≤ 2 ^ b := Nat.pow_le_pow_right (by omega) h

theorem dvd_of_mod {a d : Nat} (h : a % d = 0) : d ∣ a := Nat.dvd_of_mod_eq_zero h

theorem mod_down {a j k : Nat} (h : a % 2 ^ k = 0) (hj : j ≤ k) : a % 2 ^ j = 0 :=
  Nat.mod_eq_zero_of_dvd (Nat.dvd_trans (Nat.pow_dvd_pow 2 hj) (dvd_of_mod h))

theorem mod_add {a b k : Nat} (h : a % 2 ^ k = 0) (g : b % 2 ^ k = 0) : (a + b) % 2 ^ k = 0 :=
  Nat.mod_eq_zero_of_dvd (Nat.dvd_add (dvd_of_mod h) (dvd_of_mod g))

theorem mod_pow {j k : Nat} (hj : j ≤ k) : 2 ^ k % 2 ^ j = 0 := Nat.mod_eq_zero_of_dvd (Nat.pow_dvd_pow 2 hj)

/-- Two multiples of d: the smaller one and d is at most the greater. -/
theorem step_le {a b d : Nat} (ha : a % d = 0) (hb : b % d = 0) (h : a < b) : a + d ≤ b := by
  obtain ⟨c, rfl⟩ := dvd_of_mod ha
  obtain ⟨e, rfl⟩ := dvd_of_mod hb
  have : c < e := Nat.lt_of_mul_lt_mul_left h
  calc d * c + d = d * (c + 1) := by rw [Nat.mul_add, Nat.mul_one]
    _ ≤ d * e := Nat.mul_le_mul_left _ this

theorem cut_out {K base lo hi : Nat} (h : base + 2 ^ K - 1 < lo ∨ hi < base) : cut K base lo hi = [] := by
  cases K with
  | zero => simp only [cut]; rw [if_pos (by simpa using h)]
  | succ K => simp only [cut]; rw [if_pos h]

theorem cut_full {K base lo hi : Nat} (h : lo ≤ base) (g : base + 2 ^ K - 1 ≤ hi) : cut K base lo hi = [(base, K)] := by
  have := Nat.two_pow_pos K
  cases K with
  | zero => simp only [cut]; rw [if_neg (by simp at g; omega)]
  | succ K => simp only [cut]; rw [if_neg (by omega), if_pos ⟨h, g⟩]

theorem cut_half {K base lo hi : Nat} (h : ¬ (base + 2 ^ (K + 1) - 1 < lo ∨ hi < base)) (g : ¬ (lo ≤ base ∧ base + 2 ^ (K + 1) - 1 ≤ hi)) :
    cut (K + 1) base lo hi = cut K base lo hi ++ cut K (base + 2 ^ K) lo hi := by
  simp only [cut]; rw [if_neg h, if_neg g]

theorem cut_gt : ∀ (K base lo hi : Nat), hi < lo → cut K base lo hi = [] := by
  intro K
  induction K with
  | zero => intro base lo hi h; simp only [cut]; rw [if_pos (by omega)]
  | succ K ih =>
    intro base lo hi h
    by_cases o : base + 2 ^ (K + 1) - 1 < lo ∨ hi < base
    · exact cut_out o
    · have := Nat.two_pow_pos (K + 1)
      rw [cut_half o (by omega), ih _ _ _ h, ih _ _ _ h]; rfl

theorem cut_lo : ∀ (K base lo hi : Nat), lo ≤ base → cut K base lo hi = cut K base base hi := by
  intro K
  induction K with
  | zero => intro base lo hi h; simp only [cut]; by_cases c : hi < base
            · rw [if_pos (.inr c), if_pos (.inr c)]
            · rw [if_neg (by omega), if_neg (by omega)]
  | succ K ih =>
    intro base lo hi h
    have hp := p2 K
    by_cases o : hi < base
    · rw [cut_out (.inr o), cut_out (.inr o)]
    · by_cases f : base + 2 ^ (K + 1) - 1 ≤ hi
      · rw [cut_full h f, cut_full (Nat.le_refl _) f]
      · rw [cut_half (by omega) (by omega), cut_half (by omega) (by omega), ih base lo hi h, ih (base + 2 ^ K) lo hi (by omega), ih (base + 2 ^ K) base hi (by omega)]

/-- The step from the left. -/
theorem cut_step : ∀ (K base x hi k : Nat), base % 2 ^ K = 0 → base ≤ x → x < base + 2 ^ K → k ≤ K → K ≤ 32 → Wid x hi k → cut K base x hi = (x, k) :: cut K base (x + 2 ^ k) hi := by
  intro K
  induction K with
  | zero =>
    intro base x hi k _ h1 h2 h3 _ hw
    have hk : k = 0 := by omega
    have hx : x = base := by simp at h2; omega
    subst hk; subst hx
    have := hw.2.2.1
    simp only [cut]
    rw [if_neg (by simp at this; omega), if_pos (by simp)]
  | succ K ih =>
    intro base x hi k hb h1 h2 h3 h32 hw
    have hp := p2 K
    obtain ⟨_, hm, hend, hmax⟩ := hw
    have hxhi : x ≤ hi := by have := Nat.two_pow_pos k; omega
    by_cases f : x ≤ base ∧ base + 2 ^ (K + 1) - 1 ≤ hi
    · have hxb : x = base := by omega
      subst hxb
      have hk : k = K + 1 := by
        by_cases e : k = K + 1
        · exact e
        · exfalso
          have hle : 2 ^ (k + 1) ≤ 2 ^ (K + 1) := p2_le (by omega)
          exact hmax (by omega) ⟨mod_down hb (by omega), by omega⟩
      subst hk
      rw [cut_full f.1 f.2, cut_out (.inl (by omega))]
    · have hkK : k ≤ K := by
        by_cases e : k = K + 1
        · exfalso
          subst e
          have hxb : x = base := by
            rcases Nat.lt_or_ge base x with h | h
            · have := step_le hb hm h; omega
            · omega
          subst hxb
          exact f ⟨Nat.le_refl _, hend⟩
        · omega
      have hbK : base % 2 ^ K = 0 := mod_down hb (by omega)
      have hmid : (base + 2 ^ K) % 2 ^ K = 0 := mod_add hbK (mod_pow (Nat.le_refl _))
      have hmidk : (base + 2 ^ K) % 2 ^ k = 0 := mod_down hmid hkK
      have hpk := Nat.two_pow_pos k
      rw [cut_half (by omega) f]
      rcases Nat.lt_or_ge x (base + 2 ^ K) with h | h
      · have hle := step_le hm hmidk h
        rw [ih base x hi k hbK h1 h hkK (by omega) ⟨by omega, hm, hend, hmax⟩]
        rw [cut_half (lo := x + 2 ^ k) (by omega) (by omega)]
        rw [cut_lo K (base + 2 ^ K) x hi (by omega), cut_lo K (base + 2 ^ K) (x + 2 ^ k) hi (by omega)]
        rfl
      · rw [cut_out (K := K) (base := base) (lo := x) (.inl (by omega)), List.nil_append]
        rw [ih (base + 2 ^ K) x hi k hmid h (by omega) hkK (by omega) ⟨by omega, hm, hend, hmax⟩]
        by_cases o : base + 2 ^ (K + 1) - 1 < x + 2 ^ k ∨ hi < base
        · rw [cut_out o, cut_out (K := K) (by omega)]
        · rw [cut_half (lo := x + 2 ^ k) o (by omega), cut_out (K := K) (base := base) (lo := x + 2 ^ k) (.inl (by omega)), List.nil_append]

theorem cv_step {x hi k : Nat} (hx : x < 4294967296) (hw : Wid x hi k) : cv x hi = (x, k) :: cv (x + 2 ^ k) hi :=
  cut_step 32 0 x hi k (by simp) (by omega) (by simpa using hx) hw.1 (by omega) hw

theorem cv_gt {lo hi : Nat} (h : hi < lo) : cv lo hi = [] := cut_gt _ _ _ _ h

theorem wid_from : ∀ (f x hi k : Nat), k + f = 32 → x % 2 ^ k = 0 → x + 2 ^ k - 1 ≤ hi → ∃ j, Wid x hi j := by
  intro f
  induction f with
  | zero => intro x hi k hk h1 h2; exact ⟨k, by omega, h1, h2, by omega⟩
  | succ f ih =>
    intro x hi k hk h1 h2
    by_cases c : x % 2 ^ (k + 1) = 0 ∧ x + 2 ^ (k + 1) - 1 ≤ hi
    · exact ih x hi (k + 1) (by omega) c.1 c.2
    · exact ⟨k, by omega, h1, h2, fun _ => c⟩

theorem wid_some {x hi : Nat} (h : x ≤ hi) : ∃ k, Wid x hi k := wid_from 32 x hi 0 rfl (by simp; omega) (by simpa using h)

/-- What the blocks of a cover are. -/
theorem cut_mem : ∀ (K base lo hi x k : Nat), base % 2 ^ K = 0 → (x, k) ∈ cut K base lo hi →
    k ≤ K ∧ x % 2 ^ k = 0 ∧ lo ≤ x ∧ x + 2 ^ k - 1 ≤ hi ∧ base ≤ x ∧ x + 2 ^ k ≤ base + 2 ^ K ∧
      (k < K → ¬ (lo ≤ x / 2 ^ (k + 1) * 2 ^ (k + 1) ∧ x / 2 ^ (k + 1) * 2 ^ (k + 1) + 2 ^ (k + 1) - 1 ≤ hi)) := by
  intro K
  induction K with
  | zero =>
    intro base lo hi x k _ h
    simp only [cut] at h
    split at h
    · cases h
    · simp at h; obtain ⟨rfl, rfl⟩ := h
      simp; omega
  | succ K ih =>
    intro base lo hi x k hb h
    have hp := p2 K
    by_cases o : base + 2 ^ (K + 1) - 1 < lo ∨ hi < base
    · rw [cut_out o] at h; cases h
    · by_cases f : lo ≤ base ∧ base + 2 ^ (K + 1) - 1 ≤ hi
      · rw [cut_full f.1 f.2] at h
        simp at h; obtain ⟨rfl, rfl⟩ := h
        exact ⟨Nat.le_refl _, hb, f.1, f.2, Nat.le_refl _, Nat.le_refl _, fun h => absurd h (Nat.lt_irrefl _)⟩
      · rw [cut_half o f, List.mem_append] at h
        have hbK : base % 2 ^ K = 0 := mod_down hb (by omega)
        have hmid : (base + 2 ^ K) % 2 ^ K = 0 := mod_add hbK (mod_pow (Nat.le_refl _))
        obtain ⟨c, hc⟩ := dvd_of_mod hb
        rcases h with h | h
        · obtain ⟨a1, a2, a3, a4, a5, a6, a7⟩ := ih base lo hi x k hbK h
          refine ⟨by omega, a2, a3, a4, a5, by omega, fun _ => ?_⟩
          by_cases e : k < K
          · exact a7 e
          · have hk : k = K := by omega
            subst hk
            have hx : x = base := by omega
            subst hx
            have : x / 2 ^ (k + 1) * 2 ^ (k + 1) = x := Nat.div_mul_cancel (dvd_of_mod hb)
            rw [this]; exact f
        · obtain ⟨a1, a2, a3, a4, a5, a6, a7⟩ := ih (base + 2 ^ K) lo hi x k hmid h
          refine ⟨by omega, a2, a3, a4, by omega, by omega, fun _ => ?_⟩
          by_cases e : k < K
          · exact a7 e
          · have hk : k = K := by omega
            subst hk
            have hx : x = base + 2 ^ k := by omega
            subst hx
            have hd : (base + 2 ^ k) / 2 ^ (k + 1) * 2 ^ (k + 1) = base := by
              rw [hc, Nat.mul_add_div (by omega), Nat.div_eq_of_lt (by omega), Nat.add_zero, Nat.mul_comm]
            rw [hd]; exact f

theorem cut_left : ∀ (K base lo hi : Nat), lo ≤ base → hi < base + 2 ^ K - 1 → (cut K base lo hi).length ≤ K := by
  intro K
  induction K with
  | zero => intro base lo hi h g; rw [cut_out (.inr (by simp at g; omega))]; simp
  | succ K ih =>
    intro base lo hi h g
    have hp := p2 K
    by_cases o : hi < base
    · rw [cut_out (.inr o)]; simp
    · rw [cut_half (by omega) (by omega), List.length_append]
      by_cases c : hi < base + 2 ^ K
      · rw [cut_out (K := K) (base := base + 2 ^ K) (.inr c)]
        by_cases d : base + 2 ^ K - 1 ≤ hi
        · rw [cut_full h d]; simp
        · have := ih base lo hi h (by omega); simp; omega
      · rw [cut_full h (by omega)]
        have := ih (base + 2 ^ K) lo hi (by omega) (by omega)
        simp; omega

theorem cut_right : ∀ (K base lo hi : Nat), base < lo → base + 2 ^ K - 1 ≤ hi → (cut K base lo hi).length ≤ K := by
  intro K
  induction K with
  | zero => intro base lo hi h g; rw [cut_out (.inl (by simp; omega))]; simp
  | succ K ih =>
    intro base lo hi h g
    have hp := p2 K
    by_cases o : base + 2 ^ (K + 1) - 1 < lo
    · rw [cut_out (.inl o)]; simp
    · rw [cut_half (by omega) (by omega), List.length_append]
      by_cases c : base + 2 ^ K - 1 < lo
      · rw [cut_out (K := K) (base := base) (.inl c)]
        by_cases d : lo ≤ base + 2 ^ K
        · rw [cut_full d (by omega)]; simp
        · have := ih (base + 2 ^ K) lo hi (by omega) (by omega); simp; omega
      · rw [cut_full (K := K) (base := base + 2 ^ K) (by omega) (by omega)]
        have := ih base lo hi h (by omega)
        simp; omega

theorem cut_len : ∀ (K base lo hi : Nat), (cut K base lo hi).length ≤ 2 * K - 2 ∨ (cut K base lo hi).length ≤ 1 := by
  intro K
  induction K with
  | zero => intro base lo hi; right; simp only [cut]; split <;> simp
  | succ K ih =>
    intro base lo hi
    have hp := p2 K
    by_cases o : base + 2 ^ (K + 1) - 1 < lo ∨ hi < base
    · rw [cut_out o]; right; simp
    · by_cases f : lo ≤ base ∧ base + 2 ^ (K + 1) - 1 ≤ hi
      · rw [cut_full f.1 f.2]; right; simp
      · rw [cut_half o f, List.length_append]
        by_cases c : hi < base + 2 ^ K
        · rw [cut_out (K := K) (base := base + 2 ^ K) (.inr c)]
          have := ih base lo hi
          simp only [List.length_nil]; omega
        · by_cases d : base + 2 ^ K - 1 < lo
          · rw [cut_out (K := K) (base := base) (.inl d)]
            have := ih (base + 2 ^ K) lo hi
            simp only [List.length_nil]; omega
          · by_cases l1 : lo ≤ base
            · rw [cut_full (K := K) (base := base) l1 (by omega)]
              have := cut_left K (base + 2 ^ K) lo hi (by omega) (by omega)
              simp only [List.length_cons, List.length_nil]; omega
            · have r1 := cut_right K base lo hi (by omega) (by omega)
              by_cases l2 : base + 2 ^ K + 2 ^ K - 1 ≤ hi
              · rw [cut_full (K := K) (base := base + 2 ^ K) (by omega) l2]
                simp only [List.length_cons, List.length_nil]; omega
              · have := cut_left K (base + 2 ^ K) lo hi (by omega) (by omega)
                omega

theorem cv_len (lo hi : Nat) : (cv lo hi).length ≤ 62 := by
  have := cut_len 32 0 lo hi
  unfold cv; omega

theorem cv_mem {lo hi x k : Nat} (h : (x, k) ∈ cv lo hi) : k ≤ 32 ∧ x % 2 ^ k = 0 ∧ lo ≤ x ∧ x + 2 ^ k - 1 ≤ hi ∧ x + 2 ^ k ≤ 4294967296 ∧
    (k < 32 → ¬ (lo ≤ x / 2 ^ (k + 1) * 2 ^ (k + 1) ∧ x / 2 ^ (k + 1) * 2 ^ (k + 1) + 2 ^ (k + 1) - 1 ≤ hi)) := by
  obtain ⟨a1, a2, a3, a4, _, a6, a7⟩ := cut_mem 32 0 lo hi x k (by simp) h
  exact ⟨a1, a2, a3, a4, by simpa using a6, a7⟩

/-- Going through a cover from the left: the block that stands at j, and the rest. -/
theorem cv_round {lo hi x j : Nat} {pre : List (Nat × Nat)} (hh : hi < 4294967296) (h1 : pre.length = j) (h2 : pre ++ cv x hi = cv lo hi) (hj : j < (cv lo hi).length) :
    ∃ k, (cv lo hi)[j]? = some (x, k) ∧ k ≤ 32 ∧ x % 2 ^ k = 0 ∧ x + 2 ^ k - 1 ≤ hi ∧ x + 2 ^ k ≤ 4294967296 ∧
      (k < 32 → ¬ (lo ≤ x / 2 ^ (k + 1) * 2 ^ (k + 1) ∧ x / 2 ^ (k + 1) * 2 ^ (k + 1) + 2 ^ (k + 1) - 1 ≤ hi)) ∧
      (pre ++ [(x, k)]).length = j + 1 ∧ (pre ++ [(x, k)]) ++ cv (x + 2 ^ k) hi = cv lo hi ∧ x + 2 ^ k ≤ hi + 1 := by
  have hx : x ≤ hi := by
    rcases Nat.lt_or_ge hi x with h | h
    · rw [cv_gt h, List.append_nil] at h2
      rw [← h2] at hj; omega
    · exact h
  obtain ⟨k, hk⟩ := wid_some hx
  have hs := cv_step (by omega) hk
  rw [hs] at h2
  have hm : (x, k) ∈ cv lo hi := by rw [← h2]; simp
  obtain ⟨a1, a2, a3, a4, a5, a6⟩ := cv_mem hm
  refine ⟨k, ?_, a1, a2, a4, a5, a6, by simp [h1], by simpa using h2, ?_⟩
  · rw [← h2, ← h1]; simp
  · have := Nat.two_pow_pos k; omega

/-- The k lowest bits. -/
def mask (k : Nat) : Nat := 2 ^ k - 1

theorem mask_lt {k : Nat} (h : k ≤ 32) : mask k < 4294967296 := by
  have : 2 ^ k ≤ 2 ^ 32 := p2_le h
  have := Nat.two_pow_pos k
  unfold mask; omega

theorem and_mask (x k : Nat) : x &&& mask k = x % 2 ^ k := Nat.and_two_pow_sub_one_eq_mod x k

theorem or_mask (x k : Nat) (h : x % 2 ^ k = 0) : x ||| mask k = x + 2 ^ k - 1 := by
  have hp := Nat.two_pow_pos k
  obtain ⟨c, rfl⟩ := dvd_of_mod h
  rw [← Nat.two_pow_add_eq_or_of_lt (by unfold mask; omega)]
  unfold mask; omega

end Go.Proofs.Ytenhofbhkchjoaa.M
