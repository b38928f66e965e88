/-
  Plain mathematics of merged lists: their blocks rise, are apart, no two are halves of one; they hold what the runs hold; each holds one of the intervals that came in.
-/
import Derived.Test.YtenhofbhkchjoaaMath2
namespace Go.Proofs.Ytenhofbhkchjoaa.M

/-- Blocks that rise and are apart. -/
def Asc (R : List (Nat × Nat)) : Prop := R.Pairwise fun p q => p.1 + 2 ^ p.2 ≤ q.1

/-- x lies in one of the blocks. -/
def In (R : List (Nat × Nat)) (x : Nat) : Prop := ∃ p, p ∈ R ∧ p.1 ≤ x ∧ x < p.1 + 2 ^ p.2

theorem cut_asc : ∀ (K base lo hi : Nat), base % 2 ^ K = 0 → Asc (cut K base lo hi) := by
  intro K
  induction K with
  | zero => intro base lo hi _; unfold Asc; simp only [cut]; split <;> simp
  | succ K ih =>
    intro base lo hi hb
    have hp := p2 K
    by_cases o : base + 2 ^ (K + 1) - 1 < lo ∨ hi < base
    · rw [cut_out o]; exact List.Pairwise.nil
    · by_cases f : lo ≤ base ∧ base + 2 ^ (K + 1) - 1 ≤ hi
      · rw [cut_full f.1 f.2]; unfold Asc; simp
      · rw [cut_half o f]
        have hbK : base % 2 ^ K = 0 := mod_down hb (by omega)
        have hmid : (base + 2 ^ K) % 2 ^ K = 0 := mod_add hbK (mod_pow (Nat.le_refl _))
        refine List.pairwise_append.2 ⟨ih base lo hi hbK, ih (base + 2 ^ K) lo hi hmid, fun p hp' q hq => ?_⟩
        have a := cut_mem K base lo hi p.1 p.2 hbK hp'
        have b := cut_mem K (base + 2 ^ K) lo hi q.1 q.2 hmid hq
        omega

theorem cut_in : ∀ (K base lo hi x : Nat), In (cut K base lo hi) x ↔ (lo ≤ x ∧ x ≤ hi ∧ base ≤ x ∧ x < base + 2 ^ K) := by
  intro K
  induction K with
  | zero =>
    intro base lo hi x
    simp only [cut, In]
    split
    · constructor
      · rintro ⟨p, hp, _⟩; cases hp
      · simp; omega
    · simp; omega
  | succ K ih =>
    intro base lo hi x
    have hp := p2 K
    by_cases o : base + 2 ^ (K + 1) - 1 < lo ∨ hi < base
    · rw [cut_out o]
      constructor
      · rintro ⟨p, hp, _⟩; cases hp
      · omega
    · by_cases f : lo ≤ base ∧ base + 2 ^ (K + 1) - 1 ≤ hi
      · rw [cut_full f.1 f.2]
        simp only [In, List.mem_singleton]
        constructor
        · rintro ⟨p, rfl, h1, h2⟩; simp only at h1 h2; omega
        · intro h; exact ⟨_, rfl, by simp only; omega, by simp only; omega⟩
      · rw [cut_half o f]
        have split : In (cut K base lo hi ++ cut K (base + 2 ^ K) lo hi) x ↔ In (cut K base lo hi) x ∨ In (cut K (base + 2 ^ K) lo hi) x := by
          constructor
          · rintro ⟨p, hp', h⟩
            rcases List.mem_append.1 hp' with g | g
            · exact .inl ⟨p, g, h⟩
            · exact .inr ⟨p, g, h⟩
          · rintro (⟨p, g, h⟩ | ⟨p, g, h⟩)
            · exact ⟨p, List.mem_append_left _ g, h⟩
            · exact ⟨p, List.mem_append_right _ g, h⟩
        rw [split, ih, ih]; omega

theorem cv_asc (lo hi : Nat) : Asc (cv lo hi) := cut_asc 32 0 lo hi (by simp)

theorem cv_in {lo hi x : Nat} (hh : hi < 4294967296) : In (cv lo hi) x ↔ (lo ≤ x ∧ x ≤ hi) := by
  unfold cv; rw [cut_in]; simp; omega

def ml (I : List (Nat × Nat)) : List (Nat × Nat) := I.flatMap fun r => cv r.1 r.2

theorem ml_asc : ∀ (I : List (Nat × Nat)), Sep I → Asc (ml I) := by
  intro I
  induction I with
  | nil => intro _; exact List.Pairwise.nil
  | cons p t ih =>
    intro h
    have e : ml (p :: t) = cv p.1 p.2 ++ ml t := by simp [ml]
    rw [e]
    refine List.pairwise_append.2 ⟨cv_asc _ _, ih h.2.2, fun a ha b hb => ?_⟩
    have h1 := cv_mem (x := a.1) (k := a.2) ha
    obtain ⟨r, hr, hb'⟩ := List.mem_flatMap.1 hb
    have h2 := cv_mem (x := b.1) (k := b.2) hb'
    have h3 := h.2.1 r hr
    have := Nat.two_pow_pos a.2
    omega

theorem ml_in {I : List (Nat × Nat)} (hh : ∀ r, r ∈ I → r.2 < 4294967296) (x : Nat) : In (ml I) x ↔ Has I x := by
  constructor
  · rintro ⟨p, hp, h⟩
    obtain ⟨r, hr, hp'⟩ := List.mem_flatMap.1 hp
    have := (cv_in (hh r hr) (lo := r.1) (x := x)).1 ⟨p, hp', h⟩
    exact ⟨r, hr, this⟩
  · rintro ⟨r, hr, h⟩
    obtain ⟨p, hp, g⟩ := (cv_in (hh r hr) (lo := r.1) (x := x)).2 h
    exact ⟨p, List.mem_flatMap.2 ⟨r, hr, hp⟩, g⟩

theorem ml_mem {I : List (Nat × Nat)} {x k : Nat} (h : (x, k) ∈ ml I) : ∃ r, r ∈ I ∧ k ≤ 32 ∧ x % 2 ^ k = 0 ∧ r.1 ≤ x ∧ x + 2 ^ k - 1 ≤ r.2 ∧ x + 2 ^ k ≤ 4294967296 ∧
    (k < 32 → ¬ (r.1 ≤ x / 2 ^ (k + 1) * 2 ^ (k + 1) ∧ x / 2 ^ (k + 1) * 2 ^ (k + 1) + 2 ^ (k + 1) - 1 ≤ r.2)) := by
  obtain ⟨r, hr, hp⟩ := List.mem_flatMap.1 h
  obtain ⟨a1, a2, a3, a4, a5, a6⟩ := cv_mem hp
  exact ⟨r, hr, a1, a2, a3, a4, a5, a6⟩

theorem sep_two : ∀ (I : List (Nat × Nat)), Sep I → ∀ r s, r ∈ I → s ∈ I → r = s ∨ r.2 + 1 < s.1 ∨ s.2 + 1 < r.1 := by
  intro I
  induction I with
  | nil => intro _ r s hr; cases hr
  | cons p t ih =>
    intro h r s hr hs
    rcases List.mem_cons.1 hr with rfl | hr'
    · rcases List.mem_cons.1 hs with rfl | hs'
      · exact .inl rfl
      · exact .inr (.inl (h.2.1 s hs'))
    · rcases List.mem_cons.1 hs with rfl | hs'
      · exact .inr (.inr (h.2.1 r hr'))
      · exact ih h.2.2 r s hr' hs'

/-- No two blocks are the halves of one. -/
theorem ml_nosib {I : List (Nat × Nat)} (hI : Sep I) {x y k : Nat} (hx : (x, k) ∈ ml I) (hy : (y, k) ∈ ml I) (hxy : x < y) (hk : k < 32) : x / 2 ^ (k + 1) * 2 ^ (k + 1) ≠ y / 2 ^ (k + 1) * 2 ^ (k + 1) := by
  intro e
  obtain ⟨r, hr, a1, a2, a3, a4, a5, a6⟩ := ml_mem hx
  obtain ⟨s, hs, b1, b2, b3, b4, b5, b6⟩ := ml_mem hy
  have hp := p2 k
  have h1 := step_le a2 b2 hxy
  have d1 := Nat.div_add_mod x (2 ^ (k + 1))
  have d2 := Nat.div_add_mod y (2 ^ (k + 1))
  have m1 := Nat.mod_lt x (Nat.two_pow_pos (k + 1))
  have m2 := Nat.mod_lt y (Nat.two_pow_pos (k + 1))
  rw [Nat.mul_comm] at d1 d2
  generalize x / 2 ^ (k + 1) * 2 ^ (k + 1) = u at *
  generalize y / 2 ^ (k + 1) * 2 ^ (k + 1) = v at *
  subst e
  -- both lie in one block of twice the length: x begins it
  have hux : u % 2 ^ k = 0 := by
    have hd : (x - x % 2 ^ (k + 1)) % 2 ^ k = 0 := by
      have e1 : x - x % 2 ^ (k + 1) = u := by omega
      rw [e1]
      have e2 : x % 2 ^ (k + 1) % 2 ^ k = 0 := by
        rw [Nat.mod_mod_of_dvd _ (Nat.pow_dvd_pow 2 (Nat.le_succ k))]; exact a2
      have e3 : u + x % 2 ^ (k + 1) = x := d1
      have dv1 : 2 ^ k ∣ x % 2 ^ (k + 1) := dvd_of_mod e2
      have dv2 : 2 ^ k ∣ u + x % 2 ^ (k + 1) := by rw [e3]; exact dvd_of_mod a2
      exact Nat.mod_eq_zero_of_dvd ((Nat.dvd_add_iff_left dv1).2 dv2)
    have e1 : x - x % 2 ^ (k + 1) = u := by omega
    rw [e1] at hd; exact hd
  have hxu : x = u := by
    rcases Nat.lt_or_ge u x with g | g
    · have := step_le hux a2 g; omega
    · omega
  have hyx : y = x + 2 ^ k := by
    rcases Nat.lt_or_ge (x + 2 ^ k) y with g | g
    · have := step_le (mod_add a2 (mod_pow (Nat.le_refl k))) b2 g; omega
    · omega
  rcases sep_two I hI r s hr hs with rfl | g | g
  · exact a6 hk ⟨by omega, by omega⟩
  · omega
  · omega

/-- As many as are apart and each hold one's beginning are no more than there are. -/
theorem count_le : ∀ (R J : List (Nat × Nat)), Asc R → (∀ p, p ∈ R → ∃ q, q ∈ J ∧ p.1 ≤ q.1 ∧ q.1 < p.1 + 2 ^ p.2) → R.length ≤ J.length := by
  intro R
  induction R with
  | nil => intro J _ _; exact Nat.zero_le _
  | cons p t ih =>
    intro J h hc
    obtain ⟨h1, h2⟩ := List.pairwise_cons.1 h
    obtain ⟨q, hq, a, b⟩ := hc p List.mem_cons_self
    have hlt : (J.filter fun r => decide (p.1 + 2 ^ p.2 ≤ r.1)).length < J.length := by
      rw [List.length_filter_lt_length_iff_exists]
      exact ⟨q, hq, by simp; omega⟩
    have := ih (J.filter fun r => decide (p.1 + 2 ^ p.2 ≤ r.1)) h2 (fun r hr => by
      obtain ⟨s, hs, c, d⟩ := hc r (List.mem_cons_of_mem _ hr)
      have := h1 r hr
      exact ⟨s, List.mem_filter.2 ⟨hs, by simp; omega⟩, c, d⟩)
    simp; omega

/-- Each block of a merged list holds the beginning of one of the aligned blocks that came in. -/
theorem ml_holds {I J : List (Nat × Nat)} (hI : Sep I) (hJ : ∀ q, q ∈ J → ∃ j, j ≤ 32 ∧ q.1 % 2 ^ j = 0 ∧ q.2 = q.1 + 2 ^ j - 1) (h : ∀ x, Has I x ↔ Has J x) {x k : Nat} (hx : (x, k) ∈ ml I) :
    ∃ q, q ∈ J ∧ x ≤ q.1 ∧ q.1 < x + 2 ^ k := by
  obtain ⟨r, hr, a1, a2, a3, a4, a5, a6⟩ := ml_mem hx
  have hpk := Nat.two_pow_pos k
  obtain ⟨q, hq, b1, b2⟩ := (h x).1 ⟨r, hr, a3, by omega⟩
  obtain ⟨j, hj, c1, c2⟩ := hJ q hq
  have hpj := Nat.two_pow_pos j
  refine ⟨q, hq, ?_⟩
  rcases Nat.lt_or_ge k j with g | g
  · -- the block that came in is longer: then x's could be longer
    exfalso
    have hsub : ∀ y, q.1 ≤ y → y ≤ q.2 → r.1 ≤ y ∧ y ≤ r.2 := by
      intro y y1 y2
      -- all of q lies in r: r is the run of x
      obtain ⟨s, hs, d1, d2⟩ := (h y).2 ⟨q, hq, y1, y2⟩
      rcases sep_two I hI r s hr hs with rfl | e | e
      · exact ⟨d1, d2⟩
      · -- a gap between r and s: the address behind r is in q
        exfalso
        obtain ⟨u, hu, f1, f2⟩ := (h (r.2 + 1)).2 ⟨q, hq, by omega, by omega⟩
        rcases sep_two I hI r u hr hu with rfl | e2 | e2
        · omega
        · omega
        · omega
      · exfalso
        obtain ⟨u, hu, f1, f2⟩ := (h (s.2 + 1)).2 ⟨q, hq, by omega, by omega⟩
        rcases sep_two I hI s u hs hu with rfl | e2 | e2
        · omega
        · omega
        · omega
    have hlo := hsub q.1 (Nat.le_refl _) (by omega)
    have hhi := hsub q.2 (by omega) (Nat.le_refl _)
    refine a6 (by omega) ?_
    -- the parent of x's block lies in q
    have hpar : x / 2 ^ (k + 1) * 2 ^ (k + 1) ≤ x := Nat.div_mul_le_self _ _
    have hm : (x / 2 ^ (k + 1) * 2 ^ (k + 1)) % 2 ^ (k + 1) = 0 := Nat.mul_mod_left _ _
    have hqm : q.1 % 2 ^ (k + 1) = 0 := mod_down c1 (by omega)
    have hxl : x < x / 2 ^ (k + 1) * 2 ^ (k + 1) + 2 ^ (k + 1) := by
      have := Nat.lt_div_mul_add (a := x) (Nat.two_pow_pos (k + 1)); omega
    have hqe : (q.1 + 2 ^ j) % 2 ^ (k + 1) = 0 := mod_add hqm (mod_pow (by omega))
    generalize x / 2 ^ (k + 1) * 2 ^ (k + 1) = u at *
    have hqu : q.1 ≤ u := by
      rcases Nat.lt_or_ge u q.1 with e | e
      · have := step_le hm hqm e; omega
      · exact e
    have hue : u + 2 ^ (k + 1) ≤ q.1 + 2 ^ j := step_le hm hqe (by omega)
    omega
  · -- q's block is no longer: it begins within x's
    have hxm : x % 2 ^ j = 0 := mod_down a2 g
    rcases Nat.lt_or_ge q.1 x with e | e
    · have := step_le c1 hxm e; omega
    · exact ⟨e, by omega⟩

end Go.Proofs.Ytenhofbhkchjoaa.M
