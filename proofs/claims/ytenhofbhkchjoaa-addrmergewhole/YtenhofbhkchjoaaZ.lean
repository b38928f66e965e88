import Derived.Test.YtenhofbhkchjoaaY
namespace Go.Proofs.Ytenhofbhkchjoaa
open Go.ChangeShapes Go.WideShapes Go.ChangeAt Go.RowKit
set_option maxHeartbeats 400000

theorem iv_pv (p : Nat × Nat) (hk : p.2 ≤ 32) : iv (pv p) = (p.1, p.1 + pw p.2 - 1) := iv_k p.1 p.2 hk

/-- What a merge of valid prefixes is. -/
structure Fine (L : List (Nat × Int)) (R : List (Nat × Nat)) : Prop where
  good : Good (R.map pv)
  asc : M.Asc R
  sib : ∀ x y k, (x, k) ∈ R → (y, k) ∈ R → x < y → k < 32 → x / 2 ^ (k + 1) * 2 ^ (k + 1) ≠ y / 2 ^ (k + 1) * 2 ^ (k + 1)
  has : ∀ x, M.Has ((R.map pv).map iv) x ↔ M.Has (L.map iv) x
  len : R.length ≤ L.length
  mem : ∀ p, p ∈ R → p.2 ≤ 32 ∧ p.1 % 2 ^ p.2 = 0 ∧ p.1 + pw p.2 ≤ 4294967296

theorem fine_of {L : List (Nat × Int)} {J : List (Nat × Nat)} (hg : Good L) (hp : J.Perm (L.map iv)) (hr : M.Rises J) : Fine L (mlist J) := by
  have hJ := fun r hr => good_iv hg r (hp.mem_iff.1 hr)
  obtain ⟨hS, hH⟩ := M.jn_spec (fun p hq => (hJ p hq).1) hr
  have hml : mlist J = M.ml (M.jn J) := rfl
  have hHL : ∀ x, M.Has (M.jn J) x ↔ M.Has (L.map iv) x := fun x => by rw [hH x]; exact M.has_mem (fun p => hp.mem_iff) x
  have htop : ∀ r, r ∈ M.jn J → r.2 < 4294967296 := by
    intro r hr'
    have hle : r.1 ≤ r.2 := by
      have : ∀ (I : List (Nat × Nat)), M.Sep I → ∀ r, r ∈ I → r.1 ≤ r.2 := by
        intro I
        induction I with
        | nil => intro _ r hr; cases hr
        | cons p t ih =>
          intro h r hr
          rcases List.mem_cons.1 hr with rfl | hr
          · exact h.1
          · exact ih h.2.2 r hr
      exact this _ hS r hr'
    obtain ⟨q, hq, _, h2⟩ := (hHL r.2).1 ⟨r, hr', hle, Nat.le_refl _⟩
    have := (good_iv hg q hq).2
    omega
  have hmem : ∀ p, p ∈ mlist J → p.2 ≤ 32 ∧ p.1 % 2 ^ p.2 = 0 ∧ p.1 + pw p.2 ≤ 4294967296 := by
    intro p hp'
    obtain ⟨r, _, a1, a2, _, _, a5, _⟩ := M.ml_mem (x := p.1) (k := p.2) hp'
    exact ⟨a1, a2, a5⟩
  refine ⟨?_, by rw [hml]; exact M.ml_asc _ hS, fun x y k hx hy => M.ml_nosib hS hx hy, ?_, ?_, hmem⟩
  · intro q hq
    obtain ⟨p, hp', rfl⟩ := List.mem_map.1 hq
    obtain ⟨h1, h2, h3⟩ := hmem p hp'
    have := pw_pos p.2
    refine ⟨by show p.1 < _; omega, ?_⟩
    unfold err pv; rw [if_neg (by simp; omega)]
    simp only
    rw [show 32 - (32 - (p.2 : Int)).toNat = p.2 from by omega, if_pos h2]
  · intro x
    rw [← hHL x, ← M.ml_in htop x, ← hml]
    constructor
    · rintro ⟨q, hq, h1, h2⟩
      obtain ⟨q', hq', rfl⟩ := List.mem_map.1 hq
      obtain ⟨p, hp', rfl⟩ := List.mem_map.1 hq'
      rw [iv_pv p (hmem p hp').1] at h1 h2
      simp only at h1 h2
      have := pw_pos p.2
      exact ⟨p, hp', h1, show x < p.1 + pw p.2 by omega⟩
    · rintro ⟨p, hp', h1, h2⟩
      refine ⟨iv (pv p), List.mem_map.2 ⟨pv p, List.mem_map.2 ⟨p, hp', rfl⟩, rfl⟩, ?_, ?_⟩
      · rw [iv_pv p (hmem p hp').1]; exact h1
      · rw [iv_pv p (hmem p hp').1]
        have h3 : x < p.1 + pw p.2 := h2
        show x ≤ p.1 + pw p.2 - 1
        omega
  · have h1 := M.count_le (mlist J) (L.map iv) (by rw [hml]; exact M.ml_asc _ hS) (fun p hp' => ?_)
    · rwa [List.length_map] at h1
    · refine M.ml_holds (I := M.jn J) hS (fun q hq => ?_) hHL (x := p.1) (k := p.2) hp'
      obtain ⟨p', hp2, rfl⟩ := List.mem_map.1 hq
      obtain ⟨j, hj, e⟩ := List.mem_iff_getElem.1 hp2
      obtain ⟨x, k, _, _, hk, hm, e2, _, _⟩ := good_k hg (j := j) (p := p') (by rw [List.getElem?_eq_getElem hj, e])
      rw [e2]; exact ⟨k, hk, hm, rfl⟩

theorem hz_same {D D' : List (Nat × Int)} (h : ∀ x, M.Has (D.map iv) x ↔ M.Has (D'.map iv) x) (z : Int) : hz D z = hz D' z := by
  have key : ∀ (D : List (Nat × Int)), hz D z = true ↔ 0 ≤ z ∧ M.Has (D.map iv) z.toNat := by
    intro D
    unfold hz
    rw [List.any_eq_true]
    constructor
    · rintro ⟨p, hp, h⟩
      simp [inB] at h
      exact ⟨by omega, iv p, List.mem_map.2 ⟨p, hp, rfl⟩, by omega, by omega⟩
    · rintro ⟨h0, q, hq, h1, h2⟩
      obtain ⟨p, hp, rfl⟩ := List.mem_map.1 hq
      refine ⟨p, hp, ?_⟩
      simp [inB]; omega
  rw [Bool.eq_iff_iff, key, key, h]
end Go.Proofs.Ytenhofbhkchjoaa
