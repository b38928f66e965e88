/-
  JournalSerial: what a round leaves.
-/
import Derived.Test.YteoebmpfdcbbmacDoorRC
namespace Jn
set_option maxRecDepth 100000
theorem opn_of {d : Dk} {c : Nat} (hc : c < 2) {cx : Ct} (h : rdA (area d c) = cx) (h3 : cx.st = 3) (hg : cx.gen < 4294967296) (ho : (rdA (area d (1 - c))).st = 0 ∨ ((rdA (area d (1 - c))).st = 3 ∧ (rdA (area d (1 - c))).gen = (cx.gen + 4294967295) % 4294967296)) :
    opnE d.1 d.2 = false ∧ opnL d.1 d.2 = ⟨d.1, d.2, [], c, cx.gen, cx.recs.length, cx.fin⟩ ∧ opnR d.1 d.2 = cx.recs := by
  rcases (by omega : c = 0 ∨ c = 1) with rfl | rfl
  · have e0 : area d 0 = d.1 := rfl
    have e1 : area d (1 - 0) = d.2 := rfl
    rw [e0] at h
    rw [e1] at ho
    have hn : newerN (rdA d.1).st (rdA d.1).gen (rdA d.2).st (rdA d.2).gen = 0 := by
      unfold newerN
      rcases ho with ho | ⟨ho, hgo⟩
      · rw [if_pos (by omega)]
      · rw [if_neg (by omega), if_pos ⟨by rw [h]; exact h3, by rw [h, hgo]; omega⟩]
    have hne : ¬ ((rdA d.1).st ≠ 3 ∧ (rdA d.2).st ≠ 3) := fun e => e.1 (by rw [h]; exact h3)
    refine ⟨?_, ?_, ?_⟩
    · unfold opnE
      rw [h, h3]
      rcases ho with ho | ⟨ho, -⟩ <;> rw [ho] <;> rfl
    · unfold opnL; rw [if_neg hne, if_pos hn, h]
    · unfold opnR; rw [if_neg hne, if_pos hn, h]
  · have e0 : area d 1 = d.2 := rfl
    have e1 : area d (1 - 1) = d.1 := rfl
    rw [e0] at h
    rw [e1] at ho
    have hn : newerN (rdA d.1).st (rdA d.1).gen (rdA d.2).st (rdA d.2).gen = 1 := by
      unfold newerN
      rw [if_neg (by rw [h]; simp [h3])]
      rcases ho with ho | ⟨ho, hgo⟩
      · rw [if_neg (by rintro ⟨e, -⟩; omega)]
      · rw [if_neg (by rintro ⟨-, e⟩; rw [h, hgo] at e; omega)]
    have hne : ¬ ((rdA d.1).st ≠ 3 ∧ (rdA d.2).st ≠ 3) := fun e => e.2 (by rw [h]; exact h3)
    refine ⟨?_, ?_, ?_⟩
    · unfold opnE
      rw [h, h3]
      rcases ho with ho | ⟨ho, -⟩ <;> rw [ho] <;> rfl
    · unfold opnL; rw [if_neg hne, if_neg (by rw [hn]; decide), h]
    · unfold opnR; rw [if_neg hne, if_neg (by rw [hn]; decide), h]

def Lg.dk (l : Lg) : Dk := (l.a, l.b)
/-- The disk ahead of round k. -/
def Ser (r : List Nat) (k : Nat) (d : Dk) : Prop := ∃ c g rs fin, c < 2 ∧ g < 4294967296 ∧ rdA (area d c) = ⟨3, g, rs, fin⟩ ∧ ((rdA (area d (1 - c))).st = 0 ∨ ((rdA (area d (1 - c))).st = 3 ∧ (rdA (area d (1 - c))).gen = (g + 4294967295) % 4294967296)) ∧ (0 < k → rs = [[k], r])

theorem ser_first (r : List Nat) {g : Nat} (hg : g < 4294967296) : Ser r 0 (head g 0, []) := by
  refine ⟨0, g, [], 16, by decide, hg, ?_, .inl ?_, fun h => by omega⟩
  · have := rdA_whole (g := g) (rs := []) (more := []) hg (by simp) (by simp) (by decide)
    simpa [gener, frames, area, baseL] using this
  · show (rdA []).st = 0
    rw [rdA, if_pos (by simp)]

/-- What a round writes. -/
theorem ser_next {r : List Nat} (hr : r.length ≤ 60000) {k : Nat} {d : Dk} (h : Ser r k d) :
    Ser r (k + 1) (((opnL d.1 d.2).rew [[k + 1]]).app r).syn.dk := by
  obtain ⟨c, g, rs, fin, hc, hg, h1, h2, -⟩ := h
  obtain ⟨-, hL, -⟩ := opn_of hc h1 rfl hg h2
  rw [hL]
  have hp : (((⟨d.1, d.2, [], c, g, rs.length, fin⟩ : Lg).rew [[k + 1]]).app r).syn.dk = play (d.1, d.2) [⟨1 - c, 0, gener ((g + 1) % 4294967296) [[k + 1]]⟩, ⟨1 - c, 29, frame ((g + 1) % 4294967296) 1 r⟩] := rfl
  rw [hp]
  generalize hgg : (g + 1) % 4294967296 = g'
  have hg' : g' < 4294967296 := by omega
  have lg : (gener g' [[k + 1]]).length = 29 := by rw [gener_len]; simp [baseL]
  have a1 : area (play (d.1, d.2) [⟨1 - c, 0, gener g' [[k + 1]]⟩, ⟨1 - c, 29, frame g' 1 r⟩]) (1 - c) = gener g' [[k + 1]] ++ frames g' 1 [r] := by
    simp only [play]
    have q2 := area_put_same (put1 (d.1, d.2) ⟨1 - c, 0, gener g' [[k + 1]]⟩ (gener g' [[k + 1]]).length) ⟨1 - c, 29, frame g' 1 r⟩ (frame g' 1 r).length (by show 1 - c < 2; omega)
    have q1 := area_put_same (d.1, d.2) ⟨1 - c, 0, gener g' [[k + 1]]⟩ (gener g' [[k + 1]]).length (by show 1 - c < 2; omega)
    simp only at q1 q2
    rw [q2, q1, List.take_zero, List.nil_append, List.take_of_length_le (Nat.le_refl _), List.take_of_length_le (by rw [lg]; exact Nat.le_refl _), List.take_of_length_le (Nat.le_refl _)]
    simp [frames]
  have a2 : area (play (d.1, d.2) [⟨1 - c, 0, gener g' [[k + 1]]⟩, ⟨1 - c, 29, frame g' 1 r⟩]) c = area d c := by
    simp only [play]
    rw [area_put_other _ _ _ c (by show 1 - c < 2; omega) hc (by show c ≠ 1 - c; omega), area_put_other _ _ _ c (by show 1 - c < 2; omega) hc (by show c ≠ 1 - c; omega)]
  refine ⟨1 - c, g', [[k + 1], r], 16 + baseL [[k + 1]] + baseL [r], by omega, hg', ?_, .inr ?_, fun _ => rfl⟩
  · rw [a1]
    have := rdA_whole (g := g') (rs := [[k + 1]]) (more := [r]) hg' (by simp) (by simp; omega) (by simp [baseL]; omega)
    exact this
  · rw [show 1 - (1 - c) = c by omega, a2, h1]
    exact ⟨rfl, by show g = _; omega⟩
end Jn
