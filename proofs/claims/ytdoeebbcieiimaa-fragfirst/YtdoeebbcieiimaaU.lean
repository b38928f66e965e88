import Derived.Test.YtdoeebbcieiimaaT
namespace Go.Proofs.Ytdoeebbcieiimaa
open Go.ChangeShapes Go.WideShapes Go.ChangeAt Go.RowKit
set_option maxHeartbeats 400000
set_option maxRecDepth 100000

def exam (L : List Nat) (whole : Bool) : Nat × Nat × Int :=
  if (lens L whole).2.2 ≠ 0 then (0, 0, (lens L whole).2.2)
  else if hdE (L.take (lens L whole).1) ((lens L whole).2.1 - (lens L whole).1) ≠ 0 then (0, 0, hdE (L.take (lens L whole).1) ((lens L whole).2.1 - (lens L whole).1))
  else lens L whole

theorem lens_ok {L : List Nat} {whole : Bool} (h : (lens L whole).2.2 = 0) : 20 ≤ (lens L whole).1 ∧ (lens L whole).1 ≤ 60 ∧ (lens L whole).1 ≤ L.length ∧ (lens L whole).1 ≤ (lens L whole).2.1 ∧ (whole = true → (lens L whole).2.1 ≤ L.length) ∧ (lens L whole).1 = byt L 0 % 16 * 4 ∧ (lens L whole).2.1 = w16 L 2 := by
  by_cases h1 : L.length < 20
  · unfold lens at h; rw [if_pos h1] at h; cases h
  · by_cases h2 : byt L 0 / 16 ≠ 4
    · unfold lens at h; rw [if_neg h1, if_pos h2] at h; cases h
    · by_cases h3 : byt L 0 % 16 * 4 < 20
      · unfold lens at h; rw [if_neg h1, if_neg h2, if_pos h3] at h; cases h
      · by_cases h4 : L.length < byt L 0 % 16 * 4
        · unfold lens at h; rw [if_neg h1, if_neg h2, if_neg h3, if_pos h4] at h; cases h
        · by_cases h5 : w16 L 2 < byt L 0 % 16 * 4
          · unfold lens at h; rw [if_neg h1, if_neg h2, if_neg h3, if_neg h4, if_pos h5] at h; cases h
          · by_cases h6 : whole = true ∧ L.length < w16 L 2
            · unfold lens at h; rw [if_neg h1, if_neg h2, if_neg h3, if_neg h4, if_neg h5, if_pos h6] at h; cases h
            · have e : lens L whole = (byt L 0 % 16 * 4, w16 L 2, 0) := by
                unfold lens; rw [if_neg h1, if_neg h2, if_neg h3, if_neg h4, if_neg h5, if_neg h6]
              rw [e]
              simp only
              refine ⟨by omega, by omega, by omega, by omega, fun hw => ?_, trivial, trivial⟩
              rcases Nat.lt_or_ge L.length (w16 L 2) with h7 | h7
              · exact absurd ⟨hw, h7⟩ h6
              · exact h7

theorem exam_ok {L : List Nat} {whole : Bool} (h : (exam L whole).2.2 = 0) : (lens L whole).2.2 = 0 ∧ hdE (L.take (lens L whole).1) ((lens L whole).2.1 - (lens L whole).1) = 0 ∧ exam L whole = lens L whole := by
  by_cases h1 : (lens L whole).2.2 = 0
  · by_cases h2 : hdE (L.take (lens L whole).1) ((lens L whole).2.1 - (lens L whole).1) = 0
    · refine ⟨h1, h2, ?_⟩
      unfold exam; rw [if_neg (by simp [h1]), if_neg (by simp [h2])]
    · exfalso; unfold exam at h; rw [if_neg (by simp [h1]), if_pos h2] at h; exact h2 h
  · exfalso; unfold exam at h; rw [if_pos h1] at h; exact h1 h

/-- A cut 'x[:m:m]'. -/
theorem SeesB.high3 {w : World} {ao : Option Addr} {n cap : Nat} {L : List Nat} (h : SeesB w (.slice ao n cap) L) (m : Nat) (i : Int) (hi : i = m) (hm : m ≤ n) (hs : ao ≠ none) :
    ∃ ao', Hid (SeesB w (.slice ao' m m) (L.take m)) ∧ Hid (ao' = ao) ∧ ∀ u : World, (Instr.sliceAt 22 (.slice ao n cap) none (some (.int .i64 i)) (some (.int .i64 i))).run Try.prog u = .ok (.slice ao' m m) u := by
  subst hi
  obtain ⟨ao1, cap1, hv, h1, h2, h3⟩ := h
  simp at hv
  obtain ⟨rfl, hlen, rfl⟩ := hv
  refine ⟨ao, ?_, rfl, fun u => ?_⟩
  · refine ⟨ao, m, by rw [List.length_take]; congr 1; omega, ⟨by rw [List.length_take]; omega, fun h => absurd h hs⟩, by omega, fun j hj => ?_⟩
    rw [List.length_take] at hj
    obtain ⟨g, off, ha, hg, hc, hb⟩ := h3 j (by omega)
    exact ⟨g, off, ha, hg, by rw [List.getElem_take]; exact hc, by rw [List.getElem_take]; exact hb⟩
  · have hu : Try.prog.underlying 22 = some (.slice (Try.prog.elem 22)) := by kernel_rfl
    have hsz : (sizeOf (Try.prog.elem 22)).run Try.prog u = .ok 1 u := by kernel_rfl
    rw [run_sliceAt_slice (h := hu), run_slice_hm (ht := hu) (h0 := by omega) (h2 := by omega) (h3 := by omega), hsz]
    simp [Result.andThen, sliced]
    intro _
    cases ao <;> simp [Addr.add]

/-- A cut 'x[m:n:n]' up to a list's whole room. -/
theorem SeesB.low3 {w : World} {g n : Nat} {L : List Nat} (h : SeesB w (.slice (some ⟨g, 0, none⟩) n n) L) (m : Nat) (i k : Int) (hi : i = m) (hk : k = n) (hm : m ≤ n) :
    ∃ ao', Hid (SeesB w (.slice (some ao') (n - m) (n - m)) (L.drop m)) ∧ Hid (ao'.block = g) ∧ ∀ u : World, (Instr.sliceAt 22 (.slice (some ⟨g, 0, none⟩) n n) (some (.int .i64 i)) (some (.int .i64 k)) (some (.int .i64 k))).run Try.prog u = .ok (.slice (some ao') (n - m) (n - m)) u := by
  subst hi hk
  have hb := h.back m hm
  refine ⟨if n = m then ⟨g, 0, none⟩ else ⟨g, 0 + m, none⟩, ?_, by unfold Hid; split <;> rfl, fun u => ?_⟩
  · have e : (if n = m then some (⟨g, 0, none⟩ : Addr) else some ⟨g, 0 + m, none⟩) = some (if n = m then ⟨g, 0, none⟩ else ⟨g, 0 + m, none⟩) := by split <;> rfl
    rw [e] at hb
    exact hb
  · have hu : Try.prog.underlying 22 = some (.slice (Try.prog.elem 22)) := by kernel_rfl
    have hsz : (sizeOf (Try.prog.elem 22)).run Try.prog u = .ok 1 u := by kernel_rfl
    rw [run_sliceAt_slice (h := hu), run_slice_lhm (ht := hu) (h0 := by omega) (h1 := by omega) (h2 := by omega) (h3 := by omega), hsz]
    have ea : (⟨g, 0, none⟩ : Addr).add m = ⟨g, 0 + m, none⟩ := Addr.add_mid g 0 m
    simp [Result.andThen, sliced]
    by_cases e : n = m
    · simp [e]
    · simp [e, ea]
end Go.Proofs.Ytdoeebbcieiimaa
