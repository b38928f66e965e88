import Derived.Test.YtdoeebbcieiimaaFI
import Derived.Test.YtdoeebbcieiimaaCV1
namespace Go.Proofs.Ytdoeebbcieiimaa
open Go.ChangeShapes Go.WideShapes Go.ChangeAt Go.RowKit
set_option maxHeartbeats 400000

/-- Where a walk along the pieces stands: ahead of the piece i, at the byte k. -/
def CvS (h0 : Hd) (B later : List Nat) (mtu : Nat) (L : List Pk) (i k : Nat) (O : List Nat) : Prop :=
  k ≤ B.length ∧ ((M.area O = true ∧ k % 8 = 0 ∧ (i = 0 → O = h0.opts) ∧ ∃ f, (B.drop k).length ≤ f ∧ L.drop i = cutL later mtu f (partH h0 k O false) (B.drop k)) ∨ (L.drop i = [] ∧ k = B.length))

theorem CvS.start {h0 : Hd} {B later : List Nat} {mtu : Nat} {L : List Pk} (hL : L = cutL later mtu B.length h0 B) (ha : M.area h0.opts = true) (hmf : h0.mf = false) : CvS h0 B later mtu L 0 0 h0.opts := by
  refine ⟨by omega, .inl ⟨ha, rfl, fun _ => rfl, B.length, by simp, ?_⟩⟩
  rw [List.drop_zero, List.drop_zero, ← hmf, partH_zero, hL]

theorem CvS.step {h0 : Hd} {B later : List Nat} {mtu : Nat} {L : List Pk} {i k : Nat} {O : List Nat} (c : CvS h0 B later mtu L i k O) (hi : i < L.length) (hm : 68 ≤ mtu) (hl : M.area later = true) :
    M.area O = true ∧ k % 8 = 0 ∧ (i = 0 → O = h0.opts) ∧
    ((20 + O.length + (B.length - k) ≤ mtu ∧ L[i]? = some (partH h0 k O false, B.drop k) ∧ L.length = i + 1 ∧ CvS h0 B later mtu L (i + 1) B.length O) ∨
     (¬ 20 + O.length + (B.length - k) ≤ mtu ∧ ∃ n, n % 8 = 0 ∧ 8 ≤ n ∧ 20 + O.length + n ≤ mtu ∧ mtu < 20 + O.length + n + 8 ∧ k + n ≤ B.length ∧ L[i]? = some (partH h0 k O true, (B.take (k + n)).drop k) ∧ i + 1 < L.length ∧ CvS h0 B later mtu L (i + 1) (k + n) later)) := by
  obtain ⟨hk, hc⟩ := c
  rcases hc with ⟨ha, h8, h0', f, hf, e⟩ | ⟨e, _⟩
  · refine ⟨ha, h8, h0', ?_⟩
    have hol := (area_len ha).1
    have e1 : L[i]? = (L.drop i)[0]? := by simp
    have e2 : L.drop (i + 1) = (L.drop i).drop 1 := by rw [List.drop_drop]
    by_cases hfit : 20 + O.length + (B.length - k) ≤ mtu
    · left
      have hf' : 20 + (partH h0 k O false).opts.length + (B.drop k).length ≤ mtu := by show 20 + O.length + _ ≤ _; rw [List.length_drop]; exact hfit
      rw [cutL_fits hf'] at e
      refine ⟨hfit, by rw [e1, e]; rfl, ?_, ⟨Nat.le_refl _, .inr ⟨by rw [e2, e]; rfl, rfl⟩⟩⟩
      have := congrArg List.length e
      rw [List.length_drop] at this
      simp at this
      omega
    · right
      have hf' : ¬ 20 + (partH h0 k O false).opts.length + (B.drop k).length ≤ mtu := by show ¬ 20 + O.length + _ ≤ _; rw [List.length_drop]; exact hfit
      obtain ⟨r1, r2, r3⟩ := rm_le hf'
      have r4 := rm_pos (h := partH h0 k O false) hol hm
      have r5 : mtu < 20 + O.length + rmOf (partH h0 k O false) mtu + 8 := by unfold rmOf; show mtu < 20 + O.length + (mtu - (20 + O.length)) / 8 * 8 + 8; omega
      have r6 : 20 + O.length + rmOf (partH h0 k O false) mtu ≤ mtu := by unfold rmOf; show 20 + O.length + (mtu - (20 + O.length)) / 8 * 8 ≤ mtu; omega
      rw [cutL_more hf' hf hm hol] at e
      generalize rmOf (partH h0 k O false) mtu = n at *
      rw [List.length_drop] at r1
      have e3 : (B.drop k).take n = (B.take (k + n)).drop k := by rw [List.drop_take]; congr 1; omega
      have e4 : nextH (partH h0 k O false) n later = partH h0 (k + n) later false := by unfold nextH partH; simp; omega
      have e5 : (B.drop k).drop n = B.drop (k + n) := by rw [List.drop_drop]
      have e6 : frontH (partH h0 k O false) = partH h0 k O true := rfl
      rw [e3, e4, e5, e6] at e
      refine ⟨hfit, n, r3, r4, r6, r5, by omega, by rw [e1, e]; rfl, ?_, ⟨by omega, .inl ⟨hl, by omega, fun h => by omega, f - 1, ?_, by rw [e2, e]; rfl⟩⟩⟩
      · have h1 := congrArg List.length e
        rw [List.length_drop, List.length_cons] at h1
        have h2 : 1 ≤ (cutL later mtu (f - 1) (partH h0 (k + n) later false) (B.drop (k + n))).length := by
          cases f - 1 with
          | zero => simp [cutL]
          | succ k => rw [cutL]; split <;> simp
        omega
      · rw [List.length_drop] at hf ⊢; omega
  · have := congrArg List.length e
    rw [List.length_drop] at this
    simp at this
    omega

theorem CvS.fin {h0 : Hd} {B later : List Nat} {mtu : Nat} {L : List Pk} {i k : Nat} {O : List Nat} (c : CvS h0 B later mtu L i k O) (hi : L.length ≤ i) : k = B.length := by
  obtain ⟨hk, hc⟩ := c
  rcases hc with ⟨ha, h8, h0', f, hf, e⟩ | ⟨_, e⟩
  · rw [List.drop_eq_nil_of_le hi] at e
    have h2 : 1 ≤ (cutL later mtu f (partH h0 k O false) (B.drop k)).length := by
      cases f with
      | zero => simp [cutL]
      | succ k => rw [cutL]; split <;> simp
    rw [← e] at h2
    simp at h2
  · exact e

theorem part_may {h0 : Hd} {O : List Nat} {k n : Nat} {mf : Bool} (ha : M.area O = true) (h0o : h0.off = 0) (hk : k % 8 = 0) (hk2 : k + n ≤ 3000) (hmf : mf = true → n % 8 = 0 ∧ 8 ≤ n) : refE (partH h0 k O mf) n = 0 := by
  unfold refE
  have hol := (area_len ha).1
  have e1 : M.area (partH h0 k O mf).opts = true := ha
  have e2 : M.pieceOk (partH h0 k O mf).off n (partH h0 k O mf).mf = true := by
    unfold M.pieceOk partH
    simp only [h0o]
    cases mf with
    | false => simp; omega
    | true => have := hmf rfl; simp; omega
  rw [e1, e2]
  simp only [if_true]
  rw [if_pos (by show 20 + O.length + n ≤ 65535; omega)]
end Go.Proofs.Ytdoeebbcieiimaa
