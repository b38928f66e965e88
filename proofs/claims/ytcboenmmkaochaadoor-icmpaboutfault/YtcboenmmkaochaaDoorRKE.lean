/-
  What a fault speaks of.
-/
import Derived.Test.YtcboenmmkaochaaDoorM5
import Derived.Test.YtcboenmmkaochaaDoorRNMathD
namespace Go.Proofs.YtcboenmmkaochaaDoor.N
open Go.ChangeShapes Go.WideShapes Go.ChangeAt Go.RowKit
set_option maxHeartbeats 8000000
set_option maxRecDepth 100000

theorem cut_facts (h : Hd) (B : List Nat) (hok : h.Ok) (he : refE h B.length = 0) (n : Nat) (hn : n ≤ 20 + h.opts.length + B.length) :
    (n < 20 + h.opts.length → ∀ wh, exam ((builtL h B).take n) wh = (0, 0, 30)) ∧
    (20 + h.opts.length ≤ n → exam ((builtL h B).take n) false = (20 + h.opts.length, 20 + h.opts.length + B.length, 0) ∧ rdH ((builtL h B).take n) (20 + h.opts.length) = h) ∧
    (20 + h.opts.length ≤ n → n < 20 + h.opts.length + B.length → exam ((builtL h B).take n) true = (0, 0, 30)) := by
  obtain ⟨x1, x2, x3, x4⟩ := parse_built h B [] hok he true
  rw [List.append_nil] at x1
  have x2' : (builtL h B).length = 20 + h.opts.length + B.length := x2
  have h1 : (exam (builtL h B) true).2.2 = 0 := by rw [x1]
  obtain ⟨f1, f2, f3⟩ := exam_ok h1
  obtain ⟨a1, a2, a3, a4, a5, a6, a7⟩ := lens_ok f1
  rw [← f3, x1] at f2 a6 a7
  simp only at f2 a6 a7
  have a7' : w16 (builtL h B) 2 = 20 + h.opts.length + B.length := a7.symm
  have f2' : hdE ((builtL h B).take (20 + h.opts.length)) (20 + h.opts.length + B.length - (20 + h.opts.length)) = 0 := f2
  have hv : byt (builtL h B) 0 / 16 = 4 := by
    unfold lens at f1
    by_cases h1 : (builtL h B).length < 20
    · rw [if_pos h1] at f1; cases f1
    · rw [if_neg h1] at f1
      by_cases h2 : byt (builtL h B) 0 / 16 ≠ 4
      · rw [if_pos h2] at f1; cases f1
      · exact Decidable.not_not.1 h2
  generalize builtL h B = bl at *
  have hl : (bl.take n).length = n := by rw [List.length_take]; omega
  have hbt : ∀ i, i < 20 → 20 ≤ n → byt (bl.take n) i = byt bl i := fun i hi h20 => byt_take (by omega)
  have hw : 20 ≤ n → w16 (bl.take n) 2 = 20 + h.opts.length + B.length := fun h20 => by
    unfold w16; rw [hbt 2 (by omega) h20, hbt 3 (by omega) h20]; exact a7'
  have e30 : ∀ wh, (lens (bl.take n) wh).2.2 = 30 → exam (bl.take n) wh = (0, 0, 30) := fun wh h3 => by
    unfold exam; rw [if_pos (by rw [h3]; simp), h3]
  refine ⟨fun hlt wh => e30 wh ?_, fun hge => ?_, fun hge hlt => e30 true ?_⟩
  · unfold lens
    rw [hl]
    by_cases h20 : n < 20
    · rw [if_pos h20]
    · rw [if_neg h20, hbt 0 (by omega) (by omega), if_neg (by omega), if_neg (by omega), if_pos (by omega)]
  · have hlens : lens (bl.take n) false = (20 + h.opts.length, 20 + h.opts.length + B.length, 0) := by
      unfold lens
      rw [hl, hbt 0 (by omega) (by omega), hw (by omega), if_neg (by omega), if_neg (by omega), if_neg (by omega), if_neg (by omega), if_neg (by omega), if_neg (by simp), ← a6]
    have htt : (bl.take n).take (20 + h.opts.length) = bl.take (20 + h.opts.length) := by rw [List.take_take, Nat.min_eq_left hge]
    refine ⟨?_, ?_⟩
    · unfold exam
      rw [hlens]
      simp only
      rw [if_neg (by simp), htt, if_neg (by rw [f2']; simp)]
    · refine Eq.trans ?_ x3
      unfold rdH w32 w16
      rw [htt]
      simp only [hbt 1 (by omega) (by omega), hbt 4 (by omega) (by omega), hbt 5 (by omega) (by omega), hbt 6 (by omega) (by omega), hbt 7 (by omega) (by omega), hbt 8 (by omega) (by omega), hbt 9 (by omega) (by omega), hbt 12 (by omega) (by omega), hbt 13 (by omega) (by omega), hbt 14 (by omega) (by omega), hbt 15 (by omega) (by omega), hbt 16 (by omega) (by omega), hbt 17 (by omega) (by omega), hbt 18 (by omega) (by omega), hbt 19 (by omega) (by omega)]
  · unfold lens
    rw [hl, hbt 0 (by omega) (by omega), hw (by omega), if_neg (by omega), if_neg (by omega), if_neg (by omega), if_neg (by omega), if_neg (by omega), if_pos ⟨rfl, hlt⟩]

theorem about_facts (h : Hd) (B : List Nat) (t c : Nat) (a : Int) (f : Nat) (hok : h.Ok) (ht : t < 256) (hc : c < 256) (hbs : ∀ x ∈ builtL h B, x < 256) (he : fltE h B t c a f = 0) :
    abt (mdH 0 f h.src) (Im.laid (fltM h B t c a)) = (h, B.take (min B.length 8), 0) ∧ refE (mdH 0 f h.src) (Im.laid (fltM h B t c a)).length = 0 ∧
    (builtL (mdH 0 f h.src) (Im.laid (fltM h B t c a))).length = 48 + h.opts.length + min B.length 8 ∧ Im.prE (Im.laid (fltM h B t c a)) = 0 ∧
    Im.prC (Im.laid (fltM h B t c a)) = fltM h B t c a ∧ pln f = true ∧ pln h.src = true ∧ refE h B.length = 0 := by
  obtain ⟨f1, f2, f3, f4, f5, f6, f7⟩ := storm_facts h B t c a f hok ht hc hbs he
  have hmp : (mayT t c a && pln f) = true := by
    unfold fltE at he
    split at he
    · assumption
    · exact absurd he (by decide)
  have hmp' := Bool.and_eq_true_iff.1 hmp
  have hre : refE h B.length = 0 := by
    unfold fltE at he
    rw [if_pos hmp] at he
    split at he
    · rename_i hne; exact absurd he hne
    · rename_i hne; exact Classical.not_not.1 hne
  have htd : told h B = true := by
    unfold fltE at he
    rw [if_pos hmp, if_neg (by rw [hre]; simp)] at he
    split at he
    · assumption
    · exact absurd he (by decide)
  have hps : pln h.src = true := by
    unfold told at htd
    simp only [Bool.and_eq_true] at htd
    exact htd.2.1.1
  obtain ⟨r1, _, r3⟩ := refE_ok hre
  obtain ⟨l1, _⟩ := area_len r1
  obtain ⟨hk, _⟩ := may_fault hmp'.1
  have hra : 0 ≤ a ∧ a ≤ mxA t c := by have := hmp'.1; unfold mayT at this; simp at this; exact this.2
  have hbl := built_len hre
  have hq : fltQ h B ≤ (builtL h B).length := by unfold fltQ; omega
  have hfl : (fltM h B t c a).B.length = fltQ h B := by
    show ((builtL h B).take (fltQ h B)).length = _
    rw [List.length_take]; omega
  have hq68 : fltQ h B ≤ 68 := by unfold fltQ; omega
  have hl : (fltM h B t c a).B.length ≤ 65507 := by omega
  have hmok : (fltM h B t c a).Ok := ⟨ht, hc, by
    show rstN t a.toNat < 4294967296
    exact rstN_lt (c := c) (by omega)⟩
  have hlen : (Im.laid (fltM h B t c a)).length = 8 + fltQ h B := by rw [Im.laid_len, hfl]
  have hre2 := md_refE 0 f h.src (Im.laid (fltM h B t c a)).length f3
  refine ⟨?_, hre2, ?_, Im.prE_laid _ hl, Im.prC_laid _ hmok hl, hmp'.2, hps, hre⟩
  · obtain ⟨e1, e2⟩ := msg_pr (h := mdH 0 f h.src) (B := Im.laid (fltM h B t c a)) hre2 (by simp [mdH])
    unfold abt
    rw [e1, e2, Im.prE_laid _ hl, Im.prC_laid _ hmok hl, if_neg (by simp), show (fltM h B t c a).t = t from rfl, if_pos hk]
    show readL ((builtL h B).take (fltQ h B)) false = _
    obtain ⟨_, c2, _⟩ := cut_facts h B hok hre (fltQ h B) (by omega)
    obtain ⟨x1, x2⟩ := c2 (by unfold fltQ; omega)
    unfold readL
    rw [x1, if_pos rfl]
    simp only
    have htk : ((builtL h B).take (fltQ h B)).take (20 + h.opts.length + B.length) = (builtL h B).take (fltQ h B) := by
      rw [List.take_take, Nat.min_eq_right (by unfold fltQ; omega)]
    obtain ⟨_, _, _, y4⟩ := parse_built h B [] hok hre true
    rw [htk, x2, List.drop_take, y4]
    simp only [Prod.mk.injEq, true_and, and_true]
    congr 1
    unfold fltQ
    omega
  · rw [built_len hre2, hlen]
    show 20 + 0 + (8 + fltQ h B) = _
    unfold fltQ
    omega
end Go.Proofs.YtcboenmmkaochaaDoor.N
