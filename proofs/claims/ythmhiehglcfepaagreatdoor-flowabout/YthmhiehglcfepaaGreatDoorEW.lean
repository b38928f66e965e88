import Derived.Test.YthmhiehglcfepaaGreatDoorEV
import Derived.Test.YthmhiehglcfepaaGreatDoorED
import Derived.Test.YthmhiehglcfepaaGreatDoorEQ
namespace Go.Proofs.YthmhiehglcfepaaGreatDoor.N
open Go.ChangeShapes Go.WideShapes Go.ChangeAt Go.RowKit
set_option maxHeartbeats 4000000
set_option maxRecDepth 100000

theorem area_nil : M.area [] = true := by unfold M.area; simp [M.okO_nil]

/-- A packet that is made here may be. -/
theorem md_refE (tos src dst n : Nat) (hn : n ≤ 65515) : refE (mdH tos src dst) n = 0 := by
  unfold refE
  rw [show (mdH tos src dst).opts = [] from rfl, if_pos area_nil]
  have hp : M.pieceOk (mdH tos src dst).off n (mdH tos src dst).mf = true := by
    unfold M.pieceOk mdH
    simp
    omega
  rw [if_pos hp, if_pos (by simp; omega)]

theorem may_fault {t c : Nat} {a : Int} (h : mayT t c a = true) : kF t = true ∧ (t = 3 ∨ t = 11 ∨ t = 12) := by
  unfold mayT at h
  simp at h
  have h1 := h.1
  unfold kC at h1
  split at h1
  · subst_vars; exact ⟨rfl, .inl rfl⟩
  · split at h1
    · subst_vars; exact ⟨rfl, .inr (.inl rfl)⟩
    · split at h1
      · subst_vars; exact ⟨rfl, .inr (.inr rfl)⟩
      · omega

theorem laid_head (m : Im.Ct) : byt (Im.laid m) 0 = m.t := rfl
theorem laid_ne (m : Im.Ct) : Im.laid m ≠ [] := by unfold Im.laid Im.msg; simp

/-- What is told of a fault's packet: it is quiet, and no echo. -/
theorem storm_facts (h : Hd) (B : List Nat) (t c : Nat) (a : Int) (f : Nat) (hok : h.Ok) (ht : t < 256) (hc : c < 256) (hbs : ∀ x ∈ builtL h B, x < 256) (he : fltE h B t c a f = 0) :
    (fltP h B t c a f).1 = mdH 0 f h.src ∧ (fltP h B t c a f).2 = Im.laid (fltM h B t c a) ∧ (Im.laid (fltM h B t c a)).length ≤ 65515 ∧
    (∀ x ∈ Im.laid (fltM h B t c a), x < 256) ∧ h.src < 4294967296 := by
  have hmp : (mayT t c a && pln f) = true := by
    unfold fltE at he
    split at he
    · assumption
    · exact absurd he (by decide)
  have hmp' := Bool.and_eq_true_iff.1 hmp
  obtain ⟨hk, h3⟩ := may_fault hmp'.1
  have hra : 0 ≤ a ∧ a ≤ mxA t c := by have := hmp'.1; unfold mayT at this; simp at this; exact this.2
  have hl : (fltM h B t c a).B.length ≤ 65507 := by
    show ((builtL h B).take (fltQ h B)).length ≤ 65507
    have hre : refE h B.length = 0 := by
      unfold fltE at he
      rw [if_pos hmp] at he
      split at he
      · rename_i hne; exact absurd he hne
      · rename_i hne; exact Classical.not_not.1 hne
    obtain ⟨r1, _, _⟩ := refE_ok hre
    obtain ⟨l1, _⟩ := area_len r1
    rw [List.length_take]
    unfold fltQ
    omega
  have hlen : (Im.laid (fltM h B t c a)).length ≤ 65515 := by rw [Im.laid_len]; omega
  have hmok : (fltM h B t c a).Ok := ⟨ht, hc, by
    show rstN t a.toNat < 4294967296
    exact rstN_lt (c := c) (by omega)⟩
  have hP : fltP h B t c a f = (mdH 0 f h.src, Im.laid (fltM h B t c a)) := by unfold fltP; rw [if_pos he]
  have hbm : ∀ x ∈ (fltM h B t c a).B, x < 256 := fun x hx => hbs x (List.mem_of_mem_take hx)
  exact ⟨by rw [hP], by rw [hP], hlen, Im.laid_bytes hmok hbm, hok.src⟩
end Go.Proofs.YthmhiehglcfepaaGreatDoor.N

namespace Go.Proofs.YthmhiehglcfepaaGreatDoor.N
set_option maxRecDepth 100000

/-- A header with its own sum adds up to nothing. -/
theorem csum_own (A C : List Nat) (hA : A.length % 2 = 0) : M.csum (A ++ (M.csum (A ++ 0 :: 0 :: C) / 256) :: (M.csum (A ++ 0 :: 0 :: C) % 256) :: C) = 0 := by
  rw [csum_gap A C hA]
  have hp : M.par false A.length = false := by unfold M.par; rw [if_pos hA]
  obtain ⟨T, hT⟩ : ∃ T, T = M.tot false (A ++ C) := ⟨_, rfl⟩
  have hs : M.csum (A ++ C) = 65535 - M.fold T := by unfold M.csum; rw [hT]
  have ht : M.tot false (A ++ (M.csum (A ++ C) / 256) :: (M.csum (A ++ C) % 256) :: C) = T + M.csum (A ++ C) := by
    rw [M.tot_append, hp, hT, M.tot_append, hp]
    simp only [M.tot]
    simp
    omega
  show 65535 - M.fold (M.tot false _) = 0
  rw [ht, hs]
  unfold M.fold
  by_cases h0 : T = 0
  · rw [if_pos h0, h0]; simp
  · rw [if_neg h0, if_neg (by omega)]
    omega

theorem flagW_facts (df mf : Bool) (f : Nat) (hf : f ≤ 65528) (h8 : f % 8 = 0) : flagW df mf f < 32768 ∧ flagW df mf f % 8192 * 8 = f ∧ decide (flagW df mf f / 16384 % 2 = 1) = df ∧ decide (flagW df mf f / 8192 % 2 = 1) = mf := by
  unfold flagW
  cases df <;> cases mf <;> simp <;> omega

theorem drop20 (h : Hd) (l s : Nat) (T : List Nat) : (hd20 h l s ++ T).drop 20 = T := List.drop_left' (len20 h l s)

theorem open20 (h : Hd) (l s : Nat) (U : List Nat) : hd20 h l s ++ U = (hd20 h l 0 ++ U).take 10 ++ (s / 256) :: (s % 256) :: (hd20 h l 0 ++ U).drop 12 := by
  simp [hd20]

set_option maxHeartbeats 400000 in
/-- What was built is read as it was, whatever lies behind. -/
theorem parse_built (h : Hd) (B tail : List Nat) (hok : h.Ok) (he : refE h B.length = 0) (whole : Bool) :
    exam (builtL h B ++ tail) whole = (20 + h.opts.length, lenOfPk h B, 0) ∧ (builtL h B).length = lenOfPk h B ∧ rdH (builtL h B) (20 + h.opts.length) = h ∧ (builtL h B).drop (20 + h.opts.length) = B := by
  obtain ⟨r1, r2, r3⟩ := refE_ok he
  obtain ⟨l1, l2⟩ := area_len r1
  obtain ⟨f, hf, hf1, hf8⟩ : ∃ f : Nat, h.off = (f : Int) ∧ f ≤ 65528 ∧ f % 8 = 0 := by
    unfold M.pieceOk at r2
    simp at r2
    exact ⟨h.off.toNat, by omega, by omega, by omega⟩
  obtain ⟨g1, g2, g3, g4⟩ := flagW_facts h.df h.mf f hf1 hf8
  have hb : builtL h B = hd20 h (lenOfPk h B) (M.csum (hdBytes h (lenOfPk h B) 0)) ++ (h.opts ++ B) := by
    unfold builtL
    rw [if_pos he, hdBytes_eq h _ (M.csum (hdBytes h (lenOfPk h B) 0)), List.append_assoc]
  obtain ⟨l, hl⟩ : ∃ l, l = lenOfPk h B := ⟨_, rfl⟩
  have hl' : l = 20 + h.opts.length + B.length := hl
  have hlen : (builtL h B).length = l := by rw [hb, List.length_append, len20, List.length_append, hl']; omega
  obtain ⟨s, hs⟩ : ∃ s, s = M.csum (hdBytes h l 0) := ⟨_, rfl⟩
  have hs16 : s < 65536 := by rw [hs]; exact M.csum_lt _
  rw [← hl, ← hs] at hb
  rw [← hl]
  have hid16 := hok.id
  have hsrc := hok.src
  have hdst := hok.dst
  have htn : h.off.toNat = f := by rw [hf]; simp
  have hfl : flagW h.df h.mf h.off.toNat = flagW h.df h.mf f := by rw [htn]
  obtain ⟨fl, hfle⟩ : ∃ fl, fl = flagW h.df h.mf f := ⟨_, rfl⟩
  rw [← hfle] at g1 g2 g3 g4 hfl
  have byts : ∀ T, (byt (hd20 h l s ++ T) 0 = 69 + h.opts.length / 4) ∧ (byt (hd20 h l s ++ T) 1 = h.tos) ∧ w16 (hd20 h l s ++ T) 2 = l ∧ w16 (hd20 h l s ++ T) 4 = h.id ∧ byt (hd20 h l s ++ T) 6 = fl / 256 ∧ w16 (hd20 h l s ++ T) 6 = fl ∧ byt (hd20 h l s ++ T) 8 = h.ttl ∧ byt (hd20 h l s ++ T) 9 = h.proto ∧ w32 (hd20 h l s ++ T) 12 = h.src ∧ w32 (hd20 h l s ++ T) 16 = h.dst := by
    intro T
    refine ⟨rfl, rfl, ?_, ?_, ?_, ?_, rfl, rfl, ?_, ?_⟩
    · show l / 256 * 256 + l % 256 = l; omega
    · show h.id / 256 * 256 + h.id % 256 = h.id; omega
    · show flagW h.df h.mf h.off.toNat / 256 = fl / 256; rw [hfl]
    · show flagW h.df h.mf h.off.toNat / 256 * 256 + flagW h.df h.mf h.off.toNat % 256 = fl; rw [hfl]; omega
    · show (h.src / 65536 / 256 * 256 + h.src / 65536 % 256) * 65536 + (h.src % 65536 / 256 * 256 + h.src % 65536 % 256) = h.src; omega
    · show (h.dst / 65536 / 256 * 256 + h.dst / 65536 % 256) * 65536 + (h.dst % 65536 / 256 * 256 + h.dst % 65536 % 256) = h.dst; omega
  have hX : builtL h B ++ tail = hd20 h l s ++ (h.opts ++ (B ++ tail)) := by rw [hb]; simp
  have hXl : (builtL h B ++ tail).length = l + tail.length := by rw [List.length_append, hlen]
  have hlens : lens (builtL h B ++ tail) whole = (20 + h.opts.length, l, 0) := by
    obtain ⟨b0, b1, b2, _⟩ := byts (h.opts ++ (B ++ tail))
    rw [← hX] at b0 b1 b2
    unfold lens
    rw [b0, b2, hXl, if_neg (by omega), if_neg (by omega), if_neg (by omega), if_neg (by omega), if_neg (by omega), if_neg (by omega)]
    congr 1
    omega
  have htk : (builtL h B ++ tail).take (20 + h.opts.length) = hd20 h l s ++ h.opts := by
    rw [hX, ← List.append_assoc, List.take_left' (by rw [List.length_append, len20])]
  have hhd : hdE ((builtL h B ++ tail).take (20 + h.opts.length)) (l - (20 + h.opts.length)) = 0 := by
    rw [htk]
    obtain ⟨b0, b1, b2, b4, b6, b6w, _⟩ := byts h.opts
    have hc : M.csum (hd20 h l s ++ h.opts) = 0 := by
      have := csum_own ((hd20 h l 0 ++ h.opts).take 10) ((hd20 h l 0 ++ h.opts).drop 12) (by rw [List.length_take, List.length_append, len20, Nat.min_eq_left (by omega)])
      rw [gap20, ← hdBytes_eq, ← hs] at this
      rw [open20]
      exact this
    unfold hdE
    rw [hc, b6, b6w, g2, if_neg (by simp), if_neg (by omega), drop20, r1, if_neg (by simp)]
    rw [show fl / 256 / 32 % 2 = fl / 8192 % 2 by omega, g4, ← hf, show l - (20 + h.opts.length) = B.length by omega, r2, if_neg (by simp)]
  refine ⟨?_, hlen, ?_, ?_⟩
  · unfold exam
    rw [hlens]
    simp only
    rw [if_neg (by simp), if_neg (by rw [hhd]; simp)]
  · obtain ⟨b0, b1, b2, b4, b6, b6w, b8, b9, b12, b16⟩ := byts (h.opts ++ B)
    have hopt : ((hd20 h l s ++ (h.opts ++ B)).take (20 + h.opts.length)).drop 20 = h.opts := by
      rw [← List.append_assoc, List.take_left' (by rw [List.length_append, len20]), drop20]
    rw [hb]
    unfold rdH
    rw [b1, b4, b6, b6w, b8, b9, b12, b16, hopt, g2, show fl / 256 / 64 % 2 = fl / 16384 % 2 by omega, show fl / 256 / 32 % 2 = fl / 8192 % 2 by omega, g3, g4, ← hf]
  · rw [hb, ← List.append_assoc, List.drop_left' (by rw [List.length_append, len20])]
end Go.Proofs.YthmhiehglcfepaaGreatDoor.N

namespace Go.Proofs.YthmhiehglcfepaaGreatDoor.N
open Go.ChangeShapes Go.WideShapes Go.ChangeAt Go.RowKit
set_option maxHeartbeats 8000000
set_option maxRecDepth 100000

theorem cut_facts (h : Hd) (B : List Nat) (hok : h.Ok) (he : refE h B.length = 0) (n : Nat) (hn : n ≤ 20 + h.opts.length + B.length) :
    (n < 20 + h.opts.length → ∀ wh, exam ((builtL h B).take n) wh = (0, 0, 30)) ∧
    (20 + h.opts.length ≤ n → exam ((builtL h B).take n) false = (20 + h.opts.length, 20 + h.opts.length + B.length, 0) ∧ rdH ((builtL h B).take n) (20 + h.opts.length) = h) ∧
    (20 + h.opts.length ≤ n → n < 20 + h.opts.length + B.length → exam ((builtL h B).take n) true = (0, 0, 30)) := by
  obtain ⟨x1, x2, x3, x4⟩ := parse_built h B [] hok he true
  rw [List.append_nil] at x1
  have x2' : (builtL h B).length = 20 + h.opts.length + B.length := x2
  have h1 : (exam (builtL h B) true).2.2 = 0 := by rw [x1]
  obtain ⟨f1, f2, f3⟩ := exam_ok h1
  obtain ⟨a1, a2, a3, a4, a5, a6, a7⟩ := lens_ok f1
  rw [← f3, x1] at f2 a6 a7
  simp only at f2 a6 a7
  have a7' : w16 (builtL h B) 2 = 20 + h.opts.length + B.length := a7.symm
  have f2' : hdE ((builtL h B).take (20 + h.opts.length)) (20 + h.opts.length + B.length - (20 + h.opts.length)) = 0 := f2
  have hv : byt (builtL h B) 0 / 16 = 4 := by
    unfold lens at f1
    by_cases h1 : (builtL h B).length < 20
    · rw [if_pos h1] at f1; cases f1
    · rw [if_neg h1] at f1
      by_cases h2 : byt (builtL h B) 0 / 16 ≠ 4
      · rw [if_pos h2] at f1; cases f1
      · exact Decidable.not_not.1 h2
  generalize builtL h B = bl at *
  have hl : (bl.take n).length = n := by rw [List.length_take]; omega
  have hbt : ∀ i, i < 20 → 20 ≤ n → byt (bl.take n) i = byt bl i := fun i hi h20 => byt_take (by omega)
  have hw : 20 ≤ n → w16 (bl.take n) 2 = 20 + h.opts.length + B.length := fun h20 => by
    unfold w16; rw [hbt 2 (by omega) h20, hbt 3 (by omega) h20]; exact a7'
  have e30 : ∀ wh, (lens (bl.take n) wh).2.2 = 30 → exam (bl.take n) wh = (0, 0, 30) := fun wh h3 => by
    unfold exam; rw [if_pos (by rw [h3]; simp), h3]
  refine ⟨fun hlt wh => e30 wh ?_, fun hge => ?_, fun hge hlt => e30 true ?_⟩
  · unfold lens
    rw [hl]
    by_cases h20 : n < 20
    · rw [if_pos h20]
    · rw [if_neg h20, hbt 0 (by omega) (by omega), if_neg (by omega), if_neg (by omega), if_pos (by omega)]
  · have hlens : lens (bl.take n) false = (20 + h.opts.length, 20 + h.opts.length + B.length, 0) := by
      unfold lens
      rw [hl, hbt 0 (by omega) (by omega), hw (by omega), if_neg (by omega), if_neg (by omega), if_neg (by omega), if_neg (by omega), if_neg (by omega), if_neg (by simp), ← a6]
    have htt : (bl.take n).take (20 + h.opts.length) = bl.take (20 + h.opts.length) := by rw [List.take_take, Nat.min_eq_left hge]
    refine ⟨?_, ?_⟩
    · unfold exam
      rw [hlens]
      simp only
      rw [if_neg (by simp), htt, if_neg (by rw [f2']; simp)]
    · refine Eq.trans ?_ x3
      unfold rdH w32 w16
      rw [htt]
      simp only [hbt 1 (by omega) (by omega), hbt 4 (by omega) (by omega), hbt 5 (by omega) (by omega), hbt 6 (by omega) (by omega), hbt 7 (by omega) (by omega), hbt 8 (by omega) (by omega), hbt 9 (by omega) (by omega), hbt 12 (by omega) (by omega), hbt 13 (by omega) (by omega), hbt 14 (by omega) (by omega), hbt 15 (by omega) (by omega), hbt 16 (by omega) (by omega), hbt 17 (by omega) (by omega), hbt 18 (by omega) (by omega), hbt 19 (by omega) (by omega)]
  · unfold lens
    rw [hl, hbt 0 (by omega) (by omega), hw (by omega), if_neg (by omega), if_neg (by omega), if_neg (by omega), if_neg (by omega), if_neg (by omega), if_pos ⟨rfl, hlt⟩]

theorem about_facts (h : Hd) (B : List Nat) (t c : Nat) (a : Int) (f : Nat) (hok : h.Ok) (ht : t < 256) (hc : c < 256) (hbs : ∀ x ∈ builtL h B, x < 256) (he : fltE h B t c a f = 0) :
    abt (mdH 0 f h.src) (Im.laid (fltM h B t c a)) = (h, B.take (min B.length 8), 0) ∧ refE (mdH 0 f h.src) (Im.laid (fltM h B t c a)).length = 0 ∧
    (builtL (mdH 0 f h.src) (Im.laid (fltM h B t c a))).length = 48 + h.opts.length + min B.length 8 ∧ Im.prE (Im.laid (fltM h B t c a)) = 0 ∧
    Im.prC (Im.laid (fltM h B t c a)) = fltM h B t c a ∧ pln f = true ∧ pln h.src = true ∧ refE h B.length = 0 := by
  obtain ⟨_, _, f3, _, _⟩ := storm_facts h B t c a f hok ht hc hbs he
  have hmp : (mayT t c a && pln f) = true := by
    unfold fltE at he
    split at he
    · assumption
    · exact absurd he (by decide)
  have hmp' := Bool.and_eq_true_iff.1 hmp
  have hre : refE h B.length = 0 := by
    unfold fltE at he
    rw [if_pos hmp] at he
    split at he
    · rename_i hne; exact absurd he hne
    · rename_i hne; exact Classical.not_not.1 hne
  have htd : told h B = true := by
    unfold fltE at he
    rw [if_pos hmp, if_neg (by rw [hre]; simp)] at he
    split at he
    · assumption
    · exact absurd he (by decide)
  have hps : pln h.src = true := by
    unfold told at htd
    simp only [Bool.and_eq_true] at htd
    exact htd.2.1.1
  obtain ⟨r1, _, r3⟩ := refE_ok hre
  obtain ⟨l1, _⟩ := area_len r1
  obtain ⟨hk, _⟩ := may_fault hmp'.1
  have hra : 0 ≤ a ∧ a ≤ mxA t c := by have := hmp'.1; unfold mayT at this; simp at this; exact this.2
  have hbl := built_len hre
  have hq : fltQ h B ≤ (builtL h B).length := by unfold fltQ; omega
  have hfl : (fltM h B t c a).B.length = fltQ h B := by
    show ((builtL h B).take (fltQ h B)).length = _
    rw [List.length_take]; omega
  have hq68 : fltQ h B ≤ 68 := by unfold fltQ; omega
  have hl : (fltM h B t c a).B.length ≤ 65507 := by omega
  have hmok : (fltM h B t c a).Ok := ⟨ht, hc, by
    show rstN t a.toNat < 4294967296
    exact rstN_lt (c := c) (by omega)⟩
  have hlen : (Im.laid (fltM h B t c a)).length = 8 + fltQ h B := by rw [Im.laid_len, hfl]
  have hre2 := md_refE 0 f h.src (Im.laid (fltM h B t c a)).length f3
  refine ⟨?_, hre2, ?_, Im.prE_laid _ hl, Im.prC_laid _ hmok hl, hmp'.2, hps, hre⟩
  · obtain ⟨e1, e2⟩ := msg_pr (h := mdH 0 f h.src) (B := Im.laid (fltM h B t c a)) hre2 (by simp [mdH])
    unfold abt
    rw [e1, e2, Im.prE_laid _ hl, Im.prC_laid _ hmok hl, if_neg (by simp), show (fltM h B t c a).t = t from rfl, if_pos hk]
    show readL ((builtL h B).take (fltQ h B)) false = _
    obtain ⟨_, c2, _⟩ := cut_facts h B hok hre (fltQ h B) (by omega)
    obtain ⟨x1, x2⟩ := c2 (by unfold fltQ; omega)
    unfold readL
    rw [x1, if_pos rfl]
    simp only
    have htk : ((builtL h B).take (fltQ h B)).take (20 + h.opts.length + B.length) = (builtL h B).take (fltQ h B) := by
      rw [List.take_take, Nat.min_eq_right (by unfold fltQ; omega)]
    obtain ⟨_, _, _, y4⟩ := parse_built h B [] hok hre true
    rw [htk, x2, List.drop_take, y4]
    simp only [Prod.mk.injEq, true_and, and_true]
    congr 1
    unfold fltQ
    omega
  · rw [built_len hre2, hlen]
    show 20 + 0 + (8 + fltQ h B) = _
    unfold fltQ
    omega
end Go.Proofs.YthmhiehglcfepaaGreatDoor.N
