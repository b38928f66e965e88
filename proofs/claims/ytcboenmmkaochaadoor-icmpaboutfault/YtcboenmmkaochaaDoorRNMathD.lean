import Derived.Test.YtcboenmmkaochaaDoorM5
namespace Go.Proofs.YtcboenmmkaochaaDoor.N
set_option maxRecDepth 100000

/-- A header with its own sum adds up to nothing. -/
theorem csum_own (A C : List Nat) (hA : A.length % 2 = 0) : M.csum (A ++ (M.csum (A ++ 0 :: 0 :: C) / 256) :: (M.csum (A ++ 0 :: 0 :: C) % 256) :: C) = 0 := by
  rw [csum_gap A C hA]
  have hp : M.par false A.length = false := by unfold M.par; rw [if_pos hA]
  obtain ⟨T, hT⟩ : ∃ T, T = M.tot false (A ++ C) := ⟨_, rfl⟩
  have hs : M.csum (A ++ C) = 65535 - M.fold T := by unfold M.csum; rw [hT]
  have ht : M.tot false (A ++ (M.csum (A ++ C) / 256) :: (M.csum (A ++ C) % 256) :: C) = T + M.csum (A ++ C) := by
    rw [M.tot_append, hp, hT, M.tot_append, hp]
    simp only [M.tot]
    simp
    omega
  show 65535 - M.fold (M.tot false _) = 0
  rw [ht, hs]
  unfold M.fold
  by_cases h0 : T = 0
  · rw [if_pos h0, h0]; simp
  · rw [if_neg h0, if_neg (by omega)]
    omega

theorem flagW_facts (df mf : Bool) (f : Nat) (hf : f ≤ 65528) (h8 : f % 8 = 0) : flagW df mf f < 32768 ∧ flagW df mf f % 8192 * 8 = f ∧ decide (flagW df mf f / 16384 % 2 = 1) = df ∧ decide (flagW df mf f / 8192 % 2 = 1) = mf := by
  unfold flagW
  cases df <;> cases mf <;> simp <;> omega

theorem drop20 (h : Hd) (l s : Nat) (T : List Nat) : (hd20 h l s ++ T).drop 20 = T := List.drop_left' (len20 h l s)

theorem open20 (h : Hd) (l s : Nat) (U : List Nat) : hd20 h l s ++ U = (hd20 h l 0 ++ U).take 10 ++ (s / 256) :: (s % 256) :: (hd20 h l 0 ++ U).drop 12 := by
  simp [hd20]

set_option maxHeartbeats 400000 in
/-- What was built is read as it was, whatever lies behind. -/
theorem parse_built (h : Hd) (B tail : List Nat) (hok : h.Ok) (he : refE h B.length = 0) (whole : Bool) :
    exam (builtL h B ++ tail) whole = (20 + h.opts.length, lenOfPk h B, 0) ∧ (builtL h B).length = lenOfPk h B ∧ rdH (builtL h B) (20 + h.opts.length) = h ∧ (builtL h B).drop (20 + h.opts.length) = B := by
  obtain ⟨r1, r2, r3⟩ := refE_ok he
  obtain ⟨l1, l2⟩ := area_len r1
  obtain ⟨f, hf, hf1, hf8⟩ : ∃ f : Nat, h.off = (f : Int) ∧ f ≤ 65528 ∧ f % 8 = 0 := by
    unfold M.pieceOk at r2
    simp at r2
    exact ⟨h.off.toNat, by omega, by omega, by omega⟩
  obtain ⟨g1, g2, g3, g4⟩ := flagW_facts h.df h.mf f hf1 hf8
  have hb : builtL h B = hd20 h (lenOfPk h B) (M.csum (hdBytes h (lenOfPk h B) 0)) ++ (h.opts ++ B) := by
    unfold builtL
    rw [if_pos he, hdBytes_eq h _ (M.csum (hdBytes h (lenOfPk h B) 0)), List.append_assoc]
  obtain ⟨l, hl⟩ : ∃ l, l = lenOfPk h B := ⟨_, rfl⟩
  have hl' : l = 20 + h.opts.length + B.length := hl
  have hlen : (builtL h B).length = l := by rw [hb, List.length_append, len20, List.length_append, hl']; omega
  obtain ⟨s, hs⟩ : ∃ s, s = M.csum (hdBytes h l 0) := ⟨_, rfl⟩
  have hs16 : s < 65536 := by rw [hs]; exact M.csum_lt _
  rw [← hl, ← hs] at hb
  rw [← hl]
  have hid16 := hok.id
  have hsrc := hok.src
  have hdst := hok.dst
  have htn : h.off.toNat = f := by rw [hf]; simp
  have hfl : flagW h.df h.mf h.off.toNat = flagW h.df h.mf f := by rw [htn]
  obtain ⟨fl, hfle⟩ : ∃ fl, fl = flagW h.df h.mf f := ⟨_, rfl⟩
  rw [← hfle] at g1 g2 g3 g4 hfl
  have byts : ∀ T, (byt (hd20 h l s ++ T) 0 = 69 + h.opts.length / 4) ∧ (byt (hd20 h l s ++ T) 1 = h.tos) ∧ w16 (hd20 h l s ++ T) 2 = l ∧ w16 (hd20 h l s ++ T) 4 = h.id ∧ byt (hd20 h l s ++ T) 6 = fl / 256 ∧ w16 (hd20 h l s ++ T) 6 = fl ∧ byt (hd20 h l s ++ T) 8 = h.ttl ∧ byt (hd20 h l s ++ T) 9 = h.proto ∧ w32 (hd20 h l s ++ T) 12 = h.src ∧ w32 (hd20 h l s ++ T) 16 = h.dst := by
    intro T
    refine ⟨rfl, rfl, ?_, ?_, ?_, ?_, rfl, rfl, ?_, ?_⟩
    · show l / 256 * 256 + l % 256 = l; omega
    · show h.id / 256 * 256 + h.id % 256 = h.id; omega
    · show flagW h.df h.mf h.off.toNat / 256 = fl / 256; rw [hfl]
    · show flagW h.df h.mf h.off.toNat / 256 * 256 + flagW h.df h.mf h.off.toNat % 256 = fl; rw [hfl]; omega
    · show (h.src / 65536 / 256 * 256 + h.src / 65536 % 256) * 65536 + (h.src % 65536 / 256 * 256 + h.src % 65536 % 256) = h.src; omega
    · show (h.dst / 65536 / 256 * 256 + h.dst / 65536 % 256) * 65536 + (h.dst % 65536 / 256 * 256 + h.dst % 65536 % 256) = h.dst; omega
  have hX : builtL h B ++ tail = hd20 h l s ++ (h.opts ++ (B ++ tail)) := by rw [hb]; simp
  have hXl : (builtL h B ++ tail).length = l + tail.length := by rw [List.length_append, hlen]
  have hlens : lens (builtL h B ++ tail) whole = (20 + h.opts.length, l, 0) := by
    obtain ⟨b0, b1, b2, _⟩ := byts (h.opts ++ (B ++ tail))
    rw [← hX] at b0 b1 b2
    unfold lens
    rw [b0, b2, hXl, if_neg (by omega), if_neg (by omega), if_neg (by omega), if_neg (by omega), if_neg (by omega), if_neg (by omega)]
    congr 1
    omega
  have htk : (builtL h B ++ tail).take (20 + h.opts.length) = hd20 h l s ++ h.opts := by
    rw [hX, ← List.append_assoc, List.take_left' (by rw [List.length_append, len20])]
  have hhd : hdE ((builtL h B ++ tail).take (20 + h.opts.length)) (l - (20 + h.opts.length)) = 0 := by
    rw [htk]
    obtain ⟨b0, b1, b2, b4, b6, b6w, _⟩ := byts h.opts
    have hc : M.csum (hd20 h l s ++ h.opts) = 0 := by
      have := csum_own ((hd20 h l 0 ++ h.opts).take 10) ((hd20 h l 0 ++ h.opts).drop 12) (by rw [List.length_take, List.length_append, len20, Nat.min_eq_left (by omega)])
      rw [gap20, ← hdBytes_eq, ← hs] at this
      rw [open20]
      exact this
    unfold hdE
    rw [hc, b6, b6w, g2, if_neg (by simp), if_neg (by omega), drop20, r1, if_neg (by simp)]
    rw [show fl / 256 / 32 % 2 = fl / 8192 % 2 by omega, g4, ← hf, show l - (20 + h.opts.length) = B.length by omega, r2, if_neg (by simp)]
  refine ⟨?_, hlen, ?_, ?_⟩
  · unfold exam
    rw [hlens]
    simp only
    rw [if_neg (by simp), if_neg (by rw [hhd]; simp)]
  · obtain ⟨b0, b1, b2, b4, b6, b6w, b8, b9, b12, b16⟩ := byts (h.opts ++ B)
    have hopt : ((hd20 h l s ++ (h.opts ++ B)).take (20 + h.opts.length)).drop 20 = h.opts := by
      rw [← List.append_assoc, List.take_left' (by rw [List.length_append, len20]), drop20]
    rw [hb]
    unfold rdH
    rw [b1, b4, b6, b6w, b8, b9, b12, b16, hopt, g2, show fl / 256 / 64 % 2 = fl / 16384 % 2 by omega, show fl / 256 / 32 % 2 = fl / 8192 % 2 by omega, g3, g4, ← hf]
  · rw [hb, ← List.append_assoc, List.drop_left' (by rw [List.length_append, len20])]
end Go.Proofs.YtcboenmmkaochaaDoor.N
