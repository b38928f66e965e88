import Derived.Test.YtjjmopmdiflffabMathD
import Derived.Test.YtjjmopmdiflffabBG
namespace Go.Proofs.Ytjjmopmdiflffab
set_option maxRecDepth 100000

/-- With another number. -/
def Hd.withID (H : Hd) (t : Nat) : Hd := ⟨H.tos, t, H.df, H.mf, H.off, H.ttl, H.proto, H.src, H.dst, H.opts⟩

set_option maxHeartbeats 400000 in
/-- Whatever sum stands there: if it adds up to nothing it is read. -/
theorem parse_sum (h : Hd) (B tail : List Nat) (s : Nat) (hok : h.Ok) (he : refE h B.length = 0) (_ : s < 65536) (hc : M.csum (hd20 h (lenOfPk h B) s ++ h.opts) = 0) (whole : Bool) :
    exam (hd20 h (lenOfPk h B) s ++ (h.opts ++ (B ++ tail))) whole = (20 + h.opts.length, lenOfPk h B, 0) ∧ rdH (hd20 h (lenOfPk h B) s ++ (h.opts ++ B)) (20 + h.opts.length) = h ∧ (hd20 h (lenOfPk h B) s ++ (h.opts ++ B)).drop (20 + h.opts.length) = B := by
  obtain ⟨r1, r2, r3⟩ := refE_ok he
  obtain ⟨l1, l2⟩ := area_len r1
  obtain ⟨f, hf, hf1, hf8⟩ : ∃ f : Nat, h.off = (f : Int) ∧ f ≤ 65528 ∧ f % 8 = 0 := by
    unfold M.pieceOk at r2
    simp at r2
    exact ⟨h.off.toNat, by omega, by omega, by omega⟩
  obtain ⟨g1, g2, g3, g4⟩ := flagW_facts h.df h.mf f hf1 hf8
  obtain ⟨l, hl⟩ : ∃ l, l = lenOfPk h B := ⟨_, rfl⟩
  have hl' : l = 20 + h.opts.length + B.length := hl
  rw [← hl] at hc ⊢
  have hid16 := hok.id
  have hsrc := hok.src
  have hdst := hok.dst
  have htn : h.off.toNat = f := by rw [hf]; simp
  have hfl : flagW h.df h.mf h.off.toNat = flagW h.df h.mf f := by rw [htn]
  obtain ⟨fl, hfle⟩ : ∃ fl, fl = flagW h.df h.mf f := ⟨_, rfl⟩
  rw [← hfle] at g1 g2 g3 g4 hfl
  have byts : ∀ T, (byt (hd20 h l s ++ T) 0 = 69 + h.opts.length / 4) ∧ (byt (hd20 h l s ++ T) 1 = h.tos) ∧ w16 (hd20 h l s ++ T) 2 = l ∧ w16 (hd20 h l s ++ T) 4 = h.id ∧ byt (hd20 h l s ++ T) 6 = fl / 256 ∧ w16 (hd20 h l s ++ T) 6 = fl ∧ byt (hd20 h l s ++ T) 8 = h.ttl ∧ byt (hd20 h l s ++ T) 9 = h.proto ∧ w32 (hd20 h l s ++ T) 12 = h.src ∧ w32 (hd20 h l s ++ T) 16 = h.dst := by
    intro T
    refine ⟨rfl, rfl, ?_, ?_, ?_, ?_, rfl, rfl, ?_, ?_⟩
    · show l / 256 * 256 + l % 256 = l; omega
    · show h.id / 256 * 256 + h.id % 256 = h.id; omega
    · show flagW h.df h.mf h.off.toNat / 256 = fl / 256; rw [hfl]
    · show flagW h.df h.mf h.off.toNat / 256 * 256 + flagW h.df h.mf h.off.toNat % 256 = fl; rw [hfl]; omega
    · show (h.src / 65536 / 256 * 256 + h.src / 65536 % 256) * 65536 + (h.src % 65536 / 256 * 256 + h.src % 65536 % 256) = h.src; omega
    · show (h.dst / 65536 / 256 * 256 + h.dst / 65536 % 256) * 65536 + (h.dst % 65536 / 256 * 256 + h.dst % 65536 % 256) = h.dst; omega
  obtain ⟨X, hX⟩ : ∃ X, X = hd20 h l s ++ (h.opts ++ (B ++ tail)) := ⟨_, rfl⟩
  obtain ⟨Y, hY⟩ : ∃ Y, Y = hd20 h l s ++ h.opts := ⟨_, rfl⟩
  have hXl : X.length = l + tail.length := by
    rw [hX, List.length_append, len20, List.length_append, List.length_append, hl']; omega
  have hlens : lens X whole = (20 + h.opts.length, l, 0) := by
    obtain ⟨b0, b1, b2, _⟩ := byts (h.opts ++ (B ++ tail))
    rw [← hX] at b0 b2
    clear hX
    unfold lens
    rw [b0, b2, hXl, if_neg (by omega), if_neg (by omega), if_neg (by omega), if_neg (by omega), if_neg (by omega), if_neg (by omega), show (69 + h.opts.length / 4) % 16 * 4 = 20 + h.opts.length by omega]
  have htk : X.take (20 + h.opts.length) = Y := by
    rw [hX, hY, ← List.append_assoc, List.take_left' (by rw [List.length_append, len20])]
  have hhd : hdE (X.take (20 + h.opts.length)) (l - (20 + h.opts.length)) = 0 := by
    rw [htk]
    obtain ⟨b0, b1, b2, b4, b6, b6w, _⟩ := byts h.opts
    have hd : Y.drop 20 = h.opts := by rw [hY]; exact drop20 h l s h.opts
    rw [← hY] at hc b6 b6w
    clear hX hY
    unfold hdE
    rw [hc, b6, b6w, g2, if_neg (by simp), if_neg (by omega), hd, r1, if_neg (by simp)]
    rw [show fl / 256 / 32 % 2 = fl / 8192 % 2 by omega, g4, ← hf, show l - (20 + h.opts.length) = B.length by omega, r2, if_neg (by simp)]
  rw [← hX]
  refine ⟨?_, ?_, ?_⟩
  · unfold exam
    rw [hlens]
    simp only
    rw [if_neg (by simp), if_neg (by rw [hhd]; simp)]
  · obtain ⟨b0, b1, b2, b4, b6, b6w, b8, b9, b12, b16⟩ := byts (h.opts ++ B)
    have hopt : ((hd20 h l s ++ (h.opts ++ B)).take (20 + h.opts.length)).drop 20 = h.opts := by
      rw [← List.append_assoc, List.take_left' (by rw [List.length_append, len20]), drop20]
    unfold rdH
    rw [b1, b4, b6, b6w, b8, b9, b12, b16, hopt, g2, show fl / 256 / 64 % 2 = fl / 16384 % 2 by omega, show fl / 256 / 32 % 2 = fl / 8192 % 2 by omega, g3, g4, ← hf]
  · rw [← List.append_assoc, List.drop_left' (by rw [List.length_append, len20])]

theorem parsed_sum (h : Hd) (B : List Nat) (s : Nat) (hok : h.Ok) (he : refE h B.length = 0) (hs16 : s < 65536) (hc : M.csum (hd20 h (lenOfPk h B) s ++ h.opts) = 0) :
    parsed (hd20 h (lenOfPk h B) s ++ (h.opts ++ B)) = (h, B, 0) := by
  obtain ⟨e1, e2, e3⟩ := parse_sum h B [] s hok he hs16 hc true
  rw [List.append_nil] at e1
  have hl : (hd20 h (lenOfPk h B) s ++ (h.opts ++ B)).length = lenOfPk h B := by
    rw [List.length_append, len20, List.length_append]; unfold lenOfPk; omega
  unfold parsed
  rw [e1]
  simp only
  rw [if_pos trivial, List.take_of_length_le (by omega), e2, e3]

theorem withID_ok {h : Hd} (hok : h.Ok) {t : Nat} (ht : t < 65536) : (h.withID t).Ok :=
  ⟨hok.tos, ht, hok.off, hok.ttl, hok.proto, hok.src, hok.dst⟩

theorem withID_ref (h : Hd) (t n : Nat) : refE (h.withID t) n = refE h n := rfl

theorem tot_id (h : Hd) (l s t : Nat) (U : List Nat) : M.tot false (hd20 (h.withID t) l s ++ U) = M.tot false (hd20 (h.withID 0) l 0 ++ U) + t + s ∧ 0 < M.tot false (hd20 (h.withID 0) l 0 ++ U) := by
  have hp : M.par false 20 = false := rfl
  rw [M.tot_append, M.tot_append, len20, len20, hp]
  simp only [hd20, Hd.withID, M.tot]
  simp
  omega

theorem built_hd (h : Hd) (B : List Nat) (he : refE h B.length = 0) : builtL h B = hd20 h (lenOfPk h B) (M.csum (hd20 h (lenOfPk h B) 0 ++ h.opts)) ++ (h.opts ++ B) := by
  unfold builtL
  rw [if_pos he, hdBytes_eq h _ (M.csum (hdBytes h (lenOfPk h B) 0)), List.append_assoc, hdBytes_eq]

/-- A number by which the sum is 0. -/
theorem zero_facts (h : Hd) (B : List Nat) (hok : h.Ok) (he : refE h B.length = 0) :
    ∃ s, w16 (builtL (h.withID 0) B) 10 = s ∧ s < 65536 ∧ (builtL (h.withID 0) B).length = lenOfPk h B ∧ (builtL (h.withID s) B).length = lenOfPk h B ∧ w16 (builtL (h.withID s) B) 10 = 0 ∧ (h.withID s).Ok ∧
      parsed (builtL (h.withID s) B) = (h.withID s, B, 0) ∧ parsed (((builtL (h.withID s) B).set 10 255).set 11 255) = (h.withID s, B, 0) := by
  obtain ⟨s, hs⟩ : ∃ s, s = M.csum (hd20 (h.withID 0) (lenOfPk h B) 0 ++ h.opts) := ⟨_, rfl⟩
  have hs16 : s < 65536 := by rw [hs]; exact M.csum_lt _
  have hb0 : builtL (h.withID 0) B = hd20 (h.withID 0) (lenOfPk h B) s ++ (h.opts ++ B) := by
    rw [built_hd (h.withID 0) B he, hs]; rfl
  obtain ⟨hp, hT⟩ : M.csum (hd20 (h.withID s) (lenOfPk h B) 0 ++ h.opts) = 0 ∧ M.csum (hd20 (h.withID s) (lenOfPk h B) 65535 ++ h.opts) = 0 := by
    obtain ⟨e1, h0⟩ := tot_id h (lenOfPk h B) 0 s h.opts
    obtain ⟨e2, _⟩ := tot_id h (lenOfPk h B) 65535 s h.opts
    unfold M.csum at hs ⊢
    rw [e1, e2]
    generalize M.tot false (hd20 (h.withID 0) (lenOfPk h B) 0 ++ h.opts) = T at *
    unfold M.fold at *
    rw [if_neg (by omega)] at hs
    rw [if_neg (by omega), if_neg (by omega)]
    omega
  have hb1 : builtL (h.withID s) B = hd20 (h.withID s) (lenOfPk h B) 0 ++ (h.opts ++ B) := by
    have := built_hd (h.withID s) B he
    rw [show M.csum (hd20 (h.withID s) (lenOfPk (h.withID s) B) 0 ++ (h.withID s).opts) = 0 from hp] at this
    exact this
  have hlen : ∀ t s', (hd20 (h.withID t) (lenOfPk h B) s' ++ (h.opts ++ B)).length = lenOfPk h B := fun t s' => by
    rw [List.length_append, len20, List.length_append]; unfold lenOfPk; omega
  refine ⟨s, ?_, hs16, ?_, ?_, ?_, withID_ok hok hs16, ?_, ?_⟩
  · rw [hb0]; show s / 256 * 256 + s % 256 = s; omega
  · rw [hb0]; exact hlen _ _
  · rw [hb1]; exact hlen _ _
  · rw [hb1]; rfl
  · rw [hb1]; exact parsed_sum (h.withID s) B 0 (withID_ok hok hs16) he (by omega) hp
  · rw [hb1]
    have e := set20 (h.withID s) (lenOfPk h B) 65535 (h.opts ++ B)
    rw [show ((hd20 (h.withID s) (lenOfPk h B) 0 ++ (h.opts ++ B)).set 10 255).set 11 255 = hd20 (h.withID s) (lenOfPk h B) 65535 ++ (h.opts ++ B) from e]
    exact parsed_sum (h.withID s) B 65535 (withID_ok hok hs16) he (by omega) hT
end Go.Proofs.Ytjjmopmdiflffab
