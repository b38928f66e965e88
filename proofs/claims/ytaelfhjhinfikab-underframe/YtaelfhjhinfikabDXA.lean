/-
  UnderFrame: the law's put.
-/
import Derived.Test.YtaelfhjhinfikabDX
namespace Go.Proofs.Ytaelfhjhinfikab
open Go.ChangeShapes Go.WideShapes Go.ChangeAt Go.RowKit Me
set_option maxHeartbeats 8000000
set_option maxRecDepth 100000

theorem pu_facts (m : Nat) : ∀ (L S : List Pk), S.length ≤ m → (puS m S L).length ≤ m ∧ (puN m S L = L.length → puE m S L = 0) ∧
    (∀ p, L[puN m S L]? = some p → (65535 < p.bs.length → puE m S L = 2) ∧ (¬ 65535 < p.bs.length → puE m S L = 4 ∧ (puS m S L).length = m))
  | [], S, h => by
    refine ⟨by unfold puS; simpa using h, fun _ => rfl, fun p hp => by simp at hp⟩
  | q :: L, S, h => by
    by_cases h0 : joE m S q = 0
    · rw [puN_step h0, puE_step h0, puS_step h0]
      have hl : (S ++ [q]).length ≤ m := by
        have := joS_len (p := q) h
        unfold joS at this
        rwa [if_pos h0] at this
      have ih := pu_facts m L (S ++ [q]) hl
      refine ⟨ih.1, fun e => ih.2.1 (by simpa using e), fun p hp => ih.2.2 p (by simpa using hp)⟩
    · rw [puN_stop h0, puE_stop h0, puS_stop h0]
      refine ⟨h, fun e => by simp at e, fun p hp => ?_⟩
      simp only [List.getElem?_cons_zero, Option.some.injEq] at hp
      subst hp
      unfold joE at h0 ⊢
      by_cases h1 : 65535 < q.bs.length
      · rw [if_pos h1]
        exact ⟨fun _ => rfl, fun e => absurd h1 e⟩
      · rw [if_neg h1] at h0 ⊢
        by_cases h2 : m ≤ S.length
        · rw [if_pos h2]
          exact ⟨fun e => absurd e h1, fun _ => ⟨rfl, by omega⟩⟩
        · rw [if_neg h2] at h0
          exact absurd rfl h0

theorem fput_any (w0 w : World) (K : Nat → Prop) (pb m : Nat) (vo vs : Value) (S L : List Pk) (h : Pn w0 K w pb m S) (ho : SeesS K w vo S) (hs : SeesS K w vs L) :
    Calls Try.prog 36 #[.pointer (some ⟨pb, 0, none⟩), vo, vs, .int .i64 (m : Int)] w fun e w' => e = .returned (.bool true) ∧ ∃ S', Pn w0 K w' pb m S' := by
  have HPU := hid (h.put hs)
  obtain ⟨ao, no, co, rfl, HNO, ho1, ho2⟩ := ho.shape
  obtain ⟨sa, ns, cs, rfl, HNS, hs1, hs2⟩ := hs.shape
  unfold maxLen at ho2 hs2
  have hle := h.le
  have hpf := pu_facts m L S hle.1
  have hpn := puN_le m S L
  have hpl := puS_len m S L
  obtain ⟨k, HK⟩ : ∃ k, Hid (k = puN m S L) := ⟨_, rfl⟩
  obtain ⟨er, HER⟩ : ∃ e, Hid (e = puE m S L) := ⟨_, rfl⟩
  obtain ⟨S2, HS2⟩ : ∃ e, Hid (e = puS m S L) := ⟨_, rfl⟩
  have HSE : Hid (S2 = S ++ L.take k) := by unfold Hid; rw [HS2.out, HK.out]; rfl
  rw [← HK.out, ← HER.out, ← HS2.out] at HPU
  rw [← HK.out, ← HER.out, ← HS2.out] at hpf
  rw [← HK.out] at hpn
  rw [← HK.out, ← HS2.out] at hpl
  have HPF := hid hpf
  have HO := hid ho
  have HS := hid hs
  have f1 : no ≤ 4096 := by have := HNO.out; omega
  have f2 : k ≤ ns := by have := HNS.out; omega
  have f3 : no + k ≤ m := by have := HNO.out; have := hpf.1; omega
  have f4 : m ≤ 4096 := hle.2
  have HLEN : Hid (S2.length = no + k) := by unfold Hid; have := HNO.out; omega
  clear h ho hs hle hpf hpn hpl HK HER HS2
  go_enter Try.func36, Try.ntmps36
  go_wp2_with fail
  refine HPU.out.mono ?_
  rintro _ w1 ⟨rfl, hp1, hk1⟩
  have HP1 := hid hp1
  have HO1 := hid (HO.out.keeps hk1 fun k e e2 => e2 e)
  have HS1 := hid (HS.out.keeps hk1 fun k e e2 => e2 e)
  have HLI := hid hp1.list
  clear HPU hp1 hk1 HO HS
  go_wp2_with fail
  refine HLI.out.mono ?_
  rintro _ w2 ⟨an, nn, cn, rfl, hb2, ⟨E, hfl, hem, -⟩, hnn⟩
  have hnn2 : nn = no + k := by rw [hnn]; exact HLEN.out
  subst hnn2
  have hn := hfl.sees
  rw [hem, HSE.out] at hn
  have ho2' := HO1.out.below hb2
  have hs2' := HS1.out.below hb2
  have HP2 := hid (HP1.out.below hb2)
  obtain ⟨xa, xn, xc, hcn, -, hcn1, hcn2⟩ : ∃ a n c, Value.slice an (no + k) cn = .slice a n c ∧ Hid (n = S2.length) ∧ n ≤ c ∧ c ≤ maxLen := by
    obtain ⟨a, n, c, e, e1, e2, e3⟩ := hn.shape
    exact ⟨a, n, c, e, by unfold Hid; rw [HSE.out]; exact e1.out, e2, e3⟩
  simp only [Value.slice.injEq] at hcn
  obtain ⟨-, rfl, rfl⟩ := hcn
  unfold maxLen at hcn2
  obtain ⟨a1, HA1, k1⟩ := hn.high no (no : Int) rfl (by omega)
  obtain ⟨a2, HA2, k2⟩ := hs2'.high k (k : Int) rfl f2
  obtain ⟨a3, HA3, k3⟩ := hn.low no (no : Int) rfl (by omega)
  rw [List.take_append_of_le_length (by have := HNO.out; omega), List.take_of_length_le (by have := HNO.out; omega)] at HA1
  rw [List.drop_append, List.drop_of_length_le (by have := HNO.out; omega), List.nil_append, show no - S.length = 0 by have := HNO.out; omega, List.drop_zero] at HA3
  obtain ⟨d, hd⟩ : ∃ d, d = no + k - no := ⟨_, rfl⟩
  rw [← hd] at HA3 k3
  obtain rfl : d = k := by omega
  obtain ⟨d2, HD2⟩ : ∃ d, Hid (d = cn - no) := ⟨_, rfl⟩
  rw [← HD2.out] at HA3 k3
  have H12 : ∀ (t : Beh w2) (x y : Value), (x = .slice ao no co ∧ y = .slice a1 no cn) ∨ (x = .slice a2 d cs ∧ y = .slice a3 d d2) → Hid (Calls Try.prog 19 #[x, y] t.wd fun e w' => e = .returned (.bool true) ∧ ∃ t' : Beh w2, w' = t'.wd) := fun t x y h => by
    rcases h with ⟨rfl, rfl⟩ | ⟨rfl, rfl⟩
    · exact Calls.beh (sents_any _ _ _ _ _ t.wd (ho2'.below t.ok) (HA1.out.below t.ok))
    · exact Calls.beh (sents_any _ _ _ _ _ t.wd (HA2.out.below t.ok) (HA3.out.below t.ok))
  have HSS := hid hs2'
  have g1 : decide ((d : Int) < 0) = false := by simp
  have g2 : decide ((ns : Int) < (d : Int)) = false := by simp; omega
  have g3 : (((no + d : Nat) : Int) == (no : Int) + (d : Int)) = true := by simp
  have g4 : decide ((m : Int) < ((no + d : Nat) : Int)) = false := by simp; omega
  clear HLI HP1 HO1 HS1 hb2 hfl hem hnn hn ho2' hs2' HA1 HA2 HA3 hd hcn1
  go_upto_region 5 with fail
  refine wp_region_beh (by kernel_rfl) (by kernel_rfl) ?_
  repeat (go_big_quiet_step ((go_at_call 19; refine (H12 _ _ _ ?_).out; first | exact .inl ⟨rfl, rfl⟩ | exact .inr ⟨rfl, rfl⟩)))
  refine wpQuiet_nil ?_
  rintro _ ⟨t, rfl⟩
  have HP3 := hid (HP2.out.below t.ok)
  have HSS3 := hid (HSS.out.below t.ok)
  generalize t.wd = w3 at *
  clear k1 k2 k3 H12 t HP2 HSS
  by_cases hk : d = ns
  · subst hk
    have he : er = 0 := HPF.out.2.1 HNS.out
    subst he
    go_wp2_with fail
    go_ret
    exact ⟨rfl, S2, HP3.out⟩
  · have hk2 : ((d : Int) == (ns : Int)) = false := by simp; omega
    obtain ⟨g, off, u, p, rfl, hg, c0, c1, c2, c3, HPP⟩ := HSS3.out.at d (by omega)
    obtain ⟨ua, un, uc, rfl, HUN, hu1, hu2⟩ := c2.shape
    unfold maxLen at hu2
    have hz := HPF.out.2.2 p HPP.out
    have b1 : (0 : Int) ≤ (d : Int) := by omega
    have b2 : (d : Int) < (ns : Int) := by omega
    by_cases hl : 65535 < un
    · have he : er = 2 := hz.1 (by have := HUN.out; omega)
      subst he
      have hl2 : (65535 : Int) < (un : Int) := by omega
      clear hz c2 hg c0 HUN
      go_wp2_with fail
      go_ret
      exact ⟨rfl, S2, HP3.out⟩
    · have he := hz.2 (by have := HUN.out; omega)
      obtain ⟨he, hm⟩ := he
      subst he
      have hl2 : ¬ (65535 : Int) < (un : Int) := by omega
      have hmm : (((no + d : Nat) : Int) == (m : Int)) = true := by have := HLEN.out; simp; omega
      clear hz c2 hg c0 HUN
      go_wp2_with fail
      go_ret
      refine ⟨ret_bool ?_, S2, HP3.out⟩
      have := HLEN.out
      simp; omega
end Go.Proofs.Ytaelfhjhinfikab
