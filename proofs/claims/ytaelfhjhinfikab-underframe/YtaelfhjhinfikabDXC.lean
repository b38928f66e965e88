/-
  UnderFrame: framed, Copy.
-/
import Derived.Test.YtaelfhjhinfikabDXB
namespace Go.Proofs.Ytaelfhjhinfikab
open Go.ChangeShapes Go.WideShapes Go.ChangeAt Go.RowKit Me N
set_option maxHeartbeats 8000000
set_option maxRecDepth 100000

theorem framed_copy (w0 w : World) (K : Nat → Prop) (pb m x : Nat) (S L : List Pk) (vs : Value) (kk i a : Int) (h : Pn w0 K w pb m S) (hv : SeesS K w vs L)  (hk : kk = 3) :
    Calls Try.prog 21 #[.pointer (some ⟨pb, 0, none⟩), .agg #[.int .i64 kk, vs, .int .i64 i, .int .i64 a, .int .u8 (x : Int)], .int .i64 (m : Int)] w fun e w' => e = .returned (.bool true) ∧ ∃ S', Pn w0 K w' pb m S' := by
  subst hk
  obtain ⟨va, vn, vc, rfl, HVN, hv1, hv2⟩ := hv.shape
  unfold maxLen at hv2
  have hle := h.le
  have HLI := hid (fr_list #[.int .i64 3, .slice va vn vc, .int .i64 i, .int .i64 a, .int .u8 (x : Int)] h hv)
  obtain ⟨w1, HW1⟩ : ∃ w1, Hid (w1 = w.alloc (.cells #[.int .i64 3, .slice va vn vc, .int .i64 i, .int .i64 a, .int .u8 (x : Int)] 35)) := ⟨_, rfl⟩
  obtain ⟨b, HB⟩ : ∃ b, Hid (b = w.heap.size) := ⟨_, rfl⟩
  rw [← HW1.out, ← HB.out] at HLI
  have HCO : Hid (∀ u : World, u.heap[b]? = some (.cells #[.int .i64 3, .slice va vn vc, .int .i64 i, .int .i64 a, .int .u8 (x : Int)] 35 (0, 0)) → u.cell? ⟨b, 0, none⟩ = some (.int .i64 3) ∧ u.cell? ⟨b, 1, none⟩ = some (.slice va vn vc) ∧ u.cell? ⟨b, 2, none⟩ = some (.int .i64 i) ∧ u.cell? ⟨b, 3, none⟩ = some (.int .i64 a) ∧ u.cell? ⟨b, 4, none⟩ = some (.int .u8 (x : Int))) := fun u hr => by
    refine ⟨?_, ?_, ?_, ?_, ?_⟩ <;> (rw [cell_of_row _ _ _ _ _ _ hr]; rfl)
  clear h hv
  go_enter Try.func21, Try.ntmps21
  go_upto_region 1 with fail
  rw [← HW1.out, ← HB.out]
  go_wp2_with fail
  refine HLI.out.mono ?_
  rintro _ w2 ⟨oa, n, oc, K1, E, rfl, hf2, hn⟩
  have HF2 := hid hf2
  have HN := hid hn
  obtain ⟨c0, c1, c2, c3, c4⟩ := HCO.out w2 hf2.rw
  have f1 : n ≤ 4096 := by omega
  obtain ⟨oa', n', oc', hoe, HON, ho1, ho2⟩ := hf2.old.shape
  simp only [Value.slice.injEq] at hoe
  obtain ⟨rfl, rfl, rfl⟩ := hoe
  unfold maxLen at ho2
  clear HLI hf2 hn
  cases hin : inR i S.length with
  | false =>
    rcases inR_false hin with hz | hz
    · have z0 : decide (0 ≤ i) = false := by simp; omega
      have t1 : coE m S i = 3 := by unfold coE; rw [hin]; rfl
      have t2 : coS m S i = S := by unfold coS; rw [t1]; rfl
      clear hin
      have HA := hid (HF2.out.pn.copy i)
      rw [t1, t2] at HA
      go_wp2_with fail
      refine HA.out.mono ?_
      rintro _ w3 ⟨rfl, hp3, hk3⟩
      have HF3 := hid (HF2.out.step hp3 hk3)
      have HL3 := hid hp3.list
      clear HA hp3 hk3 c0 c1 c2 c3 c4
      obtain ⟨c0, c1, c2, c3, c4⟩ := HCO.out w3 HF3.out.rw
      go_wp2_with fail
      refine HL3.out.mono ?_
      rintro _ w4 ⟨na, nn, nc, rfl, hb4, ⟨E4, hfl4, hem4, hge4⟩, hnn⟩
      have HF4 := hid (HF3.out.below hb4)
      have hnv := hfl4.sees.weak (K' := fun k => w3.heap.size ≤ k) fun k _ e => hge4 k e
      rw [hem4] at hnv
      have HNV := hid hnv
      have HNN := hid hnn
      clear HL3 hb4 hfl4 hem4 hge4 hnv hnn c0 c1 c2 c3 c4
      obtain ⟨c0, c1, c2, c3, c4⟩ := HCO.out w4 HF4.out.rw
      have HSN := hid (sents_any _ _ _ _ _ w4 HF4.out.old HNV.out)
      go_wp2_with fail
      refine HSN.out.mono ?_
      rintro _ w5 ⟨rfl, hb5⟩
      have HE := hid ((HF4.out.below hb5).done)
      clear HSN hb5
      go_wp2_with fail
      go_ret
      exact ⟨rfl, HE.out⟩
    · have z0 : decide (0 ≤ i) = true := by simp; omega
      have z1 : decide (i < (n : Int)) = false := by simp; have := HN.out; omega
      have t1 : coE m S i = 3 := by unfold coE; rw [hin]; rfl
      have t2 : coS m S i = S := by unfold coS; rw [t1]; rfl
      clear hin
      have HA := hid (HF2.out.pn.copy i)
      rw [t1, t2] at HA
      go_wp2_with fail
      refine HA.out.mono ?_
      rintro _ w3 ⟨rfl, hp3, hk3⟩
      have HF3 := hid (HF2.out.step hp3 hk3)
      have HL3 := hid hp3.list
      clear HA hp3 hk3 c0 c1 c2 c3 c4
      obtain ⟨c0, c1, c2, c3, c4⟩ := HCO.out w3 HF3.out.rw
      go_wp2_with fail
      refine HL3.out.mono ?_
      rintro _ w4 ⟨na, nn, nc, rfl, hb4, ⟨E4, hfl4, hem4, hge4⟩, hnn⟩
      have HF4 := hid (HF3.out.below hb4)
      have hnv := hfl4.sees.weak (K' := fun k => w3.heap.size ≤ k) fun k _ e => hge4 k e
      rw [hem4] at hnv
      have HNV := hid hnv
      have HNN := hid hnn
      clear HL3 hb4 hfl4 hem4 hge4 hnv hnn c0 c1 c2 c3 c4
      obtain ⟨c0, c1, c2, c3, c4⟩ := HCO.out w4 HF4.out.rw
      have HSN := hid (sents_any _ _ _ _ _ w4 HF4.out.old HNV.out)
      go_wp2_with fail
      refine HSN.out.mono ?_
      rintro _ w5 ⟨rfl, hb5⟩
      have HE := hid ((HF4.out.below hb5).done)
      clear HSN hb5
      go_wp2_with fail
      go_ret
      exact ⟨rfl, HE.out⟩
  | true =>
    obtain ⟨r, rfl, hr⟩ := inR_true hin
    have HRL := hid hr
    have hrn : r < n := by have := HN.out; omega
    have z0 : decide ((0 : Int) ≤ (r : Int)) = true := by simp
    have z1 : decide ((r : Int) < (n : Int)) = true := by simp; omega
    by_cases hfu : m ≤ n
    · have t1 : coE m S (r : Int) = 4 := by unfold coE; rw [hin, if_pos rfl, if_pos (by have := HN.out; omega)]
      have t2 : coS m S (r : Int) = S := by unfold coS; rw [t1]; rfl
      have z2 : decide ((m : Int) ≤ (n : Int)) = true := by simp; omega
      clear hin
      have HA := hid (HF2.out.pn.copy (r : Int))
      rw [t1, t2] at HA
      go_wp2_with fail
      refine HA.out.mono ?_
      rintro _ w3 ⟨rfl, hp3, hk3⟩
      have HF3 := hid (HF2.out.step hp3 hk3)
      have HL3 := hid hp3.list
      clear HA hp3 hk3 c0 c1 c2 c3 c4
      obtain ⟨c0, c1, c2, c3, c4⟩ := HCO.out w3 HF3.out.rw
      go_wp2_with fail
      refine HL3.out.mono ?_
      rintro _ w4 ⟨na, nn, nc, rfl, hb4, ⟨E4, hfl4, hem4, hge4⟩, hnn⟩
      have HF4 := hid (HF3.out.below hb4)
      have hnv := hfl4.sees.weak (K' := fun k => w3.heap.size ≤ k) fun k _ e => hge4 k e
      rw [hem4] at hnv
      have HNV := hid hnv
      have HNN := hid hnn
      clear HL3 hb4 hfl4 hem4 hge4 hnv hnn c0 c1 c2 c3 c4
      obtain ⟨c0, c1, c2, c3, c4⟩ := HCO.out w4 HF4.out.rw
      have HSN := hid (sents_any _ _ _ _ _ w4 HF4.out.old HNV.out)
      go_wp2_with fail
      refine HSN.out.mono ?_
      rintro _ w5 ⟨rfl, hb5⟩
      have HE := hid ((HF4.out.below hb5).done)
      clear HSN hb5
      go_wp2_with fail
      go_ret
      exact ⟨rfl, HE.out⟩
    · obtain ⟨p, HPX⟩ : ∃ p, Hid (S[r]? = some p) := ⟨_, hid (List.getElem?_eq_getElem hr)⟩
      obtain ⟨t1, t2⟩ := co_do (m := m) HPX.out (by have := HN.out; omega)
      have z2 : decide ((m : Int) ≤ (n : Int)) = false := by simp; omega
      clear hin
      have HA := hid (HF2.out.pn.copy (r : Int))
      rw [t1, t2] at HA
      go_wp2_with fail
      refine HA.out.mono ?_
      rintro _ w3 ⟨rfl, hp3, hk3⟩
      have HF3 := hid (HF2.out.step hp3 hk3)
      have HL3 := hid hp3.list
      clear HA hp3 hk3 c0 c1 c2 c3 c4
      obtain ⟨c0, c1, c2, c3, c4⟩ := HCO.out w3 HF3.out.rw
      go_wp2_with fail
      refine HL3.out.mono ?_
      rintro _ w4 ⟨na, nn, nc, rfl, hb4, ⟨E4, hfl4, hem4, hge4⟩, hnn⟩
      have HF4 := hid (HF3.out.below hb4)
      have hnv := hfl4.sees.weak (K' := fun k => w3.heap.size ≤ k) fun k _ e => hge4 k e
      rw [hem4] at hnv
      have HNV := hid hnv
      have HNN := hid hnn
      clear HL3 hb4 hfl4 hem4 hge4 hnv hnn c0 c1 c2 c3 c4
      obtain ⟨c0, c1, c2, c3, c4⟩ := HCO.out w4 HF4.out.rw
      have hlen : nn = n + 1 := by rw [HNN.out, List.length_append, HN.out]; rfl
      subst hlen
      obtain ⟨xa, xn, xc, hcn, -, hcn1, hcn2⟩ := HNV.out.shape
      simp only [Value.slice.injEq] at hcn
      obtain ⟨rfl, rfl, rfl⟩ := hcn
      unfold maxLen at hcn2
      obtain ⟨a1, HA1, k1⟩ := HNV.out.high n (n : Int) rfl (by omega)
      obtain ⟨a2, HA2, k2⟩ := HNV.out.low n (n : Int) rfl (by omega)
      obtain ⟨a3, HA3, k3⟩ := HF4.out.old.mid r (r + 1) (r : Int) ((r : Int) + 1) rfl (by omega) (by omega) hrn
      have hsp : (S.take (r + 1)).drop r = [p] := by
        rw [take_snoc HPX.out, List.drop_append_of_le_length (by rw [List.length_take]; have := HRL.out; omega), List.drop_of_length_le (by rw [List.length_take]; omega)]; rfl
      rw [hsp] at HA3
      rw [List.take_append_of_le_length (by have := HN.out; omega), List.take_of_length_le (by have := HN.out; omega)] at HA1
      rw [List.drop_append, List.drop_of_length_le (by have := HN.out; omega), List.nil_append, show n - S.length = 0 by have := HN.out; omega, List.drop_zero] at HA2
      rw [show n + 1 - n = 1 by omega] at HA2 k2
      rw [show r + 1 - r = 1 by omega] at HA3 k3
      obtain ⟨d2, HD2⟩ : ∃ d, Hid (d = nc - n) := ⟨_, rfl⟩
      rw [← HD2.out] at HA2 k2
      obtain ⟨d3, HD3⟩ : ∃ d, Hid (d = oc - r) := ⟨_, rfl⟩
      rw [← HD3.out] at HA3 k3
      have H12 : ∀ (t : Beh w4) (x y : Value), (x = .slice oa n oc ∧ y = .slice a1 n nc) ∨ (x = .slice a2 1 d2 ∧ y = .slice a3 1 d3) → Hid (Calls Try.prog 19 #[x, y] t.wd fun e w' => e = .returned (.bool true) ∧ ∃ t' : Beh w4, w' = t'.wd) := fun t x y h => by
        rcases h with ⟨rfl, rfl⟩ | ⟨rfl, rfl⟩
        · exact Calls.beh (sents_any _ _ _ _ _ t.wd (HF4.out.old.below t.ok) (HA1.out.below t.ok))
        · exact Calls.beh (sents_any _ _ _ _ _ t.wd (HA2.out.below t.ok) (HA3.out.below t.ok))
      have hbl : b < w4.heap.size := (Array.getElem?_eq_some_iff.1 HF4.out.rw).1
      have y2 : ∀ t : Beh w4, t.wd.cell? ⟨b, 2, none⟩ = some (.int .i64 (r : Int)) := fun t => (t.ok.cell (p := ⟨b, _, none⟩) hbl).trans c2
      have g1 : (((n + 1 : Nat) : Int) == (n : Int) + 1) = true := by simp
      have g2 : (r : Int) ≤ 4095 := by omega
      clear HA1 HA2 HA3 hsp hcn1 hbl c0 c1 c2 c3 c4
      go_upto_region 23 with fail
      refine wp_region_beh (by kernel_rfl) (by kernel_rfl) ?_
      repeat (go_big_quiet_step ((go_at_call 19; refine (H12 _ _ _ ?_).out; first | exact .inl ⟨rfl, rfl⟩ | exact .inr ⟨rfl, rfl⟩)))
      refine wpQuiet_nil ?_
      rintro _ ⟨t, rfl⟩
      have HE := hid ((HF4.out.below t.ok).done)
      clear y2 k1 k2 k3 H12
      go_wp2_with fail
      go_ret
      exact ⟨rfl, HE.out⟩
end Go.Proofs.Ytaelfhjhinfikab
