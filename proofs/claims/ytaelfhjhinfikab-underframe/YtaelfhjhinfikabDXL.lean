/-
  UnderFrame: framed, Lose.
-/
import Derived.Test.YtaelfhjhinfikabDXB
namespace Go.Proofs.Ytaelfhjhinfikab
open Go.ChangeShapes Go.WideShapes Go.ChangeAt Go.RowKit Me N
set_option maxHeartbeats 8000000
set_option maxRecDepth 100000

theorem framed_lose (w0 w : World) (K : Nat → Prop) (pb m x : Nat) (S L : List Pk) (vs : Value) (kk i a : Int) (h : Pn w0 K w pb m S) (hv : SeesS K w vs L)  (hk : kk = 4) :
    Calls Try.prog 21 #[.pointer (some ⟨pb, 0, none⟩), .agg #[.int .i64 kk, vs, .int .i64 i, .int .i64 a, .int .u8 (x : Int)], .int .i64 (m : Int)] w fun e w' => e = .returned (.bool true) ∧ ∃ S', Pn w0 K w' pb m S' := by
  subst hk
  obtain ⟨va, vn, vc, rfl, HVN, hv1, hv2⟩ := hv.shape
  unfold maxLen at hv2
  have hle := h.le
  have HLI := hid (fr_list #[.int .i64 4, .slice va vn vc, .int .i64 i, .int .i64 a, .int .u8 (x : Int)] h hv)
  obtain ⟨w1, HW1⟩ : ∃ w1, Hid (w1 = w.alloc (.cells #[.int .i64 4, .slice va vn vc, .int .i64 i, .int .i64 a, .int .u8 (x : Int)] 35)) := ⟨_, rfl⟩
  obtain ⟨b, HB⟩ : ∃ b, Hid (b = w.heap.size) := ⟨_, rfl⟩
  rw [← HW1.out, ← HB.out] at HLI
  have HCO : Hid (∀ u : World, u.heap[b]? = some (.cells #[.int .i64 4, .slice va vn vc, .int .i64 i, .int .i64 a, .int .u8 (x : Int)] 35 (0, 0)) → u.cell? ⟨b, 0, none⟩ = some (.int .i64 4) ∧ u.cell? ⟨b, 1, none⟩ = some (.slice va vn vc) ∧ u.cell? ⟨b, 2, none⟩ = some (.int .i64 i) ∧ u.cell? ⟨b, 3, none⟩ = some (.int .i64 a) ∧ u.cell? ⟨b, 4, none⟩ = some (.int .u8 (x : Int))) := fun u hr => by
    refine ⟨?_, ?_, ?_, ?_, ?_⟩ <;> (rw [cell_of_row _ _ _ _ _ _ hr]; rfl)
  clear h hv
  go_enter Try.func21, Try.ntmps21
  go_upto_region 1 with fail
  rw [← HW1.out, ← HB.out]
  go_wp2_with fail
  refine HLI.out.mono ?_
  rintro _ w2 ⟨oa, n, oc, K1, E, rfl, hf2, hn⟩
  have HF2 := hid hf2
  have HN := hid hn
  obtain ⟨c0, c1, c2, c3, c4⟩ := HCO.out w2 hf2.rw
  have f1 : n ≤ 4096 := by omega
  obtain ⟨oa', n', oc', hoe, HON, ho1, ho2⟩ := hf2.old.shape
  simp only [Value.slice.injEq] at hoe
  obtain ⟨rfl, rfl, rfl⟩ := hoe
  unfold maxLen at ho2
  clear HLI hf2 hn
  cases hin : inR i S.length with
  | false =>
    rcases inR_false hin with hz | hz
    · have z0 : decide (0 ≤ i) = false := by simp; omega
      have t1 : tkE S i = 3 := by unfold tkE; rw [hin]; rfl
      have t2 : tkS S i = S := by unfold tkS; rw [hin]; rfl
      clear hin
      have HA := hid (HF2.out.pn.lose i)
      rw [t1, t2] at HA
      go_wp2_with fail
      refine HA.out.mono ?_
      rintro _ w3 ⟨rfl, hp3, hk3⟩
      have HF3 := hid (HF2.out.step hp3 hk3)
      have HL3 := hid hp3.list
      clear HA hp3 hk3 c0 c1 c2 c3 c4
      obtain ⟨c0, c1, c2, c3, c4⟩ := HCO.out w3 HF3.out.rw
      go_wp2_with fail
      refine HL3.out.mono ?_
      rintro _ w4 ⟨na, nn, nc, rfl, hb4, ⟨E4, hfl4, hem4, hge4⟩, hnn⟩
      have HF4 := hid (HF3.out.below hb4)
      have hnv := hfl4.sees.weak (K' := fun k => w3.heap.size ≤ k) fun k _ e => hge4 k e
      rw [hem4] at hnv
      have HNV := hid hnv
      have HNN := hid hnn
      clear HL3 hb4 hfl4 hem4 hge4 hnv hnn c0 c1 c2 c3 c4
      obtain ⟨c0, c1, c2, c3, c4⟩ := HCO.out w4 HF4.out.rw
      have HSN := hid (sents_any _ _ _ _ _ w4 HF4.out.old HNV.out)
      go_wp2_with fail
      refine HSN.out.mono ?_
      rintro _ w5 ⟨rfl, hb5⟩
      have HE := hid ((HF4.out.below hb5).done)
      clear HSN hb5
      go_wp2_with fail
      go_ret
      exact ⟨rfl, HE.out⟩
    · have z0 : decide (0 ≤ i) = true := by simp; omega
      have z1 : decide (i < (n : Int)) = false := by simp; have := HN.out; omega
      have t1 : tkE S i = 3 := by unfold tkE; rw [hin]; rfl
      have t2 : tkS S i = S := by unfold tkS; rw [hin]; rfl
      clear hin
      have HA := hid (HF2.out.pn.lose i)
      rw [t1, t2] at HA
      go_wp2_with fail
      refine HA.out.mono ?_
      rintro _ w3 ⟨rfl, hp3, hk3⟩
      have HF3 := hid (HF2.out.step hp3 hk3)
      have HL3 := hid hp3.list
      clear HA hp3 hk3 c0 c1 c2 c3 c4
      obtain ⟨c0, c1, c2, c3, c4⟩ := HCO.out w3 HF3.out.rw
      go_wp2_with fail
      refine HL3.out.mono ?_
      rintro _ w4 ⟨na, nn, nc, rfl, hb4, ⟨E4, hfl4, hem4, hge4⟩, hnn⟩
      have HF4 := hid (HF3.out.below hb4)
      have hnv := hfl4.sees.weak (K' := fun k => w3.heap.size ≤ k) fun k _ e => hge4 k e
      rw [hem4] at hnv
      have HNV := hid hnv
      have HNN := hid hnn
      clear HL3 hb4 hfl4 hem4 hge4 hnv hnn c0 c1 c2 c3 c4
      obtain ⟨c0, c1, c2, c3, c4⟩ := HCO.out w4 HF4.out.rw
      have HSN := hid (sents_any _ _ _ _ _ w4 HF4.out.old HNV.out)
      go_wp2_with fail
      refine HSN.out.mono ?_
      rintro _ w5 ⟨rfl, hb5⟩
      have HE := hid ((HF4.out.below hb5).done)
      clear HSN hb5
      go_wp2_with fail
      go_ret
      exact ⟨rfl, HE.out⟩
  | true =>
    obtain ⟨r, rfl, hr⟩ := inR_true hin
    have HRL := hid hr
    have hrn : r < n := by have := HN.out; omega
    have z0 : decide ((0 : Int) ≤ (r : Int)) = true := by simp
    have z1 : decide ((r : Int) < (n : Int)) = true := by simp; omega
    have t1 : tkE S (r : Int) = 0 := by unfold tkE; rw [hin]; rfl
    have t2 : tkS S (r : Int) = S.eraseIdx r := by unfold tkS; rw [hin, if_pos rfl, Int.toNat_natCast]
    clear hin
    have HA := hid (HF2.out.pn.lose (r : Int))
    rw [t1, t2] at HA
    go_wp2_with fail
    refine HA.out.mono ?_
    rintro _ w3 ⟨rfl, hp3, hk3⟩
    have HF3 := hid (HF2.out.step hp3 hk3)
    have HL3 := hid hp3.list
    clear HA hp3 hk3 c0 c1 c2 c3 c4
    obtain ⟨c0, c1, c2, c3, c4⟩ := HCO.out w3 HF3.out.rw
    go_wp2_with fail
    refine HL3.out.mono ?_
    rintro _ w4 ⟨na, nn, nc, rfl, hb4, ⟨E4, hfl4, hem4, hge4⟩, hnn⟩
    have HF4 := hid (HF3.out.below hb4)
    have hnv := hfl4.sees.weak (K' := fun k => w3.heap.size ≤ k) fun k _ e => hge4 k e
    rw [hem4] at hnv
    have HNV := hid hnv
    have HNN := hid hnn
    clear HL3 hb4 hfl4 hem4 hge4 hnv hnn c0 c1 c2 c3 c4
    obtain ⟨c0, c1, c2, c3, c4⟩ := HCO.out w4 HF4.out.rw
    have HSN := hid (gone_any w4 _ _ _ _ S r HF4.out.old HNV.out HRL.out)
    go_wp2_with fail
    refine HSN.out.mono ?_
    rintro _ w5 ⟨rfl, hb5⟩
    have HE := hid ((HF4.out.below hb5).done)
    clear HSN hb5
    go_wp2_with fail
    go_ret
    exact ⟨rfl, HE.out⟩
end Go.Proofs.Ytaelfhjhinfikab
