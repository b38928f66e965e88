/-
  UnderFrame: framed, Spoil.
-/
import Derived.Test.YtaelfhjhinfikabDXM
namespace Go.Proofs.Ytaelfhjhinfikab
open Go.ChangeShapes Go.WideShapes Go.ChangeAt Go.RowKit Me N
set_option maxHeartbeats 8000000
set_option maxRecDepth 100000

theorem framed_spoil (w0 w : World) (K : Nat → Prop) (pb m x : Nat) (S L : List Pk) (vs : Value) (kk i a : Int) (h : Pn w0 K w pb m S) (hv : SeesS K w vs L) (hx : x < 256) (hk : kk = 5) :
    Calls Try.prog 21 #[.pointer (some ⟨pb, 0, none⟩), .agg #[.int .i64 kk, vs, .int .i64 i, .int .i64 a, .int .u8 (x : Int)], .int .i64 (m : Int)] w fun e w' => e = .returned (.bool true) ∧ ∃ S', Pn w0 K w' pb m S' := by
  subst hk
  obtain ⟨va, vn, vc, rfl, HVN, hv1, hv2⟩ := hv.shape
  unfold maxLen at hv2
  have hle := h.le
  have HLI := hid (fr_list #[.int .i64 5, .slice va vn vc, .int .i64 i, .int .i64 a, .int .u8 (x : Int)] h hv)
  obtain ⟨w1, HW1⟩ : ∃ w1, Hid (w1 = w.alloc (.cells #[.int .i64 5, .slice va vn vc, .int .i64 i, .int .i64 a, .int .u8 (x : Int)] 35)) := ⟨_, rfl⟩
  obtain ⟨b, HB⟩ : ∃ b, Hid (b = w.heap.size) := ⟨_, rfl⟩
  rw [← HW1.out, ← HB.out] at HLI
  have HCO : Hid (∀ u : World, u.heap[b]? = some (.cells #[.int .i64 5, .slice va vn vc, .int .i64 i, .int .i64 a, .int .u8 (x : Int)] 35 (0, 0)) → u.cell? ⟨b, 0, none⟩ = some (.int .i64 5) ∧ u.cell? ⟨b, 1, none⟩ = some (.slice va vn vc) ∧ u.cell? ⟨b, 2, none⟩ = some (.int .i64 i) ∧ u.cell? ⟨b, 3, none⟩ = some (.int .i64 a) ∧ u.cell? ⟨b, 4, none⟩ = some (.int .u8 (x : Int))) := fun u hr => by
    refine ⟨?_, ?_, ?_, ?_, ?_⟩ <;> (rw [cell_of_row _ _ _ _ _ _ hr]; rfl)
  clear h hv
  go_enter Try.func21, Try.ntmps21
  go_upto_region 1 with fail
  rw [← HW1.out, ← HB.out]
  go_wp2_with fail
  refine HLI.out.mono ?_
  rintro _ w2 ⟨oa, n, oc, K1, E, rfl, hf2, hn⟩
  have HF2 := hid hf2
  have HN := hid hn
  obtain ⟨c0, c1, c2, c3, c4⟩ := HCO.out w2 hf2.rw
  have f1 : n ≤ 4096 := by omega
  obtain ⟨oa', n', oc', hoe, HON, ho1, ho2⟩ := hf2.old.shape
  simp only [Value.slice.injEq] at hoe
  obtain ⟨rfl, rfl, rfl⟩ := hoe
  unfold maxLen at ho2
  clear HLI hf2 hn
  cases hin : inR i S.length with
  | false =>
    rcases inR_false hin with hz | hz
    · have z0 : decide (0 ≤ i) = false := by simp; omega
      have t1 : spE S i a x = 3 := by unfold spE; rw [hin]; rfl
      have t2 : spS S i a x = S := by unfold spS; rw [t1]; rfl
      clear hin
      have HA := hid (HF2.out.pn.spoil i a hx)
      rw [t1, t2] at HA
      go_wp2_with fail
      refine HA.out.mono ?_
      rintro _ w3 ⟨rfl, hp3, hk3⟩
      have HF3 := hid (HF2.out.step hp3 hk3)
      have HL3 := hid hp3.list
      clear HA hp3 hk3 c0 c1 c2 c3 c4
      obtain ⟨c0, c1, c2, c3, c4⟩ := HCO.out w3 HF3.out.rw
      go_wp2_with fail
      refine HL3.out.mono ?_
      rintro _ w4 ⟨na, nn, nc, rfl, hb4, ⟨E4, hfl4, hem4, hge4⟩, hnn⟩
      have HF4 := hid (HF3.out.below hb4)
      have hnv := hfl4.sees.weak (K' := fun k => w3.heap.size ≤ k) fun k _ e => hge4 k e
      rw [hem4] at hnv
      have HNV := hid hnv
      have HNN := hid hnn
      clear HL3 hb4 hfl4 hem4 hge4 hnv hnn c0 c1 c2 c3 c4
      obtain ⟨c0, c1, c2, c3, c4⟩ := HCO.out w4 HF4.out.rw
      have HSN := hid (sents_any _ _ _ _ _ w4 HF4.out.old HNV.out)
      go_wp2_with fail
      refine HSN.out.mono ?_
      rintro _ w5 ⟨rfl, hb5⟩
      have HE := hid ((HF4.out.below hb5).done)
      clear HSN hb5
      go_wp2_with fail
      go_ret
      exact ⟨rfl, HE.out⟩
    · have z0 : decide (0 ≤ i) = true := by simp; omega
      have z1 : decide (i < (n : Int)) = false := by simp; have := HN.out; omega
      have t1 : spE S i a x = 3 := by unfold spE; rw [hin]; rfl
      have t2 : spS S i a x = S := by unfold spS; rw [t1]; rfl
      clear hin
      have HA := hid (HF2.out.pn.spoil i a hx)
      rw [t1, t2] at HA
      go_wp2_with fail
      refine HA.out.mono ?_
      rintro _ w3 ⟨rfl, hp3, hk3⟩
      have HF3 := hid (HF2.out.step hp3 hk3)
      have HL3 := hid hp3.list
      clear HA hp3 hk3 c0 c1 c2 c3 c4
      obtain ⟨c0, c1, c2, c3, c4⟩ := HCO.out w3 HF3.out.rw
      go_wp2_with fail
      refine HL3.out.mono ?_
      rintro _ w4 ⟨na, nn, nc, rfl, hb4, ⟨E4, hfl4, hem4, hge4⟩, hnn⟩
      have HF4 := hid (HF3.out.below hb4)
      have hnv := hfl4.sees.weak (K' := fun k => w3.heap.size ≤ k) fun k _ e => hge4 k e
      rw [hem4] at hnv
      have HNV := hid hnv
      have HNN := hid hnn
      clear HL3 hb4 hfl4 hem4 hge4 hnv hnn c0 c1 c2 c3 c4
      obtain ⟨c0, c1, c2, c3, c4⟩ := HCO.out w4 HF4.out.rw
      have HSN := hid (sents_any _ _ _ _ _ w4 HF4.out.old HNV.out)
      go_wp2_with fail
      refine HSN.out.mono ?_
      rintro _ w5 ⟨rfl, hb5⟩
      have HE := hid ((HF4.out.below hb5).done)
      clear HSN hb5
      go_wp2_with fail
      go_ret
      exact ⟨rfl, HE.out⟩
  | true =>
    obtain ⟨r, rfl, hr⟩ := inR_true hin
    have HRL := hid hr
    have hrn : r < n := by have := HN.out; omega
    have z0 : decide ((0 : Int) ≤ (r : Int)) = true := by simp
    have z1 : decide ((r : Int) < (n : Int)) = true := by simp; omega
    have hlE : E.length = S.length := by rw [← HF2.out.em, List.length_map]
    obtain ⟨e, he⟩ : ∃ e, E[r]? = some e := ⟨_, List.getElem?_eq_getElem (by omega)⟩
    obtain ⟨ea, eb, eu⟩ := e
    have hsr : S[r]? = some ⟨ea, eb⟩ := by rw [← HF2.out.em, List.getElem?_map, he]; rfl
    have hmem := List.mem_of_getElem? he
    have hown := HF2.out.fl.own _ hmem
    have hok := HF2.out.fl.ok _ hmem
    simp only at hown hok
    obtain ⟨ua, un, uc, rfl, HUN, hu1, hu2⟩ := hown.shape
    unfold maxLen at hu2
    obtain ⟨g, rfl, -, -⟩ := HF2.out.fl.at he
    have HEX := hid he
    have HOK := hid hok
    have hpk : S.getD r ⟨0, []⟩ = ⟨ea, eb⟩ := by rw [List.getD_eq_getElem?_getD, hsr]; rfl
    have hspe : spE S (r : Int) a x = if inR a eb.length && decide (x ≠ 0) then 0 else 1 := by
      unfold spE; rw [hin, Int.toNat_natCast, hpk]; rfl
    have hrI : (r : Int) < (n : Int) := by omega
    have hr0 : (0 : Int) ≤ (r : Int) := by omega
    cases ha : (inR a eb.length && decide (x ≠ 0)) with
    | false =>
      have t1 : spE S (r : Int) a x = 1 := by rw [hspe, ha]; rfl
      have t2 : spS S (r : Int) a x = S := by unfold spS; rw [t1]; rfl
      have hcs : a < 0 ∨ (¬ a < 0 ∧ (un : Int) ≤ a) ∨ (¬ a < 0 ∧ ¬ (un : Int) ≤ a ∧ x = 0) := by
        rw [Bool.and_eq_false_iff] at ha
        rcases ha with ha | ha
        · rcases inR_false ha with h | h
          · exact .inl h
          · by_cases h0 : a < 0
            · exact .inl h0
            · exact .inr (.inl ⟨h0, by have := HUN.out; omega⟩)
        · by_cases h0 : a < 0
          · exact .inl h0
          · by_cases h1 : (un : Int) ≤ a
            · exact .inr (.inl ⟨h0, h1⟩)
            · exact .inr (.inr ⟨h0, h1, by simpa using ha⟩)
      clear hin hlE he hsr hmem hown hok hpk hspe ha
      rcases hcs with h0 | ⟨h0, h1⟩ | ⟨h0, h1, rfl⟩
      · have q0 : decide (a < 0) = true := by simpa using h0
        have HA := hid (HF2.out.pn.spoil (r : Int) a hx)
        rw [t1, t2] at HA
        go_wp2_with fail
        refine HA.out.mono ?_
        rintro _ w3 ⟨rfl, hp3, hk3⟩
        have HF3 := hid (HF2.out.step hp3 hk3)
        have HL3 := hid hp3.list
        clear HA hp3 hk3 c0 c1 c2 c3 c4
        obtain ⟨c0, c1, c2, c3, c4⟩ := HCO.out w3 HF3.out.rw
        go_wp2_with fail
        refine HL3.out.mono ?_
        rintro _ w4 ⟨na, nn, nc, rfl, hb4, ⟨E4, hfl4, hem4, hge4⟩, hnn⟩
        have HF4 := hid (HF3.out.below hb4)
        have hnv := hfl4.sees.weak (K' := fun k => w3.heap.size ≤ k) fun k _ e => hge4 k e
        rw [hem4] at hnv
        have HNV := hid hnv
        have HNN := hid hnn
        clear HL3 hb4 hfl4 hem4 hge4 hnv hnn c0 c1 c2 c3 c4
        obtain ⟨c0, c1, c2, c3, c4⟩ := HCO.out w4 HF4.out.rw
        have hbl : b < w4.heap.size := (Array.getElem?_eq_some_iff.1 HF4.out.rw).1
        have y2 : ∀ t : Beh w4, t.wd.cell? ⟨b, 2, none⟩ = some (.int .i64 (r : Int)) := fun t => (t.ok.cell (p := ⟨b, _, none⟩) hbl).trans c2
        have y3 : ∀ t : Beh w4, t.wd.cell? ⟨b, 3, none⟩ = some (.int .i64 a) := fun t => (t.ok.cell (p := ⟨b, _, none⟩) hbl).trans c3
        have y4 : ∀ t : Beh w4, t.wd.cell? ⟨b, 4, none⟩ = some (.int .u8 (x : Int)) := fun t => (t.ok.cell (p := ⟨b, _, none⟩) hbl).trans c4
        have yd : ∀ t : Beh w4, t.wd.cell? ⟨g, r * 2 + 1, none⟩ = some (.slice ua un uc) := fun t => by
          obtain ⟨g', e, -, hc⟩ := (HF4.out.below t.ok).fl.at HEX.out
          simp only [Option.some.injEq, Addr.mk.injEq, and_true] at e
          subst e
          exact (hc _ rfl).2.1
        clear c0 c1 c2 c3 c4 hbl
        go_upto_region 29 with fail
        refine wp_region_beh (by kernel_rfl) (by kernel_rfl) ?_
        repeat (go_big_quiet_step (fail))
        refine wpQuiet_nil ?_
        rintro _ ⟨t, rfl⟩
        have HF5 := hid (HF4.out.below t.ok)
        have HNV5 := hid (HNV.out.below t.ok)
        generalize t.wd = w5 at *
        clear y2 y3 y4 yd t
        have HSN := hid (sents_any _ _ _ _ _ w5 HF5.out.old HNV5.out)
        go_wp2_with fail
        refine HSN.out.mono ?_
        rintro _ w6 ⟨rfl, hb5⟩
        have HE := hid ((HF5.out.below hb5).done)
        clear HSN hb5
        go_wp2_with fail
        go_ret
        exact ⟨rfl, HE.out⟩
      · have q0 : decide (a < 0) = false := by simpa using h0
        have q1 : decide ((un : Int) ≤ a) = true := by simpa using h1
        have HA := hid (HF2.out.pn.spoil (r : Int) a hx)
        rw [t1, t2] at HA
        go_wp2_with fail
        refine HA.out.mono ?_
        rintro _ w3 ⟨rfl, hp3, hk3⟩
        have HF3 := hid (HF2.out.step hp3 hk3)
        have HL3 := hid hp3.list
        clear HA hp3 hk3 c0 c1 c2 c3 c4
        obtain ⟨c0, c1, c2, c3, c4⟩ := HCO.out w3 HF3.out.rw
        go_wp2_with fail
        refine HL3.out.mono ?_
        rintro _ w4 ⟨na, nn, nc, rfl, hb4, ⟨E4, hfl4, hem4, hge4⟩, hnn⟩
        have HF4 := hid (HF3.out.below hb4)
        have hnv := hfl4.sees.weak (K' := fun k => w3.heap.size ≤ k) fun k _ e => hge4 k e
        rw [hem4] at hnv
        have HNV := hid hnv
        have HNN := hid hnn
        clear HL3 hb4 hfl4 hem4 hge4 hnv hnn c0 c1 c2 c3 c4
        obtain ⟨c0, c1, c2, c3, c4⟩ := HCO.out w4 HF4.out.rw
        have hbl : b < w4.heap.size := (Array.getElem?_eq_some_iff.1 HF4.out.rw).1
        have y2 : ∀ t : Beh w4, t.wd.cell? ⟨b, 2, none⟩ = some (.int .i64 (r : Int)) := fun t => (t.ok.cell (p := ⟨b, _, none⟩) hbl).trans c2
        have y3 : ∀ t : Beh w4, t.wd.cell? ⟨b, 3, none⟩ = some (.int .i64 a) := fun t => (t.ok.cell (p := ⟨b, _, none⟩) hbl).trans c3
        have y4 : ∀ t : Beh w4, t.wd.cell? ⟨b, 4, none⟩ = some (.int .u8 (x : Int)) := fun t => (t.ok.cell (p := ⟨b, _, none⟩) hbl).trans c4
        have yd : ∀ t : Beh w4, t.wd.cell? ⟨g, r * 2 + 1, none⟩ = some (.slice ua un uc) := fun t => by
          obtain ⟨g', e, -, hc⟩ := (HF4.out.below t.ok).fl.at HEX.out
          simp only [Option.some.injEq, Addr.mk.injEq, and_true] at e
          subst e
          exact (hc _ rfl).2.1
        clear c0 c1 c2 c3 c4 hbl
        go_upto_region 29 with fail
        refine wp_region_beh (by kernel_rfl) (by kernel_rfl) ?_
        repeat (go_big_quiet_step (fail))
        refine wpQuiet_nil ?_
        rintro _ ⟨t, rfl⟩
        have HF5 := hid (HF4.out.below t.ok)
        have HNV5 := hid (HNV.out.below t.ok)
        generalize t.wd = w5 at *
        clear y2 y3 y4 yd t
        have HSN := hid (sents_any _ _ _ _ _ w5 HF5.out.old HNV5.out)
        go_wp2_with fail
        refine HSN.out.mono ?_
        rintro _ w6 ⟨rfl, hb5⟩
        have HE := hid ((HF5.out.below hb5).done)
        clear HSN hb5
        go_wp2_with fail
        go_ret
        exact ⟨rfl, HE.out⟩
      · have q0 : decide (a < 0) = false := by simpa using h0
        have q1 : decide ((un : Int) ≤ a) = false := by simpa using h1
        have HA := hid (HF2.out.pn.spoil (r : Int) a hx)
        rw [t1, t2] at HA
        go_wp2_with fail
        refine HA.out.mono ?_
        rintro _ w3 ⟨rfl, hp3, hk3⟩
        have HF3 := hid (HF2.out.step hp3 hk3)
        have HL3 := hid hp3.list
        clear HA hp3 hk3 c0 c1 c2 c3 c4
        obtain ⟨c0, c1, c2, c3, c4⟩ := HCO.out w3 HF3.out.rw
        go_wp2_with fail
        refine HL3.out.mono ?_
        rintro _ w4 ⟨na, nn, nc, rfl, hb4, ⟨E4, hfl4, hem4, hge4⟩, hnn⟩
        have HF4 := hid (HF3.out.below hb4)
        have hnv := hfl4.sees.weak (K' := fun k => w3.heap.size ≤ k) fun k _ e => hge4 k e
        rw [hem4] at hnv
        have HNV := hid hnv
        have HNN := hid hnn
        clear HL3 hb4 hfl4 hem4 hge4 hnv hnn c0 c1 c2 c3 c4
        obtain ⟨c0, c1, c2, c3, c4⟩ := HCO.out w4 HF4.out.rw
        have hbl : b < w4.heap.size := (Array.getElem?_eq_some_iff.1 HF4.out.rw).1
        have y2 : ∀ t : Beh w4, t.wd.cell? ⟨b, 2, none⟩ = some (.int .i64 (r : Int)) := fun t => (t.ok.cell (p := ⟨b, _, none⟩) hbl).trans c2
        have y3 : ∀ t : Beh w4, t.wd.cell? ⟨b, 3, none⟩ = some (.int .i64 a) := fun t => (t.ok.cell (p := ⟨b, _, none⟩) hbl).trans c3
        have y4 : ∀ t : Beh w4, t.wd.cell? ⟨b, 4, none⟩ = some (.int .u8 (0 : Int)) := fun t => (t.ok.cell (p := ⟨b, _, none⟩) hbl).trans c4
        have yd : ∀ t : Beh w4, t.wd.cell? ⟨g, r * 2 + 1, none⟩ = some (.slice ua un uc) := fun t => by
          obtain ⟨g', e, -, hc⟩ := (HF4.out.below t.ok).fl.at HEX.out
          simp only [Option.some.injEq, Addr.mk.injEq, and_true] at e
          subst e
          exact (hc _ rfl).2.1
        clear c0 c1 c2 c3 c4 hbl
        go_upto_region 29 with fail
        refine wp_region_beh (by kernel_rfl) (by kernel_rfl) ?_
        repeat (go_big_quiet_step (fail))
        refine wpQuiet_nil ?_
        rintro _ ⟨t, rfl⟩
        have HF5 := hid (HF4.out.below t.ok)
        have HNV5 := hid (HNV.out.below t.ok)
        generalize t.wd = w5 at *
        clear y2 y3 y4 yd t
        have HSN := hid (sents_any _ _ _ _ _ w5 HF5.out.old HNV5.out)
        go_wp2_with fail
        refine HSN.out.mono ?_
        rintro _ w6 ⟨rfl, hb5⟩
        have HE := hid ((HF5.out.below hb5).done)
        clear HSN hb5
        go_wp2_with fail
        go_ret
        exact ⟨rfl, HE.out⟩
    | true =>
      rw [Bool.and_eq_true] at ha
      obtain ⟨k, rfl, hk⟩ := inR_true ha.1
      have hx0 : x ≠ 0 := by simpa using ha.2
      have t1 : spE S (r : Int) (k : Int) x = 0 := by rw [hspe, ha.1, ha.2]; rfl
      obtain ⟨y, hy⟩ : ∃ y, eb[k]? = some y := ⟨_, List.getElem?_eq_getElem hk⟩
      have hyb : y < 256 := hok.2.2 y (List.mem_of_getElem? hy)
      have t2 : spS S (r : Int) (k : Int) x = S.set r ⟨ea, eb.set k (y ^^^ x)⟩ := by
        unfold spS; rw [t1, if_pos rfl, Int.toNat_natCast, Int.toNat_natCast, hpk]
        unfold spP
        simp only
        rw [List.getD_eq_getElem?_getD, hy]; rfl
      have hxor : bits .xor .u8 (y : Int) (x : Int) = ((y ^^^ x : Nat) : Int) := u8_xor_nat y x hyb hx
      have hzb : y ^^^ x < 256 := Nat.xor_lt_two_pow (n := 8) hyb hx
      obtain ⟨z, HZ⟩ : ∃ z, Hid (z = y ^^^ x) := ⟨_, rfl⟩
      rw [← HZ.out] at hxor hzb t2
      have HZB := hid hzb
      have HY := hid hy
      have hkn : k < un := by have := HUN.out; omega
      have hne : eb ≠ [] := fun e => by rw [e] at hk; simp at hk
      have HNE := hid hne
      have q0 : decide ((k : Int) < 0) = false := by simp
      have q1 : decide ((un : Int) ≤ (k : Int)) = false := by simp; omega
      have q2 : ((x : Int) == 0) = false := by simp; omega
      have q5 : ¬ (x : Int) = 0 := by omega
      have q6 : ¬ (un : Int) ≤ (k : Int) := by omega
      have q7 : ¬ un ≤ k := by omega
      have q8 : ¬ x = 0 := hx0
      have q9 : decide (un ≤ k) = false := decide_eq_false q7
      clear hin hlE he hsr hmem hown hok hpk hspe ha hk hx0 hy hyb hzb hne
      have HA := hid (HF2.out.pn.spoil (r : Int) (k : Int) hx)
      rw [t1, t2] at HA
      go_wp2_with fail
      refine HA.out.mono ?_
      rintro _ w3 ⟨rfl, hp3, hk3⟩
      have HF3 := hid (HF2.out.step hp3 hk3)
      have HL3 := hid hp3.list
      clear HA hp3 hk3 c0 c1 c2 c3 c4
      obtain ⟨c0, c1, c2, c3, c4⟩ := HCO.out w3 HF3.out.rw
      go_wp2_with fail
      refine HL3.out.mono ?_
      rintro _ w4 ⟨na, nn, nc, rfl, hb4, ⟨E4, hfl4, hem4, hge4⟩, hnn⟩
      have HF4 := hid (HF3.out.below hb4)
      have hnv := hfl4.sees.weak (K' := fun k => w3.heap.size ≤ k) fun k _ e => hge4 k e
      rw [hem4] at hnv
      have HNV := hid hnv
      have HNN := hid hnn
      clear HL3 hb4 hfl4 hem4 hge4 hnv hnn c0 c1 c2 c3 c4
      obtain ⟨c0, c1, c2, c3, c4⟩ := HCO.out w4 HF4.out.rw
      have hbl : b < w4.heap.size := (Array.getElem?_eq_some_iff.1 HF4.out.rw).1
      have y2 : ∀ t : Beh w4, t.wd.cell? ⟨b, 2, none⟩ = some (.int .i64 (r : Int)) := fun t => (t.ok.cell (p := ⟨b, _, none⟩) hbl).trans c2
      have y3 : ∀ t : Beh w4, t.wd.cell? ⟨b, 3, none⟩ = some (.int .i64 (k : Int)) := fun t => (t.ok.cell (p := ⟨b, _, none⟩) hbl).trans c3
      have y4 : ∀ t : Beh w4, t.wd.cell? ⟨b, 4, none⟩ = some (.int .u8 (x : Int)) := fun t => (t.ok.cell (p := ⟨b, _, none⟩) hbl).trans c4
      have yd : ∀ t : Beh w4, t.wd.cell? ⟨g, r * 2 + 1, none⟩ = some (.slice ua un uc) := fun t => by
        obtain ⟨g', e, -, hc⟩ := (HF4.out.below t.ok).fl.at HEX.out
        simp only [Option.some.injEq, Addr.mk.injEq, and_true] at e
        subst e
        exact (hc _ rfl).2.1
      clear c0 c1 c2 c3 c4 hbl
      go_upto_region 29 with fail
      refine wp_region_beh (by kernel_rfl) (by kernel_rfl) ?_
      repeat (go_big_quiet_step (fail))
      refine wpQuiet_nil ?_
      rintro _ ⟨t, rfl⟩
      have HF5 := hid (HF4.out.below t.ok)
      have HNV5 := hid (HNV.out.below t.ok)
      generalize t.wd = w5 at *
      clear y2 y3 y4 yd t
      have hown5 := HF5.out.fl.own _ (List.mem_of_getElem? HEX.out)
      simp only at hown5
      have HCL := hid (clone_any w5 _ _ eb (hown5.sees HOK.out.2.2) HOK.out.2.1)
      obtain ⟨c0, c1, c2, c3, c4⟩ := HCO.out w5 HF5.out.rw
      have d1 : w5.cell? ⟨g, r * 2 + 1, none⟩ = some (.slice ua un uc) := by
        obtain ⟨g', e, -, hc⟩ := HF5.out.fl.at HEX.out
        simp only [Option.some.injEq, Addr.mk.injEq, and_true] at e
        subst e
        exact (hc _ rfl).2.1
      clear hown5
      go_wp2_with fail
      refine HCL.out.mono ?_
      rintro _ w6 ⟨ga, gn, gc, rfl, ho6, hb6⟩
      obtain ⟨gg, gn', gc', hgs, HGN, hgb, hgc, hgm, hfz⟩ := ho6.grip HNE.out
      simp only [Value.slice.injEq] at hgs
      obtain ⟨rfl, rfl, rfl⟩ := hgs
      have hcell : w6.cell? ⟨gg, k, none⟩ = some (.int .u8 (y : Int)) := by
        obtain ⟨g2, o2, p2, hp2, -, hcl, -, HPP⟩ := (ho6.sees HOK.out.2.2).at k (by have := HGN.out; have := HUN.out; omega)
        simp only [Option.some.injEq, Addr.mk.injEq, and_true] at hp2
        obtain ⟨rfl, rfl⟩ := hp2
        have := HPP.out
        rw [HY.out] at this
        cases this
        rw [Nat.zero_add] at hcl
        exact hcl
      have hfr := hfz k
      clear c0 c1 c2 c3 c4 d1 HCL
      obtain ⟨c0, c1, c2, c3, c4⟩ := HCO.out w6 (HF5.out.below hb6).rw
      obtain ⟨w7, HW7⟩ : ∃ w7, Hid (w7 = w6.setCell ⟨gg, k, none⟩ (.int .u8 (z : Int))) := ⟨_, rfl⟩
      obtain ⟨w8, HW8⟩ : ∃ w8, Hid (w8 = w7.setCell ⟨g, r * 2 + 1, none⟩ (.slice (some ⟨gg, 0, none⟩) gn gc)) := ⟨_, rfl⟩
      have HM := hid (HF5.out.mend (k := k) (z := z) hb6 HEX.out ho6 HZB.out HNV5.out (HF3.out.fl.lt (.inl rfl)))
      rw [← HW7.out, ← HW8.out] at HM
      have hkg : (k : Int) < (gn : Int) := by have := HGN.out; have := HUN.out; omega
      have hk0 : (0 : Int) ≤ (k : Int) := by omega
      have c27 : w7.cell? ⟨b, 2, none⟩ = some (.int .i64 (r : Int)) := by
        obtain ⟨e0, e1, e2, e3, e4⟩ := HCO.out w7 HM.out.1
        exact e2
      have d7 := HM.out.2.1
      have f7 := HM.out.2.2.1
      clear ho6 hb6 hgb hgm hfz HF5
      go_upto_region 32 with fail
      refine wp_region_still_tail 12 (by kernel_rfl) (by kernel_rfl) ?_
      simp only [List.take_succ_cons, List.take_zero, List.drop_succ_cons, List.drop_zero]
      iterate 12 still_step
      refine wpStill_nil ?_
      go_upto_region 33 with fail
      rw [← HW7.out]
      clear hcell hfr hxor c0 c1 c2 c3 c4
      go_upto_region 34 with fail
      rw [← HW8.out]
      have HDR : Hid (Below w8.heap.size w8 w8.drew) := below_drew (Below.refl _ _)
      have HSN := hid (sents_any _ _ _ _ _ w8.drew (HM.out.2.2.2.1.below HDR.out) (HM.out.2.2.2.2.1.below HDR.out))
      have HEN := hid HM.out.2.2.2.2.2
      clear d7 f7 c27 HM
      go_wp2_with fail
      refine HSN.out.mono ?_
      rintro _ w9 ⟨rfl, hb9⟩
      have HE : Hid (∃ S', Pn w0 K w9 pb m S') := by
        obtain ⟨S', h⟩ := HEN.out
        exact ⟨S', (h.below HDR.out).below hb9⟩
      clear HSN hb9
      go_wp2_with fail
      go_ret
      exact ⟨rfl, HE.out⟩
end Go.Proofs.Ytaelfhjhinfikab
