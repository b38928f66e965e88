/-
  JournalFills: the walk.
-/
import Derived.Test.YteoebmpfdcbbmaaDoorFC
namespace Go.Proofs.YteoebmpfdcbbmaaDoor
open Go.ChangeShapes Go.WideShapes Go.ChangeAt Go.RowKit Jn N
set_option maxHeartbeats 16000000
set_option maxRecDepth 100000

theorem fills_2 (n : Int) (hn : 65536 < n) (w : World) (ht : TabN w) :
    Calls Tryd.prog 4 #[.int .i64 n] w fun e w' => e = .returned (.bool true) ∧ Below w.heap.size w w' := by
  have hn0 : ¬ n < 3000 := by omega
  have HT := hid ht
  have HF0 := hid (first_any w ht)
  clear ht
  go_enter Tryd.func4, Tryd.ntmps4
  go_upto_region 3 with fail
  obtain ⟨N, HNE, hN1, hN2⟩ : ∃ N : Nat, Hid ((N : Int) = 65536) ∧ 3000 ≤ N ∧ N ≤ 65536 := ⟨65536, rfl, by omega, by omega⟩
  rw [← HNE.out]
  clear HNE hn hn0
  go_wp2_with fail
  refine HF0.out.mono ?_
  rintro _ w1 ⟨rfl, hb1⟩
  have HB1 := hid hb1
  have HBG := hid (begun_any w1 (HT.out.below hb1 HT.out.2))
  clear hb1
  go_wp2_with fail
  refine HBG.out.mono ?_
  rintro _ w2 ⟨p, q, S0, rfl, hJ0⟩
  have hmk := make_bytes N (by omega) w2
  obtain ⟨w3, HW3⟩ : ∃ w3, Hid (w3 = w2.alloc (.cells (bs (List.replicate N 0)).toArray 5)) := ⟨_, rfl⟩
  obtain ⟨gr, HGR⟩ : ∃ gr, Hid (gr = w2.heap.size) := ⟨_, rfl⟩
  rw [← HW3.out, ← HGR.out] at hmk
  have HS0 : Hid (FlS w p gr N 0 (.slice none 0 0) w3 S0 fl0) := by
    have hJ := hJ0.since HB1.out
    have hb3 : Below w2.heap.size w2 w3 := by rw [HW3.out]; exact (Below.refl _ _).alloc (Nat.le_refl _) _
    have hX : Blk w3 gr 5 (List.replicate N 0) := by rw [HW3.out, HGR.out]; exact heap_alloc_new w2 _
    refine ⟨hJ.below hb3, hX, by rw [HGR.out]; exact hJ.be.size, fun e => ?_, ownS_nil _ _, fun j hj => by cases hj⟩
    have := hJ.log.lt gr e
    have := HGR.out
    omega
  have HA0 : Hid (Aps (List.replicate 0 (List.replicate N 0)) fl0) := aps_nil
  clear hJ0 HBG HW3 HGR
  go_wp2_with fail
  go_loopw [6] (fun r wr => ∃ (k : Nat) (S : Nat → Prop) (l : Lg), Hid (FlS w p gr N k r wr S l) ∧ Hid (Aps (List.replicate k (List.replicate N 0)) l)) (fun r _ => 100000 - lenV r)
  case atStart => exact ⟨0, S0, fl0, HS0, HA0⟩
  case round =>
    obtain ⟨k, S, l, HS, HA⟩ := hrel
    clear HS0 HA0 hmk
    obtain ⟨ar, kn, cr, rfl, HKN, hk1, hk2⟩ := HS.out.rk.own.shape
    obtain rfl : kn = k := by have := HKN.out; simpa using this
    have hk : kn ≤ 87380 := by
      have h1 := HS.out.jr.ok.low
      have h2 := HS.out.jr.ok.high
      have h3 : l.fr = kn := by have := HA.out.fr; simpa using this
      omega
    have HLW : Hid (l.ws.length = kn + 1) := by have := HA.out.ws; unfold Hid; simpa using this
    obtain ⟨sz, HSZ⟩ : ∃ sz : Nat, Hid (sz = l.size) := ⟨_, rfl⟩
    have hsz : sz ≤ 1048576 := by have := HS.out.jr.ok.high; have := HSZ.out; omega
    have HBA : Hid (16 + baseL (List.replicate kn (List.replicate N 0)) = sz) := by unfold Hid; rw [HSZ.out, HA.out.size]
    have HZ1 : Hid (Calls Tryd.prog 18 #[.pointer (some ⟨p, 0, none⟩)] wr fun e w' => e = .returned (.int .i64 (sz : Int)) ∧ w' = wr) := by
      unfold Hid; rw [HSZ.out]; exact size_any S p l wr HS.out.jr.log
    clear HKN
    by_cases hfit : sz + 12 + N ≤ 1048576
    · as_aux_lemma =>
        have HAP := hid (HS.out.jr.app_ok HT.out (HS.out.rk.sees (by omega)) (by have := HLW.out; omega) (by simpa using hN2) (by have := HSZ.out; rw [List.length_replicate]; omega))
        go_wp2_with fail
        refine HZ1.out.mono ?_
        rintro _ wx ⟨rfl, rfl⟩
        go_wp2_with fail
        refine HAP.out.mono ?_
        rintro _ w4 ⟨rfl, hL4⟩
        have h4 := HS.out.left hL4
        obtain ⟨v', w6, hap, hown, h6, hvs, -⟩ := h4.add (.slice (some ⟨gr, 0, none⟩) N N) ⟨_, _, _, rfl⟩ (by omega)
        obtain ⟨w5, HW5⟩ : ∃ w5, Hid (w5 = w4.alloc (.cells #[.slice (some ⟨gr, 0, none⟩) N N] 31)) := ⟨_, rfl⟩
        rw [← HW5.out] at hap
        have HRUN := hid hap
        have HN6 := hid (h6.next hown hvs)
        have HZ2 := hid (size_any _ p _ w6 HN6.out.jr.log)
        have HSL := hid (sizeL_any v' _ w6 (HN6.out.rk.seesS (by omega)) (by simp; omega) (zs_short hN2))
        have e1 : 16 + baseL (List.replicate (kn + 1) (List.replicate N 0)) = sz + 12 + N := by
          have := HBA.out
          rw [List.replicate_succ', base_one, List.length_replicate]
          omega
        have e2 : (l.app (List.replicate N 0)).size = sz + 12 + N := by
          show l.size + (12 + (List.replicate N 0).length) = _
          rw [List.length_replicate, ← HSZ.out]; omega
        rw [e1] at HSL
        rw [e2] at HZ2
        have HA2 : Hid (Aps (List.replicate (kn + 1) (List.replicate N 0)) (l.app (List.replicate N 0))) := by
          unfold Hid; rw [List.replicate_succ']; exact HA.out.app _
        obtain ⟨a', n', c', rfl, HN', -, -⟩ := HN6.out.rk.own.shape
        obtain rfl : n' = kn + 1 := by have := HN'.out; simpa using this
        generalize sz + 12 + N = s2 at *
        clear hap hown h6 hvs hL4 h4 e1 e2 HN' HZ1 HAP
        go_upto_region 12 with (at_builtin; rw [← HW5.out]; refine wpList_append_run _ rfl _ _ 22 22 rfl _ _ rfl rfl HRUN.out ?_)
        go_wp2_with fail
        refine HZ2.out.mono ?_
        rintro _ wy ⟨rfl, rfl⟩
        go_wp2_with fail
        refine HSL.out.mono ?_
        rintro _ wz ⟨rfl, rfl⟩
        go_wp2_with fail
        go_roundw
        case rel => exact ⟨kn + 1, _, _, HN6, HA2⟩
        case measure => simp [lenV]; omega
    · as_aux_lemma =>
        have HAP := hid (HS.out.jr.app_full HT.out (HS.out.rk.sees (by omega)) (by have := HLW.out; omega) (by simpa using hN2) (by have := HSZ.out; rw [List.length_replicate]; omega))
        go_wp2_with fail
        refine HZ1.out.mono ?_
        rintro _ wx ⟨rfl, rfl⟩
        go_wp2_with fail
        refine HAP.out.mono ?_
        rintro _ w4 ⟨rfl, hL4⟩
        have H4 := hid (HS.out.left hL4)
        have HZ4 : Hid (Calls Tryd.prog 18 #[.pointer (some ⟨p, 0, none⟩)] w4 fun e w' => e = .returned (.int .i64 (sz : Int)) ∧ w' = w4) := by
          unfold Hid; rw [HSZ.out]; exact size_any _ p l w4 H4.out.jr.log
        have HSL4 : Hid (∀ u S, FlS w p gr N kn (.slice ar kn cr) u S l → Calls Tryd.prog 10 #[.slice ar kn cr] u fun e w' => e = .returned (.int .i64 (sz : Int)) ∧ w' = u) := fun u S h => by
          have := sizeL_any _ _ u (h.rk.seesS (by omega)) (by simp; omega) (zs_short hN2)
          rw [HBA.out] at this
          exact this
        obtain ⟨M, HM⟩ : ∃ M : Nat, Hid (M = 65537) := ⟨_, rfl⟩
        have hmk := make_bytes M (by have := HM.out; omega) w4
        rw [show ((M : Nat) : Int) = 65537 by rw [HM.out]; rfl] at hmk
        obtain ⟨w5, HW5⟩ : ∃ w5, Hid (w5 = w4.alloc (.cells (bs (List.replicate M 0)).toArray 5)) := ⟨_, rfl⟩
        rw [← HW5.out] at hmk
        have hb5 : Below w4.heap.size w4 w5 := by rw [HW5.out]; exact (Below.refl _ _).alloc (Nat.le_refl _) _
        have hX5 : Blk w5 w4.heap.size 5 (List.replicate M 0) := by rw [HW5.out]; exact heap_alloc_new w4 _
        have H5 := hid (H4.out.below hb5)
        have HAL := hid (H5.out.jr.app_long HT.out (hX5.sees (n := M) (by simp) (by have := HM.out; simp; omega) zeros_lt) (by have := HLW.out; omega) (by have := HM.out; simp; omega))
        clear hL4 HAP HZ1 hb5 hX5
        go_wp2_with fail
        refine HZ4.out.mono ?_
        rintro _ wy ⟨rfl, rfl⟩
        go_wp2_with fail
        refine (HSL4.out _ _ H4.out).mono ?_
        rintro _ wz ⟨rfl, rfl⟩
        go_wp2_with fail
        refine HAL.out.mono ?_
        rintro _ w6 ⟨rfl, hL6⟩
        have H6 := hid (H5.out.left hL6)
        clear hL6 HAL hmk HZ4
        go_wp2_with fail
        refine (HSL4.out _ _ H6.out).mono ?_
        rintro _ wv ⟨rfl, rfl⟩
        by_cases hr0 : 1048576 < sz + 12
        · have HAN := hid (H6.out.jr.app_full HT.out (sees_nil _) (by have := HLW.out; omega) (by simp) (by have := HSZ.out; simp; omega))
          go_wp2_with fail
          refine HAN.out.mono ?_
          rintro _ w7 ⟨rfl, hL7⟩
          have H7 := hid (H6.out.left hL7)
          clear hL7
          go_wp2_with fail
          go_ret
          exact ⟨rfl, H7.out.jr.be⟩
        · obtain ⟨R, HR⟩ : ∃ R : Nat, Hid (sz + 12 + R = 1048576) := ⟨1048576 - sz - 12, by unfold Hid; omega⟩
          have HRI : Hid ((1048576 : Int) - (sz : Int) - 12 = (R : Int)) := by have := HR.out; unfold Hid; omega
          have hRN : R < N := by have := HR.out; omega
          go_upto_region 17 with fail
          rw [HRI.out]
          clear HRI hr0
          obtain ⟨w6, HW6⟩ : ∃ w6, Hid (w6 = wv) := ⟨_, rfl⟩
          rw [← HW6.out] at H6 ⊢
          clear HW6
          obtain ⟨S6, H6⟩ : ∃ S6, Hid (FlS w p gr N kn (.slice ar kn cr) w6 S6 l) := ⟨_, H6⟩
          have hmk := make_bytes (R + 1) (by omega) w6
          rw [show ((R + 1 : Nat) : Int) = (R : Int) + 1 by omega] at hmk
          obtain ⟨w7, HW7⟩ : ∃ w7, Hid (w7 = w6.alloc (.cells (bs (List.replicate (R + 1) 0)).toArray 5)) := ⟨_, rfl⟩
          obtain ⟨gl, HGL⟩ : ∃ gl, Hid (gl = w6.heap.size) := ⟨_, rfl⟩
          rw [← HW7.out, ← HGL.out] at hmk
          have hb7 : Below w6.heap.size w6 w7 := by rw [HW7.out]; exact (Below.refl _ _).alloc (Nat.le_refl _) _
          have hX7 : Blk w7 gl 5 (List.replicate (R + 1) 0) := by rw [HW7.out, HGL.out]; exact heap_alloc_new w6 _
          have hG7 : ¬ S6 gl := fun e => by have := H6.out.jr.log.lt gl e; have := HGL.out; omega
          have H7 := hid (H6.out.below hb7)
          have hcut := cut_hi gl 0 (R + 1) (R + 1) R (R : Int) rfl (by omega)
          have HLA : Hid (∀ u, Blk u gl 5 (List.replicate (R + 1) 0) → SeesB u (.slice (some ⟨gl, 0, none⟩) (R + 1) (R + 1)) (List.replicate (R + 1) 0) ∧ SeesB u (.slice (some ⟨gl, 0, none⟩) R (R + 1)) (List.replicate R 0)) := fun u h => by
            refine ⟨h.sees (by simp) (by simp; omega) zeros_lt, ?_⟩
            have := h.front (m := R) (cap := R + 1) (by simp) (by simp) (by omega) (fun y hy => zeros_lt y (List.mem_of_mem_take hy))
            rw [List.take_replicate, Nat.min_eq_left (by omega)] at this
            exact this
          have HA7 := hid (H7.out.jr.app_full HT.out (HLA.out _ hX7).1 (by have := HLW.out; omega) (by rw [List.length_replicate]; omega) (by have := HSZ.out; have := HR.out; rw [List.length_replicate]; omega))
          have hrn : ¬ (R : Int) < 0 := by omega
          have HX7 := hid hX7
          have HG7 := hid hG7
          clear hb7 hX7 hG7
          go_wp2_with fail
          refine HA7.out.mono ?_
          rintro _ w8 ⟨rfl, hL8⟩
          obtain ⟨hX8, hG8⟩ := HX7.out.left HG7.out hL8
          have H8 := hid (H7.out.left hL8)
          have HA8 := hid (H8.out.jr.app_ok HT.out (HLA.out _ hX8).2 (by have := HLW.out; omega) (by rw [List.length_replicate]; omega) (by have := HSZ.out; have := HR.out; rw [List.length_replicate]; omega))
          have HX8 := hid hX8
          have HG8 := hid hG8
          clear hL8 hX8 hG8 HA7 HX7 HG7 hmk
          go_wp2_with fail
          refine HA8.out.mono ?_
          rintro _ w9 ⟨rfl, hL9⟩
          obtain ⟨hX9, hG9⟩ := HX8.out.left HG8.out hL9
          have H9 := hid (H8.out.left hL9)
          obtain ⟨l2, HL2⟩ : ∃ l2, Hid (l2 = l.app (List.replicate R 0)) := ⟨_, rfl⟩
          rw [← HL2.out] at H9
          have HS2 : Hid (l2.size = 1048576) := by
            unfold Hid; rw [HL2.out]
            show l.size + (12 + (List.replicate R 0).length) = _
            have := HSZ.out; have := HR.out; rw [List.length_replicate]; omega
          have HW2 : Hid (l2.ws.length ≤ 100000) := by
            unfold Hid; rw [HL2.out]
            show (l.ws ++ [_]).length ≤ _
            have := HLW.out; rw [List.length_append, List.length_singleton]; omega
          have HP2 : Hid (Aps (List.replicate kn (List.replicate N 0) ++ [List.replicate R 0]) l2) := by
            unfold Hid; rw [HL2.out]; exact HA.out.app _
          have HA9 := hid (H9.out.jr.app_full HT.out (sees_nil _) (by have := HW2.out; omega) (by simp) (by have := HS2.out; simp; omega))
          have HX9 := hid hX9
          have HG9 := hid hG9
          clear hL9 hX9 hG9 HA8 HX8 HG8 HL2
          go_wp2_with fail
          refine HA9.out.mono ?_
          rintro _ w10 ⟨rfl, hL10⟩
          obtain ⟨hX10, hG10⟩ := HX9.out.left HG9.out hL10
          have H10 := hid (H9.out.left hL10)
          have HZ10 := hid (size_any _ p l2 w10 H10.out.jr.log)
          rw [HS2.out] at HZ10
          obtain ⟨v1, w12, hap, hown, h12, hvs, hkp⟩ := H10.out.add (.slice (some ⟨gl, 0, none⟩) (R + 1) (R + 1)) ⟨_, _, _, rfl⟩ (by omega)
          obtain ⟨w11, HW11⟩ : ∃ w11, Hid (w11 = w10.alloc (.cells #[.slice (some ⟨gl, 0, none⟩) (R + 1) (R + 1)] 31)) := ⟨_, rfl⟩
          rw [← HW11.out] at hap
          have HRUN := hid hap
          have H12 := hid h12
          have hgne : ∀ u S, FlS w p gr N kn (.slice ar kn cr) u S l2 → Blk u gl 5 (List.replicate (R + 1) 0) → (Value.slice ar kn cr).ownBlock ≠ some gl := fun u S h hb => h.rk.own.ne_of hb (by decide)
          have HGNE := hid hgne
          have hX12 : Blk w12 gl 5 (List.replicate (R + 1) 0) := hX10.keep hkp (fun e => HGNE.out _ _ H10.out hX10 e)
          have HRF := hid (H12.out.jr.rew_full HT.out (H12.out.seesX (by omega) hown (HLA.out _ hX12).1) (by simp; omega) (by have := HW2.out; omega) (zsx_short hN2 (by rw [List.length_replicate]; omega)) (by have := HBA.out; have := HR.out; rw [base_one, List.length_replicate]; omega))
          obtain ⟨a1, n1, c1, rfl, -, -, -⟩ := hown.shape
          have HX12 := hid hX12
          have HG10 := hid hG10
          clear hap hown h12 hvs hkp hgne hX10 hX12 hG10 hL10 HA9 HX9 HG9
          go_wp2_with fail
          refine HZ10.out.mono ?_
          rintro _ wa ⟨rfl, rfl⟩
          go_wp2_with (at_builtin; rw [← HW11.out]; refine wpList_append_run _ rfl _ _ 22 22 rfl _ _ rfl rfl HRUN.out ?_)
          go_wp2_with fail
          refine HRF.out.mono ?_
          rintro _ w13 ⟨rfl, hL13⟩
          obtain ⟨hX13, hG13⟩ := HX12.out.left HG10.out hL13
          have H13 := hid (H12.out.left hL13)
          obtain ⟨v2, w15, hap, hown, h15, hvs, hkp⟩ := H13.out.add (.slice (some ⟨gl, 0, none⟩) R (R + 1)) ⟨_, _, _, rfl⟩ (by omega)
          obtain ⟨w14, HW14⟩ : ∃ w14, Hid (w14 = w13.alloc (.cells #[.slice (some ⟨gl, 0, none⟩) R (R + 1)] 31)) := ⟨_, rfl⟩
          rw [← HW14.out] at hap
          have HRUN2 := hid hap
          have H15 := hid h15
          have hX15 : Blk w15 gl 5 (List.replicate (R + 1) 0) := hX13.keep hkp (fun e => HGNE.out _ _ H13.out hX13 e)
          have HQ1 : Hid (∀ r ∈ List.replicate kn (List.replicate N 0) ++ [List.replicate R 0], r.length ≤ 65536) := zsx_short hN2 (by rw [List.length_replicate]; omega)
          have HQ2 : Hid (16 + baseL (List.replicate kn (List.replicate N 0) ++ [List.replicate R 0]) = 1048576) := by
            have := HBA.out; have := HR.out; unfold Hid; rw [base_one, List.length_replicate]; omega
          have HQ3 : Hid ((List.replicate kn (List.replicate N 0) ++ [List.replicate R 0]).length = kn + 1) := by unfold Hid; simp
          have HSX : Hid (SeesBB w15 v2 (List.replicate kn (List.replicate N 0) ++ [List.replicate R 0])) := H15.out.seesX (by omega) hown (HLA.out _ hX15).2
          obtain ⟨a2, n2, c2, rfl, -, -, -⟩ := hown.shape
          clear hap hown h15 hvs hkp hX13 hG13 hX15 hL13 HRF HX12 HG10 HRUN HW11 HGNE H10 H9 H12 HZ10
          generalize List.replicate kn (List.replicate N 0) ++ [List.replicate R 0] = qs at *
          have HRO := hid (H15.out.jr.rew_ok HT.out HSX.out (by have := HQ3.out; omega) (by have := HW2.out; omega) HQ1.out (Nat.le_of_eq HQ2.out))
          go_wp2_with (at_builtin; rw [← HW14.out]; refine wpList_append_want _ (by rfl) _ _ 22 22 rfl _ _ rfl rfl HRUN2.out ?_)
          go_wp2_with fail
          refine HRO.out.mono ?_
          rintro _ w16 ⟨rfl, hL16⟩
          have H16 := hid (H15.out.left hL16)
          have HW3 : Hid ((l2.rew qs).ws.length ≤ 3000000000000) := by
            show (l2.ws ++ [_]).length ≤ _
            have := HW2.out; rw [List.length_append, List.length_singleton]; omega
          have HSY := hid (sync_any _ p _ w16 H16.out.jr.log H16.out.jr.ok HW3.out)
          clear hL16 HRO HSX HRUN2
          go_wp2_with fail
          refine HSY.out.mono ?_
          rintro _ w17 ⟨rfl, hL17⟩
          have H17 := hid (H16.out.left hL17)
          have HCR := hid (crash_any _ p _ 0 w17 H17.out.jr.log H17.out.jr.ok (by show (0 : Nat) ≤ _; omega) (by decide))
          rw [show ((0 : Int)).toNat = 0 from rfl, crash_zero] at HCR
          clear hL17
          go_wp2_with fail
          refine HCR.out.mono ?_
          rintro _ w18 ⟨ga, na, ca, gb, nb, cb, rfl, hD⟩
          obtain ⟨q1, q2⟩ := HP2.out.rew HQ1.out HQ1.out (Nat.le_of_eq HQ2.out) (Nat.le_of_eq HQ2.out)
          have H18 := hid (H17.out.below hD.be)
          have HOP : Hid (Calls Tryd.prog 16 #[.agg #[.slice (some ⟨ga, 0, none⟩) na ca, .slice (some ⟨gb, 0, none⟩) nb cb]] w18 fun e w' => ∃ p' v S Bd, e = .returned (.tuple #[.pointer (some ⟨p', 0, none⟩), v, .int .i64 0]) ∧ Opened w18 w' S Bd p' v (opnL (l2.rew qs).syn.a (l2.rew qs).syn.b) qs) := by
            refine (open_any _ _ (l2.rew qs).syn.a (l2.rew qs).syn.b w18 (hD.a.sees H17.out.jr.ok.ba) (hD.b.sees H17.out.jr.ok.bb) (HT.out.below H18.out.jr.be HT.out.2)).mono ?_
            rintro e w' ⟨-, h⟩
            have := h q1
            rw [q2] at this
            exact this
          clear hD q1 q2 HCR HSY
          go_wp2_with fail
          refine HOP.out.mono ?_
          rintro _ w19 ⟨p', vb, S', Bd', rfl, hO⟩
          have H19 := hid (H18.out.below hO.be)
          have hSv := hO.recs.sees
          obtain ⟨ab, nb', cb', rfl, HNB, -, -⟩ := hSv.shape
          obtain rfl : nb' = kn + 1 := by have := HNB.out; have := HQ3.out; omega
          have HZ19 := hid (size_any _ p _ w19 H19.out.jr.log)
          have HZE : Hid ((l2.rew qs).syn.size = 1048576) := HQ2.out
          rw [HZE.out] at HZ19
          clear hO hSv HNB HOP
          go_wp2_with fail
          refine HZ19.out.mono ?_
          rintro _ wb ⟨rfl, rfl⟩
          go_wp2_with fail
          go_ret
          exact ⟨rfl, H19.out.jr.be⟩
end Go.Proofs.YteoebmpfdcbbmaaDoor
