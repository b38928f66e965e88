/-
  The law's sound, the good branch.
-/
import Derived.Test.YtahoileampdnkaaMJ
import Derived.Test.YtahoileampdnkaaMK
namespace Go.Proofs.Ytahoileampdnkaa
open Go.ChangeShapes Go.WideShapes Go.ChangeAt Go.RowKit Ru N Tri
set_option maxHeartbeats 4000000
set_option maxRecDepth 100000

theorem cut_low (g o n cap a : Nat) (ha : a ≤ cap) (u : World) : (Instr.sliceAt 26 (.slice (some ⟨g, o, none⟩) n cap) none (some (.int .i64 (a : Int))) none).run Try.prog u = .ok (.slice (some ⟨g, o, none⟩) a cap) u := by
  rw [run_sliceAt_slice (h := ue26), run_slice_h (ht := ue26) (h0 := by omega) (h2 := by omega), sze26]
  simp [Result.andThen, sliced, Addr.add]

theorem sound_good (x lo hi yn sn : Nat) (kv : Value) (L : List (Nat × Int)) (w : World) (hq : Sp.Ok w ⟨x, (yn : Int), (sn : Int), lo, hi, kv, L⟩) (hy32 : yn ≤ 32) (hs32 : sn ≤ 32) (hys : yn ≤ sn) (hlh : lo ≤ hi) (hn0 : L.length ≤ 1024) (b0 : x % 2 ^ (32 - yn) = 0) (b1 : lo % 2 ^ (32 - sn) = 0) (b2 : hi % 2 ^ (32 - sn) = 0) (b3 : ¬ lo < x) (b4 : ¬ x + 2 ^ (32 - yn) ≤ hi) :
    Calls Try.prog 11 #[.agg #[.int .u32 (x : Int), .int .i64 (yn : Int), .int .i64 (sn : Int), .int .u32 (lo : Int), .int .u32 (hi : Int), kv]] w fun e w' => e = .returned (.bool (decide (keE x (yn : Int) sn [] L = 0))) ∧ Below w.heap.size w w' := by
  obtain ⟨ak, nk, ck0, rfl, HNK, hk1, hk2⟩ := hq.kv.shape
  replace HNK : Hid (nk = L.length) := HNK
  unfold maxLen at hk2
  obtain ⟨w2, HW2⟩ : ∃ w2, Hid (w2 = w.alloc (.cells #[.int .u32 (x : Int), .int .i64 (yn : Int), .int .i64 (sn : Int), .int .u32 (lo : Int), .int .u32 (hi : Int), .slice ak nk ck0] 28)) := ⟨_, rfl⟩
  have hb2 : Below w.heap.size w w2 := by rw [HW2.out]; exact (Below.refl _ _).alloc (Nat.le_refl _) _
  have r2 : w2.heap[w.heap.size]? = some (.cells #[.int .u32 (x : Int), .int .i64 (yn : Int), .int .i64 (sn : Int), .int .u32 (lo : Int), .int .u32 (hi : Int), .slice ak nk ck0] 28 (0, 0)) := by rw [HW2.out]; exact heap_alloc_new w _
  obtain ⟨sb, HSB⟩ : ∃ sb, Hid (sb = w.heap.size) := ⟨_, rfl⟩
  rw [← HSB.out] at r2
  have HCL : Hid (∀ u : World, Below w2.heap.size w2 u → u.cell? ⟨sb, 0, none⟩ = some (.int .u32 (x : Int)) ∧ u.cell? ⟨sb, 1, none⟩ = some (.int .i64 (yn : Int)) ∧ u.cell? ⟨sb, 2, none⟩ = some (.int .i64 (sn : Int)) ∧ u.cell? ⟨sb, 3, none⟩ = some (.int .u32 (lo : Int)) ∧ u.cell? ⟨sb, 4, none⟩ = some (.int .u32 (hi : Int)) ∧ u.cell? ⟨sb, 5, none⟩ = some (.slice ak nk ck0)) := fun u hu => by
    have hr := below_keeps hu r2 (Array.getElem?_eq_some_iff.1 r2).1
    refine ⟨?_, ?_, ?_, ?_, ?_, ?_⟩ <;> (rw [cell_of_row _ _ _ _ _ _ hr]; rfl)
  have HQ := hid (hq.below hb2)
  have HB2 := hid hb2
  have hx : x < 4294967296 := hq.x
  have hlo : lo < 4294967296 := hq.lo
  have hhi : hi < 4294967296 := hq.hi
  obtain ⟨c0, c1, c2, c3, c4, c5⟩ := HCL.out w2 (Below.refl _ _)
  have HNL := hid (below_keeps (Below.refl _ w2) r2 (Array.getElem?_eq_some_iff.1 r2).1)
  clear hq hb2 r2 HNL
  rw [← HNK.out] at hn0
  have k0 : ¬ (yn : Int) < 0 := by omega
  have k1 : ¬ (32 : Int) < (yn : Int) := by omega
  have k2 : ¬ (sn : Int) < (yn : Int) := by omega
  have k3 : ¬ (32 : Int) < (sn : Int) := by omega
  have k4 : ¬ hi < lo := by omega
  have k5 : ¬ 1024 < nk := by omega
  go_enter Try.func11, Try.ntmps11
  go_upto_region 1 with fail
  rw [← HW2.out, ← HSB.out]
  go_upto_region 6 with fail
  have e1 : wrap64 ((2 : Int) ^ (32 - yn)) = ((2 ^ (32 - yn) : Nat) : Int) := by
    have h : ((2 : Int) ^ (32 - yn)) = ((2 ^ (32 - yn) : Nat) : Int) := by simp
    rw [h]; exact wrap_nat' (pow_le32 yn)
  have e2 : wrap64 ((2 : Int) ^ (32 - sn)) = ((2 ^ (32 - sn) : Nat) : Int) := by
    have h : ((2 : Int) ^ (32 - sn)) = ((2 ^ (32 - sn) : Nat) : Int) := by simp
    rw [h]; exact wrap_nat' (pow_le32 sn)
  rw [e1, e2]
  clear e1 e2
  have hW1 := Nat.two_pow_pos (32 - yn)
  have hW2 := pow_le32 yn
  have hS1 := Nat.two_pow_pos (32 - sn)
  have hS2 := pow_le32 sn
  obtain ⟨W, HWW⟩ : ∃ W, Hid (W = 2 ^ (32 - yn)) := ⟨_, hid rfl⟩
  obtain ⟨S, HSS⟩ : ∃ S, Hid (S = 2 ^ (32 - sn)) := ⟨_, hid rfl⟩
  rw [← HWW.out] at hW1 hW2 ⊢
  rw [← HSS.out] at hS1 hS2 ⊢
  rw [← HWW.out] at b0
  have t0 : (x : Int).tmod (W : Int) = 0 := by rw [tmod_nat, b0]; rfl
  rw [← HSS.out] at b1
  have t1 : (lo : Int).tmod (S : Int) = 0 := by rw [tmod_nat, b1]; rfl
  rw [← HSS.out] at b2
  have t2 : (hi : Int).tmod (S : Int) = 0 := by rw [tmod_nat, b2]; rfl
  rw [← HWW.out] at b4
  have i1 : ¬ (W : Int) = 0 := int_ne (Nat.ne_of_gt hW1)
  have i2 : ¬ (S : Int) = 0 := int_ne (Nat.ne_of_gt hS1)
  have wl : wrap64 (lo : Int) = (lo : Int) := wrap_nat' (Nat.le_of_lt hlo)
  have wh : wrap64 (hi : Int) = (hi : Int) := wrap_nat' (Nat.le_of_lt hhi)
  have wx : wrap64 (x : Int) = (x : Int) := wrap_nat' (Nat.le_of_lt hx)
  have wxw : wrap64 ((x : Int) + (W : Int)) = (x : Int) + (W : Int) := wrap_sum (Nat.le_of_lt hx) hW2
  have d3 : ¬ (lo : Int) < (x : Int) := int_nlt b3
  have d4 : ¬ (x : Int) + (W : Int) ≤ (hi : Int) := int_nsle b4
  have HBD := hid (And.intro hx (And.intro hW1 (And.intro hW2 (And.intro hS1 (And.intro hS2 hn0)))))
  clear hx hlo hhi hy32 hs32 hys hlh hn0 k0 k1 k2 k3 k4 k5 hW1 hW2 hS1 hS2 b0 b1 b2 b3 b4
  go_upto_region 9 with fail
  clear t0 t1 t2 wl wh d3 d4 c0 c1 c2 c3 c4 c5 wx i1
  have HV : Hid (Sees w2 (.slice ak nk ck0) L) := HQ.out.kv
  have HLL : Hid (∀ p ∈ L, p.1 < 4294967296) := HQ.out.ls
  go_loopw [6] (fun i wr => ∃ j : Nat, i = .int .i64 (j : Int) ∧ j ≤ nk ∧ Hid (Below w2.heap.size w2 wr) ∧ Hid (∀ p ∈ L.take j, alg sn p.1 p.2 = true) ∧ Hid (keE x (yn : Int) sn ((L.take j).map fun p => num sn p.1) (L.drop j) = keE x (yn : Int) sn [] L)) (fun i _ => nk - (intOf i).toNat)
  case atStart => exact ⟨0, rfl, Nat.zero_le _, Below.refl _ _, hid (by simp), hid (by simp)⟩
  case round =>
    obtain ⟨j, rfl, hj, HB, HAL, HKE⟩ := hrel
    obtain ⟨-, -, c2, -, -, c5⟩ := HCL.out wr HB.out
    have HFB : Hid (Below w.heap.size w wr) := HB2.out.trans (HB.out.mono HB2.out.size)
    by_cases hjn : j < nk
    · obtain ⟨g, off, p, hao, hg, d0, d1, HPJ⟩ := (HV.out.below HB.out).at j hjn
      subst hao
      have HP1 : Hid (p.1 < 4294967296) := HLL.out p (List.mem_of_getElem? HPJ.out)
      have hjl : j < L.length := (List.getElem?_eq_some_iff.1 HPJ.out).1
      have edr : L.drop j = p :: L.drop (j + 1) := by rw [List.drop_eq_getElem_cons hjl, (List.getElem?_eq_some_iff.1 HPJ.out).2]
      have etk0 : L.take (j + 1) = L.take j ++ [p] := by rw [List.take_succ_eq_append_getElem hjl, (List.getElem?_eq_some_iff.1 HPJ.out).2]
      have etk : (L.take (j + 1)).map (fun p => num sn p.1) = (L.take j).map (fun p => num sn p.1) ++ [num sn p.1] := by
        rw [etk0]; simp
      have HSTEP : Hid (keE x (yn : Int) sn ((L.take j).map fun p => num sn p.1) (L.drop j) = if alg sn p.1 p.2 = false then 100 else if inN x (yn : Int) p.1 = false then 101 else if num sn p.1 ∈ ((L.take j).map fun p => num sn p.1) then 5 else keE x (yn : Int) sn ((L.take (j + 1)).map fun p => num sn p.1) (L.drop (j + 1))) := by
        unfold Hid; rw [edr, etk]; rfl
      have HTK := hid etk0
      clear edr etk etk0 hjl
      obtain ⟨pa, pl⟩ := p
      simp only at d0 d1
      obtain ⟨kb, HKB⟩ : ∃ kb, Hid (kb = wr.heap.size) := ⟨_, rfl⟩
      obtain ⟨w4, HW4⟩ : ∃ w4, Hid (w4 = wr.alloc (.cells #[.int .u32 (pa : Int), .int .i64 pl] 25)) := ⟨_, rfl⟩
      have hb4 : Below wr.heap.size wr w4 := by rw [HW4.out]; exact (Below.refl _ _).alloc (Nat.le_refl _) _
      have r4 : w4.heap[kb]? = some (.cells #[.int .u32 (pa : Int), .int .i64 pl] 25) := by rw [HW4.out, HKB.out]; exact heap_alloc_new wr _
      have HB4 : Hid (Below w2.heap.size w2 w4) := HB.out.trans (hb4.mono HB.out.size)
      have HFB4 : Hid (Below w.heap.size w w4) := HB2.out.trans (HB4.out.mono HB2.out.size)
      have m0 : w4.cell? ⟨kb, 0, none⟩ = some (.int .u32 (pa : Int)) := by rw [cell_of_row _ _ _ _ _ _ r4]; rfl
      have m1 : w4.cell? ⟨kb, 1, none⟩ = some (.int .i64 pl) := by rw [cell_of_row _ _ _ _ _ _ r4]; rfl
      obtain ⟨-, -, n2, -, -, n5⟩ := HCL.out w4 HB4.out
      have b1 : (j : Int) < (nk : Int) := int_lt hjn
      obtain ⟨q0, q1⟩ := Beh.two r4
      clear hb4 r4
      go_upto_region 12 with fail
      rw [← HW4.out, ← HKB.out]
      clear d0 d1 hg c2 c5
      have hpl0 : Hid ((keE x (yn : Int) sn [] L ≠ 0) → decide (keE x (yn : Int) sn [] L = 0) = false) := fun h => by simp [h]
      by_cases ga : pl = (sn : Int)
      · subst ga
        obtain ⟨rr, HRR⟩ : ∃ rr, Hid (rr = pa % S) := ⟨_, hid rfl⟩
        have wp : wrap64 (pa : Int) = (pa : Int) := wrap_nat' (Nat.le_of_lt HP1.out)
        have t0 : (pa : Int).tmod (S : Int) = (rr : Int) := by rw [HRR.out]; exact tmod_nat _ _
        by_cases gb : rr = 0
        · have HALP : Hid (alg sn pa (sn : Int) = true) := by
            unfold Hid alg
            rw [decide_eq_true_eq]
            exact ⟨rfl, by rw [← HSS.out, ← HRR.out]; exact gb⟩
          rw [gb] at t0
          simp only [Int.natCast_zero] at t0
          by_cases gc : pa < x
          · have HF : Hid (decide (keE x (yn : Int) sn [] L = 0) = false) := by
              refine hpl0.out ?_
              rw [← HKE.out, HSTEP.out, if_neg (by rw [HALP.out]; simp), if_pos (by unfold inN; rw [decide_eq_false_iff_not]; omega)]
              decide
            have d5 : (pa : Int) < (x : Int) := int_lt gc
            clear gc
            go_wp2_with fail
            go_ret
            exact ⟨ret_bool HF.out.symm, HFB4.out⟩
          · by_cases gd : x + W ≤ pa
            · have HF : Hid (decide (keE x (yn : Int) sn [] L = 0) = false) := by
                refine hpl0.out ?_
                rw [← HKE.out, HSTEP.out, if_neg (by rw [HALP.out]; simp), if_pos (by unfold inN; rw [decide_eq_false_iff_not, Int.toNat_natCast, ← HWW.out]; exact fun h => absurd h.2 (Nat.not_lt.2 gd))]
                decide
              have d5 : ¬ (pa : Int) < (x : Int) := int_nlt gc
              have d6 : (x : Int) + (W : Int) ≤ (pa : Int) := int_sle gd
              clear gc gd
              go_wp2_with fail
              go_ret
              exact ⟨ret_bool HF.out.symm, HFB4.out⟩
            · have HIN : Hid (inN x (yn : Int) pa = true) := by
                unfold Hid inN; rw [decide_eq_true_eq, Int.toNat_natCast, ← HWW.out]; exact ⟨Nat.not_lt.1 gc, Nat.not_le.1 gd⟩
              have d5 : ¬ (pa : Int) < (x : Int) := int_nlt gc
              have d6 : ¬ (x : Int) + (W : Int) ≤ (pa : Int) := int_nsle gd
              clear gc gd
              have HMM : Hid ((pa, (sn : Int)) ∈ L.take j ↔ num sn pa ∈ (L.take j).map fun p => num sn p.1) := by
                unfold Hid
                rw [List.mem_map]
                constructor
                · exact fun h => ⟨_, h, rfl⟩
                · rintro ⟨p, hp, he⟩
                  obtain ⟨e1, e2⟩ := alg_back (HAL.out p hp)
                  have e3 := (alg_back HALP.out).2
                  rw [he, e3] at e2
                  have : p = (pa, (sn : Int)) := Prod.ext e2.symm e1
                  rw [← this]; exact hp
              have HHAS : ∀ t : Beh w4, Hid (Calls Try.prog 16 #[.slice (some ⟨g, off, none⟩) j ck0, .agg #[.int .u32 (pa : Int), .int .i64 (sn : Int)]] t.wd fun e w' => e = .returned (.bool (decide ((pa, (sn : Int)) ∈ L.take j))) ∧ ∃ t' : Beh w4, w' = t'.wd) := fun t => by
                have hc : Sees t.wd (.slice (some ⟨g, off, none⟩) j ck0) (L.take j) := by
                  obtain ⟨ao, cap, hv, h1, h2, h3⟩ := HV.out.below (HB4.out.trans (t.ok.mono HB4.out.size))
                  simp at hv
                  obtain ⟨rfl, hl, rfl⟩ := hv
                  refine ⟨_, ck0, by rw [List.length_take]; congr 1; omega, by rw [List.length_take]; omega, h2, fun i hi => ?_⟩
                  have hi' : i < L.length := by rw [List.length_take] at hi; omega
                  rw [List.getElem_take]
                  exact h3 i hi'
                exact Calls.beh (has_any _ _ pa (sn : Int) t.wd hc)
              have hcut := cut_low g off nk ck0 j (Nat.le_trans hj hk1)
              obtain ⟨bm, HBM⟩ : ∃ bm, Hid (bm = decide ((pa, (sn : Int)) ∈ L.take j)) := ⟨_, rfl⟩
              rw [← HBM.out] at HHAS
              have HN5 : ∀ t : Beh w4, t.wd.cell? ⟨sb, 5, none⟩ = some (.slice (some ⟨g, off, none⟩) nk ck0) := fun t => (HCL.out t.wd (HB4.out.trans (t.ok.mono HB4.out.size))).2.2.2.2.2
              go_upto_region 14 with fail
              clear t0 d5 d6 wp wxw i2 n2 n5 m0 m1
              refine wp_region_beh (by kernel_rfl) (by kernel_rfl) ?_
              repeat (go_big_quiet_step (first | (go_at_call 16; exact (HHAS _).out)))
              refine wpQuiet_nil ?_
              rintro _ ⟨t, rfl⟩
              have HFT : Hid (Below w.heap.size w t.wd ∧ Below w2.heap.size w2 t.wd) := ⟨HFB4.out.trans (t.ok.mono HFB4.out.size), HB4.out.trans (t.ok.mono HB4.out.size)⟩
              clear hcut HN5 q0 q1 HHAS
              cases bm with
              | true =>
                have HF : Hid (decide (keE x (yn : Int) sn [] L = 0) = false) := by
                  refine hpl0.out ?_
                  have hm : (pa, (sn : Int)) ∈ L.take j := by have := HBM.out; simpa using this.symm
                  rw [← HKE.out, HSTEP.out, if_neg (by rw [HALP.out]; simp), if_neg (by rw [HIN.out]; simp), if_pos (HMM.out.1 hm)]
                  decide
                go_wp2_with fail
                go_ret
                exact ⟨ret_bool HF.out.symm, HFT.out.1⟩
              | false =>
                have hm : ¬ (pa, (sn : Int)) ∈ L.take j := by have := HBM.out; simpa using this.symm
                have HKE2 : Hid (keE x (yn : Int) sn ((L.take (j + 1)).map fun p => num sn p.1) (L.drop (j + 1)) = keE x (yn : Int) sn [] L) := by
                  unfold Hid
                  rw [← HKE.out, HSTEP.out, if_neg (by rw [HALP.out]; simp), if_neg (by rw [HIN.out]; simp), if_neg (fun h => hm (HMM.out.2 h))]
                have HAL2 : Hid (∀ p ∈ L.take (j + 1), alg sn p.1 p.2 = true) := fun p hp => by
                  rw [HTK.out, List.mem_append, List.mem_singleton] at hp
                  rcases hp with hp | rfl
                  · exact HAL.out p hp
                  · exact HALP.out
                have HB5 : Hid (Below w2.heap.size w2 t.wd) := HFT.out.2
                clear hm
                go_wp2_with fail
                go_roundw
                case rel => exact ⟨j + 1, by go_num, hjn, HB5, HAL2, HKE2⟩
                case measure => simp [intOf]; omega
        · have HF : Hid (decide (keE x (yn : Int) sn [] L = 0) = false) := by
            refine hpl0.out ?_
            rw [← HKE.out, HSTEP.out, if_pos (by unfold alg; rw [decide_eq_false_iff_not, ← HSS.out, ← HRR.out]; exact fun h => gb h.2)]
            decide
          have d5 : ¬ (rr : Int) = 0 := int_ne gb
          clear gb
          go_wp2_with fail
          go_ret
          exact ⟨ret_bool HF.out.symm, HFB4.out⟩
      · have HF : Hid (decide (keE x (yn : Int) sn [] L = 0) = false) := by
          refine hpl0.out ?_
          rw [← HKE.out, HSTEP.out, if_pos (by unfold alg; rw [decide_eq_false_iff_not]; exact fun h => ga h.1)]
          decide
        have d5 : (pl == (sn : Int)) = false := by simp [ga]
        go_wp2_with fail
        go_ret
        exact ⟨ret_bool HF.out.symm, HFB4.out⟩
    · have HF : Hid (decide (keE x (yn : Int) sn [] L = 0) = true) := by
        have h := HKE.out
        rw [List.drop_of_length_le (by have := HNK.out; omega)] at h
        unfold Hid
        rw [decide_eq_true_eq, ← h]
        rfl
      have b1 : ¬ (j : Int) < (nk : Int) := int_nlt hjn
      go_wp2_with fail
      go_ret
      exact ⟨ret_bool HF.out.symm, HFB.out⟩
end Go.Proofs.Ytahoileampdnkaa
