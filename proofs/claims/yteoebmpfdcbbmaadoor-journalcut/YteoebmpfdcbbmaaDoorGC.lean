/-
  JournalCut: the walk.
-/
import Derived.Test.YteoebmpfdcbbmaaDoorGB
namespace Go.Proofs.YteoebmpfdcbbmaaDoor
open Go.ChangeShapes Go.WideShapes Go.ChangeAt Go.RowKit Jn N
set_option maxHeartbeats 16000000
set_option maxRecDepth 100000

theorem cuts_any (v0 v1 : Value) (Ls0 Ls1 : List (List Nat)) (cut : Int) (w : World) (h0 : SeesBB w v0 Ls0) (h1 : SeesBB w v1 Ls1) (hL0 : ∀ L ∈ Ls0, L.length ≤ 140737488355328) (hL1 : ∀ L ∈ Ls1, L.length ≤ 140737488355328) (hcut : cut ≤ 9223372036854775807) (ht : TabN w) :
    Calls Tryd.prog 6 #[v0, v1, .int .i64 cut] w fun e w' => e = .returned (.bool true) ∧ Below w.heap.size w w' := by
  have HT := hid ht
  have HF1 : Hid (Calls Tryd.prog 20 #[v0, .int .i64 2000] w fun e u' => ∃ v' m, e = .returned v' ∧ RecsAt w w.heap.size u' v' (Ls0.take m) ∧ baseL (Ls0.take m) ≤ 2000 ∧ Below w.heap.size w u') := few_any v0 Ls0 2000 w w h0 (Below.refl _ _) (by omega) hL0
  have HF2 : Hid (∀ u, Below w.heap.size w u → Calls Tryd.prog 20 #[v1, .int .i64 4000] u fun e u' => ∃ v' m, e = .returned v' ∧ RecsAt w u.heap.size u' v' (Ls1.take m) ∧ baseL (Ls1.take m) ≤ 4000 ∧ Below u.heap.size u u') := fun u hu => few_any v1 Ls1 4000 w u h1 hu (by omega) hL1
  have HFI : Hid (∀ u, Below w.heap.size w u → Calls Tryd.prog 9 #[] u fun e w' => e = .returned (.bool true) ∧ Below u.heap.size u w') := fun u hu => first_any u (HT.out.below hu HT.out.2)
  obtain ⟨aa0, an0, ac0, rfl, -, -, -⟩ := h0.shape
  obtain ⟨aa1, an1, ac1, rfl, -, -, -⟩ := h1.shape
  clear h0 h1 hL0 hL1 ht
  go_enter Tryd.func6, Tryd.ntmps6
  go_wp2_with fail
  refine HF1.out.mono ?_
  rintro _ u1 ⟨b0, m0, rfl, hr0, hbl0, hb1⟩
  have HB1 := hid hb1
  have HR0 := hid hr0
  have HF2' := hid (HF2.out u1 hb1)
  obtain ⟨a0, n0, c0, rfl, HN0⟩ := hr0.shape
  clear hr0 hb1 HF1 HF2
  generalize Ls0.take m0 = bs at *
  go_wp2_with fail
  refine HF2'.out.mono ?_
  rintro _ u2 ⟨b1, m1, rfl, hr1, hbl1, hb2⟩
  have HB2 : Hid (Below w.heap.size w u2) := HB1.out.trans (hb2.mono HB1.out.size)
  have HR0' := hid (HR0.out.below hb2)
  have HR1 := hid (hr1.mono HB1.out.size)
  have HF3 := hid (HFI.out u2 HB2.out)
  obtain ⟨a1, n1, c1, rfl, HN1⟩ := hr1.shape
  clear hr1 hb2 HF2' HR0 HB1
  generalize Ls1.take m1 = ms at *
  go_wp2_with fail
  refine HF3.out.mono ?_
  rintro _ u3 ⟨rfl, hb3⟩
  have HB3 : Hid (Below w.heap.size w u3) := HB2.out.trans (hb3.mono HB2.out.size)
  have HR0 := hid (HR0'.out.below hb3)
  have HR1' := hid (HR1.out.below hb3)
  clear hb3 HF3 HR0' HR1 HB2
  by_cases hc0 : cut < 0
  · have HF4 := hid (HFI.out u3 HB3.out)
    go_wp2_with fail
    refine HF4.out.mono ?_
    rintro _ u4 ⟨rfl, hb4⟩
    have HB4 : Hid (Below w.heap.size w u4) := HB3.out.trans (hb4.mono HB3.out.size)
    clear hb4
    go_wp2_with fail
    go_ret
    exact ⟨rfl, HB4.out⟩
  obtain ⟨ct, rfl⟩ : ∃ ct : Nat, cut = (ct : Int) := ⟨cut.toNat, by omega⟩
  have HBG := hid (begun_any u3 (HT.out.below HB3.out HT.out.2))
  have hn0 : n0 ≤ 200 := by have := len_base bs; have := HN0.out; omega
  have hn1 : n1 ≤ 400 := by have := len_base ms; have := HN1.out; omega
  have HSB : Hid (∀ r ∈ bs, r.length ≤ 65536) := fun r hr => by have := mem_base hr; omega
  have HSM : Hid (∀ r ∈ ms, r.length ≤ 65536) := fun r hr => by have := mem_base hr; omega
  clear HFI
  go_wp2_with fail
  refine HBG.out.mono ?_
  rintro _ u4 ⟨p, q, S0, rfl, hJ0⟩
  have HC0 : Hid (CtS w p u4 S0 fl0 (.slice a0 n0 c0) (.slice a1 n1 c1) (.slice a0 n0 c0) bs ms bs) := ⟨hJ0.since HB3.out, Lv.old HR0.out (Nat.le_refl _) hJ0, Lv.old HR1'.out (Nat.le_refl _) hJ0, Lv.old HR0.out (Nat.le_refl _) hJ0⟩
  have HRW := hid (HC0.out.jr.rew_ok HT.out (HC0.out.b.recs.sees HC0.out.jr.be) (by have := HN0.out; omega) (by show (1 : Nat) + 1 ≤ _; omega) HSB.out (by omega))
  clear hJ0 HBG HR0 HR1' HB3
  go_wp2_with fail
  refine HRW.out.mono ?_
  rintro _ u5 ⟨rfl, hL5⟩
  have HC5 := hid (HC0.out.left hL5)
  have HRS : Hid (Rws bs (ms.take 0) (fl0.rew bs)) := aps_nil.rws bs
  clear hL5 HRW HC0
  generalize fl0.rew bs = l5 at *
  generalize NewS S0 u4.heap.size u5 = S5 at *
  have HC5' : Hid (CtS w p u5 S5 l5 (.slice a0 n0 c0) (.slice a1 n1 c1) (.slice a0 n0 c0) bs ms (bs ++ ms.take 0)) := by unfold Hid; simpa using HC5.out
  clear HC5
  go_wp2_with fail
  go_loopw [9, 10] (fun va i wr => ∃ (k : Nat) (S : Nat → Prop) (l : Lg), i = .int .i64 (k : Int) ∧ k ≤ n1 ∧ Hid (CtS w p wr S l (.slice a0 n0 c0) (.slice a1 n1 c1) va bs ms (bs ++ ms.take k)) ∧ Hid (Rws bs (ms.take k) l)) (fun _ i _ => n1 - (intOf i).toNat)
  case atStart => exact ⟨0, S5, l5, rfl, Nat.zero_le _, HC5', HRS⟩
  case round =>
    obtain ⟨k, S, l, rfl, hk, HC, HRk⟩ := hrel
    clear HC5' HRS
    obtain ⟨aa, na', ca', rfl, HNA⟩ := HC.out.a.recs.shape
    by_cases hlt : k < n1
    · as_aux_lemma =>
        obtain ⟨g, x, r, rfl, hc, hx, hX⟩ := HC.out.m.at (i := k) (by have := HN1.out; omega)
        have hrl := mem_base (List.mem_of_getElem? hX)
        have HSN : Hid (ms.take (k + 1) = ms.take k ++ [r]) := take_snoc hX
        have hbk : baseL (bs ++ ms.take k) ≤ 6000 := by
          have h1 := baseL_take ms k
          rw [baseL_append]; omega
        have hwl : l.ws.length ≤ 1000 := by have := HRk.out.ws; rw [List.length_take] at this; omega
        have HAP := hid (HC.out.jr.app_ok HT.out (hx.below HC.out.jr.be) (by omega) (by omega) (by rw [HRk.out.size]; omega))
        obtain ⟨ax, nx, cx, rfl, -, -, -⟩ := hx.shape
        go_wp2_with fail
        refine HAP.out.mono ?_
        rintro _ u6 ⟨rfl, hL6⟩
        obtain ⟨S6, H6⟩ : ∃ S6, Hid (CtS w p u6 S6 (l.app r) (.slice a0 n0 c0) (.slice (some ⟨g, 0, none⟩) n1 c1) (.slice aa na' ca') bs ms (bs ++ ms.take k)) := ⟨_, HC.out.left hL6⟩
        obtain ⟨g2, x2, r2, e2, hc2, hx2, hX2⟩ := H6.out.m.at (i := k) (by have := HN1.out; omega)
        simp at e2
        subst e2
        obtain rfl : r2 = r := by rw [hX] at hX2; exact (Option.some.inj hX2).symm
        have HPL := hid (plus_any _ x2 _ r2 _ w u6 H6.out.a.recs hx2 (by rw [List.length_append, List.length_take]; have := HN0.out; omega))
        obtain ⟨ax2, nx2, cx2, rfl, -, -, -⟩ := hx2.shape
        clear hL6 hX hX2 hx hx2 HAP
        go_wp2_with fail
        refine HPL.out.mono ?_
        rintro _ u7 ⟨v', rfl, hr7, hb7⟩
        have H7 : Hid (CtS w p u7 S6 (l.app r2) (.slice a0 n0 c0) (.slice (some ⟨g, 0, none⟩) n1 c1) v' bs ms (bs ++ ms.take (k + 1))) := by
          unfold Hid; rw [HSN.out, ← List.append_assoc]; exact H6.out.more hr7 hb7
        have HR7 : Hid (Rws bs (ms.take (k + 1)) (l.app r2)) := by unfold Hid; rw [HSN.out]; exact HRk.out.app r2
        obtain ⟨a', n', c', rfl, -⟩ := hr7.shape
        clear hr7 hb7 HPL
        go_wp2_with fail
        go_roundw
        case rel => exact ⟨k + 1, _, _, by go_num, by omega, H7, HR7⟩
        case measure => simp [intOf]; omega
    · as_aux_lemma =>
        have hms : ms.take k = ms := List.take_of_length_le (by have := HN1.out; omega)
        rw [hms] at HC HRk HNA
        clear hms
        have hall : baseL (bs ++ ms) ≤ 6000 := by rw [baseL_append]; omega
        have hwl : l.ws.length ≤ 1000 := by have := HRk.out.ws; have := HN1.out; omega
        have HSY := hid (sync_any _ p _ wr HC.out.jr.log HC.out.jr.ok (by omega))
        obtain ⟨ea, eb⟩ := HRk.out.syn
        have HSA : Hid (∀ r ∈ bs ++ ms, r.length ≤ 65536) := fun r hr => (List.mem_append.1 hr).elim (HSB.out r) (HSM.out r)
        obtain ⟨F, HF⟩ : ∃ F, Hid (F = gener 2 bs ++ frames 2 bs.length ms) := ⟨_, rfl⟩
        have HFL : Hid (F.length = 16 + baseL (bs ++ ms)) := by unfold Hid; rw [HF.out, List.length_append, gener_len, frames_len, baseL_append]; omega
        rw [← HF.out] at eb
        have HEA := hid ea
        have HEB := hid eb
        have hna : na' ≤ 600 := by have := HNA.out; rw [List.length_append] at this; have := HN0.out; have := HN1.out; omega
        have hnb0 : n0 ≤ na' := by have := HNA.out; rw [List.length_append] at this; have := HN0.out; omega
        clear ea eb
        go_wp2_with fail
        refine HSY.out.mono ?_
        rintro _ u6 ⟨rfl, hL6⟩
        obtain ⟨S6, H6⟩ : ∃ S6, Hid (CtS w p u6 S6 l.syn (.slice a0 n0 c0) (.slice a1 n1 c1) (.slice aa na' ca') bs ms (bs ++ ms)) := ⟨_, HC.out.left hL6⟩
        have HCR := hid (crash_any _ p _ 0 u6 H6.out.jr.log H6.out.jr.ok (by show (0 : Nat) ≤ _; omega) (by decide))
        rw [show ((0 : Int)).toNat = 0 from rfl, crash_zero, HEA.out, HEB.out] at HCR
        have HBY : Hid (∀ y ∈ F, y < 256) := by have := H6.out.jr.ok.bb; rw [HEB.out] at this; exact this
        clear hL6 HSY HC HRk
        go_wp2_with fail
        refine HCR.out.mono ?_
        rintro _ u7 ⟨ga, na, ca, gb, nb, cb, rfl, hD⟩
        have H7 := hid (H6.out.below hD.be)
        have HBF := hid (hD.b.sees HBY.out)
        obtain rfl : na = 16 := by
          have h1 := hD.a.sees (head_bytes 1 0 : ∀ y ∈ gener 1 [], y < 256)
          obtain ⟨_, _, _, e1, HN, -, -⟩ := h1.shape
          simp at e1
          have := HN.out
          obtain ⟨-, rfl, -⟩ := e1
          rw [this]; rfl
        have HNB : Hid (nb = 16 + baseL (bs ++ ms)) := by
          obtain ⟨_, _, _, e1, HN, -, -⟩ := HBF.out.shape
          simp at e1
          obtain ⟨-, rfl, -⟩ := e1
          unfold Hid; rw [HN.out]; exact HFL.out
        have hnb : nb ≤ 6016 := by have := HNB.out; omega
        have hcb : nb ≤ cb := by
          obtain ⟨_, _, _, e1, -, h2, -⟩ := HBF.out.shape
          simp at e1
          obtain ⟨-, rfl, rfl⟩ := e1
          exact h2
        obtain ⟨w8, HW8⟩ : ∃ w8, Hid (w8 = u7.alloc (.cells #[.slice (some ⟨ga, 0, none⟩) 16 ca, .slice (some ⟨gb, 0, none⟩) nb cb] 33)) := ⟨_, rfl⟩
        obtain ⟨db, HDB⟩ : ∃ db, Hid (db = u7.heap.size) := ⟨_, rfl⟩
        have hb8 : Below u7.heap.size u7 w8 := by rw [HW8.out]; exact (Below.refl _ _).alloc (Nat.le_refl _) _
        have hrow8 : w8.heap[db]? = some (.cells #[.slice (some ⟨ga, 0, none⟩) 16 ca, .slice (some ⟨gb, 0, none⟩) nb cb] 33 (0, 0)) := by rw [HW8.out, HDB.out]; exact heap_alloc_new u7 _
        have H8 := hid (H7.out.below hb8)
        have HBF8 := hid (HBF.out.below hb8)
        obtain ⟨kk0, kk1⟩ := Beh.two hrow8
        have HZA : ∀ u : Beh w8, Hid (Calls Tryd.prog 10 #[.slice aa na' ca'] u.wd fun e w' => e = .returned (.int .i64 (nb : Int)) ∧ ∃ u' : Beh w8, w' = u'.wd) := fun u => by
          have := sizeL_any _ _ u.wd ((H8.out.below u.ok).a.recs.sees (H8.out.below u.ok).jr.be) (by rw [List.length_append]; have := HN0.out; have := HN1.out; omega) HSA.out
          rw [← HNB.out] at this
          exact Calls.beh (this.mono fun _ _ ⟨a, b⟩ => ⟨a, by rw [b]; exact Below.refl _ _⟩)
        have HROW := hid hrow8
        clear hD HCR HEA HEB hb8 hrow8
        go_upto_region 16 with fail
        rw [← HW8.out, ← HDB.out]
        refine wp_region_beh (by kernel_rfl) (by kernel_rfl) ?_
        repeat (go_big_quiet_step ((go_at_call 10; exact (HZA _).out)))
        refine wpQuiet_nil ?_
        rintro _ ⟨t, rfl⟩
        obtain ⟨w9, hw9⟩ : ∃ w9, w9 = t.wd := ⟨_, rfl⟩
        have HB9 : Hid (Below w8.heap.size w8 w9) := by rw [hw9]; exact t.ok
        rw [← hw9]
        clear hw9 HZA kk0 kk1 t
        have H9 := hid (H8.out.below HB9.out)
        have HBF9 := hid (HBF8.out.below HB9.out)
        obtain ⟨n, HNN⟩ : ∃ n, Hid (n = ct % (nb + 1)) := ⟨_, rfl⟩
        have hnn : n ≤ nb := by rw [HNN.out]; have := Nat.mod_lt ct (show 0 < nb + 1 by omega); omega
        have t0 : (ct : Int).tmod ((nb : Int) + 1) = (n : Int) := by rw [HNN.out]; rfl
        have hrow9 := below_keeps HB9.out HROW.out (Array.getElem?_eq_some_iff.1 HROW.out).1
        obtain ⟨z0, z1, -, -⟩ := ar_cells hrow9
        go_upto_region 19 with fail
        obtain ⟨ao', HSC, hcutB⟩ := HBF9.out.high n (n : Int) rfl hnn
        have HOP := hid (open_any (.slice none 0 0) (.slice ao' n cb) [] (F.take n) w9 (sees_nil _) HSC.out (HT.out.below H9.out.jr.be HT.out.2))
        obtain ⟨cA, cB, cC⟩ := cut_open (bs := bs) (ms := ms) (n := n) HSB.out HSM.out (by omega) (by have := HNB.out; rw [baseL_append] at this; omega)
        rw [← HF.out] at cA cB cC
        have CA := hid cA
        have CB := hid cB
        have CC := hid cC
        obtain ⟨sb, HSBZ⟩ : ∃ sb, Hid (sb = 16 + baseL bs) := ⟨_, rfl⟩
        rw [← HSBZ.out] at CB CC
        have hsb : sb ≤ 2016 ∧ 16 ≤ sb := by have := HSBZ.out; omega
        have HZB : Hid (∀ u, Below w9.heap.size w9 u → Calls Tryd.prog 10 #[.slice a0 n0 c0] u fun e w' => e = .returned (.int .i64 (sb : Int)) ∧ w' = u) := fun u hu => by
          have := sizeL_any _ _ u ((H9.out.below hu).b.recs.sees (H9.out.below hu).jr.be) (by have := HN0.out; omega) HSB.out
          rw [← HSBZ.out] at this
          exact this
        clear cA cB cC t0 HNN hrow9 HROW HBF8 HBF9 H8 HB9
        by_cases hA : n < 16
        · as_aux_lemma =>
            obtain ⟨q1, q2, q3⟩ := CA.out hA
            have HOA : Hid (Calls Tryd.prog 16 #[.agg #[.slice none 0 0, .slice ao' n cb]] w9 fun e w' => ∃ p' v S Bd, e = .returned (.tuple #[.pointer (some ⟨p', 0, none⟩), v, .int .i64 0]) ∧ Opened w9 w' S Bd p' v (opnL [] (F.take n)) []) := HOP.out.mono fun e w' h => by
              have := h.2 q1
              rw [q2] at this
              exact this
            have hns : n < sb := by omega
            clear q1 q2 HOP CA CB CC
            go_wp2_with fail
            refine HOA.out.mono ?_
            rintro _ w10 ⟨p', vr, S', Bd', rfl, hO⟩
            have H10 := hid (H9.out.below hO.be)
            have HZ10 := hid (HZB.out w10 hO.be)
            have HDI := hid (dirty_any S' p' _ w10 hO.log)
            rw [q3] at HDI
            obtain ⟨ar, nr, cr, rfl, HNR, -, -⟩ := hO.recs.sees.shape
            obtain rfl : nr = 0 := HNR.out
            clear hO HNR q3
            go_wp2_with fail
            refine HZ10.out.mono ?_
            rintro _ wx ⟨rfl, rfl⟩
            go_wp2_with fail
            refine HDI.out.mono ?_
            rintro _ wy ⟨rfl, rfl⟩
            go_wp2_with fail
            go_ret
            exact ⟨rfl, H10.out.jr.be⟩
        by_cases hB : n < sb
        · as_aux_lemma =>
            have HOA : Hid (Calls Tryd.prog 16 #[.agg #[.slice none 0 0, .slice ao' n cb]] w9 fun e w' => e = .returned (.tuple #[.pointer none, .slice none 0 0, .int .i64 120]) ∧ Below w9.heap.size w9 w') := HOP.out.mono fun e w' h => h.1 (CB.out (by omega) hB)
            clear HOP CA CB CC
            go_wp2_with fail
            refine HOA.out.mono ?_
            rintro _ w10 ⟨rfl, hb10⟩
            have H10 := hid (H9.out.below hb10)
            have HZ10 := hid (HZB.out w10 hb10)
            clear hb10
            go_wp2_with fail
            refine HZ10.out.mono ?_
            rintro _ wx ⟨rfl, rfl⟩
            go_wp2_with fail
            go_ret
            exact ⟨rfl, H10.out.jr.be⟩
        · as_aux_lemma =>
            obtain ⟨m, q1, q2, q3, q4, q5, q6, q7, q8⟩ := CC.out (by omega)
            have HOA : Hid (Calls Tryd.prog 16 #[.agg #[.slice none 0 0, .slice ao' n cb]] w9 fun e w' => ∃ p' v S Bd, e = .returned (.tuple #[.pointer (some ⟨p', 0, none⟩), v, .int .i64 0]) ∧ Opened w9 w' S Bd p' v (opnL [] (F.take n)) ((bs ++ ms).take m)) := HOP.out.mono fun e w' h => by
              have := h.2 q1
              rw [q2] at this
              exact this
            obtain ⟨sr, HSR⟩ : ∃ sr, Hid (sr = 16 + baseL ((bs ++ ms).take m)) := ⟨_, rfl⟩
            rw [← HSR.out] at q6 q7
            have hml : m ≤ na' := by have := HNA.out; omega
            have hmb : n0 ≤ m := by have := HN0.out; omega
            have Q6 := hid q6
            have Q5 := hid q5
            have Q8 : Hid (m = na' ∨ n < 16 + baseL ((bs ++ ms).take (m + 1))) := by rw [HNA.out]; exact q8
            have HZR : Hid (∀ u v, SeesBB u v ((bs ++ ms).take m) → Calls Tryd.prog 10 #[v] u fun e w' => e = .returned (.int .i64 (sr : Int)) ∧ w' = u) := fun u v h => by
              have := sizeL_any v _ u h (by rw [List.length_take]; omega) (fun r hr => HSA.out r (List.mem_of_mem_take hr))
              rw [← HSR.out] at this
              exact this
            have hlt' : ¬ n < sb := hB
            clear q1 q2 q3 q4 q5 q6 q8 HOP CA CB CC
            go_wp2_with fail
            refine HOA.out.mono ?_
            rintro _ w10 ⟨p', vr, S', Bd', rfl, hO⟩
            have H10 := hid (H9.out.below hO.be)
            have HZ10 := hid (HZB.out w10 hO.be)
            have HLG := hid hO.log
            have HSV := hid hO.recs.sees
            obtain ⟨ar, nr, cr, rfl, HNR, -, -⟩ := hO.recs.sees.shape
            obtain rfl : nr = m := by have := HNR.out; rw [List.length_take] at this; have := HNA.out; omega
            have hALL := H10.out.a.recs.sees H10.out.jr.be
            obtain ⟨ac, HAC, hcutA⟩ := hALL.high nr (nr : Int) rfl hml
            have HLS := hid (lists_eq _ _ _ w10 HSV.out HAC.out)
            clear hO HNR hALL
            go_wp2_with fail
            refine HZ10.out.mono ?_
            rintro _ wx ⟨rfl, rfl⟩
            go_wp2_with fail
            refine HLS.out.mono ?_
            rintro _ w11 ⟨rfl, hb11⟩
            have H11 := hid (H10.out.below hb11)
            have HZ11 := hid (HZR.out w11 _ (HSV.out.below hb11))
            have HS11 := hid (size_any S' p' _ w11 (HLG.out.below hb11))
            have HD11 := hid (dirty_any S' p' _ w11 (HLG.out.below hb11))
            rw [Q6.out] at HS11
            rw [Q5.out] at HD11
            clear hb11 HLS hcutA
            go_wp2_with fail
            refine HZ11.out.mono ?_
            rintro _ wy ⟨rfl, rfl⟩
            rcases Nat.lt_or_ge nr na' with hlt2 | hge
            · have hn1 : n < 16 + baseL ((bs ++ ms).take (nr + 1)) := by
                rcases Q8.out with h | h
                · omega
                · exact h
              obtain ⟨sn, HSN⟩ : ∃ sn, Hid (sn = 16 + baseL ((bs ++ ms).take (nr + 1))) := ⟨_, rfl⟩
              rw [← HSN.out] at hn1
              have hALL := H11.out.a.recs.sees H11.out.jr.be
              obtain ⟨ac2, HAC2, hcutA2⟩ := hALL.high (nr + 1) ((nr : Int) + 1) (by omega) hlt2
              have HZN := hid (sizeL_any _ _ wy HAC2.out (by rw [List.length_take]; omega) (fun r hr => HSA.out r (List.mem_of_mem_take hr)))
              rw [← HSN.out] at HZN
              have hne : ¬ nr = na' := by omega
              clear hALL
              go_wp2_with fail
              refine HZN.out.mono ?_
              rintro _ wz ⟨rfl, rfl⟩
              go_wp2_with fail
              refine HS11.out.mono ?_
              rintro _ wa ⟨rfl, rfl⟩
              go_wp2_with fail
              refine HZ11.out.mono ?_
              rintro _ wb ⟨rfl, rfl⟩
              go_wp2_with fail
              refine HD11.out.mono ?_
              rintro _ wc ⟨rfl, rfl⟩
              go_wp2_with fail
              go_ret
              exact ⟨rfl, H11.out.jr.be⟩
            · obtain rfl : nr = na' := by omega
              go_wp2_with fail
              refine HS11.out.mono ?_
              rintro _ wa ⟨rfl, rfl⟩
              go_wp2_with fail
              refine HZ11.out.mono ?_
              rintro _ wb ⟨rfl, rfl⟩
              go_wp2_with fail
              refine HD11.out.mono ?_
              rintro _ wc ⟨rfl, rfl⟩
              go_wp2_with fail
              go_ret
              exact ⟨rfl, H11.out.jr.be⟩
end Go.Proofs.YteoebmpfdcbbmaaDoor
