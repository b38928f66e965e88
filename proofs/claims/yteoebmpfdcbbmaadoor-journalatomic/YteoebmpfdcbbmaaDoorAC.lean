/-
  JournalAtomic: the walk.
-/
import Derived.Test.YteoebmpfdcbbmaaDoorGB
import Derived.Test.YteoebmpfdcbbmaaDoorAM
namespace Go.Proofs.YteoebmpfdcbbmaaDoor
open Go.ChangeShapes Go.WideShapes Go.ChangeAt Go.RowKit Jn N
set_option maxHeartbeats 16000000
set_option maxRecDepth 100000

/-- Four lists of records beside a journal. -/
structure AtS (w : World) (p : Nat) (u : World) (S : Nat → Prop) (l : Lg) (vo vn vm va : Value) (os ns ms zs : List (List Nat)) : Prop where
  c : CtS w p u S l vn vm va ns ms zs
  o : Lv w u S vo os
theorem AtS.left {w u u' : World} {p : Nat} {S : Nat → Prop} {l l' : Lg} {vo vn vm va : Value} {os ns ms zs : List (List Nat)} (h : AtS w p u S l vo vn vm va os ns ms zs) (hl : Left u u' S p l') : AtS w p u' (NewS S u.heap.size u') l' vo vn vm va os ns ms zs := ⟨h.c.left hl, h.o.left hl⟩
theorem AtS.below {w u u' : World} {p : Nat} {S : Nat → Prop} {l : Lg} {vo vn vm va : Value} {os ns ms zs : List (List Nat)} (h : AtS w p u S l vo vn vm va os ns ms zs) (hb : Below u.heap.size u u') : AtS w p u' S l vo vn vm va os ns ms zs := ⟨h.c.below hb, h.o.below hb⟩
theorem AtS.more {w u u' : World} {p : Nat} {S : Nat → Prop} {l : Lg} {vo vn vm va va' : Value} {os ns ms zs zs' : List (List Nat)} (h : AtS w p u S l vo vn vm va os ns ms zs) (hr : RecsAt w u.heap.size u' va' zs') (hb : Below u.heap.size u u') : AtS w p u' S l vo vn vm va' os ns ms zs' := ⟨h.c.more hr hb, h.o.below hb⟩

theorem atomic_any (v0 v1 v2 : Value) (Ls0 Ls1 Ls2 : List (List Nat)) (w : World) (h0 : SeesBB w v0 Ls0) (h1 : SeesBB w v1 Ls1) (h2 : SeesBB w v2 Ls2) (hL0 : ∀ L ∈ Ls0, L.length ≤ 140737488355328) (hL1 : ∀ L ∈ Ls1, L.length ≤ 140737488355328) (hL2 : ∀ L ∈ Ls2, L.length ≤ 140737488355328) (ht : TabN w) :
    Calls Tryd.prog 5 #[v0, v1, v2] w fun e w' => e = .returned (.bool true) ∧ Below w.heap.size w w' := by
  have HT := hid ht
  have HF0 : Hid (∀ u, Below w.heap.size w u → Calls Tryd.prog 20 #[v0, .int .i64 400] u fun e u' => ∃ v' m, e = .returned v' ∧ RecsAt w u.heap.size u' v' (Ls0.take m) ∧ baseL (Ls0.take m) ≤ 400 ∧ Below u.heap.size u u') := fun u hu => few_any v0 Ls0 400 w u h0 hu (by omega) hL0
  have HF1 : Hid (∀ u, Below w.heap.size w u → Calls Tryd.prog 20 #[v1, .int .i64 400] u fun e u' => ∃ v' m, e = .returned v' ∧ RecsAt w u.heap.size u' v' (Ls1.take m) ∧ baseL (Ls1.take m) ≤ 400 ∧ Below u.heap.size u u') := fun u hu => few_any v1 Ls1 400 w u h1 hu (by omega) hL1
  have HF2 : Hid (∀ u, Below w.heap.size w u → Calls Tryd.prog 20 #[v2, .int .i64 200] u fun e u' => ∃ v' m, e = .returned v' ∧ RecsAt w u.heap.size u' v' (Ls2.take m) ∧ baseL (Ls2.take m) ≤ 200 ∧ Below u.heap.size u u') := fun u hu => few_any v2 Ls2 200 w u h2 hu (by omega) hL2
  have HFI := hid (first_any w ht)
  obtain ⟨aa0, an0, ac0, rfl, -, -, -⟩ := h0.shape
  obtain ⟨aa1, an1, ac1, rfl, -, -, -⟩ := h1.shape
  obtain ⟨aa2, an2, ac2, rfl, -, -, -⟩ := h2.shape
  clear h0 h1 h2 hL0 hL1 hL2 ht
  go_enter Tryd.func5, Tryd.ntmps5
  go_wp2_with fail
  refine HFI.out.mono ?_
  rintro _ u0 ⟨rfl, hb0⟩
  have HB0 := hid hb0
  have HF0' := hid (HF0.out u0 hb0)
  clear hb0 HF0 HFI
  go_wp2_with fail
  refine HF0'.out.mono ?_
  rintro _ u1 ⟨b0, m0, rfl, hr0, hbl0, hb1⟩
  have HB1 : Hid (Below w.heap.size w u1) := HB0.out.trans (hb1.mono HB0.out.size)
  have HR0 := hid (hr0.mono HB0.out.size)
  have HF1' := hid (HF1.out u1 HB1.out)
  obtain ⟨a0, n0, c0, rfl, HN0⟩ := hr0.shape
  clear hr0 hb1 HF1 HF0' HB0
  generalize Ls0.take m0 = os at *
  go_wp2_with fail
  refine HF1'.out.mono ?_
  rintro _ u2 ⟨b1, m1, rfl, hr1, hbl1, hb2⟩
  have HB2 : Hid (Below w.heap.size w u2) := HB1.out.trans (hb2.mono HB1.out.size)
  have HR0' := hid (HR0.out.below hb2)
  have HR1 := hid (hr1.mono HB1.out.size)
  have HF2' := hid (HF2.out u2 HB2.out)
  obtain ⟨a1, n1, c1, rfl, HN1⟩ := hr1.shape
  clear hr1 hb2 HF2 HF1' HR0 HB1
  generalize Ls1.take m1 = ns at *
  go_wp2_with fail
  refine HF2'.out.mono ?_
  rintro _ u3 ⟨b2, m2, rfl, hr2, hbl2, hb3⟩
  have HB3 : Hid (Below w.heap.size w u3) := HB2.out.trans (hb3.mono HB2.out.size)
  have HR0 := hid (HR0'.out.below hb3)
  have HR1' := hid (HR1.out.below hb3)
  have HR2 := hid (hr2.mono HB2.out.size)
  obtain ⟨a2, n2, c2, rfl, HN2⟩ := hr2.shape
  clear hr2 hb3 HF2' HR0' HR1 HB2
  generalize Ls2.take m2 = ms at *
  have HBG := hid (begun_any u3 (HT.out.below HB3.out HT.out.2))
  have hn0 : n0 ≤ 40 := by have := len_base os; have := HN0.out; omega
  have hn1 : n1 ≤ 40 := by have := len_base ns; have := HN1.out; omega
  have hn2 : n2 ≤ 20 := by have := len_base ms; have := HN2.out; omega
  have HSO : Hid (∀ r ∈ os, r.length ≤ 65536) := fun r hr => by have := mem_base hr; omega
  have HSN : Hid (∀ r ∈ ns, r.length ≤ 65536) := fun r hr => by have := mem_base hr; omega
  have HSM : Hid (∀ r ∈ ms, r.length ≤ 65536) := fun r hr => by have := mem_base hr; omega
  have HSA : Hid (∀ r ∈ ns ++ ms, r.length ≤ 65536) := fun r hr => (List.mem_append.1 hr).elim (HSN.out r) (HSM.out r)
  have hall : baseL (ns ++ ms) ≤ 600 := by rw [baseL_append]; omega
  go_wp2_with fail
  refine HBG.out.mono ?_
  rintro _ u4 ⟨p, q, S0, rfl, hJ0⟩
  have HC0 : Hid (AtS w p u4 S0 fl0 (.slice a0 n0 c0) (.slice a1 n1 c1) (.slice a2 n2 c2) (.slice a1 n1 c1) os ns ms ns) := ⟨⟨hJ0.since HB3.out, Lv.old HR1'.out (Nat.le_refl _) hJ0, Lv.old HR2.out (Nat.le_refl _) hJ0, Lv.old HR1'.out (Nat.le_refl _) hJ0⟩, Lv.old HR0.out (Nat.le_refl _) hJ0⟩
  have HRW := hid (HC0.out.c.jr.rew_ok HT.out (HC0.out.o.recs.sees HC0.out.c.jr.be) (by have := HN0.out; omega) (by show (1 : Nat) + 1 ≤ _; omega) HSO.out (by omega))
  clear hJ0 HBG HR0 HR1' HR2 HB3
  go_wp2_with fail
  refine HRW.out.mono ?_
  rintro _ u5 ⟨rfl, hL5⟩
  obtain ⟨S5, HC5⟩ : ∃ S5, Hid (AtS w p u5 S5 (fl0.rew os) (.slice a0 n0 c0) (.slice a1 n1 c1) (.slice a2 n2 c2) (.slice a1 n1 c1) os ns ms ns) := ⟨_, HC0.out.left hL5⟩
  have HRS : Hid (Rws os [] (fl0.rew os)) := aps_nil.rws os
  clear hL5 HRW HC0
  generalize fl0.rew os = l5 at *
  have HSY := hid (sync_any _ p _ u5 HC5.out.c.jr.log HC5.out.c.jr.ok (by have := HRS.out.ws; rw [List.length_nil] at this; omega))
  go_wp2_with fail
  refine HSY.out.mono ?_
  rintro _ u6 ⟨rfl, hL6⟩
  obtain ⟨S6, HC6⟩ : ∃ S6, Hid (AtS w p u6 S6 l5.syn (.slice a0 n0 c0) (.slice a1 n1 c1) (.slice a2 n2 c2) (.slice a1 n1 c1) os ns ms ns) := ⟨_, HC5.out.left hL6⟩
  have HRW := hid (HC6.out.c.jr.rew_ok HT.out (HC6.out.c.b.recs.sees HC6.out.c.jr.be) (by have := HN1.out; omega) (by show (0 : Nat) + 1 ≤ _; omega) HSN.out (by omega))
  clear hL6 HSY HC5
  go_wp2_with fail
  refine HRW.out.mono ?_
  rintro _ u7 ⟨rfl, hL7⟩
  have HA7 : Hid (Atm os ns (ms.take 0) (l5.syn.rew ns)) := HRS.out.atm ns
  obtain ⟨S7, HC7⟩ : ∃ S7, Hid (AtS w p u7 S7 (l5.syn.rew ns) (.slice a0 n0 c0) (.slice a1 n1 c1) (.slice a2 n2 c2) (.slice a1 n1 c1) os ns ms (ns ++ ms.take 0)) := ⟨_, by unfold Hid; simpa using HC6.out.left hL7⟩
  generalize l5.syn.rew ns = l7 at *
  obtain ⟨wh, HWH⟩ : ∃ wh, Hid (wh = 16 + baseL ns) := ⟨_, rfl⟩
  have hwh : 16 ≤ wh ∧ wh ≤ 416 := by have := HWH.out; omega
  have HDI := hid (dirty_any _ p _ u7 HC7.out.c.jr.log)
  rw [HA7.out.di, List.take_zero, List.append_nil, ← HWH.out] at HDI
  clear hL7 HRW HC6 HRS
  go_wp2_with fail
  refine HDI.out.mono ?_
  rintro _ ux ⟨rfl, rfl⟩
  go_wp2_with fail
  go_loopw [10, 11] (fun va i wr => ∃ (k : Nat) (S : Nat → Prop) (l : Lg), i = .int .i64 (k : Int) ∧ k ≤ n2 ∧ Hid (AtS w p wr S l (.slice a0 n0 c0) (.slice a1 n1 c1) (.slice a2 n2 c2) va os ns ms (ns ++ ms.take k)) ∧ Hid (Atm os ns (ms.take k) l)) (fun _ i _ => n2 - (intOf i).toNat)
  case atStart => exact ⟨0, S7, l7, rfl, Nat.zero_le _, HC7, HA7⟩
  case round =>
    obtain ⟨k, S, l, rfl, hk, HC, HRk⟩ := hrel
    clear HC7 HA7 HDI
    obtain ⟨aa, na', ca', rfl, HNA⟩ := HC.out.c.a.recs.shape
    by_cases hlt : k < n2
    · as_aux_lemma =>
        obtain ⟨g, x, r, rfl, hc, hx, hX⟩ := HC.out.c.m.at (i := k) (by have := HN2.out; omega)
        have hrl := mem_base (List.mem_of_getElem? hX)
        have HSX : Hid (ms.take (k + 1) = ms.take k ++ [r]) := take_snoc hX
        have hbk : baseL (ns ++ ms.take k) ≤ 600 := by
          have h1 := baseL_take ms k
          rw [baseL_append]; omega
        have hwl : l.ws.length ≤ 1000 := by have := HRk.out.ws; rw [List.length_take] at this; omega
        have HAP := hid (HC.out.c.jr.app_ok HT.out (hx.below HC.out.c.jr.be) (by omega) (by omega) (by rw [HRk.out.size]; omega))
        obtain ⟨ax, nx, cx, rfl, -, -, -⟩ := hx.shape
        go_wp2_with fail
        refine HAP.out.mono ?_
        rintro _ u6 ⟨rfl, hL6⟩
        obtain ⟨S6, H6⟩ : ∃ S6, Hid (AtS w p u6 S6 (l.app r) (.slice a0 n0 c0) (.slice a1 n1 c1) (.slice (some ⟨g, 0, none⟩) n2 c2) (.slice aa na' ca') os ns ms (ns ++ ms.take k)) := ⟨_, HC.out.left hL6⟩
        obtain ⟨g2, x2, r2, e2, hc2, hx2, hX2⟩ := H6.out.c.m.at (i := k) (by have := HN2.out; omega)
        simp at e2
        subst e2
        obtain rfl : r2 = r := by rw [hX] at hX2; exact (Option.some.inj hX2).symm
        have HPL := hid (plus_any _ x2 _ r2 _ w u6 H6.out.c.a.recs hx2 (by rw [List.length_append, List.length_take]; have := HN1.out; omega))
        obtain ⟨ax2, nx2, cx2, rfl, -, -, -⟩ := hx2.shape
        clear hL6 hX hX2 hx hx2 HAP
        go_wp2_with fail
        refine HPL.out.mono ?_
        rintro _ u7 ⟨v', rfl, hr7, hb7⟩
        have H7 : Hid (AtS w p u7 S6 (l.app r2) (.slice a0 n0 c0) (.slice a1 n1 c1) (.slice (some ⟨g, 0, none⟩) n2 c2) v' os ns ms (ns ++ ms.take (k + 1))) := by
          unfold Hid; rw [HSX.out, ← List.append_assoc]; exact H6.out.more hr7 hb7
        have HR7 : Hid (Atm os ns (ms.take (k + 1)) (l.app r2)) := by unfold Hid; rw [HSX.out]; exact HRk.out.app r2
        obtain ⟨a', n', c', rfl, -⟩ := hr7.shape
        clear hr7 hb7 HPL
        go_wp2_with fail
        go_roundw
        case rel => exact ⟨k + 1, _, _, by go_num, by omega, H7, HR7⟩
        case measure => simp [intOf]; omega
    · as_aux_lemma =>
        have hms : ms.take k = ms := List.take_of_length_le (by have := HN2.out; omega)
        rw [hms] at HC HRk HNA
        clear hms
        have hna : na' ≤ 60 := by have := HNA.out; rw [List.length_append] at this; have := HN1.out; have := HN2.out; omega
        obtain ⟨sz, HSZ⟩ : ∃ sz, Hid (sz = 16 + baseL (ns ++ ms)) := ⟨_, rfl⟩
        have hsz : sz ≤ 616 := by have := HSZ.out; omega
        have hwsz : wh ≤ sz := by have h1 := HSZ.out; have h2 := HWH.out; rw [baseL_append] at h1; omega
        have HZN : Hid (Calls Tryd.prog 10 #[.slice a1 n1 c1] wr fun e w' => e = .returned (.int .i64 (wh : Int)) ∧ w' = wr) := by
          have := sizeL_any _ _ wr (HC.out.c.b.recs.sees HC.out.c.jr.be) (by have := HN1.out; omega) HSN.out
          rw [← HWH.out] at this
          exact this
        have HZA : Hid (Calls Tryd.prog 10 #[.slice aa na' ca'] wr fun e w' => e = .returned (.int .i64 (sz : Int)) ∧ w' = wr) := by
          have := sizeL_any _ _ wr (HC.out.c.a.recs.sees HC.out.c.jr.be) (by have := HNA.out; omega) HSA.out
          rw [← HSZ.out] at this
          exact this
        have HDI : Hid (∀ u S, AtS w p u S l (.slice a0 n0 c0) (.slice a1 n1 c1) (.slice a2 n2 c2) (.slice aa na' ca') os ns ms (ns ++ ms) → Calls Tryd.prog 21 #[.pointer (some ⟨p, 0, none⟩)] u fun e w' => e = .returned (.int .i64 (sz : Int)) ∧ w' = u) := fun u S h => by
          have := dirty_any S p l u h.c.jr.log
          rw [HRk.out.di, ← HSZ.out] at this
          exact this
        go_wp2_with fail
        refine HZN.out.mono ?_
        rintro _ wx ⟨rfl, rfl⟩
        go_wp2_with fail
        refine (HDI.out _ _ HC.out).mono ?_
        rintro _ wy ⟨rfl, rfl⟩
        go_wp2_with fail
        refine HZA.out.mono ?_
        rintro _ wz ⟨rfl, rfl⟩
        clear HZN HZA
        go_wp2_with fail
        go_loopw [12, 13, 14, 15] (fun i _ _ _ wr => ∃ k : Nat, i = .int .i64 (k : Int) ∧ k ≤ sz + 1 ∧ Hid (AtS w p wr S l (.slice a0 n0 c0) (.slice a1 n1 c1) (.slice a2 n2 c2) (.slice aa na' ca') os ns ms (ns ++ ms))) (fun i _ _ _ _ => sz + 1 - (intOf i).toNat)
        case atStart => exact ⟨0, rfl, Nat.zero_le _, HC⟩
        case round =>
          obtain ⟨k2, rfl, hk2, HS⟩ := hrel
          by_cases hle : k2 ≤ sz
          · have hcr := crash_any S p l (k2 : Int) wr HS.out.c.jr.log HS.out.c.jr.ok (by have := HRk.out.ws; have := HN2.out; omega) (by omega)
            rw [Int.toNat_natCast] at hcr
            obtain ⟨r1, r2⟩ := HRk.out.read HSO.out HSN.out HSM.out (by omega) (by omega) k2 (by have h1 := HSZ.out; rw [baseL_append] at h1; omega)
            have hby := crash_bytes l.ws (l.a, l.b) k2 HS.out.c.jr.ok.ba HS.out.c.jr.ok.bb HS.out.c.jr.ok.ws.bytes
            generalize crash (l.a, l.b) k2 l.ws = D at hcr r1 r2 hby
            rw [← HWH.out] at r1 r2
            have HCR := hid hcr
            have R1 := hid r1
            have R2 := hid r2
            have HBY := hid hby
            have HDK := hid (HDI.out _ _ HS.out)
            clear hcr r1 r2 hby
            go_wp2_with fail
            refine HDK.out.mono ?_
            rintro _ wx ⟨rfl, rfl⟩
            go_wp2_with fail
            refine HCR.out.mono ?_
            rintro _ w9 ⟨ga, ng, cg, gb, nb, cb, rfl, hD⟩
            have H9 := hid (HS.out.below hD.be)
            have HOP := hid (open_any (.slice (some ⟨ga, 0, none⟩) ng cg) (.slice (some ⟨gb, 0, none⟩) nb cb) D.1 D.2 w9 (hD.a.sees HBY.out.1) (hD.b.sees HBY.out.2) (HT.out.below H9.out.c.jr.be HT.out.2))
            clear hD HCR HDK
            by_cases hkw : k2 < wh
            · as_aux_lemma =>
                obtain ⟨q1, q2⟩ := R1.out hkw
                have HOA : Hid (Calls Tryd.prog 16 #[.agg #[.slice (some ⟨ga, 0, none⟩) ng cg, .slice (some ⟨gb, 0, none⟩) nb cb]] w9 fun e w' => ∃ p' v S Bd l', e = .returned (.tuple #[.pointer (some ⟨p', 0, none⟩), v, .int .i64 0]) ∧ Opened w9 w' S Bd p' v l' os) := HOP.out.mono fun e w' h => by
                  obtain ⟨p', v, S, Bd, h1, h2⟩ := h.2 q1
                  rw [q2] at h2
                  exact ⟨p', v, S, Bd, _, h1, h2⟩
                clear q1 q2 HOP R1 R2
                go_wp2_with fail
                refine HOA.out.mono ?_
                rintro _ w10 ⟨p', vr, S', Bd', l', rfl, hO⟩
                have H10 := hid (H9.out.below hO.be)
                have HSV := hid hO.recs.sees
                obtain ⟨ar, nr, cr, rfl, HNR, -, -⟩ := hO.recs.sees.shape
                have HLS := hid (lists_eq _ _ _ w10 HSV.out (H10.out.o.recs.sees H10.out.c.jr.be))
                clear hO HNR
                go_wp2_with fail
                refine HLS.out.mono ?_
                rintro _ w11 ⟨rfl, hb11⟩
                have H11 := hid (H10.out.below hb11)
                clear hb11 HLS
                go_wp2_with fail
                go_roundw
                case rel => exact ⟨k2 + 1, by go_num, by omega, H11⟩
                case measure => simp [intOf]; omega
            · as_aux_lemma =>
                obtain ⟨m, q1, q2, q3, q4, q7, q8⟩ := R2.out (by omega)
                have HOA : Hid (Calls Tryd.prog 16 #[.agg #[.slice (some ⟨ga, 0, none⟩) ng cg, .slice (some ⟨gb, 0, none⟩) nb cb]] w9 fun e w' => ∃ p' v S Bd l', e = .returned (.tuple #[.pointer (some ⟨p', 0, none⟩), v, .int .i64 0]) ∧ Opened w9 w' S Bd p' v l' ((ns ++ ms).take m)) := HOP.out.mono fun e w' h => by
                  obtain ⟨p', v, S, Bd, h1, h2⟩ := h.2 q1
                  rw [q2] at h2
                  exact ⟨p', v, S, Bd, _, h1, h2⟩
                obtain ⟨sr, HSR⟩ : ∃ sr, Hid (sr = 16 + baseL ((ns ++ ms).take m)) := ⟨_, rfl⟩
                rw [← HSR.out] at q7
                have hml : m ≤ na' := by have := HNA.out; omega
                have hmb : n1 ≤ m := by have := HN1.out; omega
                have Q8 : Hid (m = na' ∨ k2 < 16 + baseL ((ns ++ ms).take (m + 1))) := by rw [HNA.out]; exact q8
                clear q1 q2 q3 q4 q8 HOP R1 R2
                go_wp2_with fail
                refine HOA.out.mono ?_
                rintro _ w10 ⟨p', vr, S', Bd', l', rfl, hO⟩
                have H10 := hid (H9.out.below hO.be)
                have HSV := hid hO.recs.sees
                obtain ⟨ar, nr, cr, rfl, HNR, -, -⟩ := hO.recs.sees.shape
                obtain rfl : nr = m := by have := HNR.out; rw [List.length_take] at this; have := HNA.out; omega
                have hALL := H10.out.c.a.recs.sees H10.out.c.jr.be
                obtain ⟨ac, HAC, hcutA⟩ := hALL.high nr (nr : Int) rfl hml
                have HLS := hid (lists_eq _ _ _ w10 HSV.out HAC.out)
                clear hO HNR hALL
                go_wp2_with fail
                refine HLS.out.mono ?_
                rintro _ w11 ⟨rfl, hb11⟩
                have H11 := hid (H10.out.below hb11)
                have HZ11 : Hid (Calls Tryd.prog 10 #[.slice ar nr cr] w11 fun e w' => e = .returned (.int .i64 (sr : Int)) ∧ w' = w11) := by
                  have := sizeL_any _ _ w11 (HSV.out.below hb11) (by rw [List.length_take]; omega) (fun r hr => HSA.out r (List.mem_of_mem_take hr))
                  rw [← HSR.out] at this
                  exact this
                clear hb11 HLS hcutA
                go_wp2_with fail
                refine HZ11.out.mono ?_
                rintro _ wy ⟨rfl, rfl⟩
                rcases Nat.lt_or_ge nr na' with hlt2 | hge
                · have hn1 : k2 < 16 + baseL ((ns ++ ms).take (nr + 1)) := by
                    rcases Q8.out with h | h
                    · omega
                    · exact h
                  obtain ⟨sn, HSN2⟩ : ∃ sn, Hid (sn = 16 + baseL ((ns ++ ms).take (nr + 1))) := ⟨_, rfl⟩
                  rw [← HSN2.out] at hn1
                  have hALL := H11.out.c.a.recs.sees H11.out.c.jr.be
                  obtain ⟨ac2, HAC2, hcutA2⟩ := hALL.high (nr + 1) ((nr : Int) + 1) (by omega) hlt2
                  have HZN := hid (sizeL_any _ _ wy HAC2.out (by rw [List.length_take]; omega) (fun r hr => HSA.out r (List.mem_of_mem_take hr)))
                  rw [← HSN2.out] at HZN
                  clear hALL
                  go_wp2_with fail
                  refine HZN.out.mono ?_
                  rintro _ wz ⟨rfl, rfl⟩
                  go_wp2_with fail
                  go_roundw
                  case rel => exact ⟨k2 + 1, by go_num, by omega, H11⟩
                  case measure => simp [intOf]; omega
                · obtain rfl : nr = na' := by omega
                  go_wp2_with fail
                  go_roundw
                  case rel => exact ⟨k2 + 1, by go_num, by omega, H11⟩
                  case measure => simp [intOf]; omega
          · have HDK := hid (HDI.out _ _ HS.out)
            go_wp2_with fail
            refine HDK.out.mono ?_
            rintro _ wx ⟨rfl, rfl⟩
            go_wp2_with fail
            go_ret
            exact ⟨rfl, HS.out.c.jr.be⟩
end Go.Proofs.YteoebmpfdcbbmaaDoor
