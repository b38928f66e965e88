/-
  The law's plays: a step on both.
-/
import Derived.Test.YtaelfhjhinfikabDN
namespace Go.Proofs.Ytaelfhjhinfikab
open Go.ChangeShapes Go.WideShapes Go.ChangeAt Go.RowKit Me
set_option maxHeartbeats 4000000
set_option maxRecDepth 100000

/-- What a step leaves in flight. -/
def plS (m : Nat) (S : List Pk) (kk : Int) (L : List Pk) (i a : Int) (x : Nat) : List Pk :=
  if kk = 1 then puS m S L else if kk = 2 then tkS S i else if kk = 3 then coS m S i else if kk = 4 then tkS S i else if kk = 5 then spS S i a x else S

theorem plays_any (w : World) (K H : Nat → Prop) (pb rb m x : Nat) (S L : List Pk) (kk i a : Int) (vs : Value) (h : Lv w pb rb m S H) (hv : SeesS K w vs L) (hK : ∀ k, H k → ¬ K k) (hx : x < 256) :
    Calls Try.prog 13 #[.pointer (some ⟨pb, 0, none⟩), .pointer (some ⟨rb, 0, none⟩), .agg #[.int .i64 kk, vs, .int .i64 i, .int .i64 a, .int .u8 (x : Int)]] w fun e W => e = .returned (.bool true) ∧ LvD w W pb rb m (plS m S kk L i a x) H := by
  obtain ⟨va, vn, vc, rfl, -, hv1, hv2⟩ := hv.shape
  unfold maxLen at hv2
  obtain ⟨w0, HW0⟩ : ∃ w0, Hid (w0 = w.alloc (.cells #[.int .i64 kk, .slice va vn vc, .int .i64 i, .int .i64 a, .int .u8 (x : Int)] 35)) := ⟨_, rfl⟩
  have hb0 : Below w.heap.size w w0 := by rw [HW0.out]; exact (Below.refl _ _).alloc (Nat.le_refl _) _
  obtain ⟨ob, HOB⟩ : ∃ ob, Hid (ob = w.heap.size) := ⟨_, rfl⟩
  have r0 : w0.heap[ob]? = some (.cells #[.int .i64 kk, .slice va vn vc, .int .i64 i, .int .i64 a, .int .u8 (x : Int)] 35 (0, 0)) := by rw [HW0.out, HOB.out]; exact heap_alloc_new w _
  have R0 := hid r0
  have HCO : Hid (∀ u : World, u.heap[ob]? = some (.cells #[.int .i64 kk, .slice va vn vc, .int .i64 i, .int .i64 a, .int .u8 (x : Int)] 35 (0, 0)) → u.cell? ⟨ob, 0, none⟩ = some (.int .i64 kk) ∧ u.cell? ⟨ob, 1, none⟩ = some (.slice va vn vc) ∧ u.cell? ⟨ob, 2, none⟩ = some (.int .i64 i) ∧ u.cell? ⟨ob, 3, none⟩ = some (.int .i64 a) ∧ u.cell? ⟨ob, 4, none⟩ = some (.int .u8 (x : Int))) := fun u hr => by
    refine ⟨?_, ?_, ?_, ?_, ?_⟩ <;> (rw [cell_of_row _ _ _ _ _ _ hr]; rfl)
  have HB0 := hid hb0
  have HL := hid h
  obtain ⟨F, G, hN0, hR0, hFG, hH⟩ := h.below hb0
  have HN := hid hN0
  have HR := hid hR0
  have HFG := hid hFG
  have HH := hid hH
  have HV := hid (hv.below hb0)
  have HKF : Hid (∀ k, F k → ¬ K k) := fun k e => hK k ((hH k).2 (.inl e))
  have HKG : Hid (∀ k, G k → ¬ K k) := fun k e => hK k ((hH k).2 (.inr e))
  have HOBF : Hid (∀ k, F k → ¬ k = ob) := fun k e => by have := h.lt ((hH k).2 (.inl e)); have := HOB.out; omega
  have HKEEP : Hid (∀ u : World, Keeps F w0 u → u.heap[ob]? = some (.cells #[.int .i64 kk, .slice va vn vc, .int .i64 i, .int .i64 a, .int .u8 (x : Int)] 35 (0, 0)) ∧ SeesS K u (.slice va vn vc) L) := fun u hk => ⟨hk.mem r0 fun e => HOBF.out ob e rfl, (hv.below hb0).keeps hk fun k h1 h2 => HKF.out k h2 h1⟩
  obtain ⟨S', HS'⟩ : ∃ S', Hid (S' = plS m S kk L i a x) := ⟨_, rfl⟩
  rw [← HS'.out]
  have HPD : Hid (∀ W, LvD w0 W pb rb m S' H → LvD w W pb rb m S' H) := fun W h => LvD.from HB0.out h
  have HSAME : Hid (S' = S → ∀ W, Below w0.heap.size w0 W → LvD w W pb rb m S' H) := fun e W hb => by rw [e]; exact LvD.same HL.out (HB0.out.trans (hb.mono HB0.out.size))
  obtain ⟨c0, c1, c2, c3, c4⟩ := HCO.out w0 r0
  clear h hv hK hb0 r0 hN0 hR0 hFG hH
  go_enter Try.func13, Try.ntmps13
  go_upto_region 1 with fail
  rw [← HW0.out, ← HOB.out]
  go_upto_region 2 with fail
  clear c0
  by_cases k1 : kk = 1
  · subst k1
    have HSE : Hid (S' = puS m S L) := by unfold Hid; rw [HS'.out]; rfl
    as_aux_lemma =>
      have HA := hid (put_any w0 K F pb m _ S L HN.out HV.out HKF.out)
      go_wp2_with fail
      refine HA.out.mono ?_
      rintro _ w1 ⟨rfl, hd1⟩
      obtain ⟨F1, q1, q2, q3⟩ := id hd1
      obtain ⟨r1, s1⟩ := HKEEP.out w1 q3
      obtain ⟨hR1, hfin⟩ := Lv.two HN.out HR.out HFG.out HH.out hd1 (Below.refl _ _)
      obtain ⟨-, d1, d2, d3, d4⟩ := HCO.out w1 r1
      have HA2 := hid (putR_any w1 K G rb m _ S L hR1 s1 HKG.out)
      have HFIN := hid hfin
      clear c1 c2 c3 c4 HA hd1 q1 q2 q3 r1 s1 hR1 hfin
      generalize puN m S L = A1 at *
      generalize puE m S L = A2 at *
      generalize puS m S L = A3 at *
      go_wp2_with fail
      refine HA2.out.mono ?_
      rintro _ w2 ⟨rfl, hd2⟩
      have HE := hid (HPD.out w2 (by rw [HSE.out]; exact HFIN.out w2 hd2))
      clear d1 d2 d3 d4 HA2 hd2 HFIN
      go_wp2_with fail
      go_ret
      exact ⟨rfl, HE.out⟩
  · have q1 : (kk == 1) = false := by simp [k1]
    by_cases k2 : kk = 2
    · subst k2
      have HSE : Hid (S' = tkS S i) := by unfold Hid; rw [HS'.out]; rfl
      as_aux_lemma =>
        have HA := hid (take_any w0 F pb m S i HN.out)
        go_wp2_with fail
        refine HA.out.mono ?_
        rintro _ w1 ⟨ta, tn, tc, rfl, ht1⟩
        obtain ⟨ho1, F1, p1, p2, p3, p4⟩ := ht1
        obtain ⟨r1, s1⟩ := HKEEP.out w1 p3
        obtain ⟨w1a, HW1A⟩ : ∃ w1a, Hid (w1a = w1.alloc (.cells #[.int .u32 (((tkP S i).ad : Nat) : Int), .slice ta tn tc] 41)) := ⟨_, rfl⟩
        have hba : Below w1.heap.size w1 w1a := by rw [HW1A.out]; exact (Below.refl _ _).alloc (Nat.le_refl _) _
        obtain ⟨b1, HB1⟩ : ∃ b, Hid (b = w1.heap.size) := ⟨_, rfl⟩
        have ra : w1a.heap[b1]? = some (.cells #[.int .u32 (((tkP S i).ad : Nat) : Int), .slice ta tn tc] 41 (0, 0)) := by rw [HW1A.out, HB1.out]; exact heap_alloc_new w1 _
        obtain ⟨hR1, hfin⟩ := Lv.two HN.out HR.out HFG.out HH.out (⟨F1, p1, p2, p3⟩ : NtD w0 w1 pb m (tkS S i) F) hba
        obtain ⟨-, d1, d2, d3, d4⟩ := HCO.out w1a (below_keeps hba r1 (Array.getElem?_eq_some_iff.1 r1).1)
        have HA2 := hid (takeR_any w1a G rb m S i hR1)
        have HFIN := hid hfin
        have HRA := hid ra
        have HO1 := hid (ho1.below hba)
        have HGB : Hid (¬ G b1) := fun e => by have := HR.out.lt e; have := p3.size; have := HB1.out; omega
        have HTG : Hid (∀ k, Value.ownBlock (.slice ta tn tc) = some k → ¬ G k) := fun k hk e => by have := HR.out.lt e; have := (ho1.lt hk).1; omega
        have HBY : Hid (∀ y ∈ (tkP S i).bs, y < 256) := by
          obtain ⟨v, E, h1, h2, -⟩ := HN.out
          intro y hy
          unfold tkP at hy
          split at hy
          · rename_i hin
            obtain ⟨j, rfl, hj⟩ := inR_true hin
            have hjE : j < E.length := by rw [h2, List.length_map] at hj; exact hj
            have : S.getD ((j : Int)).toNat ⟨0, []⟩ = E[j].pk := by rw [h2]; simp [hjE]
            rw [this] at hy
            exact (h1.fl.ok _ (List.getElem_mem hjE)).2.2 y hy
          · cases hy
        clear c1 c2 c3 c4 HA ho1 p1 p2 p3 p4 r1 s1 hR1 hfin hba ra
        generalize hP : tkP S i = P at *
        have HPP := hid hP
        clear hP
        obtain ⟨Pa, Pb⟩ := P
        simp only at HW1A HRA HO1 HBY HA2 ⊢
        generalize tkE S i = A2 at *
        go_upto_region 8 with fail
        rw [← HW1A.out, ← HB1.out]
        go_wp2_with fail
        refine HA2.out.mono ?_
        rintro _ w2 ⟨ua, un, uc, rfl, ht2⟩
        obtain ⟨ho2, G1, p1, p2, p3, p4⟩ := ht2
        rw [HPP.out] at ho2
        have r2 := p3.mem HRA.out HGB.out
        have ho12 := HO1.out.keeps p3 HTG.out
        have hE := HPD.out w2 (by rw [HSE.out]; exact HFIN.out w2 ⟨G1, p1, p2, p3⟩)
        obtain ⟨w2a, HW2A⟩ : ∃ w2a, Hid (w2a = w2.alloc (.cells #[.int .u32 ((Pa : Nat) : Int), .slice ua un uc] 41)) := ⟨_, rfl⟩
        have hba : Below w2.heap.size w2 w2a := by rw [HW2A.out]; exact (Below.refl _ _).alloc (Nat.le_refl _) _
        obtain ⟨b2, HB2⟩ : ∃ b, Hid (b = w2.heap.size) := ⟨_, rfl⟩
        have ra : w2a.heap[b2]? = some (.cells #[.int .u32 ((Pa : Nat) : Int), .slice ua un uc] 41 (0, 0)) := by rw [HW2A.out, HB2.out]; exact heap_alloc_new w2 _
        have rb2 := below_keeps hba r2 (Array.getElem?_eq_some_iff.1 r2).1
        have e0 : w2a.cell? ⟨b1, 0, none⟩ = some (.int .u32 ((Pa : Nat) : Int)) := by rw [cell_of_row _ _ _ _ _ _ rb2]; rfl
        have e1 : w2a.cell? ⟨b1, 1, none⟩ = some (.slice ta tn tc) := by rw [cell_of_row _ _ _ _ _ _ rb2]; rfl
        have f0 : w2a.cell? ⟨b2, 0, none⟩ = some (.int .u32 ((Pa : Nat) : Int)) := by rw [cell_of_row _ _ _ _ _ _ ra]; rfl
        have f1 : w2a.cell? ⟨b2, 1, none⟩ = some (.slice ua un uc) := by rw [cell_of_row _ _ _ _ _ _ ra]; rfl
        have HSM := hid (same_any _ _ Pb _ _ w2a ((ho12.below hba).sees HBY.out) ((OwnB.below ho2 hba).sees HBY.out))
        have HFE : Hid (∀ w3, Below w2a.heap.size w2a w3 → LvD w w3 pb rb m S' H) := fun w3 h3 => hE.more (hba.trans (h3.mono hba.size))
        clear d1 d2 d3 d4 HA2 ho2 p1 p2 p3 p4 r2 ho12 hE hba ra rb2 HFIN
        go_upto_region 9 with fail
        rw [← HW2A.out, ← HB2.out]
        go_wp2_with fail
        refine HSM.out.mono ?_
        rintro _ w3 ⟨rfl, hb3⟩
        have HE := hid (HFE.out w3 hb3)
        clear e0 e1 f0 f1 HSM hb3 HFE
        go_wp2_with fail
        go_ret
        exact ⟨rfl, HE.out⟩
    · have q2 : (kk == 2) = false := by simp [k2]
      by_cases k3 : kk = 3
      · subst k3
        have HSE : Hid (S' = coS m S i) := by unfold Hid; rw [HS'.out]; rfl
        as_aux_lemma =>
          have HA := hid (copy_any w0 F pb m S i HN.out)
          go_wp2_with fail
          refine HA.out.mono ?_
          rintro _ w1 ⟨rfl, hd1⟩
          obtain ⟨F1, q1, q2, q3⟩ := id hd1
          obtain ⟨r1, s1⟩ := HKEEP.out w1 q3
          obtain ⟨hR1, hfin⟩ := Lv.two HN.out HR.out HFG.out HH.out hd1 (Below.refl _ _)
          obtain ⟨-, d1, d2, d3, d4⟩ := HCO.out w1 r1
          have HA2 := hid (copyR_any w1 G rb m S i hR1)
          have HFIN := hid hfin
          clear c1 c2 c3 c4 HA hd1 q1 q2 q3 r1 s1 hR1 hfin
          generalize coE m S i = A2 at *
          generalize coS m S i = A3 at *
          go_wp2_with fail
          refine HA2.out.mono ?_
          rintro _ w2 ⟨rfl, hd2⟩
          have HE := hid (HPD.out w2 (by rw [HSE.out]; exact HFIN.out w2 hd2))
          clear d1 d2 d3 d4 HA2 hd2 HFIN
          go_wp2_with fail
          go_ret
          exact ⟨rfl, HE.out⟩
      · have q3 : (kk == 3) = false := by simp [k3]
        by_cases k4 : kk = 4
        · subst k4
          have HSE : Hid (S' = tkS S i) := by unfold Hid; rw [HS'.out]; rfl
          as_aux_lemma =>
            have HA := hid (lose_any w0 F pb m S i HN.out)
            go_wp2_with fail
            refine HA.out.mono ?_
            rintro _ w1 ⟨rfl, hd1⟩
            obtain ⟨F1, q1, q2, q3⟩ := id hd1
            obtain ⟨r1, s1⟩ := HKEEP.out w1 q3
            obtain ⟨hR1, hfin⟩ := Lv.two HN.out HR.out HFG.out HH.out hd1 (Below.refl _ _)
            obtain ⟨-, d1, d2, d3, d4⟩ := HCO.out w1 r1
            have HA2 := hid (loseR_any w1 G rb m S i hR1)
            have HFIN := hid hfin
            clear c1 c2 c3 c4 HA hd1 q1 q2 q3 r1 s1 hR1 hfin
            generalize tkE S i = A2 at *
            generalize tkS S i = A3 at *
            go_wp2_with fail
            refine HA2.out.mono ?_
            rintro _ w2 ⟨rfl, hd2⟩
            have HE := hid (HPD.out w2 (by rw [HSE.out]; exact HFIN.out w2 hd2))
            clear d1 d2 d3 d4 HA2 hd2 HFIN
            go_wp2_with fail
            go_ret
            exact ⟨rfl, HE.out⟩
        · have q4 : (kk == 4) = false := by simp [k4]
          by_cases k5 : kk = 5
          · subst k5
            have HSE : Hid (S' = spS S i a x) := by unfold Hid; rw [HS'.out]; rfl
            as_aux_lemma =>
              have HA := hid (spoil_any w0 F pb m x S i a HN.out hx)
              go_wp2_with fail
              refine HA.out.mono ?_
              rintro _ w1 ⟨rfl, hd1⟩
              obtain ⟨F1, q1, q2, q3⟩ := id hd1
              obtain ⟨r1, s1⟩ := HKEEP.out w1 q3
              obtain ⟨hR1, hfin⟩ := Lv.two HN.out HR.out HFG.out HH.out hd1 (Below.refl _ _)
              obtain ⟨-, d1, d2, d3, d4⟩ := HCO.out w1 r1
              have HA2 := hid (spoilR_any w1 G rb m x S i a hR1 hx)
              have HFIN := hid hfin
              clear c1 c2 c3 c4 HA hd1 q1 q2 q3 r1 s1 hR1 hfin
              generalize spE S i a x = A2 at *
              generalize spS S i a x = A3 at *
              go_wp2_with fail
              refine HA2.out.mono ?_
              rintro _ w2 ⟨rfl, hd2⟩
              have HE := hid (HPD.out w2 (by rw [HSE.out]; exact HFIN.out w2 hd2))
              clear d1 d2 d3 d4 HA2 hd2 HFIN
              go_wp2_with fail
              go_ret
              exact ⟨rfl, HE.out⟩
          · have q5 : (kk == 5) = false := by simp [k5]
            have HSE : Hid (S' = S) := by unfold Hid; rw [HS'.out]; unfold plS; rw [if_neg k1, if_neg k2, if_neg k3, if_neg k4, if_neg k5]
            by_cases k6 : kk = 6
            · subst k6
              as_aux_lemma =>
                have HA := hid (list_any w0 F pb m S HN.out)
                clear c1 c2 c3 c4
                go_wp2_with fail
                refine HA.out.mono ?_
                rintro _ w1 ⟨ta, tn, tc, rfl, hb1, E1, hf1, hs1, hn1⟩
                have HA2 := hid (listR_any w1 G rb m S (HR.out.below hb1))
                have HB1 := hid hb1
                have HF1 := hid hf1
                have HS1 := hid hs1
                clear HA hb1 hf1 hs1 hn1
                go_wp2_with fail
                refine HA2.out.mono ?_
                rintro _ w2 ⟨ua, un, uc, rfl, hb2, E2, hf2, hs2, hn2⟩
                have x1 := (HF1.out.below hb2).sees
                have x2 := hf2.sees
                rw [HS1.out] at x1
                rw [hs2] at x2
                have HA3 := hid (sents_any _ _ S _ _ w2 x1 x2)
                have HB2 := hid (HB1.out.trans (hb2.mono HB1.out.size))
                clear HA2 hb2 hf2 hs2 hn2 x1 x2
                go_wp2_with fail
                refine HA3.out.mono ?_
                rintro _ w3 ⟨rfl, hb3⟩
                have HE := hid (HSAME.out HSE.out w3 (HB2.out.trans (hb3.mono HB2.out.size)))
                clear HA3 hb3
                go_wp2_with fail
                go_ret
                exact ⟨rfl, HE.out⟩
            · have q6 : (kk == 6) = false := by simp [k6]
              have HE := hid (HSAME.out HSE.out w0 (Below.refl _ _))
              clear c1 c2 c3 c4
              go_wp2_with fail
              go_ret
              exact ⟨rfl, HE.out⟩
end Go.Proofs.Ytaelfhjhinfikab
