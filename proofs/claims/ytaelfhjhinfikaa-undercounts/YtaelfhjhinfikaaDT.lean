/-
  UnderCounts.
-/
import Derived.Test.YtaelfhjhinfikaaDS
namespace Go.Proofs.Ytaelfhjhinfikaa
open Go.ChangeShapes Go.WideShapes Go.ChangeAt Go.RowKit Me
set_option maxHeartbeats 8000000
set_option maxRecDepth 100000

/-- What the counting knows. -/
structure CtI (w : World) (K : Nat → Prop) (wr : World) (pb m : Nat) (v : Value) (T : List Stp) (j a b : Nat) (S : List Pk) : Prop where
  pn : Pn w K wr pb m S
  so : SeesO K wr v T
  eq : a = b + S.length
  le : b ≤ j

theorem CtI.of {w wr w' : World} {K : Nat → Prop} {pb m j a b a' b' : Nat} {v : Value} {T : List Stp} {S S' : List Pk} (h : CtI w K wr pb m v T j a b S) (hp : Pn w K w' pb m S') (hk : Keeps (fun k => ¬ K k) wr w') (he : a' = b' + S'.length) (hb : b' ≤ b + 1) : CtI w K w' pb m v T (j + 1) a' b' S' :=
  ⟨hp, h.so.keeps hk fun k h1 h2 => h2 h1, he, by have := h.le; omega⟩

theorem puN_cap {m : Nat} : ∀ {S L : List Pk}, S.length ≤ m → S.length + puN m S L ≤ m
  | S, [], h => h
  | S, p :: L, h => by
    by_cases hj : joE m S p = 0
    · rw [puN_step hj]
      have hl : S.length < m := by
        unfold joE at hj
        split at hj
        · cases hj
        · split at hj
          · cases hj
          · omega
      have := puN_cap (m := m) (S := S ++ [p]) (L := L) (by rw [List.length_append]; simp; omega)
      rw [List.length_append] at this
      simp at this
      omega
    · rw [puN_stop hj]; exact h
theorem puS_le {m : Nat} {S L : List Pk} (h : S.length ≤ m) : (puS m S L).length ≤ m := by
  rw [puS_len]; exact puN_cap h
theorem coS_le {m : Nat} {S : List Pk} {i : Int} (h : S.length ≤ m) : (coS m S i).length ≤ m := by
  rw [coS_len]
  unfold coE
  split
  · split
    · simpa using h
    · simp; omega
  · simpa using h

theorem counts_walk (l : Int) (v : Value) (T : List Stp) (w : World) (hv : SeesO (fun k => k < w.heap.size) w v T) (hbig : T.length ≤ 4398046511104) :
    Calls Try.prog 4 #[.int .i64 l, v] w fun e w' => e = .returned (.bool true) ∧ Below w.heap.size w w' := by
  have HNW := hid (pn_new l w)
  have HV := hid hv
  obtain ⟨ao, n, cap, rfl, HN, hn1, hn2⟩ := hv.shape
  unfold maxLen at hn2
  have hnb : n ≤ 4398046511104 := by have := HN.out; omega
  clear hv hbig
  go_enter Try.func4, Try.ntmps4
  go_wp2_with fail
  refine HNW.out.mono ?_
  rintro _ w1 (⟨hb, rfl, rfl⟩ | ⟨hb, m, pb, hl, rfl, hp1⟩)
  · have HFI := hid (first_any w1)
    have hcs : l < 1 ∨ (¬ l < 1 ∧ 4096 < l) := by
      unfold newB at hb
      simp at hb
      omega
    clear HNW hb
    go_wp2_with fail
    refine HFI.out.mono ?_
    rintro _ w2 ⟨rfl, hb2⟩
    have HB2 := hid hb2
    clear HFI hb2
    rcases hcs with h1 | ⟨h1, h2⟩
    · have q1 : decide (l < 1) = true := by simpa using h1
      go_wp2_with fail
      go_ret
      exact ⟨rfl, HB2.out⟩
    · have q1 : decide (l < 1) = false := by simpa using h1
      have q2 : decide (4096 < l) = true := by simpa using h2
      go_wp2_with fail
      go_ret
      exact ⟨rfl, HB2.out⟩
  · have HFI := hid (first_any w1)
    have HP1 := hid hp1
    subst hl
    clear HNW hb hp1
    go_wp2_with fail
    refine HFI.out.mono ?_
    rintro _ w2 ⟨rfl, hb2⟩
    have HP2 := hid (HP1.out.below hb2)
    clear HFI hb2 HP1
    have hm4 : m ≤ 4096 := HP2.out.le.2
    obtain ⟨K, HKE⟩ : ∃ K : Nat → Prop, Hid (K = fun k => k < w.heap.size) := ⟨_, rfl⟩
    rw [← HKE.out] at HV HP2
    go_upto_region 8 with fail
    go_loopw [7, 8, 9] (fun x y i wr => ∃ (j a b : Nat), i = .int .i64 (j : Int) ∧ x = .int .i64 (a : Int) ∧ y = .int .i64 (b : Int) ∧ j ≤ n ∧ Hid (∃ S, CtI w K wr pb m (.slice ao n cap) T j a b S)) (fun _ _ i _ => n - (intOf i).toNat)
    case atStart => exact ⟨0, 0, 0, rfl, rfl, rfl, by omega, [], HP2.out, HV.out.below HP2.out.be, rfl, Nat.le_refl _⟩
    case round =>
      obtain ⟨j, a, b, rfl, rfl, rfl, hj, HC⟩ := hrel
      obtain ⟨S, hc⟩ := HC.out
      have hale : a ≤ n + 4096 ∧ b ≤ n ∧ b ≤ a := by have := hc.eq; have := hc.le; have := hc.pn.le; omega
      have ha1 := hale.1
      have hb1 := hale.2.1
      have hab := hale.2.2
      clear hale
      by_cases hlt : j < n
      · have hlt' : (j : Int) < (n : Int) := int_lt hlt
        have h2 : (0 : Int) ≤ (j : Int) := by omega
        obtain ⟨g, off, vs, o, rfl, ⟨c0, c1, c2, c3, c4⟩, hss, hx, HX, hg⟩ := hc.so.at j hlt
        obtain ⟨va, vn, vc, rfl, -⟩ := hss.shape
        obtain ⟨ok, oL, oi, oa, ox⟩ := o
        simp only at c0 c2 c3 c4 hss hx
        obtain ⟨w3, HW3⟩ : ∃ w3, Hid (w3 = wr.alloc (.cells #[.int .i64 ok, .slice va vn vc, .int .i64 oi, .int .i64 oa, .int .u8 (ox : Int)] 34)) := ⟨_, rfl⟩
        have hb3 : Below wr.heap.size wr w3 := by rw [HW3.out]; exact (Below.refl _ _).alloc (Nat.le_refl _) _
        obtain ⟨b3, HB3⟩ : ∃ b, Hid (b = wr.heap.size) := ⟨_, rfl⟩
        have r3 : w3.heap[b3]? = some (.cells #[.int .i64 ok, .slice va vn vc, .int .i64 oi, .int .i64 oa, .int .u8 (ox : Int)] 34 (0, 0)) := by rw [HW3.out, HB3.out]; exact heap_alloc_new wr _
        have d0 : w3.cell? ⟨b3, 0, none⟩ = some (.int .i64 ok) := by rw [cell_of_row _ _ _ _ _ _ r3]; rfl
        have d1 : w3.cell? ⟨b3, 1, none⟩ = some (.slice va vn vc) := by rw [cell_of_row _ _ _ _ _ _ r3]; rfl
        have d2 : w3.cell? ⟨b3, 2, none⟩ = some (.int .i64 oi) := by rw [cell_of_row _ _ _ _ _ _ r3]; rfl
        have d3 : w3.cell? ⟨b3, 3, none⟩ = some (.int .i64 oa) := by rw [cell_of_row _ _ _ _ _ _ r3]; rfl
        have d4 : w3.cell? ⟨b3, 4, none⟩ = some (.int .u8 (ox : Int)) := by rw [cell_of_row _ _ _ _ _ _ r3]; rfl
        have HC3 : Hid (CtI w K w3 pb m (.slice (some ⟨g, off, none⟩) n cap) T j a b S) := ⟨hc.pn.below hb3, hc.so.below hb3, hc.eq, hc.le⟩
        have HSS := hid (hss.below hb3)
        have hsl := hc.pn.le.1
        have hae := hc.eq
        clear HC hc hss HX hb3 r3 hg
        go_upto_region 11 with fail
        rw [← HW3.out, ← HB3.out]
        clear c0 c1 c2 c3 c4
        go_upto_region 12 with fail
        clear d0
        by_cases k1 : ok = 1
        · subst k1
          as_aux_lemma =>
            have HA := hid (HC3.out.pn.put HSS.out)
            obtain ⟨k, HK⟩ : ∃ k, Hid (k = puN m S oL) := ⟨_, rfl⟩
            have hpl := puS_len m S oL
            have hpm : (puS m S oL).length ≤ m := by
              obtain ⟨F, q1, q2⟩ := HC3.out.pn.nt
              obtain ⟨v0, E0, -, -, -, -, -⟩ := q1
              exact puS_le HC3.out.pn.le.1
            rw [← HK.out] at HA hpl
            generalize puE m S oL = A2 at *
            have z0 : (a : Int) + (k : Int) ≤ 9223372036854775807 := by omega
            have z1 : ¬ ((a : Int) + (k : Int) < (b : Int)) := by omega
            have z2 : ¬ ((m : Int) < (a : Int) + (k : Int) - (b : Int)) := by omega
            have HAE : Hid (a + k = b + (puS m S oL).length) := by unfold Hid; omega
            clear hae hsl hpl hpm
            go_wp2_with fail
            refine HA.out.mono ?_
            rintro _ w4 ⟨rfl, hp4, hk4⟩
            have HE : Hid (∃ S, CtI w K w4 pb m (.slice (some ⟨g, off, none⟩) n cap) T (j + 1) (a + k) b S) := ⟨_, HC3.out.of hp4 hk4 HAE.out (by omega)⟩
            clear d1 d2 d3 d4 HA hp4 hk4 HAE
            go_wp2_with fail
            go_roundw
            case rel => exact ⟨j + 1, a + k, b, by go_num, by go_num, by go_num, hlt, HE⟩
            case measure => simp [intOf]; omega
        · have kk1 : (ok == 1) = false := by simp [k1]
          by_cases k2 : ok = 2
          · subst k2
            as_aux_lemma =>
              have HA := hid (HC3.out.pn.take oi)
              have htl := tkS_len S oi
              have htc : tkE S oi = 0 ∨ tkE S oi = 3 := by unfold tkE; split; exact .inl rfl; exact .inr rfl
              generalize tkP S oi = P at *
              obtain ⟨Pa, Pb⟩ := P
              simp only at HA
              rcases htc with hz | hz
              · rw [hz] at HA htl
                simp only [if_true] at htl
                have z0 : (b : Int) ≤ 9223372036854775806 := by omega
                have z1 : ¬ ((a : Int) < (b : Int) + 1) := by omega
                have z2 : ¬ ((m : Int) < (a : Int) - ((b : Int) + 1)) := by omega
                have HAE : Hid (a = b + 1 + (tkS S oi).length) := by unfold Hid; omega
                clear hae hsl htl hz
                go_wp2_with fail
                refine HA.out.mono ?_
                rintro _ w4 ⟨ta, tn, tc, rfl, ho4, hp4, hk4⟩
                have HEE : Hid (∀ o : Obj, ∃ S, CtI w K (w4.alloc o) pb m (.slice (some ⟨g, off, none⟩) n cap) T (j + 1) a (b + 1) S) := fun o => by
                  have hba : Below w4.heap.size w4 (w4.alloc o) := (Below.refl _ _).alloc (Nat.le_refl _) _
                  exact ⟨_, HC3.out.of ((hp4.less fun k e => .inl e).below hba) (hk4.trans (Keeps.of hba)) HAE.out (Nat.le_refl _)⟩
                clear d1 d2 d3 d4 HA hp4 hk4 HAE ho4
                go_wp2_with fail
                go_roundw
                case rel => exact ⟨j + 1, a, b + 1, by go_num, by go_num, by go_num, hlt, HEE.out _⟩
                case measure => simp [intOf]; omega
              · rw [hz] at HA htl
                simp only [show ¬ (3 = 0) by decide, if_false] at htl
                have z1 : ¬ ((a : Int) < (b : Int)) := by omega
                have z2 : ¬ ((m : Int) < (a : Int) - (b : Int)) := by omega
                have HAE : Hid (a = b + (tkS S oi).length) := by unfold Hid; omega
                clear hae hsl htl hz
                go_wp2_with fail
                refine HA.out.mono ?_
                rintro _ w4 ⟨ta, tn, tc, rfl, ho4, hp4, hk4⟩
                have HEE : Hid (∀ o : Obj, ∃ S, CtI w K (w4.alloc o) pb m (.slice (some ⟨g, off, none⟩) n cap) T (j + 1) a b S) := fun o => by
                  have hba : Below w4.heap.size w4 (w4.alloc o) := (Below.refl _ _).alloc (Nat.le_refl _) _
                  exact ⟨_, HC3.out.of ((hp4.less fun k e => .inl e).below hba) (hk4.trans (Keeps.of hba)) HAE.out (by omega)⟩
                clear d1 d2 d3 d4 HA hp4 hk4 HAE ho4
                go_wp2_with fail
                go_roundw
                case rel => exact ⟨j + 1, a, b, by go_num, by go_num, by go_num, hlt, HEE.out _⟩
                case measure => simp [intOf]; omega
          · have kk2 : (ok == 2) = false := by simp [k2]
            by_cases k3 : ok = 3
            · subst k3
              as_aux_lemma =>
                have HA := hid (HC3.out.pn.copy oi)
                have htl := coS_len m S oi
                have htc : coE m S oi = 0 ∨ coE m S oi = 3 ∨ coE m S oi = 4 := by
                  unfold coE
                  split
                  · split
                    · exact .inr (.inr rfl)
                    · exact .inl rfl
                  · exact .inr (.inl rfl)
                have hcl : (coS m S oi).length ≤ m := coS_le HC3.out.pn.le.1
                rcases htc with hz | hz | hz
                · rw [hz] at HA htl
                  simp only [if_true] at htl
                  have z0 : (a : Int) ≤ 9223372036854775806 := by omega
                  have z1 : ¬ ((a : Int) + 1 < (b : Int)) := by omega
                  have z2 : ¬ ((m : Int) < (a : Int) + 1 - (b : Int)) := by omega
                  have HAE : Hid (a + 1 = b + (coS m S oi).length) := by unfold Hid; omega
                  clear hae hsl htl hz hcl
                  go_wp2_with fail
                  refine HA.out.mono ?_
                  rintro _ w4 ⟨rfl, hp4, hk4⟩
                  have HE : Hid (∃ S, CtI w K w4 pb m (.slice (some ⟨g, off, none⟩) n cap) T (j + 1) (a + 1) b S) := ⟨_, HC3.out.of hp4 hk4 HAE.out (by omega)⟩
                  clear d1 d2 d3 d4 HA hp4 hk4 HAE
                  go_wp2_with fail
                  go_roundw
                  case rel => exact ⟨j + 1, a + 1, b, by go_num, by go_num, by go_num, hlt, HE⟩
                  case measure => simp [intOf]; omega
                · rw [hz] at HA htl
                  simp only [show ¬ (3 = 0) by decide, if_false] at htl
                  have z1 : ¬ ((a : Int) < (b : Int)) := by omega
                  have z2 : ¬ ((m : Int) < (a : Int) - (b : Int)) := by omega
                  have HAE : Hid (a = b + (coS m S oi).length) := by unfold Hid; omega
                  clear hae hsl htl hz hcl
                  go_wp2_with fail
                  refine HA.out.mono ?_
                  rintro _ w4 ⟨rfl, hp4, hk4⟩
                  have HE : Hid (∃ S, CtI w K w4 pb m (.slice (some ⟨g, off, none⟩) n cap) T (j + 1) a b S) := ⟨_, HC3.out.of hp4 hk4 HAE.out (by omega)⟩
                  clear d1 d2 d3 d4 HA hp4 hk4 HAE
                  go_wp2_with fail
                  go_roundw
                  case rel => exact ⟨j + 1, a, b, by go_num, by go_num, by go_num, hlt, HE⟩
                  case measure => simp [intOf]; omega
                · rw [hz] at HA htl
                  simp only [show ¬ (4 = 0) by decide, if_false] at htl
                  have z1 : ¬ ((a : Int) < (b : Int)) := by omega
                  have z2 : ¬ ((m : Int) < (a : Int) - (b : Int)) := by omega
                  have HAE : Hid (a = b + (coS m S oi).length) := by unfold Hid; omega
                  clear hae hsl htl hz hcl
                  go_wp2_with fail
                  refine HA.out.mono ?_
                  rintro _ w4 ⟨rfl, hp4, hk4⟩
                  have HE : Hid (∃ S, CtI w K w4 pb m (.slice (some ⟨g, off, none⟩) n cap) T (j + 1) a b S) := ⟨_, HC3.out.of hp4 hk4 HAE.out (by omega)⟩
                  clear d1 d2 d3 d4 HA hp4 hk4 HAE
                  go_wp2_with fail
                  go_roundw
                  case rel => exact ⟨j + 1, a, b, by go_num, by go_num, by go_num, hlt, HE⟩
                  case measure => simp [intOf]; omega
            · have kk3 : (ok == 3) = false := by simp [k3]
              by_cases k4 : ok = 4
              · subst k4
                as_aux_lemma =>
                  have HA := hid (HC3.out.pn.lose oi)
                  have htl := tkS_len S oi
                  have htc : tkE S oi = 0 ∨ tkE S oi = 3 := by unfold tkE; split; exact .inl rfl; exact .inr rfl
                  rcases htc with hz | hz
                  · rw [hz] at HA htl
                    simp only [if_true] at htl
                    have z0 : (b : Int) ≤ 9223372036854775806 := by omega
                    have z1 : ¬ ((a : Int) < (b : Int) + 1) := by omega
                    have z2 : ¬ ((m : Int) < (a : Int) - ((b : Int) + 1)) := by omega
                    have HAE : Hid (a = b + 1 + (tkS S oi).length) := by unfold Hid; omega
                    clear hae hsl htl hz
                    go_wp2_with fail
                    refine HA.out.mono ?_
                    rintro _ w4 ⟨rfl, hp4, hk4⟩
                    have HE : Hid (∃ S, CtI w K w4 pb m (.slice (some ⟨g, off, none⟩) n cap) T (j + 1) a (b + 1) S) := ⟨_, HC3.out.of hp4 hk4 HAE.out (Nat.le_refl _)⟩
                    clear d1 d2 d3 d4 HA hp4 hk4 HAE
                    go_wp2_with fail
                    go_roundw
                    case rel => exact ⟨j + 1, a, b + 1, by go_num, by go_num, by go_num, hlt, HE⟩
                    case measure => simp [intOf]; omega
                  · rw [hz] at HA htl
                    simp only [show ¬ (3 = 0) by decide, if_false] at htl
                    have z1 : ¬ ((a : Int) < (b : Int)) := by omega
                    have z2 : ¬ ((m : Int) < (a : Int) - (b : Int)) := by omega
                    have HAE : Hid (a = b + (tkS S oi).length) := by unfold Hid; omega
                    clear hae hsl htl hz
                    go_wp2_with fail
                    refine HA.out.mono ?_
                    rintro _ w4 ⟨rfl, hp4, hk4⟩
                    have HE : Hid (∃ S, CtI w K w4 pb m (.slice (some ⟨g, off, none⟩) n cap) T (j + 1) a b S) := ⟨_, HC3.out.of hp4 hk4 HAE.out (by omega)⟩
                    clear d1 d2 d3 d4 HA hp4 hk4 HAE
                    go_wp2_with fail
                    go_roundw
                    case rel => exact ⟨j + 1, a, b, by go_num, by go_num, by go_num, hlt, HE⟩
                    case measure => simp [intOf]; omega
              · have kk4 : (ok == 4) = false := by simp [k4]
                by_cases k5 : ok = 5
                · subst k5
                  as_aux_lemma =>
                    have HA := hid (HC3.out.pn.spoil oi oa hx)
                    have htl := spS_len S oi oa ox
                    generalize spE S oi oa ox = A2 at *
                    have z1 : ¬ ((a : Int) < (b : Int)) := by omega
                    have z2 : ¬ ((m : Int) < (a : Int) - (b : Int)) := by omega
                    have HAE : Hid (a = b + (spS S oi oa ox).length) := by unfold Hid; omega
                    clear hae hsl htl
                    go_wp2_with fail
                    refine HA.out.mono ?_
                    rintro _ w4 ⟨rfl, hp4, hk4⟩
                    have HE : Hid (∃ S, CtI w K w4 pb m (.slice (some ⟨g, off, none⟩) n cap) T (j + 1) a b S) := ⟨_, HC3.out.of hp4 hk4 HAE.out (by omega)⟩
                    clear d1 d2 d3 d4 HA hp4 hk4 HAE
                    go_wp2_with fail
                    go_roundw
                    case rel => exact ⟨j + 1, a, b, by go_num, by go_num, by go_num, hlt, HE⟩
                    case measure => simp [intOf]; omega
                · have kk5 : (ok == 5) = false := by simp [k5]
                  by_cases k6 : ok = 6
                  · subst k6
                    as_aux_lemma =>
                      have HA := hid (HC3.out.pn.list)
                      have z1 : ¬ ((a : Int) < (b : Int)) := by omega
                      have z2 : ¬ ((m : Int) < (a : Int) - (b : Int)) := by omega
                      have HAE : Hid (a = b + S.length) := hae
                      have hsl4 : S.length ≤ 4096 := by omega
                      clear hae hsl
                      go_wp2_with fail
                      refine HA.out.mono ?_
                      rintro _ w4 ⟨ta, tn, tc, rfl, hb4, hx4, htn⟩
                      have q0 : ((tn : Int) == (a : Int) - (b : Int)) = true := by simp; have := HAE.out; omega
                      have q1 : decide ((tn : Int) = (a : Int) - (b : Int)) = true := by simp; have := HAE.out; omega
                      have HE : Hid (∃ S, CtI w K w4 pb m (.slice (some ⟨g, off, none⟩) n cap) T (j + 1) a b S) := ⟨_, HC3.out.of (HC3.out.pn.below hb4) (Keeps.of hb4) HAE.out (by omega)⟩
                      clear d1 d2 d3 d4 HA hb4 hx4 HAE htn hsl4
                      go_wp2_with fail
                      go_roundw
                      case rel => exact ⟨j + 1, a, b, by go_num, by go_num, by go_num, hlt, HE⟩
                      case measure => simp [intOf]; omega
                  · have kk6 : (ok == 6) = false := by simp [k6]
                    have z1 : ¬ ((a : Int) < (b : Int)) := by omega
                    have z2 : ¬ ((m : Int) < (a : Int) - (b : Int)) := by omega
                    have HE : Hid (∃ S, CtI w K w3 pb m (.slice (some ⟨g, off, none⟩) n cap) T (j + 1) a b S) := ⟨_, HC3.out.of HC3.out.pn (Keeps.refl _ _) HC3.out.eq (by omega)⟩
                    clear d1 d2 d3 d4 hae hsl
                    go_wp2_with fail
                    go_roundw
                    case rel => exact ⟨j + 1, a, b, by go_num, by go_num, by go_num, hlt, HE⟩
                    case measure => simp [intOf]; omega
      · have hlt' : ¬ (j : Int) < (n : Int) := int_nlt hlt
        have HQ : Hid (∃ S, Pn w K wr pb m S ∧ a = b + S.length) := ⟨S, hc.pn, hc.eq⟩
        clear HC hc
        go_upto_region 32 with fail
        obtain ⟨wo, hwo⟩ : ∃ wo, wo = wr := ⟨_, rfl⟩
        subst hwo
        go_loopw [8] (fun y wr => ∃ (b : Nat), y = .int .i64 (b : Int) ∧ b ≤ a ∧ Hid (∃ S, Pn w K wr pb m S ∧ a = b + S.length)) (fun y _ => a - (intOf y).toNat)
        case atStart => exact ⟨b, rfl, hab, HQ⟩
        case round =>
          clear HQ hab hb1
          obtain ⟨b, rfl, hba, HQ⟩ := hrel
          obtain ⟨S, hp, hae⟩ := HQ.out
          have HA := hid (hp.take 0)
          by_cases hlt2 : b < a
          · have hz : tkE S 0 = 0 := by
              unfold tkE
              rw [show inR 0 S.length = true by
                rw [show ((0 : Int)) = ((0 : Nat) : Int) from rfl, inR_nat]
                exact decide_eq_true (by omega)]
              rfl
            have htl := tkS_len S 0
            rw [hz] at HA htl
            simp only [if_true] at htl
            generalize tkP S 0 = P at *
            obtain ⟨Pa, Pb⟩ := P
            simp only at HA
            have hlt3 : (b : Int) < (a : Int) := int_lt hlt2
            have z0 : (b : Int) ≤ 9223372036854775806 := by omega
            have HAE : Hid (a = b + 1 + (tkS S 0).length) := by unfold Hid; omega
            clear HQ hp hae hz htl
            go_wp2_with fail
            refine HA.out.mono ?_
            rintro _ w4 ⟨ta, tn, tc, rfl, ho4, hp4, hk4⟩
            have HEE : Hid (∀ o : Obj, ∃ S, Pn w K (w4.alloc o) pb m S ∧ a = b + 1 + S.length) := fun o => by
              have hba : Below w4.heap.size w4 (w4.alloc o) := (Below.refl _ _).alloc (Nat.le_refl _) _
              exact ⟨_, (hp4.less fun k e => .inl e).below hba, HAE.out⟩
            clear HA hp4 hk4 HAE ho4
            go_wp2_with fail
            go_roundw
            case rel => exact ⟨b + 1, by go_num, hlt2, HEE.out _⟩
            case measure => simp [intOf]; omega
          · have hlt3 : ¬ (b : Int) < (a : Int) := int_nlt hlt2
            have hS : S = [] := List.eq_nil_of_length_eq_zero (by omega)
            subst hS
            have hz : tkE [] 0 = 3 := by decide
            have hts : tkS [] 0 = [] := rfl
            rw [hz, hts] at HA
            generalize tkP [] 0 = P at *
            obtain ⟨Pa, Pb⟩ := P
            simp only at HA
            clear HQ hp hae hz hts
            go_wp2_with fail
            refine HA.out.mono ?_
            rintro _ w4 ⟨ta, tn, tc, rfl, ho4, hp4, hk4⟩
            obtain ⟨w5, HW5⟩ : ∃ w5, Hid (w5 = w4.alloc (.cells #[.int .u32 ((Pa : Nat) : Int), .slice ta tn tc] 41)) := ⟨_, rfl⟩
            have hb5 : Below w4.heap.size w4 w5 := by rw [HW5.out]; exact (Below.refl _ _).alloc (Nat.le_refl _) _
            have HL := hid ((hp4.below hb5).list)
            have HBE := hid ((hp4.below hb5).be)
            clear HA hp4 hk4 ho4 hb5
            go_upto_region 38 with fail
            rw [← HW5.out]
            go_wp2_with fail
            refine HL.out.mono ?_
            rintro _ w6 ⟨ua, un, uc, rfl, hb6, hx6, hun⟩
            have HE := hid (HBE.out.trans (hb6.mono HBE.out.size))
            obtain rfl : un = 0 := hun
            clear HL hb6 hx6
            go_wp2_with fail
            go_ret
            exact ⟨rfl, HE.out⟩
end Go.Proofs.Ytaelfhjhinfikaa
