/-
  TrieOrderless's walk.
-/
import Derived.Test.YtmnafocmbcgdiaaZB
namespace Go.Proofs.Ytmnafocmbcgdiaa
open Go.ChangeShapes Go.WideShapes Go.ChangeAt Go.RowKit Go.Shelf Tri N
attribute [local go_sem] Oper.semAt_some
set_option maxHeartbeats 32000000
set_option maxRecDepth 100000

theorem orderless_walk (v0 v1 v2 : Value) (P Q : List (Nat × Int)) (R : List Nat) (w : World) (hs0 : Sees w v0 P) (ha : AdrP P) (hs1 : Sees w v1 Q) (hq : AdrP Q) (hs2 : SeesY w v2 R) :
    Calls Try.prog 8 #[v0, v1, v2] w fun e w' => e = .returned (.bool true) ∧ Below w.heap.size w w' := by
  obtain ⟨ap, np, capp, rfl, HNP, hnp1, hnp2⟩ := hs0.shape
  obtain ⟨aq, nq, capq, rfl, HNQ, hnq1, hnq2⟩ := hs1.shape
  obtain ⟨ar, nr, capr, rfl, HNR, hnr1, hnr2⟩ := hs2.shape
  have HVAL := hid (valids_any _ P w hs0 ha)
  have HVO : Hid (∀ u, Below w.heap.size w u → Calls Try.prog 9 #[.slice aq nq capq] u fun e w' => ∃ v', e = .returned v' ∧ w'.ownsRow u.heap.size 32 2 v' (valL Q).length (kcs (valL Q)) ∧ Below u.heap.size u w') := fun u hu => valids_any _ Q u (hs1.below hu) hq
  have hOKof : ∀ (P : List (Nat × Int)), AdrP P → ∀ k ∈ valL P, k.Ok := fun P ha k hk => by
    obtain ⟨p, hp, rfl⟩ := List.mem_map.1 hk
    exact preK_ok _ _ (ha p (List.mem_of_mem_take hp)).1
  have hlenof : ∀ (P : List (Nat × Int)), (valL P).length ≤ 200 := fun P => by unfold valL; simp; omega
  obtain ⟨L, hL⟩ : ∃ L, L = valL P := ⟨_, rfl⟩
  obtain ⟨O, hO⟩ : ∃ O, O = valL Q := ⟨_, rfl⟩
  have HOK : Hid (∀ k ∈ L, k.Ok) := by rw [hL]; exact hOKof P ha
  have HOO : Hid (∀ k ∈ O, k.Ok) := by rw [hO]; exact hOKof Q hq
  have hLl : L.length ≤ 200 := by rw [hL]; exact hlenof P
  have hOl : O.length ≤ 200 := by rw [hO]; exact hlenof Q
  rw [← hL] at HVAL
  rw [← hO] at HVO
  have HSR := hid hs2
  unfold maxLen at hnr2
  clear hs0 ha hs1 hq hs2 hOKof hlenof hL hO
  go_enter Try.func8, Try.ntmps8
  go_wp2_with fail
  refine HVAL.out.mono ?_
  rintro _ w1 ⟨vl, rfl, hl, hb1⟩
  have HV1 := hid (HVO.out w1 hb1)
  have HSL := hid (sees_of_owns hl)
  obtain ⟨al, nl, capl, rfl, HNL0, hnl1, hnl2⟩ := HSL.out.shape
  have HNL : Hid (nl = L.length) := by have := HNL0.out; rw [List.length_map] at this; exact this
  have HL1 := hid hl
  have HB1 := hid hb1
  clear hl hb1 HVO HVAL HNL0 HSL
  go_wp2_with fail
  refine HV1.out.mono ?_
  rintro _ w2 ⟨vo, rfl, ho, hb2⟩
  have HSO := hid (sees_of_owns ho)
  obtain ⟨ao, no, capo, rfl, HNO0, hno1, hno2⟩ := HSO.out.shape
  have HNO : Hid (no = O.length) := by have := HNO0.out; rw [List.length_map] at this; exact this
  have HOR := hid (orl_new HL1.out HB1.out ho hb2)
  have HNEW1 := hid (new_any w2)
  obtain ⟨w3, HW3⟩ : ∃ w3, Hid (w3 = w2.alloc (.cells #[.pointer none] 77)) := ⟨_, rfl⟩
  obtain ⟨sb, HSB⟩ : ∃ sb, Hid (sb = w2.heap.size) := ⟨_, rfl⟩
  have hs3 : w3.heap.size = sb + 1 := by rw [HW3.out, HSB.out]; simp
  rw [← HW3.out, ← HSB.out] at HNEW1 HOR
  have HNEW2 := hid (new_any w3)
  rw [hs3] at HNEW2
  obtain ⟨w4, HW4⟩ : ∃ w4, Hid (w4 = w3.alloc (.cells #[.pointer none] 77)) := ⟨_, rfl⟩
  obtain ⟨tb, HTB⟩ : ∃ tb, Hid (tb = sb + 1) := ⟨_, rfl⟩
  rw [← HW4.out, ← HTB.out] at HNEW2 HOR
  have hnl : nl ≤ 200 := by have := HNL.out; omega
  have hno : no ≤ 200 := by have := HNO.out; omega
  unfold maxLen at hnl2 hno2
  clear ho hb2 HV1 HNO0 HSO HL1 hs3 HB1
  go_wp2_with fail
  refine HNEW1.out.mono ?_
  rintro _ _ ⟨rfl, ew⟩
  obtain rfl := ew.symm
  go_wp2_with fail
  refine HNEW2.out.mono ?_
  rintro _ _ ⟨rfl, ew2⟩
  obtain rfl := ew2.symm
  clear HNEW1 HNEW2 ew ew2
  go_upto_region 8 with fail
  go_loopw [11] (fun i wr => ∃ (j : Nat) (S : Tr), i = .int .i64 (j : Int) ∧ j ≤ nl ∧ Hid (Orl w (.slice al nl capl) (.slice ao no capo) sb tb L O S .nil wr) ∧ Hid (HSs L j S)) (fun i _ => nl - (intOf i).toNat)
  case atStart => exact ⟨0, .nil, rfl, by omega, HOR, show HSs L 0 .nil from ⟨Has.nil.iff fun p x => by simp, by simp [ents]⟩⟩
  case round =>
    obtain ⟨j, S, rfl, hj, HOr, HS1⟩ := hrel
    by_cases hjn : j < nl
    · obtain ⟨g, off, p, hao, hg, c0, c1, HQ⟩ := (HOr.out.below (drew_below wr)).seesL.at j hjn
      obtain ⟨g', off', p', hao', hg', e0, e1, HQ'⟩ := HOr.out.seesL.at j hjn
      rw [hao'] at hao
      simp at hao
      obtain ⟨rfl, rfl⟩ := hao
      subst hao'
      obtain ⟨k, hk, rfl⟩ := kp_at HQ'.out
      simp only [kp] at e0 e1
      have b1 : (j : Int) < (nl : Int) := by omega
      have b2 : (0 : Int) ≤ (j : Int) := by omega
      have b3 : decide ((j : Int) < 0) = false := by simp
      have hok : k.Ok := HOK.out k (List.mem_of_getElem? hk)
      have hx32 : (k.x : Int) < 4294967296 := by have := hok.2.2; omega
      have hn32 : (k.n : Int) ≤ 32 := by have := hok.1; omega
      have HPUT := hid ((HOr.out.below (drew_below wr)).puts hok (fV k))
      have HPN : Hid (HSs L (j + 1) (hang S k (some (fV k)))) := HS1.out.step HOr.out.ts.wf hk hok
      unfold pv fV at HPUT
      clear hk HQ HQ' hok hg hg' c0 c1
      go_upto_region 10 with fail
      refine wp_region_still_tail 17 (by kernel_rfl) (by kernel_rfl) ?_
      simp only [List.take_succ_cons, List.take_zero, List.drop_succ_cons, List.drop_zero]
      iterate 17 still_step
      refine wpStill_nil ?_
      go_wp2_with fail
      refine HPUT.out.mono ?_
      rintro _ w7 ⟨rfl, hO7⟩
      have HO7 := hid hO7
      clear hO7 e0 e1
      go_wp2_with fail
      go_roundw
      case rel => exact ⟨j + 1, _, by go_num, by omega, HO7, HPN⟩
      case measure => simp [intOf]; omega
    · have b1 : ¬ (j : Int) < (nl : Int) := by omega
      have HSE : Hid (Has S fun p x => p ∈ L ∧ x = fV p) := by
        have h := HS1.out
        rw [show j = L.length by have := HNL.out; omega] at h
        exact h.end
      have HLE : Hid ((ents S).length ≤ 400) := by have h := HS1.out.2; unfold Hid; omega
      obtain ⟨wa, hwa⟩ : ∃ wa, wa = wr := ⟨_, rfl⟩
      subst hwa
      clear HS1 HOR hjn hj
      go_upto_region 12 with fail
      go_loopw [12] (fun i wr => ∃ (j : Nat) (T : Tr), i = .int .i64 (j : Int) ∧ j ≤ no ∧ Hid (Orl w (.slice al nl capl) (.slice ao no capo) sb tb L O S T wr) ∧ Hid (HOo O j T)) (fun i _ => no - (intOf i).toNat)
      case atStart => exact ⟨0, .nil, rfl, by omega, HOr, show HOo O 0 .nil from Has.nil.iff fun p x => by simp⟩
      case round =>
        obtain ⟨j, T, rfl, hj, HOr, HTs⟩ := hrel
        by_cases hjn : j < no
        · obtain ⟨g, off, p, hao, hg, c0, c1, HQ⟩ := HOr.out.seesO.at j hjn
          subst hao
          obtain ⟨k, hk, rfl⟩ := kp_at HQ.out
          simp only [kp] at c0 c1
          have b1 : (j : Int) < (no : Int) := by omega
          have hok : k.Ok := HOO.out k (List.mem_of_getElem? hk)
          have HPUT := hid (HOr.out.putt hok (-5))
          have HPN : Hid (HOo O (j + 1) (hang T k (some (-5)))) := HTs.out.step HOr.out.tt.wf hk hok
          unfold pv at HPUT
          clear hk HQ hok hg
          go_wp2_with fail
          refine HPUT.out.mono ?_
          rintro _ w7 ⟨rfl, hO7⟩
          have HO7 := hid hO7
          clear hO7 c0 c1
          go_wp2_with fail
          go_roundw
          case rel => exact ⟨j + 1, _, by go_num, by omega, HO7, HPN⟩
          case measure => simp [intOf]; omega
        · have b1 : ¬ (j : Int) < (no : Int) := by omega
          have HTE : Hid (HMm L O nl T) := by
            have h := HTs.out
            rw [show j = O.length by have := HNO.out; omega] at h
            have h2 := HOo.mid (L := L) h
            rw [← HNL.out] at h2
            exact h2
          obtain ⟨wb, hwb⟩ : ∃ wb, wb = wr := ⟨_, rfl⟩
          subst hwb
          clear HTs hjn hj
          go_upto_region 16 with fail
          go_loopw [13, 14, 15] (fun i _ _ wr => ∃ (j : Nat) (M : List K) (T : Tr), i = .int .i64 (j : Int) ∧ j ≤ nl ∧ Hid (M.length = nl) ∧ Hid (∀ p, p ∈ M ↔ p ∈ L) ∧ Hid (Orl w (.slice al nl capl) (.slice ao no capo) sb tb M O S T wr) ∧ Hid (HMm M O j T)) (fun i _ _ _ => (intOf i).toNat)
          case atStart => exact ⟨nl, L, T, rfl, by omega, HNL.out.symm, fun _ => Iff.rfl, HOr, HTE⟩
          case round =>
            obtain ⟨j, M, T, rfl, hj, HML, HMM, HOr, HTs⟩ := hrel
            by_cases hj0 : 0 < j
            · obtain ⟨n, rfl⟩ : ∃ n, j = n + 1 := ⟨j - 1, by omega⟩
              obtain ⟨g, cur, hal, hgr⟩ := HOr.out.rowg HML.out (by omega)
              subst hal
              have ec : ((n + 1 : Nat) : Int) = (n : Int) + 1 := by omega
              rw [ec]
              have b1 : (0 : Int) < (n : Int) + 1 := by omega
              have hnm : (n : Int) ≤ 9223372036854775806 := by omega
              have HSRW := hid (HSR.out.below HOr.out.bel)
              have hjn2 : n < nl := by omega
              clear hgr ec hj0 hj
              go_upto_if 83 with fail
              clear b1
              go_cut [14] from 74 to 126 (fun v wx => (∃ k : Nat, v = .int .i64 (k : Int) ∧ k ≤ n) ∧ wx = wr)
              case first =>
                by_cases hnr : n < nr
                · have z1 : (n : Int) + 1 ≤ (nr : Int) := by omega
                  have z2 : (n : Int) < (nr : Int) := by omega
                  obtain ⟨g2, off2, a, har, ca, ha⟩ := HSRW.out.at n hnr
                  subst har
                  have y0 : ¬ ((n : Int) + 1 = 0) := by omega
                  have y1 : ¬ ((n : Int) + 1 = -1) := by omega
                  have y2 : Int.tmod (a : Int) ((n : Int) + 1) = ((a % (n + 1) : Nat) : Int) := by
                    rw [show ((n : Int) + 1) = ((n + 1 : Nat) : Int) by omega, Int.ofNat_tmod]
                  obtain ⟨k, hk⟩ : ∃ k, k = a % (n + 1) := ⟨_, rfl⟩
                  have hkn : k ≤ n := by rw [hk]; have := Nat.mod_lt a (show 0 < n + 1 by omega); omega
                  rw [← hk] at y2
                  have y3 : (k : Int) ≤ 9223372036854775807 := by omega
                  clear hk
                  go_wp2_with fail
                  go_meet
                  case rel => exact ⟨⟨k, rfl, hkn⟩, rfl⟩
                · have z1 : ¬ (n : Int) + 1 ≤ (nr : Int) := by omega
                  go_wp2_with fail
                  go_meet
                  case rel => exact ⟨⟨n, rfl, Nat.le_refl _⟩, rfl⟩
              case rest =>
                obtain ⟨⟨k, rfl, hkn⟩, hxx⟩ := hcut
                subst hxx
                obtain ⟨x, hx⟩ : ∃ x, M[k]? = some x := ⟨_, List.getElem?_eq_getElem (by have := HML.out; omega)⟩
                obtain ⟨y, hy⟩ : ∃ y, M[n]? = some y := ⟨_, List.getElem?_eq_getElem (by have := HML.out; omega)⟩
                obtain ⟨e0, e1⟩ := HOr.out.atL HML.out hx
                have b4 : (k : Int) < (nl : Int) := by omega
                have b2 : (0 : Int) ≤ (k : Int) := by omega
                have b3 : decide ((k : Int) < 0) = false := by simp
                have hok : x.Ok := HOK.out x ((HMM.out x).1 (List.mem_of_getElem? hx))
                have hx32 : (x.x : Int) < 4294967296 := by have := hok.2.2; omega
                have hn32 : (x.n : Int) ≤ 32 := by have := hok.1; omega
                have HPUT := hid ((HOr.out.below (drew_below wc)).putt hok (fV x))
                have HPN : Hid (HMm (swp M k n x y) O n (hang T x (some (fV x)))) := HTs.out.step HOr.out.tt.wf hx hkn (by have := HML.out; omega) hok
                unfold pv fV at HPUT
                have HX := hid hx
                have HY := hid hy
                clear hok hx hy
                go_upto_region 21 with fail
                refine wp_region_still_tail 17 (by kernel_rfl) (by kernel_rfl) ?_
                simp only [List.take_succ_cons, List.take_zero, List.drop_succ_cons, List.drop_zero]
                iterate 17 still_step
                refine wpStill_nil ?_
                go_wp2_with fail
                refine HPUT.out.mono ?_
                rintro _ w7 ⟨rfl, hO7⟩
                obtain ⟨f0, f1⟩ := hO7.atL HML.out HX.out
                obtain ⟨w8, HW8⟩ : ∃ w8, Hid (w8 = w7.alloc (.cells #[.int .u32 (x.x : Int), .int .i64 (x.n : Int)] 32)) := ⟨_, rfl⟩
                have hb78 : Below w7.heap.size w7 w8 := by rw [HW8.out]; exact (Below.refl _ _).alloc (Nat.le_refl _) _
                have hO8 := hO7.below hb78
                obtain ⟨d0, d1⟩ := hO8.atL HML.out HY.out
                obtain ⟨xb, HXB⟩ : ∃ xb, Hid (xb = w7.heap.size) := ⟨_, rfl⟩
                have hrx : w8.heap[xb]? = some (.cells #[.int .u32 (x.x : Int), .int .i64 (x.n : Int)] 32) := by rw [HW8.out, HXB.out]; exact heap_alloc_new w7 _
                obtain ⟨cur, hgr⟩ := hO8.rowq
                obtain ⟨cur7, hgr7⟩ := hO7.rowq
                have hne : xb ≠ g := by have h1 := (Array.getElem?_eq_some_iff.1 hgr7).1; have h2 := HXB.out; omega
                have fz : ∀ i, w8.frozen? ⟨g, i, none⟩ = false := fun i => frozen_of_row _ _ _ _ _ hgr
                obtain ⟨w9, HW9⟩ : ∃ w9, Hid (w9 = (w8.setCell ⟨g, k * 2, none⟩ (.int .u32 (y.x : Int))).setCell ⟨g, k * 2 + 1, none⟩ (.int .i64 (y.n : Int))) := ⟨_, rfl⟩
                have hO9 := hO8.store' HML.out y (i := k) (by omega)
                rw [← HW9.out] at hO9
                have hc89 : Chg (fun b => b = g) w8 w9 := by rw [HW9.out]; exact (Chg.of_but (X := fun b => b = g) (But.set _ _ _ _) rfl).trans (Chg.of_but (X := fun b => b = g) (But.set _ _ _ _) rfl)
                have hrx9 := (hc89.block xb (Array.getElem?_eq_some_iff.1 hrx).1 hne).trans hrx
                have x0 : w9.cell? ⟨xb, 0, none⟩ = some (.int .u32 (x.x : Int)) := by rw [cell_of_row _ _ _ _ _ _ hrx9]; rfl
                have x1 : w9.cell? ⟨xb, 1, none⟩ = some (.int .i64 (x.n : Int)) := by rw [cell_of_row _ _ _ _ _ _ hrx9]; rfl
                obtain ⟨p0, p1'⟩ := hO8.atL HML.out HX.out
                have HP8 : Hid (w8.cell? ⟨g, k * 2, none⟩ = some (.int .u32 (x.x : Int)) ∧ (w8.setCell ⟨g, k * 2, none⟩ (.int .u32 (y.x : Int))).cell? ⟨g, k * 2 + 1, none⟩ = some (.int .i64 (x.n : Int)) ∧ (w8.setCell ⟨g, k * 2, none⟩ (.int .u32 (y.x : Int))).frozen? ⟨g, k * 2 + 1, none⟩ = false) := ⟨p0, cell_next hgr p1', frozen_of_row _ _ _ _ _ (set_row hgr)⟩
                have hML9 : (M.set k y).length = nl := by rw [List.length_set]; exact HML.out
                obtain ⟨cur9, hgr9⟩ := hO9.rowq
                have fz9 : ∀ i, w9.frozen? ⟨g, i, none⟩ = false := fun i => frozen_of_row _ _ _ _ _ hgr9
                obtain ⟨z, hz⟩ : ∃ z, (M.set k y)[n]? = some z := ⟨_, List.getElem?_eq_getElem (by rw [hML9]; omega)⟩
                obtain ⟨q0, q1'⟩ := hO9.atL hML9 hz
                have HP9 : Hid (w9.cell? ⟨g, n * 2, none⟩ = some (.int .u32 (z.x : Int)) ∧ (w9.setCell ⟨g, n * 2, none⟩ (.int .u32 (x.x : Int))).cell? ⟨g, n * 2 + 1, none⟩ = some (.int .i64 (z.n : Int)) ∧ (w9.setCell ⟨g, n * 2, none⟩ (.int .u32 (x.x : Int))).frozen? ⟨g, n * 2 + 1, none⟩ = false) := ⟨q0, cell_next hgr9 q1', frozen_of_row _ _ _ _ _ (set_row hgr9)⟩
                have HFIN := hid (hO9.store' hML9 x (i := n) (by omega))
                have b5 : (n : Int) < (nl : Int) := by omega
                clear hO7 hO8 hO9 hb78 hrx hgr hgr7 hne hc89 hrx9 hgr9 e0 e1 hML9 p0 p1' q0 q1' hz
                have HFZ := hid fz
                have HFZ9 := hid fz9
                have HDD : Hid (w8.cell? ⟨g, n * 2, none⟩ = some (.int .u32 (y.x : Int)) ∧ w8.cell? ⟨g, n * 2 + 1, none⟩ = some (.int .i64 (y.n : Int))) := ⟨d0, d1⟩
                have HXX : Hid (w9.cell? ⟨xb, 0, none⟩ = some (.int .u32 (x.x : Int)) ∧ w9.cell? ⟨xb, 1, none⟩ = some (.int .i64 (x.n : Int))) := ⟨x0, x1⟩
                clear fz fz9 d0 d1 x0 x1 hx32 hn32
                go_upto_region 23 with fail
                obtain ⟨d0, d1⟩ := HDD.out
                have fz := HFZ.out
                obtain ⟨p0, p1, p2⟩ := HP8.out
                rw [← HW8.out, ← HXB.out]
                clear f0 f1
                go_upto_region 24 with fail
                rw [← HW9.out]
                clear d0 d1 p0 p1 p2 fz
                obtain ⟨x0, x1⟩ := HXX.out
                obtain ⟨q0, q1, q2⟩ := HP9.out
                have fz9 := HFZ9.out
                go_upto_region 17 with fail
                clear x0 x1 q0 q1 q2 fz9
                go_wp2_with fail
                go_roundw
                case rel => exact ⟨n, swp M k n x y, _, by go_num, by omega, (swp_len _ _ _ _ _).trans HML.out, fun p => (swp_mem HX.out HY.out p).trans (HMM.out p), HFIN, HPN⟩
                case measure => simp [intOf]
            · obtain rfl : j = 0 := by omega
              have b1 : ¬ (0 : Int) < ((0 : Nat) : Int) := by omega
              have HTE2 : Hid (HDd L O 0 T) := HTs.out.end HMM.out
              have HLM : Hid (∀ p, lastTo M p M.length < 0 ↔ p ∉ L) := fun p => last_mem.trans (not_congr (HMM.out p))
              obtain ⟨wd, hwd⟩ : ∃ wd, wd = wr := ⟨_, rfl⟩
              subst hwd
              clear HTs HTE hj hj0
              go_upto_region 26 with fail
              go_loopw [16] (fun i wr => ∃ (j : Nat) (T : Tr), i = .int .i64 (j : Int) ∧ j ≤ no ∧ Hid (Orl w (.slice al nl capl) (.slice ao no capo) sb tb M O S T wr) ∧ Hid (HDd L O j T)) (fun i _ => no - (intOf i).toNat)
              case atStart => exact ⟨0, T, rfl, by omega, HOr, HTE2⟩
              case round =>
                obtain ⟨j, T, rfl, hj, HOr, HTs⟩ := hrel
                by_cases hjn : j < no
                · obtain ⟨g, off, p, hao, hg, c0, c1, HQ⟩ := HOr.out.seesO.at j hjn
                  subst hao
                  obtain ⟨k, hk, rfl⟩ := kp_at HQ.out
                  simp only [kp] at c0 c1
                  have b1 : (j : Int) < (no : Int) := by omega
                  have hok : k.Ok := HOO.out k (List.mem_of_getElem? hk)
                  obtain ⟨z, hz⟩ : ∃ z, z = lastTo M k M.length := ⟨_, rfl⟩
                  have HLS := hid (last_any _ M k wr HOr.out.seesL)
                  rw [← hz] at HLS
                  have HZL : Hid (z < 0 ↔ k ∉ L) := by unfold Hid; rw [hz]; exact HLM.out k
                  have HKO := hid hok
                  have HKK := hid hk
                  unfold pv at HLS
                  clear hk HQ hok hz
                  go_wp2_with fail
                  refine HLS.out.mono ?_
                  rintro _ w7 ⟨rfl, hb7⟩
                  have hO7 := HOr.out.below hb7
                  have f0 : w7.cell? ⟨g, off + j * 2, none⟩ = some (.int .u32 (k.x : Int)) := (hb7.cell (p := ⟨g, _, none⟩) hg).trans c0
                  have f1 : w7.cell? ⟨g, off + j * 2 + 1, none⟩ = some (.int .i64 (k.n : Int)) := (hb7.cell (p := ⟨g, _, none⟩) hg).trans c1
                  have HO7 := hid hO7
                  clear hO7 hb7 c0 c1 hg HLS
                  by_cases hz0 : z < 0
                  · have HDEL := hid (HO7.out.delt HKO.out)
                    have HPN : Hid (HDd L O (j + 1) (delT T k)) := HTs.out.del HOr.out.tt.wf HKK.out HKO.out (HZL.out.1 hz0)
                    unfold pv at HDEL
                    go_wp2_with fail
                    refine HDEL.out.mono ?_
                    rintro _ w8 ⟨he8, hO8⟩
                    subst he8
                    have HO8 := hid hO8
                    clear hO8 f0 f1
                    cases hlk : lookT T k with
                    | none =>
                      simp only [getV]
                      go_wp2_with fail
                      go_roundw
                      case rel => exact ⟨j + 1, _, by go_num, by omega, HO8, HPN⟩
                      case measure => simp [intOf]; omega
                    | some q =>
                      simp only [getV]
                      go_wp2_with fail
                      go_roundw
                      case rel => exact ⟨j + 1, _, by go_num, by omega, HO8, HPN⟩
                      case measure => simp [intOf]; omega
                  · have hyes : k ∈ L := Classical.byContradiction fun h => hz0 (HZL.out.2 h)
                    have HPN : Hid (HDd L O (j + 1) T) := HTs.out.skip HKK.out hyes
                    clear hyes
                    go_wp2_with fail
                    go_roundw
                    case rel => exact ⟨j + 1, _, by go_num, by omega, HO7, HPN⟩
                    case measure => simp [intOf]; omega
                · have b1 : ¬ (j : Int) < (no : Int) := by omega
                  have hTe : Has T fun p x => p ∈ L ∧ x = fV p := by
                    have h := HTs.out
                    rw [show j = O.length by have := HNO.out; omega] at h
                    exact h.end
                  have hST : ents S = ents T := HSE.out.same hTe HOr.out.ts.wf HOr.out.tt.wf
                  have HND : Hid (nodes S = nodes T) := nodes_eq HOr.out.ts.wf HOr.out.tt.wf hST
                  have HNB := hid (nodes_bounds HOr.out.ts.wf)
                  have HRIS := hid (ents_ris HOr.out.ts.wf)
                  obtain ⟨E, HEE⟩ : ∃ E, Hid (E = ents S) := ⟨_, rfl⟩
                  have HET : Hid (E = ents T) := HEE.out.trans hST
                  obtain ⟨ne, HNE⟩ : ∃ ne, Hid (ne = E.length) := ⟨_, rfl⟩
                  have HTO1 := hid (told_any wr (HOr.out.ts.anti (fun b hb => .inl hb) rfl) HLE.out)
                  rw [← HEE.out, ← HNE.out] at HTO1
                  have HTO2 : Hid (∀ u, Below wr.heap.size wr u → Calls Try.prog 27 #[.pointer (some ⟨tb, 0, none⟩)] u fun e w' => ∃ vp vi, e = .returned (.tuple #[vp, vi]) ∧ w'.ownsRow u.heap.size 32 2 vp ne (kcs (E.map Prod.fst)) ∧ w'.ownsRow u.heap.size 3 1 vi ne (E.map iv) ∧ Below u.heap.size u w') := fun u hu => by
                    have h := told_any u (((HOr.out.below hu).tt).anti (fun b hb => .inr (.inl hb)) rfl) (by rw [← hST]; exact HLE.out)
                    rw [← HET.out, ← HNE.out] at h
                    exact h
                  have hne : ne ≤ 400 := by have h1 := HLE.out; have h2 := HNE.out; rw [← HEE.out] at h1; omega
                  have HSM : Hid (∀ e, e ∈ E ↔ e.1 ∈ L ∧ e.2 = fV e.1) := fun e => by rw [HEE.out]; exact HSE.out e
                  rw [← HEE.out] at HNB HRIS
                  rw [← HNE.out] at HNB
                  clear hTe hST HTs HTE2 hjn hj HLE
                  obtain ⟨we, hwe⟩ : ∃ we, we = wr := ⟨_, rfl⟩
                  subst hwe
                  go_wp2_with fail
                  refine HTO1.out.mono ?_
                  rintro _ u1 ⟨vp1, vi1, rfl, hp1, hi1, hb1⟩
                  have HV2 := hid (HTO2.out u1 hb1)
                  obtain ⟨a1, c1, rfl, hc1, hm1⟩ := row_shape hp1
                  obtain ⟨a2, c2, rfl, hc2, hm2⟩ := row_shape hi1
                  have HP1 := hid hp1
                  have HI1 := hid hi1
                  have HBU1 := hid hb1
                  clear hp1 hi1 hb1 HTO1 HTO2
                  go_wp2_with fail
                  refine HV2.out.mono ?_
                  rintro _ u2 ⟨vp2, vi2, rfl, hp2, hi2, hb2⟩
                  obtain ⟨a3, c3, rfl, hc3, hm3⟩ := row_shape hp2
                  obtain ⟨a4, c4, rfl, hc4, hm4⟩ := row_shape hi2
                  have hbw2 : Below we.heap.size we u2 := HBU1.out.trans (hb2.mono HBU1.out.size)
                  have HO2 := hid (HOr.out.below hbw2)
                  have HP1' : Hid (u2.ownsRow we.heap.size 32 2 (.slice a1 ne c1) ne (kcs (E.map Prod.fst))) := row_chg (X := fun _ => False) HP1.out (Chg.of_below hb2) (fun _ _ h => h)
                  have HI1' : Hid (u2.ownsRow we.heap.size 3 1 (.slice a2 ne c2) ne (E.map iv)) := row_chg (X := fun _ => False) HI1.out (Chg.of_below hb2) (fun _ _ h => h)
                  have HP2 := hid hp2
                  have HI2 := hid hi2
                  have HL1 := hid (len_any u2 HO2.out.ts)
                  rw [vals_len, ← HEE.out, ← HNE.out] at HL1
                  obtain ⟨N, HN⟩ : ∃ N, Hid (N = nodes S) := ⟨_, rfl⟩
                  have HCT : Hid (∀ u, Below u2.heap.size u2 u → (Calls Try.prog 24 #[.pointer (some ⟨tb, 0, none⟩)] u fun e w' => e = .returned (.int .i64 (ne : Int)) ∧ Below u.heap.size u w') ∧ (Calls Try.prog 24 #[.pointer (some ⟨sb, 0, none⟩)] u fun e w' => e = .returned (.int .i64 (ne : Int)) ∧ Below u.heap.size u w') ∧ (Calls Try.prog 32 #[.pointer (some ⟨sb, 0, none⟩)] u fun e w' => e = .returned (.int .i64 (N : Int)) ∧ Below u.heap.size u w') ∧ (Calls Try.prog 32 #[.pointer (some ⟨tb, 0, none⟩)] u fun e w' => e = .returned (.int .i64 (N : Int)) ∧ Below u.heap.size u w')) := fun u hu => by
                    have hO := HO2.out.below hu
                    have h1 := len_any u hO.tt
                    have h2 := len_any u hO.ts
                    have h3 := nodes_any u hO.ts
                    have h4 := nodes_any u hO.tt
                    rw [vals_len, ← HET.out, ← HNE.out] at h1
                    rw [vals_len, ← HEE.out, ← HNE.out] at h2
                    rw [← HN.out] at h3
                    rw [← HND.out, ← HN.out] at h4
                    exact ⟨h1, h2, h3, h4⟩
                  clear hp2 hi2 hbw2 HV2 HP1 HI1 HBU1 hb2
                  go_wp2_with fail
                  refine HL1.out.mono ?_
                  rintro _ u3 ⟨rfl, hb3⟩
                  have HB3 := hid hb3
                  have HC1 := hid (HCT.out u3 hb3).1
                  clear HL1 hb3
                  go_wp2_with fail
                  refine HC1.out.mono ?_
                  rintro _ u4 ⟨rfl, hb4⟩
                  have HB4 : Hid (Below u2.heap.size u2 u4) := HB3.out.trans (hb4.mono HB3.out.size)
                  have HC2 := hid (HCT.out u4 HB4.out).2.2.1
                  clear HC1 hb4 HB3
                  go_wp2_with fail
                  refine HC2.out.mono ?_
                  rintro _ u5 ⟨rfl, hb5⟩
                  have HB5 : Hid (Below u2.heap.size u2 u5) := HB4.out.trans (hb5.mono HB4.out.size)
                  have HC3 := hid (HCT.out u5 HB5.out).2.2.2
                  clear HC2 hb5 HB4
                  go_wp2_with fail
                  refine HC3.out.mono ?_
                  rintro _ u6 ⟨rfl, hb6⟩
                  have HB6 : Hid (Below u2.heap.size u2 u6) := HB5.out.trans (hb6.mono HB5.out.size)
                  clear HC3 hb6 HB5
                  go_upto_region 35 with fail
                  have HSP1 : Hid (Sees u2 (.slice a1 ne c1) ((E.map Prod.fst).map kp)) := sees_of_owns (by rw [List.length_map, ← HNE.out]; exact HP1'.out)
                  have HSP2 : Hid (Sees u2 (.slice a3 ne c3) ((E.map Prod.fst).map kp)) := sees_of_owns (by rw [List.length_map, ← HNE.out]; exact HP2.out)
                  have HLM2 : Hid (∀ p, p ∈ L → 0 ≤ lastTo M p M.length) := fun p hp => Int.not_lt.1 fun h => (HLM.out p).1 h hp
                  go_loopw [21] (fun i wr => ∃ (j : Nat), i = .int .i64 (j : Int) ∧ j ≤ ne ∧ Hid (Below u2.heap.size u2 wr)) (fun i _ => ne - (intOf i).toNat)
                  case atStart => exact ⟨0, rfl, by omega, HB6⟩
                  case round =>
                    obtain ⟨j, rfl, hj, HB⟩ := hrel
                    by_cases hjn : j < ne
                    · obtain ⟨g1, o1, p1, ha1, hg1, c10, c11, HQ1⟩ := (HSP1.out.below HB.out).at j hjn
                      obtain ⟨g3, o3, p3, ha3, hg3, c30, c31, HQ3⟩ := (HSP2.out.below HB.out).at j hjn
                      obtain ⟨e, he⟩ : ∃ e, E[j]? = some e := ⟨_, List.getElem?_eq_getElem (by have := HNE.out; omega)⟩
                      have hp1 := kp_at' he HQ1.out
                      have hp3 := kp_at' he HQ3.out
                      subst ha1 ha3 hp1 hp3
                      obtain ⟨ek, ev⟩ := e
                      obtain ⟨hmem, hev⟩ := (HSM.out (ek, ev)).1 (List.mem_of_getElem? he)
                      simp only at c10 c11 c30 c31 hmem hev
                      obtain ⟨g2, ha2, _, hg2, ic2⟩ := ints_at HI1'.out hjn
                      obtain ⟨g4, ha4, _, hg4, ic4⟩ := ints_at HI2.out hjn
                      subst ha2 ha4
                      unfold fV at hev
                      rw [List.getElem?_map, he] at ic2 ic4
                      simp only [Option.map_some, iv, hev] at ic2 ic4
                      have d10 : ∀ t : Beh wr, t.wd.cell? ⟨g1, o1 + j * 2, none⟩ = some (.int .u32 (ek.x : Int)) := fun t => (t.ok.cell (p := ⟨g1, _, none⟩) hg1).trans c10
                      have d11 : ∀ t : Beh wr, t.wd.cell? ⟨g1, o1 + j * 2 + 1, none⟩ = some (.int .i64 (ek.n : Int)) := fun t => (t.ok.cell (p := ⟨g1, _, none⟩) hg1).trans c11
                      have d30 : ∀ t : Beh wr, t.wd.cell? ⟨g3, o3 + j * 2, none⟩ = some (.int .u32 (ek.x : Int)) := fun t => (t.ok.cell (p := ⟨g3, _, none⟩) hg3).trans c30
                      have d31 : ∀ t : Beh wr, t.wd.cell? ⟨g3, o3 + j * 2 + 1, none⟩ = some (.int .i64 (ek.n : Int)) := fun t => (t.ok.cell (p := ⟨g3, _, none⟩) hg3).trans c31
                      have d2 : ∀ t : Beh wr, t.wd.cell? ⟨g2, j, none⟩ = some (.int .i64 ((ek.x : Int) + (ek.n : Int))) := fun t => (t.ok.cell (p := ⟨g2, _, none⟩) (Nat.lt_of_lt_of_le hg2 HB.out.size)).trans ((HB.out.cell (p := ⟨g2, _, none⟩) hg2).trans ic2)
                      have d4 : ∀ t : Beh wr, t.wd.cell? ⟨g4, j, none⟩ = some (.int .i64 ((ek.x : Int) + (ek.n : Int))) := fun t => (t.ok.cell (p := ⟨g4, _, none⟩) (Nat.lt_of_lt_of_le hg4 HB.out.size)).trans ((HB.out.cell (p := ⟨g4, _, none⟩) hg4).trans ic4)
                      have hokE : ek.Ok := HOK.out ek hmem
                      have hx32 : (ek.x : Int) < 4294967296 := by have := hokE.2.2; omega
                      have hn32 : (ek.n : Int) ≤ 32 := by have := hokE.1; omega
                      obtain ⟨z, hz⟩ : ∃ z, z = lastTo M ek M.length := ⟨_, rfl⟩
                      have hz0 : 0 ≤ z := by rw [hz]; exact HLM2.out ek hmem
                      have HLS : ∀ t : Beh wr, Hid (Calls Try.prog 14 #[.slice al nl capl, pv ek] t.wd fun e w'' => e = .returned (.int .i64 z) ∧ ∃ t' : Beh wr, w'' = t'.wd) := fun t => by
                        rw [hz]
                        exact Calls.beh (last_any _ _ ek t.wd ((HO2.out.below HB.out).below t.ok).seesL)
                      unfold pv at HLS
                      have z1 : ¬ z < 0 := by omega
                      have z2 : decide (z < 0) = false := by simp; omega
                      have b1 : (j : Int) < (ne : Int) := by omega
                      have b2 : (0 : Int) ≤ (j : Int) := by omega
                      have b3 : decide ((j : Int) < 0) = false := by simp
                      have hq : ∀ u : World, (Op.equalIn 10000 32 (.agg #[.int .u32 (ek.x : Int), .int .i64 (ek.n : Int)]) (.agg #[.int .u32 (ek.x : Int), .int .i64 (ek.n : Int)])).run Try.prog u = .ok true u := fun u => (eqK ek ek u).trans (by simp)
                      have HBT : Hid (∀ t : Beh wr, Below u2.heap.size u2 t.wd) := fun t => HB.out.trans (t.ok.mono HB.out.size)
                      have HEJ := hid he
                      have HC1 : Hid (wr.cell? ⟨g1, o1 + j * 2, none⟩ = some (.int .u32 (ek.x : Int)) ∧ wr.cell? ⟨g1, o1 + j * 2 + 1, none⟩ = some (.int .i64 (ek.n : Int)) ∧ g1 < wr.heap.size) := ⟨c10, c11, hg1⟩
                      clear he HQ1 HQ3 hmem hev hg1 hg2 hg3 hg4 c10 c11 c30 c31 ic2 ic4 hokE hz
                      go_upto_region 37 with fail
                      refine wp_region_beh (by kernel_rfl) (by kernel_rfl) ?_
                      repeat (go_big_quiet_step (first | (go_at_call 14; exact (HLS _).out)))
                      refine wpQuiet_nil ?_
                      rintro _ ⟨t, rfl⟩
                      obtain ⟨wx, HWX⟩ : ∃ wx, Hid (wx = t.wd) := ⟨_, rfl⟩
                      have hbx : Below wr.heap.size wr wx := by rw [HWX.out]; exact t.ok
                      have HBX : Hid (Below u2.heap.size u2 wx) := by have h := HBT.out t; rw [← HWX.out] at h; exact h
                      rw [← HWX.out]
                      have e10 : ∀ t : Beh wx, t.wd.cell? ⟨g1, o1 + j * 2, none⟩ = some (.int .u32 (ek.x : Int)) := fun t' => d10 ⟨t'.wd, hbx.trans (t'.ok.mono hbx.size)⟩
                      have e11 : ∀ t : Beh wx, t.wd.cell? ⟨g1, o1 + j * 2 + 1, none⟩ = some (.int .i64 (ek.n : Int)) := fun t' => d11 ⟨t'.wd, hbx.trans (t'.ok.mono hbx.size)⟩
                      have HBT2 : Hid (∀ t : Beh wx, Below u2.heap.size u2 t.wd) := fun t => HBX.out.trans (t.ok.mono HBX.out.size)
                      clear d10 d11 d30 d31 d2 d4 HLS z1 z2 hq HBT hz0 hx32 hn32
                      by_cases hj0 : j = 0
                      · subst hj0
                        go_upto_region 39 with fail
                        refine wp_region_beh (by kernel_rfl) (by kernel_rfl) ?_
                        repeat (go_big_quiet_step (fail))
                        refine wpQuiet_nil ?_
                        rintro _ ⟨t2, rfl⟩
                        have HF := hid (HBT2.out t2)
                        go_wp2_with fail
                        go_roundw
                        case rel => exact ⟨1, by go_num, by omega, HF⟩
                        case measure => simp [intOf]; omega
                      · obtain ⟨j0, rfl⟩ : ∃ j0, j = j0 + 1 := ⟨j - 1, by omega⟩
                        obtain ⟨gp, op, pp, hap, hgp, cp0, cp1, HQp⟩ := (HSP1.out.below HBX.out).at j0 (by omega)
                        simp at hap
                        obtain ⟨rfl, rfl⟩ := hap
                        obtain ⟨e', he'⟩ : ∃ e', E[j0]? = some e' := ⟨_, List.getElem?_eq_getElem (by have := HNE.out; omega)⟩
                        have hpp := kp_at' he' HQp.out
                        subst hpp
                        obtain ⟨ek', ev'⟩ := e'
                        simp only at cp0 cp1
                        have hgt := ris_at HRIS.out he' HEJ.out
                        simp only [gtK] at hgt
                        have m0 : ∀ t : Beh wx, t.wd.cell? ⟨g1, o1 + j0 * 2, none⟩ = some (.int .u32 (ek'.x : Int)) := fun t => (t.ok.cell (p := ⟨g1, _, none⟩) hgp).trans cp0
                        have m1 : ∀ t : Beh wx, t.wd.cell? ⟨g1, o1 + j0 * 2 + 1, none⟩ = some (.int .i64 (ek'.n : Int)) := fun t => (t.ok.cell (p := ⟨g1, _, none⟩) hgp).trans cp1
                        have ec : ((j0 + 1 : Nat) : Int) = (j0 : Int) + 1 := by omega
                        rw [ec]
                        rw [ec] at b1 b2 b3
                        have y1 : (j0 : Int) < (ne : Int) := by omega
                        have y2 : (0 : Int) ≤ (j0 : Int) := by omega
                        have y3 : decide ((j0 : Int) < 0) = false := by simp
                        have y4 : (0 : Int) < (j0 : Int) + 1 := by omega
                        have y5 : decide ((0 : Int) < (j0 : Int) + 1) = true := by simp
                        have y6 : (j0 : Int) ≤ 9223372036854775805 := by omega
                        clear cp0 cp1 HQp he' hgp ec hj0
                        rcases hgt with hgt | ⟨hgx, hgn⟩
                        · have l1 : ¬ ((ek.x : Int) < (ek'.x : Int)) := by omega
                          have l2 : decide ((ek.x : Int) < (ek'.x : Int)) = false := by simp; omega
                          have l3 : decide (ek.x < ek'.x) = false := by simp; omega
                          have l4 : ¬ ((ek.x : Int) = (ek'.x : Int)) := by omega
                          have l5 : decide ((ek.x : Int) = (ek'.x : Int)) = false := by simp; omega
                          have l6 : decide (ek.x = ek'.x) = false := by simp; omega
                          have l7 : ¬ (ek.x = ek'.x) := by omega
                          have l8 : ¬ (ek.x < ek'.x) := by omega
                          have l9 : (ek.x == ek'.x) = false := by simp; omega
                          have l10 : ((ek.x : Int) == (ek'.x : Int)) = false := by simp; omega
                          go_upto_region 39 with fail
                          refine wp_region_beh (by kernel_rfl) (by kernel_rfl) ?_
                          repeat (go_big_quiet_step (fail))
                          refine wpQuiet_nil ?_
                          rintro _ ⟨t2, rfl⟩
                          have HF := hid (HBT2.out t2)
                          clear m0 m1 e10 e11
                          go_wp2_with fail
                          go_roundw
                          case rel => exact ⟨j0 + 1 + 1, by go_num, by omega, HF⟩
                          case measure => simp [intOf]; omega
                        · rw [← hgx] at m0
                          have l1 : ¬ ((ek.n : Int) ≤ (ek'.n : Int)) := by omega
                          have l2 : decide ((ek.n : Int) ≤ (ek'.n : Int)) = false := by simp; omega
                          have l3 : decide (ek.n ≤ ek'.n) = false := by simp; omega
                          have l4 : ¬ (ek.n ≤ ek'.n) := by omega
                          clear hgx
                          go_upto_region 39 with fail
                          refine wp_region_beh (by kernel_rfl) (by kernel_rfl) ?_
                          repeat (go_big_quiet_step (fail))
                          refine wpQuiet_nil ?_
                          rintro _ ⟨t2, rfl⟩
                          have HF := hid (HBT2.out t2)
                          clear m0 m1 e10 e11
                          go_wp2_with fail
                          go_roundw
                          case rel => exact ⟨j0 + 1 + 1, by go_num, by omega, HF⟩
                          case measure => simp [intOf]; omega
                    · have b1 : ¬ (j : Int) < (ne : Int) := by omega
                      obtain ⟨wf, hwf⟩ : ∃ wf, wf = wr := ⟨_, rfl⟩
                      subst hwf
                      clear hjn hj
                      go_upto_region 42 with fail
                      go_loopw [22] (fun i wr => ∃ (j : Nat), i = .int .i64 (j : Int) ∧ j ≤ nl ∧ Hid (Below u2.heap.size u2 wr)) (fun i _ => nl - (intOf i).toNat)
                      case atStart => exact ⟨0, rfl, by omega, HB⟩
                      case round =>
                        obtain ⟨j, rfl, hj, HB⟩ := hrel
                        by_cases hjn : j < nl
                        · obtain ⟨g, off, p, hal, hg, c0, c1, HQ⟩ := (HO2.out.below HB.out).seesL.at j hjn
                          subst hal
                          obtain ⟨k, hk, rfl⟩ := kp_at HQ.out
                          simp only [kp] at c0 c1
                          have b1 : (j : Int) < (nl : Int) := by omega
                          obtain ⟨z, hz⟩ : ∃ z, z = lastTo (E.map Prod.fst) k (E.map Prod.fst).length := ⟨_, rfl⟩
                          have HLS := hid (last_any _ (E.map Prod.fst) k wr (HSP1.out.below HB.out))
                          rw [← hz] at HLS
                          have hz0 : 0 ≤ z := by
                            have hkL := (HMM.out k).1 (List.mem_of_getElem? hk)
                            have hm := (HSM.out (k, fV k)).2 ⟨hkL, rfl⟩
                            rw [hz]
                            exact Int.not_lt.1 fun h => last_mem.1 h (List.mem_map.2 ⟨_, hm, rfl⟩)
                          have z1 : ¬ z < 0 := by omega
                          unfold pv at HLS
                          clear hk HQ hz hg
                          go_wp2_with fail
                          refine HLS.out.mono ?_
                          rintro _ w7 ⟨rfl, hb7⟩
                          have HB7 : Hid (Below u2.heap.size u2 w7) := HB.out.trans (hb7.mono HB.out.size)
                          clear hb7 c0 c1
                          go_wp2_with fail
                          go_roundw
                          case rel => exact ⟨j + 1, by go_num, by omega, HB7⟩
                          case measure => simp [intOf]; omega
                        · have b1 : ¬ (j : Int) < (nl : Int) := by omega
                          have HC1 := hid (HCT.out wr HB.out).2.2.1
                          have HBW : Hid (∀ u, Below u2.heap.size u2 u → Below w.heap.size w u) := fun u hu => HO2.out.bel.trans (hu.mono HO2.out.bel.size)
                          have HEN : Hid (nl = 0 → ne = 0 ∧ N = 0) := fun h0 => by
                            have hE : E = [] := List.eq_nil_iff_forall_not_mem.2 fun e he => by
                              have h1 := ((HSM.out e).1 he).1
                              have h2 : L = [] := List.eq_nil_of_length_eq_zero (by have := HNL.out; omega)
                              rw [h2] at h1
                              cases h1
                            have h3 : ne = 0 := by rw [HNE.out, hE]; rfl
                            exact ⟨h3, by rw [HN.out]; exact HNB.out.2.1 hE⟩
                          have HEP : Hid (0 < nl → ne ≤ N ∧ N + 1 ≤ 2 * ne) := fun h0 => by
                            have h0' : 0 < L.length := by have := HNL.out; omega
                            have hm := (HSM.out (L[0], fV L[0])).2 ⟨List.getElem_mem h0', rfl⟩
                            have h1 := List.length_pos_of_mem hm
                            rw [← HNE.out] at h1
                            rw [HN.out]
                            exact ⟨HNB.out.1, HNB.out.2.2 h1⟩
                          clear hjn hj
                          go_wp2_with fail
                          refine HC1.out.mono ?_
                          rintro _ w8 ⟨rfl, hb8⟩
                          have HB8 : Hid (Below u2.heap.size u2 w8) := HB.out.trans (hb8.mono HB.out.size)
                          have HC2 := hid (HCT.out w8 HB8.out).2.1
                          clear hb8 HC1
                          by_cases hn0 : nl = 0
                          · obtain ⟨h1, h2⟩ := HEN.out hn0
                            subst h1 h2
                            have hn0' : (nl : Int) = 0 := by omega
                            go_wp2_with fail
                            refine HC2.out.mono ?_
                            rintro _ w9 ⟨rfl, hb9⟩
                            have HF := hid (HBW.out w9 (HB8.out.trans (hb9.mono HB8.out.size)))
                            clear hb9
                            go_wp2_with fail
                            go_ret
                            exact ⟨by simp, HF.out⟩
                          · obtain ⟨h1, h2⟩ := HEP.out (by omega)
                            have hn0' : ¬ ((nl : Int) = 0) := by omega
                            have y1 : (ne : Int) ≤ (N : Int) := by omega
                            have y2 : (N : Int) ≤ 2 * (ne : Int) - 1 := by omega
                            go_wp2_with fail
                            refine HC2.out.mono ?_
                            rintro _ w9 ⟨rfl, hb9⟩
                            have HB9 : Hid (Below u2.heap.size u2 w9) := HB8.out.trans (hb9.mono HB8.out.size)
                            have HC3 := hid (HCT.out w9 HB9.out).2.1
                            clear hb9 HC2
                            go_wp2_with fail
                            refine HC3.out.mono ?_
                            rintro _ w10 ⟨rfl, hb10⟩
                            have HF := hid (HBW.out w10 (HB9.out.trans (hb10.mono HB9.out.size)))
                            clear hb10
                            go_wp2_with fail
                            go_ret
                            exact ⟨by simp, HF.out⟩
end Go.Proofs.Ytmnafocmbcgdiaa
