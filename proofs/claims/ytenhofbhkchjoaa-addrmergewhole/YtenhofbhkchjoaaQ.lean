import Derived.Test.YtenhofbhkchjoaaZ
namespace Go.Proofs.Ytenhofbhkchjoaa
open Go.ChangeShapes Go.WideShapes Go.ChangeAt Go.RowKit
set_option maxHeartbeats 400000

/-- What is handed on from round to round while the merged list is looked through. -/
def Lw (R : List (Nat × Nat)) (j : Nat) (l : Int) : Prop := ∀ x k, R[j]? = some (x, k) → l < (x : Int)

theorem lw_next {R : List (Nat × Nat)} (h : M.Asc R) {j x k : Nat} (hj : R[j]? = some (x, k)) (t : Nat) (ht : t < x + 2 ^ k) : Lw R (j + 1) (t : Int) := by
  intro y l hy
  have h1 := (List.getElem?_eq_some_iff.1 hj)
  have h2 := (List.getElem?_eq_some_iff.1 hy)
  have := (List.pairwise_iff_getElem.1 h) j (j + 1) h1.1 h2.1 (by omega)
  rw [h1.2, h2.2] at this
  simp only at this
  omega

theorem prev_lt {R : List (Nat × Nat)} (h : M.Asc R) {j x k y l : Nat} (hj : R[j]? = some (x, k)) (hy : R[j + 1]? = some (y, l)) : x < y := by
  have h1 := (List.getElem?_eq_some_iff.1 hj)
  have h2 := (List.getElem?_eq_some_iff.1 hy)
  have := (List.pairwise_iff_getElem.1 h) j (j + 1) h1.1 h2.1 (by omega)
  rw [h1.2, h2.2] at this
  simp only at this
  have := Nat.two_pow_pos k
  omega

theorem pv_at {R : List (Nat × Nat)} {j : Nat} {p : Nat × Int} (h : (R.map pv)[j]? = some p) : ∃ x k, R[j]? = some (x, k) ∧ p = (x, 32 - (k : Int)) := by
  rw [List.getElem?_map] at h
  cases e : R[j]? with
  | none => rw [e] at h; cases h
  | some q =>
    rw [e] at h
    simp [pv] at h
    exact ⟨q.1, q.2, rfl, h.symm⟩

set_option maxHeartbeats 4000000 in
set_option maxRecDepth 100000 in
theorem whole_walk (v : Value) (L : List (Nat × Int)) (a : Nat) (w : World) (hs : Sees w v L) (ha : Adr L) (ha32 : a < 4294967296) :
    Calls Try.prog 6 #[v, .int .u32 a] w fun e w' => e = .returned (.bool true) ∧ Below w.heap.size w w' := by
  obtain ⟨ao, n, cap, rfl, HN, hnc, hcap⟩ := hs.shape
  have HA : Hid (Adr L) := ha
  unfold maxLen at hcap
  clear ha
  by_cases hn : 2000 < n
  · go_enter Try.func6, Try.ntmps6
    go_wp2_with fail
    refine (begun_any _).mono ?_
    rintro e w0 ⟨rfl, rfl⟩
    go_wp2_with fail
    go_ret
    exact ⟨rfl, Below.refl _ _⟩
  · have hn' : n ≤ 2000 := by omega
    have HME : Hid (merr L = firstErr L) := by unfold Hid merr; rw [if_neg (by have := HN.out; omega)]
    go_enter Try.func6, Try.ntmps6
    go_wp2_with fail
    refine (begun_any _).mono ?_
    rintro e w0 ⟨rfl, rfl⟩
    go_wp2_with fail
    refine (merge_any byBase_any _ L _ hs HA.out).mono ?_
    rintro e w1 ⟨vl, R, rfl, hown, hb1, HR⟩
    go_wp2_with fail
    refine (sound_any _ L _ (hs.below hb1) HA.out).mono ?_
    rintro e w2 ⟨rfl, hb2⟩
    have hb12 : Below w0.heap.size w0 w2 := hb1.trans (hb2.mono hb1.size)
    have hsl0 := (sees_of_owns hown).below hb2
    by_cases he : firstErr L = 0
    · obtain ⟨hgL, J, hpJ, hrJ, hRJ⟩ := HR.out.2 (by rw [HME.out]; exact he)
      have hfine : Fine L R := by rw [hRJ]; exact fine_of hgL hpJ hrJ
      have HF : Hid (Fine L R) := hfine
      have HGL : Hid (Good L) := hgL
      have HJ : Hid (J.Perm (L.map iv) ∧ M.Rises J ∧ R = mlist J) := ⟨hpJ, hrJ, hRJ⟩
      rw [HME.out, he]
      simp only [decide_true]
      obtain ⟨al, m, capl, rfl, HNL, hncl, hcapl⟩ := hsl0.shape
      have hm : m ≤ 2000 := by have h1 := HNL.out; rw [List.length_map] at h1; have := HF.out.len; have := HN.out; omega
      unfold maxLen at hcapl
      clear he hgL hpJ hrJ hRJ hfine HR hown hb1 hb2
      go_wp2_with fail
      go_loopw [8, 9] (fun t i wr => ∃ (j : Nat) (l : Int), i = .int .i64 j ∧ t = .int .i64 l ∧ j ≤ m ∧ Hid (Lw R j l) ∧ Below w2.heap.size w2 wr) (fun _ i _ => m - (intOf i).toNat)
      case atStart => exact ⟨0, -1, rfl, rfl, by omega, fun x k _ => by omega, Below.refl _ _⟩
      case round =>
        obtain ⟨j, l, rfl, rfl, hj, HL, hbr⟩ := hrel
        have hbw := hb12.trans (hbr.mono hb12.size)
        by_cases hjm : j < m
        · obtain ⟨g, off, p, rfl, hg, c0, c1, HP⟩ := (hsl0.below hbr).at j hjm
          obtain ⟨x, k, hRj, rfl⟩ := pv_at HP.out
          have HRJ : Hid (R[j]? = some (x, k)) := hRj
          obtain ⟨hk, hmod, htop⟩ := HF.out.mem _ (List.mem_of_getElem? hRj)
          simp only at hk hmod htop c0 c1
          have HMOD : Hid (x % 2 ^ k = 0) := hmod
          have HTOP : Hid (x + 2 ^ k ≤ 4294967296) := htop
          have hlx : l < (x : Int) := HL.out x k hRj
          have hx32 : x < 4294967296 := by have := pw_pos k; omega
          have HNX : Hid (Lw R (j + 1) ((x + 2 ^ k - 1 : Nat) : Int)) := lw_next HF.out.asc hRj _ (by have := Nat.two_pow_pos k; omega)
          clear hmod htop hRj
          go_wp2_with fail
          refine (block_ok x k _ HTOP.out hk HMOD.out).mono ?_
          rintro e w3 ⟨rfl, hb3⟩
          have hb23 := hbr.trans (hb3.mono hbr.size)
          have d0 := (hb3.cell (p := ⟨g, off + j * 2, none⟩) hg).trans c0
          have d1 := (hb3.cell (p := ⟨g, off + j * 2 + 1, none⟩) hg).trans c1
          have hg3 : g < w3.heap.size := Nat.lt_of_lt_of_le hg hb3.size
          have hq1 : ¬ (x : Int) ≤ l := by omega
          generalize x + 2 ^ k - 1 = t at HNX ⊢
          clear c0 c1
          cases j with
          | zero =>
            go_wp2_with fail
            go_roundw
            case rel => exact ⟨1, t, by go_num, rfl, by omega, HNX, hb23⟩
            case measure => simp [intOf]; omega
          | succ j =>
            obtain ⟨g', off', p', hao, hg', f0, f1, HP'⟩ := (hsl0.below hb23).at j (by omega)
            simp at hao
            obtain ⟨rfl, rfl⟩ := hao
            obtain ⟨x', k', hRj', rfl⟩ := pv_at HP'.out
            obtain ⟨hk', _, htop'⟩ := HF.out.mem _ (List.mem_of_getElem? hRj')
            simp only at hk' htop' f0 f1
            have hx32' : x' < 4294967296 := by have := pw_pos k'; omega
            have HSIB : Hid (k' = k → k < 32 → x' / 2 ^ (k' + 1) * 2 ^ (k' + 1) ≠ x / 2 ^ (k + 1) * 2 ^ (k + 1)) := by
              rintro rfl hlt
              exact HF.out.sib x' x k' (List.mem_of_getElem? hRj') (List.mem_of_getElem? HRJ.out) (prev_lt HF.out.asc hRj' HRJ.out) hlt
            clear htop' hRj'
            go_wp2_with fail
            refine (parent_ok x' k' _ hx32' hk').mono ?_
            rintro e w4 ⟨rfl, hb4⟩
            have hsib0 := HSIB.out
            generalize x' / 2 ^ (k' + 1) * 2 ^ (k' + 1) = u' at hsib0 ⊢
            generalize u' + 2 ^ (k' + 1) - 1 = t'
            have HSIB2 := hid hsib0
            clear hsib0 HSIB
            have d0' := (hb4.cell (p := ⟨g, off + (j + 1) * 2, none⟩) hg3).trans d0
            have d1' := (hb4.cell (p := ⟨g, off + (j + 1) * 2 + 1, none⟩) hg3).trans d1
            have f1' := (hb4.cell (p := ⟨g, off + j * 2 + 1, none⟩) hg3).trans f1
            have hg4 : g < w4.heap.size := Nat.lt_of_lt_of_le hg3 hb4.size
            clear d0 d1 f0 f1
            go_wp2_with fail
            refine (parent_ok x k _ hx32 hk).mono ?_
            rintro e w5 ⟨rfl, hb5⟩
            have d1'' := (hb5.cell (p := ⟨g, off + (j + 1) * 2 + 1, none⟩) hg4).trans d1'
            have f1'' := (hb5.cell (p := ⟨g, off + j * 2 + 1, none⟩) hg4).trans f1'
            have hbz := hb23.trans ((hb4.mono hb23.size).trans (hb5.mono (Nat.le_trans hb23.size hb4.size)))
            have hsib := HSIB2.out
            generalize x / 2 ^ (k + 1) * 2 ^ (k + 1) = u at hsib ⊢
            generalize u + 2 ^ (k + 1) - 1 = t''
            clear d0' d1' f1' HSIB2
            have hj0 : (0 : Int) ≤ (j : Int) := by omega
            have hj1 : (j : Int) + 1 < (m : Int) := by omega
            have hj2 : (j : Int) < (m : Int) := by omega
            by_cases hkk : k' = k
            · subst hkk
              have hqa : ((32 : Int) - (k' : Int) == 32 - (k' : Int)) = true := by simp
              by_cases hk32 : k' < 32
              · have hqb : decide ((k' : Int) < 32) = true := by simp; omega
                have hqc : ((u' : Int) == (u : Int)) = false := by
                  rw [beq_eq_false_iff_ne]; intro e; exact hsib rfl hk32 (by exact_mod_cast e)
                clear hsib
                go_wp2
                go_quiet (fail)
                go_wp2
                go_roundw
                case rel => exact ⟨j + 2, t, by go_num, rfl, by omega, HNX, below_drewN hbz _⟩
                case measure => simp [intOf]; omega
              · have hqb : decide ((k' : Int) < 32) = false := by simp; omega
                clear hsib
                go_wp2
                go_quiet (fail)
                go_wp2
                go_roundw
                case rel => exact ⟨j + 2, t, by go_num, rfl, by omega, HNX, below_drewN hbz _⟩
                case measure => simp [intOf]; omega
            · have hqa : ((32 : Int) - (k' : Int) == 32 - (k : Int)) = false := by simp; omega
              clear hsib hkk
              go_wp2
              go_quiet (fail)
              go_wp2
              go_roundw
              case rel => exact ⟨j + 2, t, by go_num, rfl, by omega, HNX, below_drewN hbz _⟩
              case measure => simp [intOf]; omega
        · go_wp2_with fail
          refine (agree_any _ _ L (R.map pv) (a : Int) _ (hs.below hbw) (hsl0.below hbr) HGL.out HF.out.good (fun z => hz_same (fun x => (HF.out.has x).symm) z)).mono ?_
          rintro e w6 ⟨rfl, hb6⟩
          have hb06 := hbw.trans (hb6.mono hbw.size)
          have hb26 := hbr.trans (hb6.mono hbr.size)
          have hs6 := hs.below hb06
          have hsl6 := hsl0.below hb26
          obtain ⟨i0, hi0, hz0, hz1, hz2⟩ := info_parts Try.info30
          have HI : Hid (Try.prog.info? 30 = some i0) := hi0
          clear hi0 hs hsl0 hbr hbw hb6 hb12
          go_wp2_with fail
          go_loopw [16, 17] (fun t i wr => ∃ (s : Nat) (T : List (Nat × Int)), s ≤ n ∧ i = .int .i64 ((s : Int) - 1) ∧ T.length ≤ 2 * (n - s) ∧ Hid (∀ p, p ∈ T ↔ p ∈ L.drop s) ∧ wr.ownsRow w6.heap.size 30 2 t T.length (cellsP T) ∧ Below w6.heap.size w6 wr) (fun _ i _ => (intOf i + 1).toNat)
          case atStart => exact ⟨n, [], Nat.le_refl _, rfl, by simp, fun p => by rw [List.drop_eq_nil_of_le (by have := HN.out; omega)], World.ownsRow_nil _ _ _ _, Below.refl _ _⟩
          case round =>
            obtain ⟨s, T, hsn, rfl, hTl, HT, hownT, hbt⟩ := hrel
            cases s with
            | succ s =>
              obtain ⟨g, off, p, rfl, hg, c0, c1, HP⟩ := (hs6.below hbt).at s (by omega)
              have hs0 : (0 : Int) ≤ (s : Int) := by omega
              have hs1 : (s : Int) < (n : Int) := by omega
              go_wp2_with (at_builtin; refine wpList_append_own _ rfl _ _ 25 rfl w6.heap.size 30 i0 (.agg #[.int .u32 0, .int .i64 0]) 2 16 Try.underlying25 HI.out hz0 hz1 hz2 rfl (by decide) _ _ _ rfl (hownT.alloc _) ⟨wr.heap.size, 0, none⟩ 1 1 [.int .u32 (p.1 : Int), .int .i64 p.2] rfl rfl ?qa1 ?qa2 ?qa3 ?qa4 ?qa5 ?_)
              case qa1 => exact two_at rfl _ _ _
              case qa2 => intro u hu; simp at hu; rcases hu with rfl | rfl <;> rfl
              case qa3 => unfold maxLen; omega
              case qa4 => omega
              case qa5 => have := hbt.size; simp; omega
              · intro m3 w7 hown7 hgrow7 _
                have hb7 := run_step (q := 0) hbt.size hbt hownT hgrow7
                rw [cellsP_snoc] at hown7
                clear hgrow7 hownT c0 c1
                obtain ⟨g', off', p', hao, hg', c0, c1, HP'⟩ := (hs6.below hb7).at s (by omega)
                simp at hao
                obtain ⟨rfl, rfl⟩ := hao
                obtain rfl : p' = p := by have h1 := HP'.out; rw [HP.out] at h1; simpa using h1.symm
                rw [show T.length + 1 = (T ++ [p']).length from by simp] at hown7
                generalize hT1 : T ++ [p'] = T1 at hown7
                have hT1l : T1.length ≤ T.length + 1 := by rw [← hT1]; simp
                have HT1 := hid hT1
                clear hT1
                go_wp2_with (at_builtin; refine wpList_append_own _ rfl _ _ 25 rfl w6.heap.size 30 i0 (.agg #[.int .u32 0, .int .i64 0]) 2 16 Try.underlying25 HI.out hz0 hz1 hz2 rfl (by decide) _ _ _ rfl (hown7.alloc _) ⟨w7.heap.size, 0, none⟩ 1 1 [.int .u32 (p'.1 : Int), .int .i64 p'.2] rfl rfl ?qb1 ?qb2 ?qb3 ?qb4 ?qb5 ?_)
                case qb1 => exact two_at rfl _ _ _
                case qb2 => intro u hu; simp at hu; rcases hu with rfl | rfl <;> rfl
                case qb3 => unfold maxLen; omega
                case qb4 => omega
                case qb5 => have := hb7.size; simp; omega
                · intro m8 w8 hown8 hgrow8 _
                  have hb8 := run_step (q := 0) hb7.size hb7 hown7 hgrow8
                  rw [cellsP_snoc] at hown8
                  have HT2 : Hid (∀ q, q ∈ T1 ++ [p'] ↔ q ∈ L.drop s) := by
                    intro q
                    have h1 := (List.getElem?_eq_some_iff.1 HP.out)
                    rw [List.drop_eq_getElem_cons h1.1, h1.2, ← HT1.out]
                    simp only [List.mem_append, List.mem_cons, List.not_mem_nil, or_false]
                    rw [HT.out q]
                    constructor
                    · rintro ((h | h) | h)
                      · exact .inr h
                      · exact .inl h
                      · exact .inl h
                    · rintro (h | h)
                      · exact .inr h
                      · exact .inl (.inl h)
                  clear hgrow8 hown7
                  go_wp2_with fail
                  go_roundw
                  case rel => exact ⟨s, T1 ++ [p'], by omega, by go_num, by rw [List.length_append]; simp; omega, HT2, by rw [List.length_append]; exact hown8, hb8⟩
                  case measure => simp [intOf]
            | zero =>
              have hsT := sees_of_ownsP hownT
              have HM : Hid (∀ p, p ∈ T ↔ p ∈ L) := by have h1 := HT.out; rwa [List.drop_zero] at h1
              have HGT : Hid (Good T) := fun p hp => HGL.out p ((HM.out p).1 hp)
              have HET : Hid (merr T = 0) := by
                unfold Hid merr; rw [if_neg (by omega)]; exact firstErr_none T (fun q hq => (HGT.out q hq).2)
              clear hownT
              go_wp2_with fail
              refine (merge_any byBase_any _ T _ hsT (fun p hp => (HGT.out p hp).1)).mono ?_
              rintro e w9 ⟨vm, R2, rfl, hown9, hb9, HR9⟩
              have HR2 : Hid (R = R2) := by
                obtain ⟨_, J2, q1, q2, q3⟩ := HR9.out.2 HET.out
                obtain ⟨q4, q5, q6⟩ := HJ.out
                unfold Hid; rw [q6, q3]
                exact mlist_same HGL.out HGT.out q4 q1 q5 q2 (fun x => M.has_mem (fun r => by simp only [List.mem_map]; constructor <;> rintro ⟨p, hp, rfl⟩ <;> exact ⟨p, by first | exact (HM.out p).1 hp | exact (HM.out p).2 hp, rfl⟩) x)
              rw [HET.out]
              have hb69 := hbt.trans (hb9.mono hbt.size)
              have hsm := sees_of_owns hown9
              have HEL : Hid (merr (R.map pv) = 0) := by
                unfold Hid merr; rw [if_neg (by have h1 := HNL.out; omega)]; exact firstErr_none _ (fun q hq => (HF.out.good q hq).2)
              clear hown9 HR9
              go_wp2_with fail
              refine (merge_any byBase_any _ (R.map pv) _ (hsl6.below hb69) (fun p hp => (HF.out.good p hp).1)).mono ?_
              rintro e w10 ⟨vn, R3, rfl, hown10, hb10, HR10⟩
              have HR3 : Hid (R = R3) := by
                obtain ⟨_, J3, q1, q2, q3⟩ := HR10.out.2 HEL.out
                obtain ⟨q4, q5, q6⟩ := HJ.out
                unfold Hid
                rw [q3]
                conv => lhs; rw [q6]
                exact mlist_same HGL.out HF.out.good q4 q1 q5 q2 (fun x => (HF.out.has x).symm)
              rw [HEL.out]
              have hsn := sees_of_owns hown10
              have hbb := hb69.trans (hb10.mono hb69.size)
              clear hown10 HR10
              go_wp2_with fail
              refine (same_any _ vm _ _ _ (hsl6.below hbb) (hsm.below hb10)).mono ?_
              rintro e w11 ⟨rfl, q, rfl⟩
              rw [← HR2.out]
              simp only [decide_true]
              have hbq : Below w10.heap.size w10 (w10.drewN q) := below_drewN (Below.refl _ _) q
              go_wp2_with fail
              refine (same_any _ vn _ _ _ ((hsl6.below hbb).below hbq) (hsn.below hbq)).mono ?_
              rintro e w12 ⟨rfl, q', rfl⟩
              rw [← HR3.out]
              simp only [decide_true]
              go_wp2_with fail
              go_ret
              exact ⟨rfl, below_drewN (hb06.trans (hbb.mono hb06.size)) _⟩
    · have hR : R = [] := HR.out.1 (by rw [HME.out]; exact he)
      subst hR
      obtain ⟨al, m, capl, rfl, HNL, hncl, hcapl⟩ := hsl0.shape
      have hm0 : m = 0 := HNL.out
      subst hm0
      have hd : decide (firstErr L = 0) = false := by simp [he]
      rw [hd, HME.out]
      have hq : (firstErr L != 0) = true := by rw [bne_iff_ne]; exact he
      generalize firstErr L = er at hq ⊢
      clear he hd HR hown
      go_wp2_with fail
      go_ret
      exact ⟨rfl, hb12⟩
end Go.Proofs.Ytenhofbhkchjoaa
