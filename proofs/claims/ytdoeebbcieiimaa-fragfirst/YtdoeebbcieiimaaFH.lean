import Derived.Test.YtdoeebbcieiimaaFD
namespace Go.Proofs.Ytdoeebbcieiimaa
open Go.ChangeShapes Go.WideShapes Go.ChangeAt Go.RowKit
set_option maxHeartbeats 1000000
set_option maxRecDepth 100000

theorem same_any (v v' : Value) (A B : List Nat) (w : World) (hv : SeesB w v A) (hv' : SeesB w v' B) :
    Calls Try.prog 11 #[v, v'] w fun e w' => e = .returned (.bool (decide (A = B))) ∧ Below w.heap.size w w' := by
  obtain ⟨ao, n, cap, rfl, HN, hn1, hn2⟩ := hv.shape
  obtain ⟨ao', n', cap', rfl, HN', hn1', hn2'⟩ := hv'.shape
  unfold maxLen at hn2 hn2'
  obtain ⟨R, hR⟩ : ∃ R, R = decide (A = B) := ⟨_, rfl⟩
  have HR := hid hR
  rw [← hR]
  have HV := hid hv
  have HV' := hid hv'
  clear hR hv hv'
  by_cases hl : n = n'
  · subst hl
    have hq : ((n : Int) != (n : Int)) = false := by simp
    go_enter Try.func11, Try.ntmps11
    go_wp2_with fail
    go_loopw [5] (fun i wv => ∃ (k : Nat) (wr : World), i = .int .i64 (k : Int) ∧ k ≤ n ∧ Hid (A.take k = B.take k) ∧ wr = wv ∧ Below w.heap.size w wr) (fun i _ => n - (intOf i).toNat)
    case atStart => exact ⟨0, _, rfl, by omega, rfl, rfl, Below.refl _ _⟩
    case round =>
      obtain ⟨k, wr, rfl, hk, HK, rfl, hb⟩ := hrel
      by_cases hlt : k < n
      · obtain ⟨g, off, x, rfl, hg, hc, hx, HX⟩ := (HV.out.below hb).at k hlt
        obtain ⟨g', off', y, rfl, hg', hc', hy, HY⟩ := (HV'.out.below hb).at k hlt
        have b0 : (k : Int) < (n : Int) := by omega
        have b1 : (0 : Int) ≤ (k : Int) := by omega
        by_cases hxy : x = y
        · have hq2 : ((x : Int) != (y : Int)) = false := by simp [hxy]
          have HK2 : Hid (A.take (k + 1) = B.take (k + 1)) := by unfold Hid; rw [take_snoc HX.out, take_snoc HY.out, HK.out, hxy]
          clear hxy
          go_wp2_with fail
          go_quiet (fail)
          go_wp2_with fail
          go_roundw
          case rel => exact ⟨k + 1, _, by go_num, by omega, HK2, rfl, below_drewN hb _⟩
          case measure => simp [intOf]; omega
        · have hq2 : ((x : Int) != (y : Int)) = true := by simp; omega
          have HE : Hid (R = false) := by
            unfold Hid; rw [HR.out]; refine decide_eq_false (fun h => hxy ?_)
            have h1 := HX.out
            rw [h, HY.out] at h1
            simpa using h1.symm
          clear hxy
          go_wp2_with fail
          go_quiet (fail)
          go_wp2_with fail
          go_ret
          exact ⟨ret_bool (by rw [HE.out]), below_drewN hb _⟩
      · have HE : Hid (R = true) := by
          unfold Hid; rw [HR.out]; refine decide_eq_true ?_
          have h := HK.out
          rw [List.take_of_length_le (by have := HN.out; omega), List.take_of_length_le (by have := HN'.out; omega)] at h
          exact h
        go_wp2_with fail
        go_ret
        exact ⟨ret_bool (by rw [HE.out]), hb⟩
  · have hq : ((n : Int) != (n' : Int)) = true := by simp; omega
    have HE : Hid (R = false) := by
      unfold Hid; rw [HR.out]; refine decide_eq_false (fun h => hl ?_)
      rw [HN.out, HN'.out, h]
    clear hl
    go_enter Try.func11, Try.ntmps11
    go_wp2_with fail
    go_ret
    exact ⟨ret_bool (by rw [HE.out]), Below.refl _ _⟩

/-- heads: the same header on both sides. -/
theorem heads_same (h : Hd) (va vb : Value) (w : World) (ha : SeesB w va h.opts) (hb : SeesB w vb h.opts) :
    Calls Try.prog 32 #[.agg (hdCells h va), .agg (hdCells h vb)] w fun e w' => e = .returned (.bool true) ∧ Below w.heap.size w w' := by
  obtain ⟨w1, hw1⟩ : ∃ w1, w1 = (w.alloc (.cells (hdCells h va) 27)).alloc (.cells (hdCells h vb) 27) := ⟨_, rfl⟩
  have hb1 : Below w.heap.size w w1 := by rw [hw1]; exact ((Below.refl _ _).alloc (Nat.le_refl _) _).alloc (by simp) _
  have HS := hid (same_any va vb h.opts h.opts w1 (ha.below hb1) (hb.below hb1))
  obtain ⟨a1, n1, c1, rfl, _, _, _⟩ := ha.shape
  obtain ⟨a2, n2, c2, rfl, _, _, _⟩ := hb.shape
  have HW1 := hid hw1
  have HB1 := hid hb1
  clear hw1 hb1 ha hb
  obtain ⟨tos, id, df, mf, off, ttl, proto, src, dst, opts⟩ := h
  unfold hdCells at *
  simp only at *
  go_enter Try.func32, Try.ntmps32
  go_wp2_with fail
  rw [← HW1.out]
  refine HS.out.mono ?_
  rintro _ w2 ⟨rfl, hb2⟩
  go_wp2_with fail
  go_ret
  exact ⟨ret_bool (by simp), HB1.out.trans (hb2.mono HB1.out.size)⟩

/-- packets: the same packet on both sides. -/
theorem packets_same (h : Hd) (B : List Nat) (va vb xa xb : Value) (w : World) (ha : SeesB w va h.opts) (hb : SeesB w vb h.opts) (ka : SeesB w xa B) (kb : SeesB w xb B) :
    Calls Try.prog 13 #[.agg (pkCells h va xa), .agg (pkCells h vb xb)] w fun e w' => e = .returned (.bool true) ∧ Below w.heap.size w w' := by
  obtain ⟨w1, hw1⟩ : ∃ w1, w1 = (w.alloc (.cells (pkCells h va xa) 29)).alloc (.cells (pkCells h vb xb) 29) := ⟨_, rfl⟩
  have hb1 : Below w.heap.size w w1 := by rw [hw1]; exact ((Below.refl _ _).alloc (Nat.le_refl _) _).alloc (by simp) _
  have hs1 : w1.heap.size = w.heap.size + 2 := by rw [hw1]; simp
  have HB0 : Hid (∀ u, Below w1.heap.size w1 u → u.heap[w.heap.size]? = some (.cells (pkCells h va xa) 29)) := fun u hu => by
    have h1 : Below (w.heap.size + 1) (w.alloc (.cells (pkCells h va xa) 29)) w1 := by rw [hw1]; exact (Below.refl _ _).alloc (by simp) _
    rw [hu.block _ (by omega), h1.block _ (by omega)]
    exact heap_alloc_new w _
  have HB2 : Hid (∀ u, Below w1.heap.size w1 u → u.heap[w.heap.size + 1]? = some (.cells (pkCells h vb xb) 29)) := fun u hu => by
    rw [hu.block _ (by omega), hw1]
    have := heap_alloc_new (w.alloc (.cells (pkCells h va xa) 29)) (.cells (pkCells h vb xb) 29)
    rw [World.size_alloc] at this
    exact this
  have HL0 := hid (pk_loadH (HB0.out _ (Below.refl _ _)))
  have HL1 := hid (pk_loadH (HB2.out _ (Below.refl _ _)))
  have HH := hid (heads_same h va vb w1 (ha.below hb1) (hb.below hb1))
  have HSM : Hid (∀ u, Below w1.heap.size w1 u → Calls Try.prog 11 #[xa, xb] u fun e w' => e = .returned (.bool true) ∧ Below u.heap.size u w') := fun u hu => by
    have hbu := hb1.trans (hu.mono hb1.size)
    have := same_any xa xb B B u (ka.below hbu) (kb.below hbu)
    rw [decide_eq_true (rfl : B = B)] at this
    exact this
  have HC0 : Hid (∀ u, Below w1.heap.size w1 u → u.cell? ⟨w.heap.size, 10, none⟩ = some xa ∧ u.cell? ⟨w.heap.size + 1, 10, none⟩ = some xb) := fun u hu => ⟨pk_at (HB0.out _ hu) 10 (by omega), pk_at (HB2.out _ hu) 10 (by omega)⟩
  obtain ⟨a1, n1, c1, rfl, _, _, _⟩ := ka.shape
  obtain ⟨a2, n2, c2, rfl, _, _, _⟩ := kb.shape
  have HW1 := hid hw1
  have HB1 := hid hb1
  generalize hdCells h va = ca at *
  generalize hdCells h vb = cb at *
  generalize pkCells h va (.slice a1 n1 c1) = pa at *
  generalize pkCells h vb (.slice a2 n2 c2) = pb at *
  clear hw1 hb1 ha hb ka kb HB0 HB2 hs1
  go_enter Try.func13, Try.ntmps13
  go_upto_region 1 with fail
  rw [← HW1.out]
  go_wp2_with (first
    | (refine wpList_ld 27 ⟨w.heap.size, 0, none⟩ (.tmp 5) rfl rfl HL0.out rfl ?_)
    | (refine wpList_ld 27 ⟨w.heap.size + 1, 0, none⟩ (.tmp 7) rfl rfl HL1.out rfl ?_)
    | fail)
  refine HH.out.mono ?_
  rintro _ w2 ⟨rfl, hb2⟩
  obtain ⟨e0, e1⟩ := HC0.out _ hb2
  go_wp2_with fail
  refine (HSM.out _ hb2).mono ?_
  rintro _ w3 ⟨rfl, hb3⟩
  go_wp2_with fail
  go_ret
  exact ⟨rfl, HB1.out.trans ((hb2.trans (hb3.mono hb2.size)).mono HB1.out.size)⟩

set_option maxHeartbeats 4000000 in
/-- copied of the law: a packet with lists of its own. -/
theorem lcopied_any (h : Hd) (vo vb : Value) (B : List Nat) (w : World) (hvo : SeesB w vo h.opts) (hvb : SeesB w vb B) (hlo : h.opts.length ≤ 140737488355328) (hlb : B.length ≤ 140737488355328) :
    Calls Try.prog 18 #[.agg (pkCells h vo vb)] w fun e w' => ∃ vo' vb', e = .returned (.agg (pkCells h vo' vb')) ∧ OwnB w' (w.heap.size + 2) vo' h.opts ∧ OwnB w' (w.heap.size + 2) vb' B ∧ Below w.heap.size w w' := by
  obtain ⟨w1, hw1⟩ : ∃ w1, w1 = (w.alloc (.cells (pkCells h vo vb) 29)).alloc (.cells Z29 29) := ⟨_, rfl⟩
  have hs1 : w1.heap.size = w.heap.size + 2 := by rw [hw1]; simp
  have hb1 : Below w.heap.size w w1 := by rw [hw1]; exact ((Below.refl _ _).alloc (Nat.le_refl _) _).alloc (by simp) _
  have hk0 : w1.heap[w.heap.size]? = some (.cells (pkCells h vo vb) 29) := by
    have h1 : Below (w.heap.size + 1) (w.alloc (.cells (pkCells h vo vb) 29)) w1 := by rw [hw1]; exact (Below.refl _ _).alloc (by simp) _
    rw [h1.block _ (by omega)]
    exact heap_alloc_new w _
  have hk1 : w1.heap[w.heap.size + 1]? = some (.cells Z29 29) := by
    have := heap_alloc_new (w.alloc (.cells (pkCells h vo vb) 29)) (.cells Z29 29)
    rw [World.size_alloc] at this
    rw [hw1]; exact this
  have HVO := hid (hvo.below hb1)
  have HVB := hid hvb
  have HLB := hid hlb
  have HLO := hid hlo
  have c9 : w1.cell? ⟨w.heap.size, 9, none⟩ = some vo := pk_at hk0 9 (by omega)
  obtain ⟨ao, no, co, rfl, HNO, _, _⟩ := hvo.shape
  obtain ⟨ab, nb, capb, rfl, HNB, hnb1, hnb2⟩ := hvb.shape
  have HW1 := hid hw1
  have HB1 := hid hb1
  have HK0 := hid hk0
  have HK1 := hid hk1
  have HS1 := hid hs1
  clear hw1 hb1 hk0 hk1 hvo hvb hlo hs1 hlb
  obtain ⟨cs, hcs⟩ : ∃ cs, cs = pkCells h (.slice ao no co) (.slice ab nb capb) := ⟨_, rfl⟩
  rw [← hcs] at HW1
  rw [← hcs]
  clear hcs
  go_enter Try.func18, Try.ntmps18
  go_upto_region 1 with fail
  have e0 : (w.alloc (.cells cs 29)).alloc (.cells Z29 29) = w1 := HW1.out.symm
  unfold Z29 at e0
  rw [e0]
  clear e0
  go_wp2_with (at_builtin; refine wpList_append_bytes rfl _ _ rfl w1.heap.size _ [] rfl (ownB_nil _ _) _ h.opts rfl HVO.out ?c1 ?c2 ?_)
  case c1 => have := HLO.out; simpa using this
  case c2 => exact Nat.le_refl _
  intro v' w2 ho hb2
  obtain ⟨a2, c2, rfl⟩ := ho.shape
  have HO := hid ho
  have HB2 := hid hb2
  clear ho hb2 c9
  have HK2 := hid (below_keeps HB2.out HK0.out (by have := HS1.out; omega))
  go_wp2_with (first | (refine wpList_st1 rfl 22 (.tmp 8) (.tmp 6) rfl w.heap.size 9 (.slice a2 h.opts.length c2) rfl rfl rfl 29 _ (pkCells h (.slice a2 h.opts.length c2) (.slice ab nb capb)) HK2.out size22 (by show 9 < 11; decide) rfl ?_) | fail)
  intro w3 hk3 hbut3
  have c10 : w3.cell? ⟨w.heap.size, 10, none⟩ = some (.slice ab nb capb) := pk_at hk3 10 (by omega)
  have HK3 := hid hk3
  have HU3 := hid hbut3
  have hb3 : Below w.heap.size w w3 := by
    refine hbut3.below (HB1.out.trans (HB2.out.mono HB1.out.size)) ?_ (Nat.le_refl _)
    have h1 := HB2.out.size; have h2 := HS1.out; omega
  have HV3 := hid (HVB.out.below hb3)
  have HB3 := hid hb3
  clear hk3 hbut3 hb3
  go_wp2_with (at_builtin; refine wpList_append_bytes rfl _ _ rfl w3.heap.size _ [] rfl (ownB_nil _ _) _ B rfl HV3.out ?c1 ?c2 ?_)
  case c1 => have := HLB.out; simpa using this
  case c2 => exact Nat.le_refl _
  intro v' w4 ho hb4
  obtain ⟨a4, c4, rfl⟩ := ho.shape
  have HO4 := hid ho
  have HB4 := hid hb4
  clear ho hb4 c10
  have hsz3 : w.heap.size + 2 ≤ w3.heap.size := by have h1 := HB2.out.size; have h2 := HS1.out; have h3 := HU3.out.size; omega
  have HSZ3 := hid hsz3
  clear hsz3
  have HK4 := hid (below_keeps HB4.out HK3.out (by have := HSZ3.out; omega))
  go_wp2_with (first | (refine wpList_st1 rfl 22 (.tmp 12) (.tmp 11) rfl w.heap.size 10 (.slice a4 B.length c4) rfl rfl rfl 29 _ (pkCells h (.slice a2 h.opts.length c2) (.slice a4 B.length c4)) HK4.out size22 (by show 10 < 11; decide) rfl ?_) | fail)
  intro w5 hk5 hbut5
  have HL5 := hid (pk_load hk5)
  have HU5 := hid hbut5
  clear hk5 hbut5
  have HK6 : Hid (w5.heap[w.heap.size + 1]? = some (.cells Z29 29)) := HU5.out.keeps (below_keeps HB4.out (HU3.out.keeps (below_keeps HB2.out HK1.out (by have := HS1.out; omega)) (by omega)) (by have := HSZ3.out; omega)) (by omega)
  obtain ⟨cr, hcr⟩ : ∃ cr, cr = pkCells h (.slice a2 h.opts.length c2) (.slice a4 B.length c4) := ⟨_, rfl⟩
  have HCR := hid hcr
  have HALL : Hid (cr.all (·.oneCell') = true) := by unfold Hid; rw [hcr]; exact all_pk _ _ _ _ _ _ _
  have HSZ : Hid (cr.size = 11) := by unfold Hid; rw [hcr]; rfl
  rw [← hcr] at HL5
  clear hcr
  go_wp2_with (first | (refine wpList_ld 29 ⟨w.heap.size, 0, none⟩ (.tmp 1) rfl rfl HL5.out rfl ?_) | (refine wpList_st rfl 29 (.tmp 2) (.tmp 13) rfl (w.heap.size + 1) cr rfl rfl 29 Z29 HK6.out (by rw [HSZ.out]; exact sz29) (by rw [HSZ.out]; rfl) HALL.out ?_) | fail)
  intro w7 hk7 hbut7
  rw [HCR.out] at hk7
  have HL7 := hid (pk_var hk7)
  go_wp2_with fail
  refine bodyPost_ret (v := .agg (pkCells h (.slice a2 h.opts.length c2) (.slice a4 B.length c4))) (by simp [results, Try.results18, asAddr, HL7.out]) rfl ?_
  have hB4 : Below w.heap.size w w4 := HB3.out.trans (HB4.out.mono HB3.out.size)
  have hB5 := HU5.out.below hB4 hB4.size (Nat.le_refl _)
  have hB7 := hbut7.below hB5 hB5.size (by omega)
  refine ⟨_, _, rfl, ?_, ?_, hB7⟩
  · have h1 := HO.out
    rw [HS1.out] at h1
    exact OwnB.but (OwnB.but (OwnB.below (OwnB.but (OwnB.low (b' := w.heap.size + 2) h1 (by omega)) HU3.out (by omega)) HB4.out) HU5.out (by omega)) hbut7 (by omega)
  · exact OwnB.but (OwnB.but (OwnB.low (b' := w.heap.size + 2) HO4.out HSZ3.out) HU5.out (by omega)) hbut7 (by omega)
end Go.Proofs.Ytdoeebbcieiimaa
