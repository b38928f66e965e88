/-
  The reference's Room.
-/
import Derived.Test.YtahoileampdnkaaHE
namespace Go.Proofs.Ytahoileampdnkaa
open Go.ChangeShapes Go.WideShapes Go.ChangeAt Go.RowKit Ru N Tri
set_option maxHeartbeats 4000000
set_option maxRecDepth 100000

def inR2 (lo hi n : Nat) : Bool := decide (lo ≤ n) && decide (n ≤ hi)

/-- What the reference's Room says. -/
def rmR (sub lo hi : Nat) (A T : List Nat) : Int := (((hi - lo) / 2 ^ (32 - sub) + 1 : Nat) : Int) - ((A.countP (inR2 lo hi) : Nat) : Int) - ((T.countP fun n => inR2 lo hi n && !decide (n ∈ A) : Nat) : Int)

theorem int_sub' {a b : Nat} (h : b ≤ a) : ((a - b : Nat) : Int) = (a : Int) - (b : Int) := by omega
theorem wrap_nat3 {a : Nat} (h : a ≤ 8589934592) : wrap64 (a : Int) = (a : Int) := by unfold wrap64; omega
theorem tdiv_nat' (a b : Nat) : (a : Int).tdiv (b : Int) = ((a / b : Nat) : Int) := rfl

theorem roomR (rb x : Nat) (y : Int) (sub lo hi : Nat) (vk vt : Value) (A T : List Nat) (w : World) (hp : RAt w rb x y sub lo hi vk vt A T) (hle : lo ≤ hi) :
    Calls Try.prog 46 #[.pointer (some ⟨rb, 0, none⟩)] w fun e w' => e = .returned (.int .i64 (rmR sub lo hi A T)) ∧ Below w.heap.size w w' := by
  obtain ⟨ak, nk, ck0, rfl, HNK, hk1, hk2⟩ := hp.ok.shape
  obtain ⟨av, nv, cv, rfl, HNV, hv1, hv2⟩ := hp.ot.shape
  have HP := hid hp
  have hlk : nk ≤ 1024 := by rw [HNK.out]; exact hp.la
  have hlv : nv ≤ 4294967296 := by rw [HNV.out]; exact hp.lt
  obtain ⟨Z, HZ⟩ : ∃ Z, Hid (Z = 2 ^ (32 - sub)) := ⟨_, hid rfl⟩
  have hz1 : 0 < Z := by rw [HZ.out]; exact Nat.two_pow_pos _
  obtain ⟨df, HDF⟩ : ∃ df, Hid (df = hi - lo) := ⟨_, rfl⟩
  obtain ⟨dd, HDD⟩ : ∃ dd, Hid (dd = df / Z) := ⟨_, hid rfl⟩
  obtain ⟨ct, HCTT⟩ : ∃ ct, Hid (ct = dd + 1) := ⟨_, rfl⟩
  have hdf : df ≤ 4294967296 := by have := hp.hh; have := HDF.out; omega
  have hdd : dd ≤ 4294967296 := by rw [HDD.out]; exact Nat.le_trans (Nat.div_le_self _ _) hdf
  have hct : ct ≤ 4294967297 := by have := HCTT.out; omega
  have v1 : (hi : Int) - (lo : Int) = (df : Int) := by rw [HDF.out]; exact (int_sub' hle).symm
  have v3 : (df : Int).tdiv (Z : Int) = (dd : Int) := by rw [tdiv_nat', HDD.out]
  have v6 : (dd : Int) + 1 = (ct : Int) := by rw [HCTT.out]; rfl
  have i2 : ¬ (Z : Int) = 0 := int_ne (Nat.ne_of_gt hz1)
  have v2 : wrap64 (df : Int) = (df : Int) := wrap_nat' hdf
  have v5 : wrap64 (dd : Int) = (dd : Int) := wrap_nat' hdd
  have v7 : wrap64 (ct : Int) = (ct : Int) := wrap_nat3 (Nat.le_trans hct (by decide))
  have HV7 := hid v7
  have hc : ∀ t : Beh w, t.wd.cell? ⟨rb, 2, none⟩ = some (.int .i64 (sub : Int)) ∧ t.wd.cell? ⟨rb, 3, none⟩ = some (.int .i64 (lo : Int)) ∧ t.wd.cell? ⟨rb, 4, none⟩ = some (.int .i64 (hi : Int)) ∧ t.wd.cell? ⟨rb, 5, none⟩ = some (.slice ak nk ck0) ∧ t.wd.cell? ⟨rb, 6, none⟩ = some (.slice av nv cv) := fun t => by
    obtain ⟨-, -, c2, c3, c4, c5, c6, -⟩ := (HP.out.below t.ok).cells
    exact ⟨c2, c3, c4, c5, c6⟩
  have HC := hid hc
  have k2 : ∀ t : Beh w, t.wd.cell? ⟨rb, 2, none⟩ = some (.int .i64 (sub : Int)) := fun t => (hc t).1
  have k3 : ∀ t : Beh w, t.wd.cell? ⟨rb, 3, none⟩ = some (.int .i64 (lo : Int)) := fun t => (hc t).2.1
  have k4 : ∀ t : Beh w, t.wd.cell? ⟨rb, 4, none⟩ = some (.int .i64 (hi : Int)) := fun t => (hc t).2.2.1
  have HSZ : ∀ t : Beh w, Hid (Calls Try.prog 53 #[.int .i64 (sub : Int)] t.wd fun e w' => e = .returned (.int .i64 (Z : Int)) ∧ ∃ t' : Beh w, w' = t'.wd) := fun t => by
    rw [HZ.out]; exact (sizeR10 sub t.wd HP.out.hs).mono fun e w' ⟨h1, h2⟩ => ⟨h1, t, h2⟩
  have HFIN : Hid (rmR sub lo hi A T = (ct : Int) - ((A.countP (inR2 lo hi) : Nat) : Int) - ((T.countP fun n => inR2 lo hi n && !decide (n ∈ A) : Nat) : Int)) := by
    unfold Hid rmR; rw [HCTT.out, HDD.out, HDF.out, HZ.out]
  have HBND := hid (And.intro hlk (And.intro hlv hct))
  clear hp hle hdf hdd hz1 hc hlk hlv hct
  go_enter Try.func46, Try.ntmps46
  go_upto_region 1 with fail
  refine wp_region_beh (by kernel_rfl) (by kernel_rfl) ?_
  repeat (go_big_quiet_step (first | (go_at_call 53; exact (HSZ _).out)))
  refine wpQuiet_nil ?_
  rintro _ ⟨t1, rfl⟩
  have HB1 : Hid (Below w.heap.size w t1.wd) := t1.ok
  clear k2 k3 k4 HSZ v1 v2 v3 i2
  go_upto_region 3 with fail
  clear v5 v6 v7
  go_loopw [3, 4] (fun n i wr => ∃ (j : Nat) (Nn : Int), i = .int .i64 (j : Int) ∧ n = .int .i64 Nn ∧ j ≤ nk ∧ Hid (Nn = (ct : Int) - (((A.take j).countP (inR2 lo hi) : Nat) : Int)) ∧ Hid (Below w.heap.size w wr)) (fun _ i _ => nk - (intOf i).toNat)
  case atStart => exact ⟨0, (ct : Int), rfl, by rw [HV7.out], Nat.zero_le _, hid (by simp), HB1⟩
  case round =>
    obtain ⟨j, Nn, rfl, rfl, hj, HNN, HBR⟩ := hrel
    have hNb : -8589934592 ≤ Nn ∧ Nn ≤ 8589934592 := by
      have h1 := HNN.out
      have h2 : (A.take j).countP (inR2 lo hi) ≤ 1024 := Nat.le_trans List.countP_le_length (by rw [List.length_take]; have := HBND.out.1; omega)
      have h3 := HBND.out.2.2
      omega
    obtain ⟨hN1, hN2⟩ := hNb
    obtain ⟨-, -, -, c5, c6⟩ := HC.out ⟨wr, HBR.out⟩
    simp only at c5 c6
    by_cases hjn : j < nk
    · obtain ⟨x1, HX⟩ : ∃ x1, Hid (A[j]? = some x1) := ⟨_, hid (List.getElem?_eq_getElem (by have := HNK.out; omega))⟩
      obtain ⟨g, e, hg, hcl⟩ := HP.out.ok.at HX.out
      subst e
      have HCT := hid (count_take (f := inR2 lo hi) HX.out)
      have hcr : ∀ t : Beh wr, Below w.heap.size w t.wd := fun t => HBR.out.trans (t.ok.mono HBR.out.size)
      have yk : ∀ t : Beh wr, t.wd.cell? ⟨g, j, none⟩ = some (.int .i64 (x1 : Int)) := fun t => hcl t.wd ((hcr t).block g hg)
      have yr : ∀ t : Beh wr, t.wd.cell? ⟨rb, 5, none⟩ = some (.slice (some ⟨g, 0, none⟩) nk ck0) := fun t => (HC.out ⟨t.wd, hcr t⟩).2.2.2.1
      have yl : ∀ t : Beh wr, t.wd.cell? ⟨rb, 3, none⟩ = some (.int .i64 (lo : Int)) := fun t => (HC.out ⟨t.wd, hcr t⟩).2.1
      have yh : ∀ t : Beh wr, t.wd.cell? ⟨rb, 4, none⟩ = some (.int .i64 (hi : Int)) := fun t => (HC.out ⟨t.wd, hcr t⟩).2.2.1
      have b1 : (j : Int) < (nk : Int) := int_lt hjn
      have b2 : (0 : Int) ≤ (j : Int) := by omega
      have b3 : decide ((j : Int) < 0) = false := by simp
      clear hcl hg hcr c6
      by_cases g1 : lo ≤ x1
      · by_cases g2 : x1 ≤ hi
        · skip
          have f1 : (lo : Int) ≤ (x1 : Int) := int_le g1
          have f1' : decide ((lo : Int) ≤ (x1 : Int)) = true := by simp only [decide_eq_true_eq]; exact f1
          have f1'' : decide (lo ≤ x1) = true := by simp only [decide_eq_true_eq]; exact g1
          have f2 : (x1 : Int) ≤ (hi : Int) := int_le g2
          have f2' : decide ((x1 : Int) ≤ (hi : Int)) = true := by simp only [decide_eq_true_eq]; exact f2
          have f2'' : decide (x1 ≤ hi) = true := by simp only [decide_eq_true_eq]; exact g2
          have HN2 : Hid (Nn - 1 = (ct : Int) - (((A.take (j + 1)).countP (inR2 lo hi) : Nat) : Int)) := by unfold Hid; rw [HCT.out]; have := HNN.out; simp [inR2, g1, g2]; omega
          go_upto_region 5 with fail
          refine wp_region_beh (by kernel_rfl) (by kernel_rfl) ?_
          repeat (go_big_quiet_step (fail))
          refine wpQuiet_nil ?_
          rintro _ ⟨t, rfl⟩
          have HB2 : Hid (Below w.heap.size w t.wd) := HBR.out.trans (t.ok.mono HBR.out.size)
          clear f1 f1' f1'' f2 f2' f2'' yk yr yl yh
          go_wp2_with fail
          go_roundw
          case rel => exact ⟨j + 1, Nn - 1, by go_num, by go_num, hjn, HN2, HB2⟩
          case measure => simp [intOf]; omega
        · skip
          have f1 : (lo : Int) ≤ (x1 : Int) := int_le g1
          have f1' : decide ((lo : Int) ≤ (x1 : Int)) = true := by simp only [decide_eq_true_eq]; exact f1
          have f1'' : decide (lo ≤ x1) = true := by simp only [decide_eq_true_eq]; exact g1
          have f2 : ¬ (x1 : Int) ≤ (hi : Int) := int_nle g2
          have f2' : decide ((x1 : Int) ≤ (hi : Int)) = false := by simp only [decide_eq_false_iff_not]; exact f2
          have f2'' : decide (x1 ≤ hi) = false := by simp only [decide_eq_false_iff_not]; exact g2
          have HN2 : Hid (Nn = (ct : Int) - (((A.take (j + 1)).countP (inR2 lo hi) : Nat) : Int)) := by unfold Hid; rw [HCT.out]; have := HNN.out; simp [inR2, g1, g2]; omega
          go_upto_region 5 with fail
          refine wp_region_beh (by kernel_rfl) (by kernel_rfl) ?_
          repeat (go_big_quiet_step (fail))
          refine wpQuiet_nil ?_
          rintro _ ⟨t, rfl⟩
          have HB2 : Hid (Below w.heap.size w t.wd) := HBR.out.trans (t.ok.mono HBR.out.size)
          clear f1 f1' f1'' f2 f2' f2'' yk yr yl yh
          go_wp2_with fail
          go_roundw
          case rel => exact ⟨j + 1, Nn, by go_num, rfl, hjn, HN2, HB2⟩
          case measure => simp [intOf]; omega
      · skip
        have f1 : ¬ (lo : Int) ≤ (x1 : Int) := int_nle g1
        have f1' : decide ((lo : Int) ≤ (x1 : Int)) = false := by simp only [decide_eq_false_iff_not]; exact f1
        have f1'' : decide (lo ≤ x1) = false := by simp only [decide_eq_false_iff_not]; exact g1
        have HN2 : Hid (Nn = (ct : Int) - (((A.take (j + 1)).countP (inR2 lo hi) : Nat) : Int)) := by unfold Hid; rw [HCT.out]; have := HNN.out; simp [inR2, g1]; omega
        go_upto_region 5 with fail
        refine wp_region_beh (by kernel_rfl) (by kernel_rfl) ?_
        repeat (go_big_quiet_step (fail))
        refine wpQuiet_nil ?_
        rintro _ ⟨t, rfl⟩
        have HB2 : Hid (Below w.heap.size w t.wd) := HBR.out.trans (t.ok.mono HBR.out.size)
        clear f1 f1' f1'' yk yr yl yh
        go_wp2_with fail
        go_roundw
        case rel => exact ⟨j + 1, Nn, by go_num, rfl, hjn, HN2, HB2⟩
        case measure => simp [intOf]; omega
    · have b1 : ¬ (j : Int) < (nk : Int) := int_nlt hjn
      obtain ⟨N1, HN1⟩ : ∃ N1, Hid (N1 = Nn) := ⟨_, rfl⟩
      have HNA : Hid (N1 = (ct : Int) - ((A.countP (inR2 lo hi) : Nat) : Int)) := by
        have h := HNN.out
        rw [List.take_of_length_le (by have := HNK.out; omega)] at h
        unfold Hid; rw [HN1.out]; exact h
      have hN1b : -1024 ≤ N1 ∧ N1 ≤ 4294967297 := by
        have h1 := HNA.out
        have h2 : A.countP (inR2 lo hi) ≤ 1024 := Nat.le_trans List.countP_le_length HP.out.la
        have h3 := HBND.out.2.2
        omega
      have HN1B := hid hN1b
      obtain ⟨FF, HFF⟩ : ∃ FF : Nat → Bool, Hid (FF = fun n => inR2 lo hi n && !decide (n ∈ A)) := ⟨_, rfl⟩
      rw [← HN1.out]
      clear hN1b hN1 hN2 HNN HN1
      go_upto_region 8 with fail
      clear c5 c6
      go_loopw [3, 5] (fun n i wr => ∃ (j : Nat) (Nn : Int), i = .int .i64 (j : Int) ∧ n = .int .i64 Nn ∧ j ≤ nv ∧ Hid (Nn = N1 - (((T.take j).countP FF : Nat) : Int)) ∧ Hid (Below w.heap.size w wr)) (fun _ i _ => nv - (intOf i).toNat)
      case atStart => exact ⟨0, N1, rfl, rfl, Nat.zero_le _, hid (by simp), HBR⟩
      case round =>
        clear HBR
        obtain ⟨j, Nn, rfl, rfl, hj, HNN, HBR⟩ := hrel
        have hNb : -8589934592 ≤ Nn ∧ Nn ≤ 8589934592 := by
          have h1 := HNN.out
          have h2 : (T.take j).countP FF ≤ 4294967296 := Nat.le_trans List.countP_le_length (by rw [List.length_take]; have := HBND.out.2.1; omega)
          have h3 := HN1B.out
          omega
        obtain ⟨hN1, hN2⟩ := hNb
        obtain ⟨-, -, -, c5, c6⟩ := HC.out ⟨wr, HBR.out⟩
        simp only at c5 c6
        by_cases hjn : j < nv
        · obtain ⟨x1, HX⟩ : ∃ x1, Hid (T[j]? = some x1) := ⟨_, hid (List.getElem?_eq_getElem (by have := HNV.out; omega))⟩
          obtain ⟨g, e, hg, hcl⟩ := HP.out.ot.at HX.out
          subst e
          have HCT := hid (count_take (f := FF) HX.out)
          have HFX : Hid (FF x1 = (inR2 lo hi x1 && !decide (x1 ∈ A))) := by unfold Hid; rw [HFF.out]
          obtain ⟨kb, HKB⟩ : ∃ kb, Hid (kb = decide (x1 ∈ A)) := ⟨_, rfl⟩
          have hcr : ∀ t : Beh wr, Below w.heap.size w t.wd := fun t => HBR.out.trans (t.ok.mono HBR.out.size)
          have y0 : ∀ t : Beh wr, t.wd.cell? ⟨g, j, none⟩ = some (.int .i64 (x1 : Int)) := fun t => hcl t.wd ((hcr t).block g hg)
          have y1 : ∀ t : Beh wr, t.wd.cell? ⟨rb, 6, none⟩ = some (.slice (some ⟨g, 0, none⟩) nv cv) := fun t => (HC.out ⟨t.wd, hcr t⟩).2.2.2.2
          have y2 : ∀ t : Beh wr, t.wd.cell? ⟨rb, 5, none⟩ = some (.slice ak nk ck0) := fun t => (HC.out ⟨t.wd, hcr t⟩).2.2.2.1
          have HIN : ∀ t : Beh wr, Hid (Calls Try.prog 41 #[.slice ak nk ck0, .int .i64 (x1 : Int)] t.wd fun e w' => e = .returned (.bool kb) ∧ ∃ t' : Beh wr, w' = t'.wd) := fun t => by
            rw [HKB.out]; exact (inR 0 _ A x1 t.wd (HP.out.below (hcr t)).ok (by have := HP.out.la; omega)).mono fun e w' ⟨h1, h2⟩ => ⟨h1, t, h2⟩
          have b1 : (j : Int) < (nv : Int) := int_lt hjn
          have b2 : (0 : Int) ≤ (j : Int) := by omega
          have b3 : decide ((j : Int) < 0) = false := by simp
          have HGC := hid (And.intro hg hcl)
          clear hcl hg hcr c5
          go_upto_region 10 with fail
          refine wp_region_beh (by kernel_rfl) (by kernel_rfl) ?_
          repeat (go_big_quiet_step (first | (go_at_call 41; exact (HIN _).out)))
          refine wpQuiet_nil ?_
          rintro _ ⟨t0, rfl⟩
          have hb0 : Below w.heap.size w t0.wd := HBR.out.trans (t0.ok.mono HBR.out.size)
          obtain ⟨wz, hwz⟩ : ∃ wz, wz = t0.wd := ⟨_, rfl⟩
          rw [← hwz] at hb0 ⊢
          replace HBR := hid hb0
          clear hwz t0 hb0 y0 y1 y2 HIN c6
          have hcr : ∀ t : Beh wz, Below w.heap.size w t.wd := fun t => HBR.out.trans (t.ok.mono HBR.out.size)
          have yk : ∀ t : Beh wz, t.wd.cell? ⟨g, j, none⟩ = some (.int .i64 (x1 : Int)) := fun t => HGC.out.2 t.wd ((hcr t).block g HGC.out.1)
          have yr : ∀ t : Beh wz, t.wd.cell? ⟨rb, 6, none⟩ = some (.slice (some ⟨g, 0, none⟩) nv cv) := fun t => (HC.out ⟨t.wd, hcr t⟩).2.2.2.2
          have yl : ∀ t : Beh wz, t.wd.cell? ⟨rb, 3, none⟩ = some (.int .i64 (lo : Int)) := fun t => (HC.out ⟨t.wd, hcr t⟩).2.1
          have yh : ∀ t : Beh wz, t.wd.cell? ⟨rb, 4, none⟩ = some (.int .i64 (hi : Int)) := fun t => (HC.out ⟨t.wd, hcr t⟩).2.2.1
          clear hcr
          by_cases g1 : lo ≤ x1
          · by_cases g2 : x1 ≤ hi
            · cases kb with
              | true =>
                have HKX : Hid (decide (x1 ∈ A) = true) := HKB.out.symm
                have f1 : (lo : Int) ≤ (x1 : Int) := int_le g1
                have f1' : decide ((lo : Int) ≤ (x1 : Int)) = true := by simp only [decide_eq_true_eq]; exact f1
                have f1'' : decide (lo ≤ x1) = true := by simp only [decide_eq_true_eq]; exact g1
                have f2 : (x1 : Int) ≤ (hi : Int) := int_le g2
                have f2' : decide ((x1 : Int) ≤ (hi : Int)) = true := by simp only [decide_eq_true_eq]; exact f2
                have f2'' : decide (x1 ≤ hi) = true := by simp only [decide_eq_true_eq]; exact g2
                have HN2 : Hid (Nn = N1 - (((T.take (j + 1)).countP FF : Nat) : Int)) := by unfold Hid; rw [HCT.out, HFX.out]; have := HNN.out; simp [inR2, g1, g2, HKX.out]; omega
                go_upto_region 11 with fail
                refine wp_region_beh (by kernel_rfl) (by kernel_rfl) ?_
                repeat (go_big_quiet_step (fail))
                refine wpQuiet_nil ?_
                rintro _ ⟨t, rfl⟩
                have HB2 : Hid (Below w.heap.size w t.wd) := HBR.out.trans (t.ok.mono HBR.out.size)
                clear f1 f1' f1'' f2 f2' f2'' yk yr yl yh
                go_wp2_with fail
                go_roundw
                case rel => exact ⟨j + 1, Nn, by go_num, rfl, hjn, HN2, HB2⟩
                case measure => simp [intOf]; omega
              | false =>
                have HKX : Hid (decide (x1 ∈ A) = false) := HKB.out.symm
                have f1 : (lo : Int) ≤ (x1 : Int) := int_le g1
                have f1' : decide ((lo : Int) ≤ (x1 : Int)) = true := by simp only [decide_eq_true_eq]; exact f1
                have f1'' : decide (lo ≤ x1) = true := by simp only [decide_eq_true_eq]; exact g1
                have f2 : (x1 : Int) ≤ (hi : Int) := int_le g2
                have f2' : decide ((x1 : Int) ≤ (hi : Int)) = true := by simp only [decide_eq_true_eq]; exact f2
                have f2'' : decide (x1 ≤ hi) = true := by simp only [decide_eq_true_eq]; exact g2
                have HN2 : Hid (Nn - 1 = N1 - (((T.take (j + 1)).countP FF : Nat) : Int)) := by unfold Hid; rw [HCT.out, HFX.out]; have := HNN.out; simp [inR2, g1, g2, HKX.out]; omega
                go_upto_region 11 with fail
                refine wp_region_beh (by kernel_rfl) (by kernel_rfl) ?_
                repeat (go_big_quiet_step (fail))
                refine wpQuiet_nil ?_
                rintro _ ⟨t, rfl⟩
                have HB2 : Hid (Below w.heap.size w t.wd) := HBR.out.trans (t.ok.mono HBR.out.size)
                clear f1 f1' f1'' f2 f2' f2'' yk yr yl yh
                go_wp2_with fail
                go_roundw
                case rel => exact ⟨j + 1, Nn - 1, by go_num, by go_num, hjn, HN2, HB2⟩
                case measure => simp [intOf]; omega
            · skip
              have f1 : (lo : Int) ≤ (x1 : Int) := int_le g1
              have f1' : decide ((lo : Int) ≤ (x1 : Int)) = true := by simp only [decide_eq_true_eq]; exact f1
              have f1'' : decide (lo ≤ x1) = true := by simp only [decide_eq_true_eq]; exact g1
              have f2 : ¬ (x1 : Int) ≤ (hi : Int) := int_nle g2
              have f2' : decide ((x1 : Int) ≤ (hi : Int)) = false := by simp only [decide_eq_false_iff_not]; exact f2
              have f2'' : decide (x1 ≤ hi) = false := by simp only [decide_eq_false_iff_not]; exact g2
              have HN2 : Hid (Nn = N1 - (((T.take (j + 1)).countP FF : Nat) : Int)) := by unfold Hid; rw [HCT.out, HFX.out]; have := HNN.out; simp [inR2, g1, g2]; omega
              go_upto_region 11 with fail
              refine wp_region_beh (by kernel_rfl) (by kernel_rfl) ?_
              repeat (go_big_quiet_step (fail))
              refine wpQuiet_nil ?_
              rintro _ ⟨t, rfl⟩
              have HB2 : Hid (Below w.heap.size w t.wd) := HBR.out.trans (t.ok.mono HBR.out.size)
              clear f1 f1' f1'' f2 f2' f2'' yk yr yl yh
              go_wp2_with fail
              go_roundw
              case rel => exact ⟨j + 1, Nn, by go_num, rfl, hjn, HN2, HB2⟩
              case measure => simp [intOf]; omega
          · skip
            have f1 : ¬ (lo : Int) ≤ (x1 : Int) := int_nle g1
            have f1' : decide ((lo : Int) ≤ (x1 : Int)) = false := by simp only [decide_eq_false_iff_not]; exact f1
            have f1'' : decide (lo ≤ x1) = false := by simp only [decide_eq_false_iff_not]; exact g1
            have HN2 : Hid (Nn = N1 - (((T.take (j + 1)).countP FF : Nat) : Int)) := by unfold Hid; rw [HCT.out, HFX.out]; have := HNN.out; simp [inR2, g1]; omega
            go_upto_region 11 with fail
            refine wp_region_beh (by kernel_rfl) (by kernel_rfl) ?_
            repeat (go_big_quiet_step (fail))
            refine wpQuiet_nil ?_
            rintro _ ⟨t, rfl⟩
            have HB2 : Hid (Below w.heap.size w t.wd) := HBR.out.trans (t.ok.mono HBR.out.size)
            clear f1 f1' f1'' yk yr yl yh
            go_wp2_with fail
            go_roundw
            case rel => exact ⟨j + 1, Nn, by go_num, rfl, hjn, HN2, HB2⟩
            case measure => simp [intOf]; omega
        · have b1 : ¬ (j : Int) < (nv : Int) := int_nlt hjn
          have HRS : Hid (Nn = rmR sub lo hi A T) := by
            have h := HNN.out
            rw [List.take_of_length_le (by have := HNV.out; omega), HFF.out, HNA.out] at h
            unfold Hid; rw [HFIN.out]; exact h
          go_wp2_with fail
          go_ret
          exact ⟨ret_int (by rw [HRS.out]), HBR.out⟩
end Go.Proofs.Ytahoileampdnkaa
