/-
  The law's below, without.
-/
import Derived.Test.YtahoileampdnkaaMM
import Derived.Test.YtahoileampdnkaaMJ
namespace Go.Proofs.Ytahoileampdnkaa
open Go.ChangeShapes Go.WideShapes Go.ChangeAt Go.RowKit Ru N Tri
set_option maxHeartbeats 1000000
set_option maxRecDepth 100000

/-- In a row of addresses. -/
def inr (mn n : Nat) (p : Nat × Int) : Bool := decide (mn ≤ p.1) && decide (p.1 < n)

/-- What below says. -/
def bel (A B : List (Nat × Int)) (mn n : Nat) : Nat := A.countP (inr mn n) + B.countP fun p => inr mn n p && !decide (p ∈ A)

theorem count_take {α : Type} {L : List α} {f : α → Bool} {j : Nat} {p : α} (h : L[j]? = some p) : (L.take (j + 1)).countP f = (L.take j).countP f + (if f p then 1 else 0) := by
  obtain ⟨hl, he⟩ := List.getElem?_eq_some_iff.1 h
  rw [List.take_succ_eq_append_getElem hl, he, List.countP_append]
  simp [List.countP_cons]

theorem int_le {a b : Nat} (h : a ≤ b) : (a : Int) ≤ (b : Int) := by omega
theorem int_nle {a b : Nat} (h : ¬ a ≤ b) : ¬ (a : Int) ≤ (b : Int) := by omega

theorem below_any (v1 v2 : Value) (A B : List (Nat × Int)) (mn n : Nat) (w : World) (h1 : Sees w v1 A) (h2 : Sees w v2 B) (hA : ∀ p ∈ A, p.1 < 4294967296) (hB : ∀ p ∈ B, p.1 < 4294967296) (hl1 : A.length * 16 ≤ 140737488351232) (hl2 : B.length * 16 ≤ 140737488351232) :
    Calls Try.prog 19 #[v1, v2, .int .i64 (mn : Int), .int .i64 (n : Int)] w fun e w' => e = .returned (.int .i64 ((bel A B mn n : Nat) : Int)) ∧ Below w.heap.size w w' := by
  obtain ⟨a1, n1, c1, rfl, HN1, hn1, hm1⟩ := h1.shape
  obtain ⟨a2, n2, c2, rfl, HN2, hn2, hm2⟩ := h2.shape
  have HV1 := hid h1
  have HV2 := hid h2
  have HA := hid hA
  have HB := hid hB
  replace hm1 : n1 * 16 ≤ 140737488351232 := by rw [HN1.out]; exact hl1
  replace hm2 : n2 * 16 ≤ 140737488351232 := by rw [HN2.out]; exact hl2
  clear h1 h2 hA hB hl1 hl2
  go_enter Try.func19, Try.ntmps19
  go_upto_region 3 with fail
  go_loopw [9, 10] (fun k i wr => ∃ (j kk : Nat), i = .int .i64 (j : Int) ∧ k = .int .i64 (kk : Int) ∧ j ≤ n1 ∧ kk ≤ j ∧ Hid (kk = (A.take j).countP (inr mn n)) ∧ Hid (Below w.heap.size w wr)) (fun _ i _ => n1 - (intOf i).toNat)
  case atStart => exact ⟨0, 0, rfl, rfl, Nat.zero_le _, Nat.zero_le _, rfl, Below.refl _ _⟩
  case round =>
    obtain ⟨j, kk, rfl, rfl, hj, hkj, HK, HBE⟩ := hrel
    by_cases hjn : j < n1
    · obtain ⟨g, off, p, e1, hg, d0, d1, HP⟩ := (HV1.out.below HBE.out).at j hjn
      subst e1
      have HP1 : Hid (p.1 < 4294967296) := HA.out p (List.mem_of_getElem? HP.out)
      have HCT := hid (count_take (f := inr mn n) HP.out)
      have b1 : (j : Int) < (n1 : Int) := int_lt hjn
      have wp : wrap64 (p.1 : Int) = (p.1 : Int) := wrap_nat' (Nat.le_of_lt HP1.out)
      have hkb : kk + 1 ≤ j + 1 := by omega
      clear hg d1
      by_cases g1 : mn ≤ p.1
      · have f1 : (mn : Int) ≤ (p.1 : Int) := int_le g1
        by_cases g2 : p.1 < n
        · have f2 : (p.1 : Int) < (n : Int) := int_lt g2
          have HK2 : Hid (kk + 1 = (A.take (j + 1)).countP (inr mn n)) := by
            unfold Hid; rw [HCT.out, ← HK.out]; simp [inr, g1, g2]
          go_wp2_with fail
          go_roundw
          case rel => exact ⟨j + 1, kk + 1, by go_num, by go_num, by omega, by omega, HK2, HBE⟩
          case measure => simp [intOf]; omega
        · have f2 : ¬ (p.1 : Int) < (n : Int) := int_nlt g2
          have HK2 : Hid (kk = (A.take (j + 1)).countP (inr mn n)) := by
            unfold Hid; rw [HCT.out, ← HK.out]; simp [inr, g2]
          go_wp2_with fail
          go_roundw
          case rel => exact ⟨j + 1, kk, by go_num, rfl, by omega, by omega, HK2, HBE⟩
          case measure => simp [intOf]; omega
      · have f1 : ¬ (mn : Int) ≤ (p.1 : Int) := int_nle g1
        have HK2 : Hid (kk = (A.take (j + 1)).countP (inr mn n)) := by
          unfold Hid; rw [HCT.out, ← HK.out]; simp [inr, g1]
        go_wp2_with fail
        go_roundw
        case rel => exact ⟨j + 1, kk, by go_num, rfl, by omega, by omega, HK2, HBE⟩
        case measure => simp [intOf]; omega
    · have b1 : ¬ (j : Int) < (n1 : Int) := int_nlt hjn
      have HK1 : Hid (kk = A.countP (inr mn n)) := by
        have h := HK.out
        rw [List.take_of_length_le (by have := HN1.out; omega)] at h
        exact h
      have hkk : kk ≤ n1 := by omega
      obtain ⟨F, HF⟩ : ∃ F : Nat × Int → Bool, Hid (F = fun p => inr mn n p && !decide (p ∈ A)) := ⟨_, rfl⟩
      go_upto_region 8 with fail
      go_loopw [9, 11] (fun k i wr => ∃ (i2 mm : Nat), i = .int .i64 (i2 : Int) ∧ k = .int .i64 ((kk + mm : Nat) : Int) ∧ i2 ≤ n2 ∧ mm ≤ i2 ∧ Hid (mm = (B.take i2).countP F) ∧ Hid (Below w.heap.size w wr)) (fun _ i _ => n2 - (intOf i).toNat)
      case atStart => exact ⟨0, 0, rfl, rfl, Nat.zero_le _, Nat.zero_le _, rfl, HBE⟩
      case round =>
        clear HBE
        obtain ⟨i2, mm, rfl, rfl, hi2, hmm, HM, HBE⟩ := hrel
        by_cases hin : i2 < n2
        · obtain ⟨g, off, p, e1, hg, d0, d1, HP⟩ := (HV2.out.below HBE.out).at i2 hin
          subst e1
          have HP1 : Hid (p.1 < 4294967296) := HB.out p (List.mem_of_getElem? HP.out)
          have HCT := hid (count_take (f := F) HP.out)
          have HFP : Hid (F p = (inr mn n p && !decide (p ∈ A))) := by unfold Hid; rw [HF.out]
          have b2 : (i2 : Int) < (n2 : Int) := int_lt hin
          have wp : wrap64 (p.1 : Int) = (p.1 : Int) := wrap_nat' (Nat.le_of_lt HP1.out)
          have HHS := hid (has_any _ A p.1 p.2 wr (HV1.out.below HBE.out))
          obtain ⟨bb, HBB⟩ : ∃ bb, Hid (bb = decide ((p.1, p.2) ∈ A)) := ⟨_, rfl⟩
          rw [← HBB.out] at HHS
          clear hg
          by_cases g1 : mn ≤ p.1
          · have f1 : (mn : Int) ≤ (p.1 : Int) := int_le g1
            by_cases g2 : p.1 < n
            · have f2 : (p.1 : Int) < (n : Int) := int_lt g2
              go_wp2_with fail
              refine HHS.out.mono ?_
              rintro _ w5 ⟨rfl, hb5⟩
              have HB5 : Hid (Below w.heap.size w w5) := HBE.out.trans (hb5.mono HBE.out.size)
              clear hb5 d0 d1 HHS
              cases bb with
              | true =>
                have HM2 : Hid (mm = (B.take (i2 + 1)).countP F) := by
                  unfold Hid; rw [HCT.out, ← HM.out, HFP.out, show decide (p ∈ A) = true from HBB.out.symm]; simp
                go_wp2_with fail
                go_roundw
                case rel => exact ⟨i2 + 1, mm, by go_num, rfl, by omega, by omega, HM2, HB5⟩
                case measure => simp [intOf]; omega
              | false =>
                have HM2 : Hid (mm + 1 = (B.take (i2 + 1)).countP F) := by
                  unfold Hid; rw [HCT.out, ← HM.out, HFP.out, show decide (p ∈ A) = false from HBB.out.symm]; simp [inr, g1, g2]
                go_wp2_with fail
                go_roundw
                case rel => exact ⟨i2 + 1, mm + 1, by go_num, by go_num, by omega, by omega, HM2, HB5⟩
                case measure => simp [intOf]; omega
            · have f2 : ¬ (p.1 : Int) < (n : Int) := int_nlt g2
              have HM2 : Hid (mm = (B.take (i2 + 1)).countP F) := by
                unfold Hid; rw [HCT.out, ← HM.out, HFP.out]; simp [inr, g2]
              go_wp2_with fail
              go_roundw
              case rel => exact ⟨i2 + 1, mm, by go_num, rfl, by omega, by omega, HM2, HBE⟩
              case measure => simp [intOf]; omega
          · have f1 : ¬ (mn : Int) ≤ (p.1 : Int) := int_nle g1
            have HM2 : Hid (mm = (B.take (i2 + 1)).countP F) := by
              unfold Hid; rw [HCT.out, ← HM.out, HFP.out]; simp [inr, g1]
            go_wp2_with fail
            go_roundw
            case rel => exact ⟨i2 + 1, mm, by go_num, rfl, by omega, by omega, HM2, HBE⟩
            case measure => simp [intOf]; omega
        · have b2 : ¬ (i2 : Int) < (n2 : Int) := int_nlt hin
          have HR : Hid (kk + mm = bel A B mn n) := by
            have h := HM.out
            rw [List.take_of_length_le (by have := HN2.out; omega), HF.out] at h
            unfold Hid bel
            rw [← h, ← HK1.out]
          go_wp2_with fail
          go_ret
          exact ⟨ret_int (by have := HR.out; omega), HBE.out⟩

theorem OwnP.low {w : World} {B B' : Nat} {v : Value} {L : List (Nat × Int)} (h : OwnP w B v L) (hb : B' ≤ B) : OwnP w B' v L := by
  refine ⟨h.1, ?_⟩
  rcases h.2 with hn | ⟨g, cap, cur, rfl, hbb, hg, rest⟩
  · exact .inl hn
  · exact .inr ⟨g, cap, cur, rfl, Nat.le_trans hb hbb, hg, rest⟩

theorem without_any (v : Value) (L : List (Nat × Int)) (a : Nat) (b : Int) (w : World) (hv : Sees w v L) (hL : L.length * 16 ≤ 140737488351232) :
    Calls Try.prog 20 #[v, .agg #[.int .u32 (a : Int), .int .i64 b]] w fun e w' => ∃ v', e = .returned v' ∧ OwnP w' w.heap.size v' (L.filter fun p => !decide (p = (a, b))) ∧ Below w.heap.size w w' := by
  obtain ⟨ao, n, cap, rfl, HN, hn1, hn2⟩ := hv.shape
  unfold maxLen at hn2
  obtain ⟨wa, HWA⟩ : ∃ wa, Hid (wa = w.alloc (.cells #[.int .u32 (a : Int), .int .i64 b] 25)) := ⟨_, rfl⟩
  have hb0 : Below w.heap.size w wa := by rw [HWA.out]; exact (Below.refl _ _).alloc (Nat.le_refl _) _
  have r1 : wa.heap[w.heap.size]? = some (.cells #[.int .u32 (a : Int), .int .i64 b] 25) := by rw [HWA.out]; exact heap_alloc_new w _
  obtain ⟨q0, q1⟩ := Beh.two r1
  have HB0 := hid hb0
  have HV := hid (hv.below hb0)
  have HLL := hid hL
  obtain ⟨F, HF⟩ : ∃ F : Nat × Int → Bool, Hid (F = fun p => !decide (p = (a, b))) := ⟨_, rfl⟩
  rw [← HF.out]
  clear hv hb0 r1 hL
  go_enter Try.func20, Try.ntmps20
  go_upto_region 3 with fail
  rw [← HWA.out]
  go_loopw [5, 6] (fun l i wr => ∃ j : Nat, i = .int .i64 (j : Int) ∧ j ≤ n ∧ Hid (OwnP wr wa.heap.size l ((L.take j).filter F)) ∧ Hid (Below wa.heap.size wa wr)) (fun _ i _ => n - (intOf i).toNat)
  case atStart => exact ⟨0, rfl, Nat.zero_le _, hid ⟨rfl, .inl ⟨rfl, rfl⟩⟩, Below.refl _ _⟩
  case round =>
    obtain ⟨j, rfl, hj, HO, HB⟩ := hrel
    by_cases hjn : j < n
    · have hbd : Below wa.heap.size wa wr.drew := ⟨HB.out.os, HB.out.tape, HB.out.output, HB.out.size, HB.out.block⟩
      have hdd : Below wr.heap.size wr wr.drew := ⟨rfl, rfl, rfl, Nat.le_refl _, fun _ _ => rfl⟩
      obtain ⟨g, off, p, e1, hg, c0, c1, HP⟩ := (HV.out.below hbd).at j hjn
      subst e1
      have d0 := q0 ⟨wr.drew, hbd⟩
      have d1 := q1 ⟨wr.drew, hbd⟩
      simp only at d0 d1
      have hjl : j < L.length := (List.getElem?_eq_some_iff.1 HP.out).1
      have HTK : Hid ((L.take (j + 1)).filter F = (L.take j).filter F ++ (if F p then [p] else [])) := by
        unfold Hid; rw [List.take_succ_eq_append_getElem hjl, (List.getElem?_eq_some_iff.1 HP.out).2, List.filter_append]
        congr 1
        cases h : F p <;> simp [List.filter, h]
      have HFL : Hid (((L.take j).filter F).length ≤ j) := Nat.le_trans (List.length_filter_le _ _) (by rw [List.length_take]; omega)
      have HOD := hid (HO.out.below hdd)
      have b1 : (j : Int) < (n : Int) := by omega
      have b2 : (0 : Int) ≤ (j : Int) := by omega
      have b3 : decide ((j : Int) < 0) = false := by simp
      have HBD := hid hbd
      obtain ⟨p1, p2⟩ := p
      simp only at c0 c1
      by_cases he : p1 = a ∧ p2 = b
      · obtain ⟨rfl, rfl⟩ := he
        have HO2 : Hid (OwnP wr.drew wa.heap.size u5 ((L.take (j + 1)).filter F)) := by
          unfold Hid; rw [HTK.out, HF.out]; simp; rw [← HF.out]; exact HOD.out
        clear hg hbd hdd hjl
        go_upto_region 5 with fail
        go_still (by kernel_rfl)
        clear c0 c1 d0 d1
        go_wp2_with fail
        go_roundw
        case rel => exact ⟨j + 1, by go_num, by omega, HO2, HBD⟩
        case measure => simp [intOf]; omega
      · have hFp : F (p1, p2) = true := by rw [HF.out]; simp only [Bool.not_eq_true', decide_eq_false_iff_not, Prod.mk.injEq]; exact he
        obtain ⟨w5, HW5⟩ : ∃ w5, Hid (w5 = (wr.alloc (.cells #[.int .u32 (p1 : Int), .int .i64 p2] 25)).drew) := ⟨_, rfl⟩
        obtain ⟨hb5, hS5⟩ : Below wr.heap.size wr w5 ∧ Sees w5 (.slice (some ⟨wr.heap.size, 0, none⟩) 1 1) [(p1, p2)] := by
          obtain ⟨k1, k2⟩ := sees_one (w := wr) (a := p1) (b := p2) rfl
          have k3 : Below (wr.alloc (.cells #[.int .u32 (p1 : Int), .int .i64 p2] 25)).heap.size (wr.alloc (.cells #[.int .u32 (p1 : Int), .int .i64 p2] 25)) w5 := by rw [HW5.out]; exact ⟨rfl, rfl, rfl, Nat.le_refl _, fun _ _ => rfl⟩
          exact ⟨k1.trans (k3.mono k1.size), k2.below k3⟩
        obtain ⟨l', w6, hap, how, hgr⟩ := append_pref w5 26 wa.heap.size u5 _ _ _ (HO.out.below hb5) hS5 (Nat.le_trans HB.out.size hb5.size) (by have := HFL.out; have := HLL.out; have := HN.out; simp only [List.length_cons, List.length_nil]; omega)
        have HAP := hid hap
        have HO2 : Hid (OwnP w6 wa.heap.size l' ((L.take (j + 1)).filter F)) := by
          unfold Hid; rw [HTK.out, if_pos hFp]; exact how
        have HB6 : Hid (Below wa.heap.size wa w6) := by
          have h4 := HB.out.trans (hb5.mono HB.out.size)
          refine ⟨hgr.os.trans h4.os, hgr.tape.trans h4.tape, hgr.output.trans h4.output, Nat.le_trans h4.size hgr.size, fun k hk => (hgr.block k (Nat.lt_of_lt_of_le hk h4.size) (fun e => ?_)).trans (h4.block k hk)⟩
          have h5 := (World.ownsRow.lt HO.out k e.symm).1
          omega
        clear hg hbd hdd hjl hb5 hS5 hap how hgr hFp
        by_cases h1 : p1 = a
        · subst h1
          have hx1 : ¬ p2 = b := fun h => he ⟨rfl, h⟩
          have hx2 : (p2 == b) = false := by simp [hx1]
          have hx3 : decide (p2 = b) = false := by simp [hx1]
          go_upto_region 5 with fail
          go_still (by kernel_rfl)
          clear d0 d1
          go_upto_region 4 with (at_builtin; rw [← HW5.out]; refine wpList_append_run _ rfl _ _ 26 26 rfl _ _ rfl rfl HAP.out ?_)
          go_wp2_with fail
          go_roundw
          case rel => exact ⟨j + 1, by go_num, by omega, HO2, HB6⟩
          case measure => simp [intOf]; omega
        · have hx1 : ¬ (p1 : Int) = (a : Int) := by omega
          have hx2 : ((p1 : Int) == (a : Int)) = false := by simp; omega
          have hx3 : decide ((p1 : Int) = (a : Int)) = false := by simp; omega
          go_upto_region 5 with fail
          go_still (by kernel_rfl)
          clear d0 d1
          go_upto_region 4 with (at_builtin; rw [← HW5.out]; refine wpList_append_run _ rfl _ _ 26 26 rfl _ _ rfl rfl HAP.out ?_)
          go_wp2_with fail
          go_roundw
          case rel => exact ⟨j + 1, by go_num, by omega, HO2, HB6⟩
          case measure => simp [intOf]; omega
    · have HF2 : Hid (OwnP wr w.heap.size u5 (L.filter F)) := by
        have h := HO.out.low HB0.out.size
        rw [List.take_of_length_le (by have := HN.out; omega)] at h
        exact h
      have b1 : ¬ (j : Int) < (n : Int) := int_nlt hjn
      go_wp2_with fail
      refine bodyPost_ret (v := u5) (by simp [results, Try.results20, go_sem]) rfl ?_
      exact ⟨_, rfl, HF2.out, HB0.out.trans (HB.out.mono HB0.out.size)⟩
end Go.Proofs.Ytahoileampdnkaa
