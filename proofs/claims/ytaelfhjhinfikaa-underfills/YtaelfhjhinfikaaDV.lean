/-
  UnderFills.
-/
import Derived.Test.YtaelfhjhinfikaaDSB
namespace Go.Proofs.Ytaelfhjhinfikaa
open Go.ChangeShapes Go.WideShapes Go.ChangeAt Go.RowKit Me
set_option maxHeartbeats 8000000
set_option maxRecDepth 100000

theorem Pn.base {w0 w1 w : World} {K : Nat → Prop} {pb m : Nat} {S : List Pk} (h : Pn w1 K w pb m S) (hb : Below w0.heap.size w0 w1) : Pn w0 K w pb m S := by
  obtain ⟨⟨F, h1, h2⟩, h3, h4⟩ := h
  exact ⟨⟨F, h1, fun k hk => ⟨Nat.le_trans hb.size (h2 k hk).1, (h2 k hk).2⟩⟩, hb.trans (h3.mono hb.size), h4⟩

theorem pu_full {m : Nat} {S L : List Pk} {p : Pk} (hp : p.bs.length ≤ 65535) (hS : m ≤ S.length) : puN m S (p :: L) = 0 ∧ puE m S (p :: L) = 4 ∧ puS m S (p :: L) = S := by
  have hj : joE m S p = 4 := by unfold joE; rw [if_neg (by omega), if_pos hS]
  exact ⟨puN_stop (by rw [hj]; decide), by rw [puE_stop (by rw [hj]; decide)]; exact hj, puS_stop (by rw [hj]; decide)⟩
theorem pu_one {m : Nat} {S : List Pk} {p : Pk} (hp : p.bs.length ≤ 65535) (hS : S.length + 1 = m) : puN m S [p, p] = 1 ∧ puE m S [p, p] = 4 ∧ puS m S [p, p] = S ++ [p] := by
  have hj : joE m S p = 0 := by unfold joE; rw [if_neg (by omega), if_neg (by omega)]
  obtain ⟨h1, h2, h3⟩ := pu_full (m := m) (S := S ++ [p]) (L := []) (p := p) hp (by rw [List.length_append]; simp; omega)
  rw [puN_step hj, puE_step hj, puS_step hj, h1, h2, h3]
  exact ⟨rfl, rfl, rfl⟩
theorem co_full {m : Nat} {S : List Pk} (hS : S.length = m) (hm : 1 ≤ m) : coE m S ((m : Int) - 1) = 4 ∧ coS m S ((m : Int) - 1) = S ∧ coE m S (m : Int) = 3 ∧ coS m S (m : Int) = S := by
  have h1 : inR ((m : Int) - 1) S.length = true := by unfold inR; simp; omega
  have h2 : inR (m : Int) S.length = false := by rw [inR_nat]; exact decide_eq_false (by omega)
  have e1 : coE m S ((m : Int) - 1) = 4 := by unfold coE; rw [h1]; simp only [if_true]; rw [if_pos (by omega)]
  have e2 : coE m S (m : Int) = 3 := by unfold coE; rw [h2]; rfl
  exact ⟨e1, by unfold coS; rw [e1]; rfl, e2, by unfold coS; rw [e2]; rfl⟩
theorem tk_last {m : Nat} {S : List Pk} (hS : S.length = m) (hm : 1 ≤ m) : tkE S ((m : Int) - 1) = 0 ∧ (tkS S ((m : Int) - 1)).length + 1 = m := by
  have h1 : inR ((m : Int) - 1) S.length = true := by unfold inR; simp; omega
  have e1 : tkE S ((m : Int) - 1) = 0 := by unfold tkE; rw [h1]; rfl
  have := tkS_len S ((m : Int) - 1)
  rw [e1] at this
  simp only [if_true] at this
  exact ⟨e1, by omega⟩

theorem fills_walk (l : Int) (ad : Nat) (u : Value) (L0 : List Nat) (w : World) (had : ad < 4294967296) (hu : SeesB (fun k => k < w.heap.size) w u L0) :
    Calls Try.prog 6 #[.int .i64 l, .agg #[.int .u32 (ad : Int), u]] w fun e w' => e = .returned (.bool true) ∧ Below w.heap.size w w' := by
  obtain ⟨ua, n0, uc, rfl, HN0, hn1, hn2⟩ := hu.shape
  unfold maxLen at hn2
  obtain ⟨w1, HW1⟩ : ∃ w1, Hid (w1 = w.alloc (.cells #[.int .u32 (ad : Int), .slice ua n0 uc] 41)) := ⟨_, rfl⟩
  have hb1 : Below w.heap.size w w1 := by rw [HW1.out]; exact (Below.refl _ _).alloc (Nat.le_refl _) _
  obtain ⟨b, HB⟩ : ∃ b, Hid (b = w.heap.size) := ⟨_, rfl⟩
  have r1 : w1.heap[b]? = some (.cells #[.int .u32 (ad : Int), .slice ua n0 uc] 41 (0, 0)) := by rw [HW1.out, HB.out]; exact heap_alloc_new w _
  have R1 := hid r1
  have HBW := hid hb1
  obtain ⟨K, HKE⟩ : ∃ K : Nat → Prop, Hid (K = fun k => k < w1.heap.size) := ⟨_, rfl⟩
  have HU1 : Hid (SeesB K w1 (.slice ua n0 uc) L0) := by unfold Hid; rw [HKE.out]; exact (hu.below hb1).weak fun k hk _ => hk
  have hKb : K b := by rw [HKE.out]; exact (Array.getElem?_eq_some_iff.1 r1).1
  have hubA : SeesB (fun k => k < w.heap.size) w1 (.slice ua n0 uc) L0 := hu.below hb1
  have HUA := hid hubA
  have HNW := hid (pn_new l w1)
  clear hu hb1 r1 hubA
  go_enter Try.func6, Try.ntmps6
  go_upto_region 1 with fail
  rw [← HW1.out, ← HB.out]
  go_wp2_with fail
  refine HNW.out.mono ?_
  rintro _ w2 (⟨hb, rfl, rfl⟩ | ⟨hb, m, pb, hl, rfl, hp2⟩)
  · have HFI := hid (first_any w2)
    have hcs : (¬ 1 ≤ l) ∨ (1 ≤ l ∧ ¬ l ≤ 4096) := by
      unfold newB at hb
      simp at hb
      omega
    clear HNW hb
    go_wp2_with fail
    refine HFI.out.mono ?_
    rintro _ w3 ⟨rfl, hb3⟩
    have HE := hid (HBW.out.trans (hb3.mono HBW.out.size))
    clear HFI hb3
    rcases hcs with h1 | ⟨h1, h2⟩
    · have q1 : decide (1 ≤ l) = false := by simpa using h1
      go_wp2_with fail
      go_ret
      exact ⟨rfl, HE.out⟩
    · have q1 : decide (1 ≤ l) = true := by simpa using h1
      have q2 : decide (l ≤ 4096) = false := by simpa using h2
      go_wp2_with fail
      go_ret
      exact ⟨rfl, HE.out⟩
  · have HFI := hid (first_any w2)
    subst hl
    have hm := newB_le hb
    have HP2 : Hid (Pn w K w2 pb m []) := by unfold Hid; rw [HKE.out]; exact hp2.base HBW.out
    have HBP := hid hp2.be
    have q1 : decide ((1 : Int) ≤ (m : Int)) = true := by simp; omega
    have q2 : decide ((m : Int) ≤ 4096) = true := by simp; omega
    clear HNW hb hp2
    go_wp2_with fail
    refine HFI.out.mono ?_
    rintro _ w3 ⟨rfl, hb3⟩
    have HP3 := hid (HP2.out.below hb3)
    have HB3 : Hid (Below w1.heap.size w1 w3) := HBP.out.trans (hb3.mono HBP.out.size)
    have HR3 : Hid (w3.heap[b]? = some (.cells #[.int .u32 (ad : Int), .slice ua n0 uc] 41 (0, 0))) := below_keeps HB3.out R1.out (Array.getElem?_eq_some_iff.1 R1.out).1
    have HUA3 := hid (HUA.out.below HB3.out)
    clear HFI hb3 HP2 HBP
    have c1 : w3.cell? ⟨b, 1, none⟩ = some (.slice ua n0 uc) := by rw [cell_of_row _ _ _ _ _ _ HR3.out]; rfl
    by_cases hl : 100 < n0
    · have hl' : (100 : Int) < (n0 : Int) := by omega
      have cf : w3.frozen? ⟨b, 1, none⟩ = false := frozen_of_row _ _ _ _ _ HR3.out
      have hcut : ∀ u : World, (Instr.sliceAt 39 (.slice ua n0 uc) none (some (.int .i64 100)) none).run Try.prog u = .ok (.slice ua 100 uc) u := fun u => by
        have hu : Try.prog.underlying 39 = some (.slice (Try.prog.elem 39)) := by kernel_rfl
        have hsz : (sizeOf (Try.prog.elem 39)).run Try.prog u = .ok 1 u := by kernel_rfl
        rw [run_sliceAt_slice (h := hu), run_slice_h (ht := hu) (h0 := by omega) (h2 := by omega), hsz]
        simp [Result.andThen, sliced]
        intro _
        cases ua <;> simp [Addr.add]
      obtain ⟨w4, HW4⟩ : ∃ w4, Hid (w4 = w3.setCell ⟨b, 1, none⟩ (.slice ua 100 uc)) := ⟨_, rfl⟩
      have hk4 : Keeps (fun k => k = b) w3 w4 := by rw [HW4.out]; exact Keeps.set (S := fun k => k = b) (Keeps.refl _ _) ⟨b, 1, none⟩ rfl _
      have HP4 : Hid (Pn w K w4 pb m []) := HP3.out.write hk4 fun k e => by rw [e]; exact ⟨hKb, by rw [HB.out]; exact Nat.le_refl _⟩
      have HR4 : Hid (w4.heap[b]? = some (.cells #[.int .u32 (ad : Int), .slice ua 100 uc] 41 (0, 0))) := by unfold Hid; rw [HW4.out]; exact set_cells (i := 1) HR3.out
      have HUK : Hid (SeesB K w4 (.slice ua 100 uc) (L0.take 100)) := by
        have h1 := HUA3.out.keeps hk4 fun k h2 h3 => by have := HB.out; omega
        obtain ⟨ao, cap, hv, h2, h3, h4⟩ := h1
        simp only [Value.slice.injEq] at hv
        obtain ⟨rfl, hlen, rfl⟩ := hv
        refine ⟨ua, uc, by rw [List.length_take]; congr 1; omega, ⟨by rw [List.length_take]; omega, h2.2⟩, h3, fun j hj => ?_⟩
        rw [List.length_take] at hj
        obtain ⟨g, off, ha, hg, hc, hbb⟩ := h4 j (by omega)
        exact ⟨g, off, ha, ⟨hg.1, by rw [HKE.out]; have := HBW.out.size; have := hg.2; omega⟩, by rw [List.getElem_take]; exact hc, by rw [List.getElem_take]; exact hbb⟩
      obtain ⟨L, HL⟩ : ∃ L, Hid (L = L0.take 100) := ⟨_, rfl⟩
      rw [← HL.out] at HUK
      have HLE : Hid (L.length ≤ 100) := by unfold Hid; rw [HL.out, List.length_take]; omega
      clear hk4
      go_upto_region 8 with fail
      rw [← HW4.out]
      clear c1 cf hcut hl hl'
      obtain ⟨n, hnn⟩ : ∃ n, n = 100 := ⟨_, rfl⟩
      rw [← hnn] at HUK HR4
      have HNN := hid hnn
      clear hnn
      go_upto_region 9 with fail
      go_loopw [7] (fun i wr => ∃ j : Nat, i = .int .i64 (j : Int) ∧ j ≤ m ∧ Hid (∃ S : List Pk, Pn w K wr pb m S ∧ S.length = j) ∧ Hid (wr.heap[b]? = some (.cells #[.int .u32 (ad : Int), .slice ua n uc] 41 (0, 0))) ∧ Hid (SeesB K wr (.slice ua n uc) L)) (fun i _ => m - (intOf i).toNat)
      case atStart => exact ⟨0, rfl, by omega, ⟨[], HP4.out, rfl⟩, HR4, HUK⟩
      case round =>
        obtain ⟨j, rfl, hj, HS, HR, HU⟩ := hrel
        obtain ⟨S, hp, hSl⟩ := HS.out
        have c0 : wr.cell? ⟨b, 0, none⟩ = some (.int .u32 (ad : Int)) := by rw [cell_of_row _ _ _ _ _ _ HR.out]; rfl
        have c1 : wr.cell? ⟨b, 1, none⟩ = some (.slice ua n uc) := by rw [cell_of_row _ _ _ _ _ _ HR.out]; rfl
        by_cases hlt : j < m
        · have hlt' : (j : Int) < (m : Int) := int_lt hlt
          obtain ⟨w5, HW5⟩ : ∃ w5, Hid (w5 = wr.alloc (.cells #[.int .u32 (ad : Int), .slice ua n uc] 41)) := ⟨_, rfl⟩
          have hb5 : Below wr.heap.size wr w5 := by rw [HW5.out]; exact (Below.refl _ _).alloc (Nat.le_refl _) _
          obtain ⟨b5, HB5⟩ : ∃ b, Hid (b = wr.heap.size) := ⟨_, rfl⟩
          have r5 : w5.heap[b5]? = some (.cells #[.int .u32 (ad : Int), .slice ua n uc] 41 (0, 0)) := by rw [HW5.out, HB5.out]; exact heap_alloc_new wr _
          obtain ⟨K5, HK5⟩ : ∃ K5 : Nat → Prop, Hid (K5 = fun k => K k ∨ k = b5) := ⟨_, rfl⟩
          have hp5 : Pn w K5 w5 pb m S := hp.more hb5 fun k e => by
            rw [HK5.out] at e
            rcases e with e | e
            · exact ⟨.inl e, Nat.lt_of_lt_of_le (hp.inn k e) hb5.size⟩
            · exact ⟨.inr (by rw [e, HB5.out]; exact Nat.le_refl _), by rw [e]; exact (Array.getElem?_eq_some_iff.1 r5).1⟩
          have HA := hid (hp5.put (sees_one r5 (by rw [HK5.out]; exact .inr rfl) ((HU.out.below hb5).weak fun k _ e => by rw [HK5.out]; exact .inl e) had))
          have hpa := pu_all (m := m) (S := S) (L := [⟨ad, L⟩]) (fun p hp => by simp at hp; rw [hp]; simp only; have := HLE.out; omega) (by simp; omega)
          rw [hpa.1, hpa.2.1, hpa.2.2] at HA
          have HNX : Hid (∀ w6, Pn w K5 w6 pb m (S ++ [⟨ad, L⟩]) → Keeps (fun k => ¬ K5 k) w5 w6 → (∃ S : List Pk, Pn w K w6 pb m S ∧ S.length = j + 1) ∧ w6.heap[b]? = some (.cells #[.int .u32 (ad : Int), .slice ua n uc] 41 (0, 0)) ∧ SeesB K w6 (.slice ua n uc) L) := fun w6 h1 h2 => by
            refine ⟨⟨_, h1.less fun k e => by rw [HK5.out]; exact .inl e, by rw [List.length_append, hSl]; rfl⟩, h2.mem (below_keeps hb5 HR.out (Array.getElem?_eq_some_iff.1 HR.out).1) fun e => e (by rw [HK5.out]; exact .inl hKb), (HU.out.below hb5).keeps h2 fun k h3 h4 => h4 (by rw [HK5.out]; exact .inl h3)⟩
          clear HS hp hSl hb5 r5 hp5 hpa
          go_wp2_with fail
          rw [← HW5.out, ← HB5.out]
          refine HA.out.mono ?_
          rintro _ w6 ⟨rfl, hp6, hk6⟩
          obtain ⟨x1, x2, x3⟩ := HNX.out w6 hp6 hk6
          have X1 := hid x1
          have X2 := hid x2
          have X3 := hid x3
          clear HA hp6 hk6 HNX x1 x2 x3 c0 c1 HR HU
          go_wp2_with fail
          go_roundw
          case rel => exact ⟨j + 1, by go_num, hlt, X1, X2, X3⟩
          case measure => simp [intOf]; omega
        · have hlt' : ¬ (j : Int) < (m : Int) := int_nlt hlt
          have hSm : S.length = m := by omega
          have hpL : (⟨ad, L⟩ : Pk).bs.length ≤ 65535 := by simp only; have := HLE.out; omega
          obtain ⟨w5, HW5⟩ : ∃ w5, Hid (w5 = wr.alloc (.cells #[.int .u32 (ad : Int), .slice ua n uc, .int .u32 (ad : Int), .slice ua n uc] 41)) := ⟨_, rfl⟩
          have hb5 : Below wr.heap.size wr w5 := by rw [HW5.out]; exact (Below.refl _ _).alloc (Nat.le_refl _) _
          obtain ⟨b5, HB5⟩ : ∃ b, Hid (b = wr.heap.size) := ⟨_, rfl⟩
          have r5 : w5.heap[b5]? = some (.cells #[.int .u32 (ad : Int), .slice ua n uc, .int .u32 (ad : Int), .slice ua n uc] 41 (0, 0)) := by rw [HW5.out, HB5.out]; exact heap_alloc_new wr _
          obtain ⟨K5, HK5⟩ : ∃ K5 : Nat → Prop, Hid (K5 = fun k => K k ∨ k = b5) := ⟨_, rfl⟩
          have hp5 : Pn w K5 w5 pb m S := hp.more hb5 fun k e => by
            rw [HK5.out] at e
            rcases e with e | e
            · exact ⟨.inl e, Nat.lt_of_lt_of_le (hp.inn k e) hb5.size⟩
            · exact ⟨.inr (by rw [e, HB5.out]; exact Nat.le_refl _), by rw [e]; exact (Array.getElem?_eq_some_iff.1 r5).1⟩
          have HA := hid (hp5.put (sees_two r5 (by rw [HK5.out]; exact .inr rfl) ((HU.out.below hb5).weak fun k _ e => by rw [HK5.out]; exact .inl e) had))
          have hpa := pu_full (m := m) (S := S) (L := [⟨ad, L⟩]) hpL (by omega)
          rw [hpa.1, hpa.2.1, hpa.2.2] at HA
          obtain ⟨o1, o2, o3, o4⟩ := co_full hSm hm.1
          have HCO := hid (And.intro o1 (And.intro o2 (And.intro o3 o4)))
          obtain ⟨t1, t2⟩ := tk_last hSm hm.1
          have HTK := hid (And.intro t1 t2)
          have HR5 : Hid (w5.heap[b]? = some (.cells #[.int .u32 (ad : Int), .slice ua n uc] 41 (0, 0))) := below_keeps hb5 HR.out (Array.getElem?_eq_some_iff.1 HR.out).1
          have HU5 := hid (HU.out.below hb5)
          have HPL := hid hpL
          have z0 : (m : Int) - 1 ≤ 9223372036854775807 := by omega
          have hm1 := hm.1
          have hm2 := hm.2
          clear HS hp hSl hb5 r5 hp5 hpa o1 o2 o3 o4 t1 t2 hSm hpL hlt
          go_wp2_with fail
          rw [← HW5.out, ← HB5.out]
          refine HA.out.mono ?_
          rintro _ w6 ⟨rfl, hp6, hk6⟩
          have HR6 : Hid (w6.heap[b]? = _) := hk6.mem HR5.out fun e => e (by rw [HK5.out]; exact .inl hKb)
          have HU6 := hid (HU5.out.keeps hk6 fun k h3 h4 => h4 (by rw [HK5.out]; exact .inl h3))
          have hp6' := hp6.less (K' := K) fun k e => by rw [HK5.out]; exact .inl e
          have HA1 := hid (hp6'.copy ((m : Int) - 1))
          rw [HCO.out.1, HCO.out.2.1] at HA1
          clear HA hp6 hk6 hp6' HR5 HU5 HR HU c0 c1
          go_wp2_with fail
          refine HA1.out.mono ?_
          rintro _ w7 ⟨rfl, hp7, hk7⟩
          have HR7 : Hid (w7.heap[b]? = _) := hk7.mem HR6.out fun e => e hKb
          have HU7 := hid (HU6.out.keeps hk7 fun k h3 h4 => h4 h3)
          have HA2 := hid (hp7.copy (m : Int))
          rw [HCO.out.2.2.1, HCO.out.2.2.2] at HA2
          clear HA1 hp7 hk7 HR6 HU6
          go_wp2_with fail
          refine HA2.out.mono ?_
          rintro _ w8 ⟨rfl, hp8, hk8⟩
          have HR8 : Hid (w8.heap[b]? = _) := hk8.mem HR7.out fun e => e hKb
          have HU8 := hid (HU7.out.keeps hk8 fun k h3 h4 => h4 h3)
          have HA3 := hid (hp8.lose ((m : Int) - 1))
          rw [HTK.out.1] at HA3
          clear HA2 hp8 hk8 HR7 HU7
          go_wp2_with fail
          refine HA3.out.mono ?_
          rintro _ w9 ⟨rfl, hp9, hk9⟩
          have HR9 : Hid (w9.heap[b]? = some (.cells #[.int .u32 (ad : Int), .slice ua n uc] 41 (0, 0))) := hk9.mem HR8.out fun e => e hKb
          have HU9 := hid (HU8.out.keeps hk9 fun k h3 h4 => h4 h3)
          have HP9 := hid hp9
          clear HA3 hp9 hk9 HR8 HU8
          have c0 : w9.cell? ⟨b, 0, none⟩ = some (.int .u32 (ad : Int)) := by rw [cell_of_row _ _ _ _ _ _ HR9.out]; rfl
          have c1 : w9.cell? ⟨b, 1, none⟩ = some (.slice ua n uc) := by rw [cell_of_row _ _ _ _ _ _ HR9.out]; rfl
          obtain ⟨w10, HW10⟩ : ∃ w10, Hid (w10 = w9.alloc (.cells #[.int .u32 (ad : Int), .slice ua n uc, .int .u32 (ad : Int), .slice ua n uc] 41)) := ⟨_, rfl⟩
          have hb10 : Below w9.heap.size w9 w10 := by rw [HW10.out]; exact (Below.refl _ _).alloc (Nat.le_refl _) _
          obtain ⟨b10, HB10⟩ : ∃ b, Hid (b = w9.heap.size) := ⟨_, rfl⟩
          have r10 : w10.heap[b10]? = some (.cells #[.int .u32 (ad : Int), .slice ua n uc, .int .u32 (ad : Int), .slice ua n uc] 41 (0, 0)) := by rw [HW10.out, HB10.out]; exact heap_alloc_new w9 _
          have hp10 : Pn w (fun k => K k ∨ k = b10) w10 pb m _ := HP9.out.more hb10 fun k e => by
            rcases e with e | e
            · exact ⟨.inl e, Nat.lt_of_lt_of_le (HP9.out.inn k e) hb10.size⟩
            · exact ⟨.inr (by rw [e, HB10.out]; exact Nat.le_refl _), by rw [e]; exact (Array.getElem?_eq_some_iff.1 r10).1⟩
          have HA4 := hid (hp10.put (sees_two r10 (.inr rfl) ((HU9.out.below hb10).weak fun k _ e => .inl e) had))
          have hpa := pu_one (m := m) (S := tkS S ((m : Int) - 1)) (p := ⟨ad, L⟩) HPL.out HTK.out.2
          rw [hpa.1, hpa.2.1, hpa.2.2] at HA4
          clear hb10 r10 hp10 hpa HU9 HR9
          go_wp2_with fail
          rw [← HW10.out, ← HB10.out]
          refine HA4.out.mono ?_
          rintro _ w11 ⟨rfl, hp11, hk11⟩
          have HA5 := hid hp11.list
          have HBE := hid hp11.be
          clear HA4 hp11 hk11 c0 c1
          go_wp2_with fail
          refine HA5.out.mono ?_
          rintro _ w12 ⟨ta, tn, tc, rfl, hb12, -, htn⟩
          have htm : tn = m := by rw [htn, List.length_append]; have := HTK.out.2; simp; omega
          subst htm
          have HE := hid (HBE.out.trans (hb12.mono HBE.out.size))
          clear HA5 hb12 htn
          go_wp2_with fail
          go_ret
          exact ⟨rfl, HE.out⟩
    · have hl' : ¬ (100 : Int) < (n0 : Int) := by omega
      have HP4 := HP3
      have HR4 := HR3
      obtain ⟨L, HL⟩ : ∃ L, Hid (L = L0) := ⟨_, rfl⟩
      have HUK : Hid (SeesB K w3 (.slice ua n0 uc) L) := by unfold Hid; rw [HL.out, HKE.out]; exact HUA3.out.weak fun k _ e => by have := HBW.out.size; omega
      have HLE : Hid (L.length ≤ 100) := by unfold Hid; rw [HL.out]; have := HN0.out; omega
      go_upto_region 8 with fail
      clear c1 hl hl'
      obtain ⟨w4, HW4⟩ : ∃ w4, w4 = w3 := ⟨_, rfl⟩
      subst HW4
      obtain ⟨n, HNN⟩ : ∃ n, n = n0 := ⟨_, rfl⟩
      subst HNN
      go_upto_region 9 with fail
      go_loopw [7] (fun i wr => ∃ j : Nat, i = .int .i64 (j : Int) ∧ j ≤ m ∧ Hid (∃ S : List Pk, Pn w K wr pb m S ∧ S.length = j) ∧ Hid (wr.heap[b]? = some (.cells #[.int .u32 (ad : Int), .slice ua n uc] 41 (0, 0))) ∧ Hid (SeesB K wr (.slice ua n uc) L)) (fun i _ => m - (intOf i).toNat)
      case atStart => exact ⟨0, rfl, by omega, ⟨[], HP4.out, rfl⟩, HR4, HUK⟩
      case round =>
        obtain ⟨j, rfl, hj, HS, HR, HU⟩ := hrel
        obtain ⟨S, hp, hSl⟩ := HS.out
        have c0 : wr.cell? ⟨b, 0, none⟩ = some (.int .u32 (ad : Int)) := by rw [cell_of_row _ _ _ _ _ _ HR.out]; rfl
        have c1 : wr.cell? ⟨b, 1, none⟩ = some (.slice ua n uc) := by rw [cell_of_row _ _ _ _ _ _ HR.out]; rfl
        by_cases hlt : j < m
        · have hlt' : (j : Int) < (m : Int) := int_lt hlt
          obtain ⟨w5, HW5⟩ : ∃ w5, Hid (w5 = wr.alloc (.cells #[.int .u32 (ad : Int), .slice ua n uc] 41)) := ⟨_, rfl⟩
          have hb5 : Below wr.heap.size wr w5 := by rw [HW5.out]; exact (Below.refl _ _).alloc (Nat.le_refl _) _
          obtain ⟨b5, HB5⟩ : ∃ b, Hid (b = wr.heap.size) := ⟨_, rfl⟩
          have r5 : w5.heap[b5]? = some (.cells #[.int .u32 (ad : Int), .slice ua n uc] 41 (0, 0)) := by rw [HW5.out, HB5.out]; exact heap_alloc_new wr _
          obtain ⟨K5, HK5⟩ : ∃ K5 : Nat → Prop, Hid (K5 = fun k => K k ∨ k = b5) := ⟨_, rfl⟩
          have hp5 : Pn w K5 w5 pb m S := hp.more hb5 fun k e => by
            rw [HK5.out] at e
            rcases e with e | e
            · exact ⟨.inl e, Nat.lt_of_lt_of_le (hp.inn k e) hb5.size⟩
            · exact ⟨.inr (by rw [e, HB5.out]; exact Nat.le_refl _), by rw [e]; exact (Array.getElem?_eq_some_iff.1 r5).1⟩
          have HA := hid (hp5.put (sees_one r5 (by rw [HK5.out]; exact .inr rfl) ((HU.out.below hb5).weak fun k _ e => by rw [HK5.out]; exact .inl e) had))
          have hpa := pu_all (m := m) (S := S) (L := [⟨ad, L⟩]) (fun p hp => by simp at hp; rw [hp]; simp only; have := HLE.out; omega) (by simp; omega)
          rw [hpa.1, hpa.2.1, hpa.2.2] at HA
          have HNX : Hid (∀ w6, Pn w K5 w6 pb m (S ++ [⟨ad, L⟩]) → Keeps (fun k => ¬ K5 k) w5 w6 → (∃ S : List Pk, Pn w K w6 pb m S ∧ S.length = j + 1) ∧ w6.heap[b]? = some (.cells #[.int .u32 (ad : Int), .slice ua n uc] 41 (0, 0)) ∧ SeesB K w6 (.slice ua n uc) L) := fun w6 h1 h2 => by
            refine ⟨⟨_, h1.less fun k e => by rw [HK5.out]; exact .inl e, by rw [List.length_append, hSl]; rfl⟩, h2.mem (below_keeps hb5 HR.out (Array.getElem?_eq_some_iff.1 HR.out).1) fun e => e (by rw [HK5.out]; exact .inl hKb), (HU.out.below hb5).keeps h2 fun k h3 h4 => h4 (by rw [HK5.out]; exact .inl h3)⟩
          clear HS hp hSl hb5 r5 hp5 hpa
          go_wp2_with fail
          rw [← HW5.out, ← HB5.out]
          refine HA.out.mono ?_
          rintro _ w6 ⟨rfl, hp6, hk6⟩
          obtain ⟨x1, x2, x3⟩ := HNX.out w6 hp6 hk6
          have X1 := hid x1
          have X2 := hid x2
          have X3 := hid x3
          clear HA hp6 hk6 HNX x1 x2 x3 c0 c1 HR HU
          go_wp2_with fail
          go_roundw
          case rel => exact ⟨j + 1, by go_num, hlt, X1, X2, X3⟩
          case measure => simp [intOf]; omega
        · have hlt' : ¬ (j : Int) < (m : Int) := int_nlt hlt
          have hSm : S.length = m := by omega
          have hpL : (⟨ad, L⟩ : Pk).bs.length ≤ 65535 := by simp only; have := HLE.out; omega
          obtain ⟨w5, HW5⟩ : ∃ w5, Hid (w5 = wr.alloc (.cells #[.int .u32 (ad : Int), .slice ua n uc, .int .u32 (ad : Int), .slice ua n uc] 41)) := ⟨_, rfl⟩
          have hb5 : Below wr.heap.size wr w5 := by rw [HW5.out]; exact (Below.refl _ _).alloc (Nat.le_refl _) _
          obtain ⟨b5, HB5⟩ : ∃ b, Hid (b = wr.heap.size) := ⟨_, rfl⟩
          have r5 : w5.heap[b5]? = some (.cells #[.int .u32 (ad : Int), .slice ua n uc, .int .u32 (ad : Int), .slice ua n uc] 41 (0, 0)) := by rw [HW5.out, HB5.out]; exact heap_alloc_new wr _
          obtain ⟨K5, HK5⟩ : ∃ K5 : Nat → Prop, Hid (K5 = fun k => K k ∨ k = b5) := ⟨_, rfl⟩
          have hp5 : Pn w K5 w5 pb m S := hp.more hb5 fun k e => by
            rw [HK5.out] at e
            rcases e with e | e
            · exact ⟨.inl e, Nat.lt_of_lt_of_le (hp.inn k e) hb5.size⟩
            · exact ⟨.inr (by rw [e, HB5.out]; exact Nat.le_refl _), by rw [e]; exact (Array.getElem?_eq_some_iff.1 r5).1⟩
          have HA := hid (hp5.put (sees_two r5 (by rw [HK5.out]; exact .inr rfl) ((HU.out.below hb5).weak fun k _ e => by rw [HK5.out]; exact .inl e) had))
          have hpa := pu_full (m := m) (S := S) (L := [⟨ad, L⟩]) hpL (by omega)
          rw [hpa.1, hpa.2.1, hpa.2.2] at HA
          obtain ⟨o1, o2, o3, o4⟩ := co_full hSm hm.1
          have HCO := hid (And.intro o1 (And.intro o2 (And.intro o3 o4)))
          obtain ⟨t1, t2⟩ := tk_last hSm hm.1
          have HTK := hid (And.intro t1 t2)
          have HR5 : Hid (w5.heap[b]? = some (.cells #[.int .u32 (ad : Int), .slice ua n uc] 41 (0, 0))) := below_keeps hb5 HR.out (Array.getElem?_eq_some_iff.1 HR.out).1
          have HU5 := hid (HU.out.below hb5)
          have HPL := hid hpL
          have z0 : (m : Int) - 1 ≤ 9223372036854775807 := by omega
          have hm1 := hm.1
          have hm2 := hm.2
          clear HS hp hSl hb5 r5 hp5 hpa o1 o2 o3 o4 t1 t2 hSm hpL hlt
          go_wp2_with fail
          rw [← HW5.out, ← HB5.out]
          refine HA.out.mono ?_
          rintro _ w6 ⟨rfl, hp6, hk6⟩
          have HR6 : Hid (w6.heap[b]? = _) := hk6.mem HR5.out fun e => e (by rw [HK5.out]; exact .inl hKb)
          have HU6 := hid (HU5.out.keeps hk6 fun k h3 h4 => h4 (by rw [HK5.out]; exact .inl h3))
          have hp6' := hp6.less (K' := K) fun k e => by rw [HK5.out]; exact .inl e
          have HA1 := hid (hp6'.copy ((m : Int) - 1))
          rw [HCO.out.1, HCO.out.2.1] at HA1
          clear HA hp6 hk6 hp6' HR5 HU5 HR HU c0 c1
          go_wp2_with fail
          refine HA1.out.mono ?_
          rintro _ w7 ⟨rfl, hp7, hk7⟩
          have HR7 : Hid (w7.heap[b]? = _) := hk7.mem HR6.out fun e => e hKb
          have HU7 := hid (HU6.out.keeps hk7 fun k h3 h4 => h4 h3)
          have HA2 := hid (hp7.copy (m : Int))
          rw [HCO.out.2.2.1, HCO.out.2.2.2] at HA2
          clear HA1 hp7 hk7 HR6 HU6
          go_wp2_with fail
          refine HA2.out.mono ?_
          rintro _ w8 ⟨rfl, hp8, hk8⟩
          have HR8 : Hid (w8.heap[b]? = _) := hk8.mem HR7.out fun e => e hKb
          have HU8 := hid (HU7.out.keeps hk8 fun k h3 h4 => h4 h3)
          have HA3 := hid (hp8.lose ((m : Int) - 1))
          rw [HTK.out.1] at HA3
          clear HA2 hp8 hk8 HR7 HU7
          go_wp2_with fail
          refine HA3.out.mono ?_
          rintro _ w9 ⟨rfl, hp9, hk9⟩
          have HR9 : Hid (w9.heap[b]? = some (.cells #[.int .u32 (ad : Int), .slice ua n uc] 41 (0, 0))) := hk9.mem HR8.out fun e => e hKb
          have HU9 := hid (HU8.out.keeps hk9 fun k h3 h4 => h4 h3)
          have HP9 := hid hp9
          clear HA3 hp9 hk9 HR8 HU8
          have c0 : w9.cell? ⟨b, 0, none⟩ = some (.int .u32 (ad : Int)) := by rw [cell_of_row _ _ _ _ _ _ HR9.out]; rfl
          have c1 : w9.cell? ⟨b, 1, none⟩ = some (.slice ua n uc) := by rw [cell_of_row _ _ _ _ _ _ HR9.out]; rfl
          obtain ⟨w10, HW10⟩ : ∃ w10, Hid (w10 = w9.alloc (.cells #[.int .u32 (ad : Int), .slice ua n uc, .int .u32 (ad : Int), .slice ua n uc] 41)) := ⟨_, rfl⟩
          have hb10 : Below w9.heap.size w9 w10 := by rw [HW10.out]; exact (Below.refl _ _).alloc (Nat.le_refl _) _
          obtain ⟨b10, HB10⟩ : ∃ b, Hid (b = w9.heap.size) := ⟨_, rfl⟩
          have r10 : w10.heap[b10]? = some (.cells #[.int .u32 (ad : Int), .slice ua n uc, .int .u32 (ad : Int), .slice ua n uc] 41 (0, 0)) := by rw [HW10.out, HB10.out]; exact heap_alloc_new w9 _
          have hp10 : Pn w (fun k => K k ∨ k = b10) w10 pb m _ := HP9.out.more hb10 fun k e => by
            rcases e with e | e
            · exact ⟨.inl e, Nat.lt_of_lt_of_le (HP9.out.inn k e) hb10.size⟩
            · exact ⟨.inr (by rw [e, HB10.out]; exact Nat.le_refl _), by rw [e]; exact (Array.getElem?_eq_some_iff.1 r10).1⟩
          have HA4 := hid (hp10.put (sees_two r10 (.inr rfl) ((HU9.out.below hb10).weak fun k _ e => .inl e) had))
          have hpa := pu_one (m := m) (S := tkS S ((m : Int) - 1)) (p := ⟨ad, L⟩) HPL.out HTK.out.2
          rw [hpa.1, hpa.2.1, hpa.2.2] at HA4
          clear hb10 r10 hp10 hpa HU9 HR9
          go_wp2_with fail
          rw [← HW10.out, ← HB10.out]
          refine HA4.out.mono ?_
          rintro _ w11 ⟨rfl, hp11, hk11⟩
          have HA5 := hid hp11.list
          have HBE := hid hp11.be
          clear HA4 hp11 hk11 c0 c1
          go_wp2_with fail
          refine HA5.out.mono ?_
          rintro _ w12 ⟨ta, tn, tc, rfl, hb12, -, htn⟩
          have htm : tn = m := by rw [htn, List.length_append]; have := HTK.out.2; simp; omega
          subst htm
          have HE := hid (HBE.out.trans (hb12.mono HBE.out.size))
          clear HA5 hb12 htn
          go_wp2_with fail
          go_ret
          exact ⟨rfl, HE.out⟩
end Go.Proofs.Ytaelfhjhinfikaa
