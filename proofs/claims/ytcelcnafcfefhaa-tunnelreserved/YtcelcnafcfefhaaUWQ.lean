/-
  TunnelReserved's walk.
-/
import Derived.Test.YtcelcnafcfefhaaUWAQ
namespace Go.Proofs.Ytcelcnafcfefhaa.N
open Go.ChangeShapes Go.WideShapes Go.ChangeAt Go.RowKit
set_option maxHeartbeats 8000000
set_option maxRecDepth 100000

theorem tunnelReserved_walk (o : Ou) (f : Tn.Fr) (vb : Value) (fl r0 r1 r2 r3 : Nat) (w : World) (ho : o.Ok) (hf : FrB f) (hvb : SeesB w vb f.B) (hfl : fl < 256) (hr : r0 < 256 ∧ r1 < 256 ∧ r2 < 256 ∧ r3 < 256) :
    Calls Try.prog 8 #[.agg (ouCells o), .agg (frCells f vb), .int .u8 (fl : Int), .agg #[.int .u8 (r0 : Int), .int .u8 (r1 : Int), .int .u8 (r2 : Int), .int .u8 (r3 : Int)]] w fun e w' => e = .returned (.bool true) ∧ Below w.heap.size w w' := by
  obtain ⟨ab, nb, capb, rfl, HNB, hnb1, hnb2⟩ := hvb.shape
  unfold maxLen at hnb2
  obtain ⟨w1, hw1⟩ : ∃ w1, w1 = w.alloc (.cells (ouCells o) 60) := ⟨_, rfl⟩
  obtain ⟨wz, hwz⟩ : ∃ wz, wz = w1.alloc (.cells (frCells f (.slice ab nb capb)) 41) := ⟨_, rfl⟩
  have hs1 : w1.heap.size = w.heap.size + 1 := by rw [hw1]; simp
  have hb1 : Below w.heap.size w w1 := by rw [hw1]; exact (Below.refl _ _).alloc (Nat.le_refl _) _
  have hbz : Below w.heap.size w wz := by rw [hwz]; exact hb1.alloc (by omega) _
  have hr1 : wz.heap[w.heap.size]? = some (.cells (ouCells o) 60 (0, 0)) := by rw [hwz, heap_alloc_old _ _ (by omega), hw1]; exact heap_alloc_new w _
  have hr2 : wz.heap[w.heap.size + 1]? = some (.cells (frCells f (.slice ab nb capb)) 41 (0, 0)) := by rw [hwz, ← hs1]; exact heap_alloc_new w1 _
  have hsz : wz.heap.size = w.heap.size + 2 := by rw [hwz]; simp [hs1]
  obtain ⟨w2, hw2⟩ : ∃ w2, w2 = wz.alloc (.cells #[.int .u8 (r0 : Int), .int .u8 (r1 : Int), .int .u8 (r2 : Int), .int .u8 (r3 : Int)] 67) := ⟨_, rfl⟩
  have hbz2 : Below wz.heap.size wz w2 := by rw [hw2]; exact (Below.refl _ _).alloc (Nat.le_refl _) _
  have hb2 : Below w.heap.size w w2 := hbz.trans (hbz2.mono hbz.size)
  have hq1 : w2.heap[w.heap.size]? = some (.cells (ouCells o) 60 (0, 0)) := (hbz2.block _ (by omega)).trans hr1
  have hq2 : w2.heap[w.heap.size + 1]? = some (.cells (frCells f (.slice ab nb capb)) 41 (0, 0)) := (hbz2.block _ (by omega)).trans hr2
  have hq3 : w2.heap[w.heap.size + 2]? = some (.cells #[.int .u8 (r0 : Int), .int .u8 (r1 : Int), .int .u8 (r2 : Int), .int .u8 (r3 : Int)] 67 (0, 0)) := by rw [hw2, ← hsz]; exact heap_alloc_new wz _
  obtain ⟨oc, hoc⟩ : ∃ oc, oc = ouCells o := ⟨_, rfl⟩
  obtain ⟨fc, hfc⟩ : ∃ fc, fc = frCells f (.slice ab nb capb) := ⟨_, rfl⟩
  have hos : oc.size = 6 := by rw [hoc]; rfl
  have hfs : fc.size = 14 := by rw [hfc]; exact frCells_size hf.ok _
  have HI6 : Hid ((Try.prog.info? 60).map (·.size) = some oc.size) := by unfold Hid; rw [hos]; kernel_rfl
  have HIF : Hid ((Try.prog.info? 41).map (·.size) = some fc.size) := by unfold Hid; rw [hfs]; kernel_rfl
  have HLD : Hid (∀ u, Below w2.heap.size w2 u → (Instr.loadAt 60 (.pointer (some ⟨w.heap.size, 0, none⟩))).run Try.prog u = .ok (.agg oc) u ∧ (Instr.loadAt 41 (.pointer (some ⟨w.heap.size + 1, 0, none⟩))).run Try.prog u = .ok (.agg fc) u) := fun u hu => by
    have k1 := (hu.block _ (Array.getElem?_eq_some_iff.1 hq1).1).trans hq1
    have k2 := (hu.block _ (Array.getElem?_eq_some_iff.1 hq2).1).trans hq2
    rw [← hoc] at k1
    rw [← hfc] at k2
    exact ⟨load_rowAt k1 Try.underlying60 rfl HI6.out, load_rowAt k2 Try.underlying41 rfl HIF.out⟩
  have HRC : Hid (∀ u, Below w2.heap.size w2 u → u.cell? ⟨w.heap.size + 2, 0, none⟩ = some (.int .u8 (r0 : Int)) ∧ u.cell? ⟨w.heap.size + 2, 1, none⟩ = some (.int .u8 (r1 : Int)) ∧ u.cell? ⟨w.heap.size + 2, 2, none⟩ = some (.int .u8 (r2 : Int)) ∧ u.cell? ⟨w.heap.size + 2, 3, none⟩ = some (.int .u8 (r3 : Int)) ∧ w.heap.size + 2 < u.heap.size) := fun u hu => by
    have k1 := (hu.block _ (Array.getElem?_eq_some_iff.1 hq3).1).trans hq3
    exact ⟨by rw [cell_of_row _ _ _ _ _ _ k1]; rfl, by rw [cell_of_row _ _ _ _ _ _ k1]; rfl, by rw [cell_of_row _ _ _ _ _ _ k1]; rfl, by rw [cell_of_row _ _ _ _ _ _ k1]; rfl, (Array.getElem?_eq_some_iff.1 k1).1⟩
  have HB2 := hid hb2
  have HBE := hid (begun_any w2)
  have HW2 : Hid (w2 = ((w.alloc (.cells oc 60)).alloc (.cells fc 41)).alloc (.cells #[.int .u8 (r0 : Int), .int .u8 (r1 : Int), .int .u8 (r2 : Int), .int .u8 (r3 : Int)] 67)) := by unfold Hid; rw [hw2, hwz, hw1, hoc, hfc]
  have HVB := hid hvb
  have HSE : Hid (0 ≤ o.vni ∧ o.vni ≤ 16777215 → Tn.bfE f = 0 → ∀ u, Below w2.heap.size w2 u → Calls Try.prog 18 #[.agg oc, .agg fc] u fun e w' => ∃ g n, e = .returned (.tuple #[.slice (some ⟨g, 0, none⟩) n n, .int .i64 0]) ∧ Hid (n = (sxL o f (vxH o.vni.toNat)).length) ∧ Hid (Rs w2 g o f (vxH o.vni.toNat) w')) := fun h1 h2 u hu => by
    rw [hoc, hfc]
    refine (sealN_any o f _ u ho hf ((hvb.below hb2).below hu) h1 h2).mono ?_
    rintro e w' ⟨g, n, rfl, hB, hn, hg, hb⟩
    rw [(seL_sx h1 h2 hf.ok).2] at hB hn
    exact ⟨g, n, rfl, hn, hB, hu.trans (hb.mono hu.size), Nat.le_trans hu.size hg⟩
  have HSB : Hid (∀ u, Below w2.heap.size w2 u → Calls Try.prog 19 #[.agg oc, .agg fc] u fun e w' => e = .returned (.bool (seB o f)) ∧ Below u.heap.size u w') := fun u hu => by
    rw [hoc, hfc]
    exact sealable_any o f _ u hf.ok ((hvb.below hb2).below hu)
  have HSF : Hid (∀ (u : World) (v : Value), Below w2.heap.size w2 u → SeesB u v f.B → Calls Try.prog 21 #[.agg fc, .agg (frCells f v)] u fun e w' => e = .returned (.bool true) ∧ Below u.heap.size u w') := fun u v hu hv => by
    rw [hfc]
    exact sameFrame_self f _ _ u hf.ok ((hvb.below hb2).below hu) hv
  have HOC := hid hoc
  have HOS := hid hos
  have HO := hid ho
  have HF := hid hf
  have HBY := hid hvb.bytes
  have HR := hid hr
  rw [← hoc, ← hfc]
  clear hw1 hwz hw2 hs1 hsz hb1 hbz hbz2 hb2 hr1 hr2 hq1 hq2 hq3 hoc hfc hvb ho hf hos hfs hr
  go_enter Try.func8, Try.ntmps8
  go_upto_region 1 with fail
  rw [← HW2.out]
  go_wp2_with fail
  refine HBE.out.mono ?_
  rintro _ w3 ⟨rfl, hb3⟩
  obtain ⟨l1, l2⟩ := HLD.out w3 hb3
  have HL1 := hid l1
  have HL2 := hid l2
  have HX := hid (HSB.out w3 hb3)
  have HB3 := hid hb3
  clear hb3 l1 l2 HBE
  go_wp2_with (first
    | (refine wpList_ld 60 ⟨w.heap.size, 0, none⟩ (.tmp 4) rfl rfl HL1.out rfl ?_)
    | (refine wpList_ld 41 ⟨w.heap.size + 1, 0, none⟩ (.tmp 5) rfl rfl HL2.out rfl ?_)
    | fail)
  refine HX.out.mono ?_
  rintro _ w4 ⟨rfl, hb4⟩
  have HB4 : Hid (Below w2.heap.size w2 w4) := HB3.out.trans (hb4.mono HB3.out.size)
  clear hb4 HX HB3 HL1 HL2
  cases hq : seB o f with
  | false =>
    as_aux_lemma =>
      have HE : Hid (Below w.heap.size w w4) := HB2.out.trans (HB4.out.mono HB2.out.size)
      clear hq
      go_wp2_with fail
      go_ret
      exact ⟨rfl, HE.out⟩
  | true =>
    have hq2 : 0 ≤ o.vni ∧ o.vni ≤ 16777215 ∧ Tn.bfE f = 0 := of_decide_eq_true hq
    have hlb : f.B.length ≤ 65485 := by
      have h := hq2.2.2
      unfold Tn.bfE at h
      by_cases h1 : 65485 < f.B.length
      · rw [if_pos h1] at h; cases h
      · omega
    obtain ⟨l1, l2⟩ := HLD.out w4 HB4.out
    have HL1 := hid l1
    have HL2 := hid l2
    have HX := hid (HSE.out ⟨hq2.1, hq2.2.1⟩ hq2.2.2 w4 HB4.out)
    obtain ⟨X0, hX⟩ : ∃ X, X = vxH o.vni.toNat := ⟨_, rfl⟩
    have hX8 : X0.length = 8 := by rw [hX]; rfl
    have hXv : (((byt X0 4 * 256 + byt X0 5) * 256 + byt X0 6 : Nat) : Int) = o.vni := by rw [hX]; exact vx_num ⟨hq2.1, hq2.2.1⟩
    have hXb : ∀ x ∈ X0, x < 256 := by rw [hX]; exact vxH_bytes _
    rw [← hX] at HX
    obtain ⟨y1, hy1⟩ : ∃ y1, y1 = fl ||| 8 := ⟨_, rfl⟩
    obtain ⟨y2, hy2⟩ : ∃ y2, y2 = fl - 8 * (fl / 8 % 2) := ⟨_, rfl⟩
    obtain ⟨g1, g2, g3⟩ := or8 ⟨fl, hfl⟩
    obtain ⟨k1, k2, k3⟩ := not8 ⟨fl, hfl⟩
    simp only at g1 g2 g3 k1 k2 k3
    rw [← hy1] at g1 g2 g3
    rw [← hy2] at k1 k2 k3
    have G1 := hid g1
    have K1 := hid k1
    clear g1 k1
    obtain ⟨X1, hX1⟩ : ∃ X1, X1 = ((((X0.set 0 y1).set 1 r0).set 2 r1).set 3 r2).set 7 r3 := ⟨_, rfl⟩
    have l0 : (X0.set 0 y1).length = 8 := by rw [List.length_set, hX8]
    have l10 : ((X0.set 0 y1).set 1 r0).length = 8 := by rw [List.length_set, l0]
    have l20 : (((X0.set 0 y1).set 1 r0).set 2 r1).length = 8 := by rw [List.length_set, l10]
    have l30 : ((((X0.set 0 y1).set 1 r0).set 2 r1).set 3 r2).length = 8 := by rw [List.length_set, l20]
    have hX18 : X1.length = 8 := by rw [hX1, List.length_set, l30]
    have hb1 : byt X1 0 = y1 ∧ byt X1 4 = byt X0 4 ∧ byt X1 5 = byt X0 5 ∧ byt X1 6 = byt X0 6 := by
      rw [hX1]
      refine ⟨?_, ?_, ?_, ?_⟩
      · rw [byt_ne _ (by decide), byt_ne _ (by decide), byt_ne _ (by decide), byt_ne _ (by decide), byt_eq _ (by rw [hX8]; decide)]
      · rw [byt_ne _ (by decide), byt_ne _ (by decide), byt_ne _ (by decide), byt_ne _ (by decide), byt_ne _ (by decide)]
      · rw [byt_ne _ (by decide), byt_ne _ (by decide), byt_ne _ (by decide), byt_ne _ (by decide), byt_ne _ (by decide)]
      · rw [byt_ne _ (by decide), byt_ne _ (by decide), byt_ne _ (by decide), byt_ne _ (by decide), byt_ne _ (by decide)]
    have hX1b : ∀ x ∈ X1, x < 256 := by
      rw [hX1]
      intro x hx
      have hrr := HR.out
      rcases List.mem_or_eq_of_mem_set hx with hx | rfl
      · rcases List.mem_or_eq_of_mem_set hx with hx | rfl
        · rcases List.mem_or_eq_of_mem_set hx with hx | rfl
          · rcases List.mem_or_eq_of_mem_set hx with hx | rfl
            · rcases List.mem_or_eq_of_mem_set hx with hx | rfl
              · exact hXb x hx
              · exact g3
            · exact hrr.1
          · exact hrr.2.1
        · exact hrr.2.2.1
      · exact hrr.2.2.2
    have HOP : Hid (opE (sxL o f X1) = 0 ∧ opO (sxL o f X1) = o ∧ opF (sxL o f X1) = f) := by
      have h := sx_open (o := o) (f := f) (X := X1) [] HO.out hX18 HF.out.ok hq2.2.2 (by rw [hb1.1, g2]; decide) (by rw [hb1.2.1, hb1.2.2.1, hb1.2.2.2]; exact hXv)
      rwa [List.append_nil] at h
    have hX28 : (X1.set 0 y2).length = 8 := by rw [List.length_set, hX18]
    have HO2 : Hid (opE (sxL o f (X1.set 0 y2)) = 77) := by
      have h := sx_flag (o := o) (f := f) (X := X1.set 0 y2) [] HO.out hX28 HF.out.ok hlb (by
        rw [byt_eq _ (by rw [hX18]; decide)]
        exact k2)
      rwa [List.append_nil] at h
    have hX2b : ∀ x ∈ X1.set 0 y2, x < 256 := fun x hx => by
      rcases List.mem_or_eq_of_mem_set hx with hx | rfl
      · exact hX1b x hx
      · exact k3
    have HL5 : Hid ((sxL o f X0).length = 50 + nb) := by unfold Hid; rw [sxL_len HO.out hX8 HF.out.ok hlb, HNB.out]
    have hnb : nb ≤ 65485 := by rw [HNB.out]; exact hlb
    have HSN : Hid (∀ (X : List Nat) (u : World) (g n : Nat), X.length = 8 → (∀ x ∈ X, x < 256) → n = 50 + nb → Rs w2 g o f X u → SeesB u (.slice (some ⟨g, 0, none⟩) n n) (sxL o f X)) := fun X u g n h8 hb hn hR =>
      sees_blk hR.blk (by rw [sxL_len HO.out h8 HF.out.ok hlb, hn, HNB.out]) (by omega) (sx_bytes HO.out HF.out HBY.out hb)
    have HLB := hid hlb
    have HX8 := hid hX8
    have HL0 := hid l0
    have HL10 := hid l10
    have HL20 := hid l20
    have HL30 := hid l30
    have HX18 := hid hX18
    have HX1 := hid hX1
    have HX1B := hid hX1b
    have HX2B := hid hX2b
    have HX28 := hid hX28
    clear hq hq2 hX l1 l2 hXv hXb hy1 hy2 g2 k2 hX1 l0 l10 l20 l30 hX18 hb1 hX1b hX28 hX2b hX8 hlb
    go_wp2_with (first
      | (refine wpList_ld 60 ⟨w.heap.size, 0, none⟩ (.tmp 4) rfl rfl HL1.out rfl ?_)
      | (refine wpList_ld 41 ⟨w.heap.size + 1, 0, none⟩ (.tmp 5) rfl rfl HL2.out rfl ?_)
      | fail)
    refine HX.out.mono ?_
    rintro _ w5 ⟨g, n, rfl, HN, HRS⟩
    have hn5 : n = 50 + nb := by rw [HN.out]; exact HL5.out
    have HN5 := hid hn5
    have i50 : ¬ (n : Int) < 50 := by omega
    have i28 : (28 : Int) < (n : Int) := by omega
    have i29 : (29 : Int) < (n : Int) := by omega
    have i30 : (30 : Int) < (n : Int) := by omega
    have i31 : (31 : Int) < (n : Int) := by omega
    have i35 : (35 : Int) < (n : Int) := by omega
    have hnm : n ≤ 9223372036854775807 := by omega
    clear hn5 HX HL1 HL2 HN HL5
    have hcell := HRS.out.cell HO.out HX8.out HF.out.ok HLB.out
    obtain ⟨c28, z28, hgl⟩ := hcell 0 (by decide)
    clear hcell
    go_upto_region 9 with fail
    have g1 := G1.out
    have HRw5 := HRS
    go_upto_region 10 with fail
    have hw6 : Rs w2 g o f (X0.set 0 y1) (w5.setCell ⟨g, 28, none⟩ (.int .u8 (y1 : Int))) := HRw5.out.put HX8.out HF.out.ok HLB.out 0 y1 (by decide)
    generalize w5.setCell ⟨g, 28, none⟩ (.int .u8 (y1 : Int)) = w6 at hw6 ⊢
    have HRw6 := hid hw6
    clear hw6 c28 z28 hgl
    clear g1
    obtain ⟨c29, z29, hgl⟩ := HRw6.out.cell HO.out HL0.out HF.out.ok HLB.out 1 (by decide)
    obtain ⟨q0, q1, q2, q3, hql⟩ := HRC.out w6 HRw6.out.be
    go_upto_region 11 with fail
    have hw7 : Rs w2 g o f ((X0.set 0 y1).set 1 r0) (w6.setCell ⟨g, 29, none⟩ (.int .u8 (r0 : Int))) := HRw6.out.put HL0.out HF.out.ok HLB.out 1 r0 (by decide)
    generalize w6.setCell ⟨g, 29, none⟩ (.int .u8 (r0 : Int)) = w7 at hw7 ⊢
    have HRw7 := hid hw7
    clear hw7 c29 z29 hgl
    clear q0 q1 q2 q3 hql
    obtain ⟨c30, z30, hgl⟩ := HRw7.out.cell HO.out HL10.out HF.out.ok HLB.out 2 (by decide)
    obtain ⟨q0, q1, q2, q3, hql⟩ := HRC.out w7 HRw7.out.be
    go_upto_region 12 with fail
    have hw8 : Rs w2 g o f (((X0.set 0 y1).set 1 r0).set 2 r1) (w7.setCell ⟨g, 30, none⟩ (.int .u8 (r1 : Int))) := HRw7.out.put HL10.out HF.out.ok HLB.out 2 r1 (by decide)
    generalize w7.setCell ⟨g, 30, none⟩ (.int .u8 (r1 : Int)) = w8 at hw8 ⊢
    have HRw8 := hid hw8
    clear hw8 c30 z30 hgl
    clear q0 q1 q2 q3 hql
    obtain ⟨c31, z31, hgl⟩ := HRw8.out.cell HO.out HL20.out HF.out.ok HLB.out 3 (by decide)
    obtain ⟨q0, q1, q2, q3, hql⟩ := HRC.out w8 HRw8.out.be
    go_upto_region 13 with fail
    have hw9 : Rs w2 g o f ((((X0.set 0 y1).set 1 r0).set 2 r1).set 3 r2) (w8.setCell ⟨g, 31, none⟩ (.int .u8 (r2 : Int))) := HRw8.out.put HL20.out HF.out.ok HLB.out 3 r2 (by decide)
    generalize w8.setCell ⟨g, 31, none⟩ (.int .u8 (r2 : Int)) = w9 at hw9 ⊢
    have HRw9 := hid hw9
    clear hw9 c31 z31 hgl
    clear q0 q1 q2 q3 hql
    obtain ⟨c35, z35, hgl⟩ := HRw9.out.cell HO.out HL30.out HF.out.ok HLB.out 7 (by decide)
    obtain ⟨q0, q1, q2, q3, hql⟩ := HRC.out w9 HRw9.out.be
    go_upto_region 14 with fail
    have hw10 : Rs w2 g o f (((((X0.set 0 y1).set 1 r0).set 2 r1).set 3 r2).set 7 r3) (w9.setCell ⟨g, 35, none⟩ (.int .u8 (r3 : Int))) := HRw9.out.put HL30.out HF.out.ok HLB.out 7 r3 (by decide)
    generalize w9.setCell ⟨g, 35, none⟩ (.int .u8 (r3 : Int)) = w10 at hw10 ⊢
    rw [← HX1.out] at hw10
    have HRw10 := hid hw10
    clear hw10 c35 z35 hgl
    clear q0 q1 q2 q3 hql
    have hs10 := HSN.out X1 w10 g n HX18.out HX1B.out HN5.out HRw10.out
    have hX10 := open_any _ (sxL o f X1) w10 hs10 (by rw [sxL_len HO.out HX18.out HF.out.ok HLB.out]; have := HLB.out; omega)
    rw [HOP.out.1, HOP.out.2.1, HOP.out.2.2, ← HOC.out] at hX10
    have HX10 := hid hX10
    clear hX10 hs10
    go_wp2_with fail
    refine HX10.out.mono ?_
    rintro _ w11 ⟨a8, n8, c8, rfl, hs8, hg8, hb8⟩
    obtain ⟨fd, hfdd⟩ : ∃ fd, fd = frCells f (.slice a8 n8 c8) := ⟨_, rfl⟩
    have HFD := hid hfdd
    have hfd : fd.size = 14 := by rw [hfdd]; exact frCells_size HF.out.ok _
    obtain ⟨wb, wc, w12, HWB, HWC, HW9, HT1, HT2, hr9, hr9', hb89⟩ := lay2 w11 oc fd HOS.out hfd w11.heap.size rfl
    have HIFD : Hid ((Try.prog.info? 41).map (·.size) = some fd.size) := by unfold Hid; rw [hfd]; kernel_rfl
    have HOO : Hid (oc.all (·.oneCell') = true) := by unfold Hid; rw [HOC.out]; exact ou_one _
    have HOF : Hid (fd.all (·.oneCell') = true) := by unfold Hid; rw [hfdd]; exact frc_one
    have HTL1 : Hid (((w11.alloc (.cells #[.int .u32 0, .int .u32 0, .int .u16 0, .int .u16 0, .int .u8 0, .int .i64 0] 60)).alloc (.cells #[.int .u8 0, .int .u8 0, .int .u8 0, .int .u8 0, .int .u8 0, .int .u8 0, .int .u8 0, .int .u8 0, .int .u8 0, .int .u8 0, .int .u8 0, .int .u8 0, .int .u16 0, .slice none 0 0] 41)).there w11.heap.size 0 oc.size) := by have h := HT1.out; rw [HWB.out] at h; exact h
    have HTL2 : Hid ((((w11.alloc (.cells #[.int .u32 0, .int .u32 0, .int .u16 0, .int .u16 0, .int .u8 0, .int .i64 0] 60)).alloc (.cells #[.int .u8 0, .int .u8 0, .int .u8 0, .int .u8 0, .int .u8 0, .int .u8 0, .int .u8 0, .int .u8 0, .int .u8 0, .int .u8 0, .int .u8 0, .int .u8 0, .int .u16 0, .slice none 0 0] 41)).setCells w11.heap.size 0 oc.toList).there (w11.heap.size + 1) 0 fd.size) := by have h := HT2.out; rw [HWC.out, HWB.out] at h; exact h
    have HWL : Hid (w12 = (((w11.alloc (.cells #[.int .u32 0, .int .u32 0, .int .u16 0, .int .u16 0, .int .u8 0, .int .i64 0] 60)).alloc (.cells #[.int .u8 0, .int .u8 0, .int .u8 0, .int .u8 0, .int .u8 0, .int .u8 0, .int .u8 0, .int .u8 0, .int .u8 0, .int .u8 0, .int .u8 0, .int .u8 0, .int .u16 0, .slice none 0 0] 41)).setCells w11.heap.size 0 oc.toList).setCells (w11.heap.size + 1) 0 fd.toList) := by have h := HW9.out; rw [HWC.out, HWB.out] at h; exact h
    have hb1012 : Below w10.heap.size w10 w12 := hb8.trans (hb89.mono hb8.size)
    have HR12 := hid (HRw10.out.below hb1012)
    obtain ⟨l1, l2⟩ := HLD.out w12 HR12.out.be
    have HL1 := hid l1
    have HL2 := hid l2
    have HL11 : Hid ((Instr.loadAt 60 (.pointer (some ⟨w11.heap.size, 0, none⟩))).run Try.prog w12 = .ok (.agg oc) w12) := load_rowAt hr9 Try.underlying60 rfl HI6.out
    have HL12 : Hid ((Instr.loadAt 41 (.pointer (some ⟨w11.heap.size + 1, 0, none⟩))).run Try.prog w12 = .ok (.agg fd) w12) := load_rowAt hr9' Try.underlying41 rfl HIFD.out
    have hqe : ∀ u : World, (Op.equalIn 10000 60 (.agg oc) (.agg oc)).run Try.prog u = .ok true u := fun u => by rw [HOC.out]; exact eqO _ u
    have HSF9 : Hid (Calls Try.prog 21 #[.agg fc, .agg fd] w12 fun e w' => e = .returned (.bool true) ∧ Below w12.heap.size w12 w') := by
      unfold Hid
      rw [HFD.out]
      exact HSF.out w12 _ HR12.out.be (hs8.below hb89)
    obtain ⟨p, hp⟩ : ∃ p, p = w11.heap.size := ⟨_, rfl⟩
    have HP := hid hp
    rw [← hp] at HTL1 HTL2 HWL HL11 HL12
    rw [← hfdd]
    clear hp hr9 hr9' hb89 hb1012 l1 l2 HWB HWC HW9 HT1 HT2 HX10 hs8 hb8 hg8 hfdd hfd HFD
    go_upto_region 15 with (first
      | (rw [← HP.out]; refine wpList_store_mid rfl 60 (.tmp 12) (.tmp 57) rfl p 0 oc rfl rfl HTL1.out HI6.out HOO.out ?_)
      | (refine wpList_store_mid rfl 41 (.tmp 13) (.tmp 58) rfl (p + 1) 0 fd rfl rfl HTL2.out HIFD.out HOF.out ?_)
      | fail)
    rw [← HWL.out]
    clear HTL1 HTL2 HWL
    go_wp2_with (first
      | (refine wpList_ld 60 ⟨p, 0, none⟩ (.tmp 12) rfl rfl HL11.out rfl ?_)
      | (refine wpList_ld 60 ⟨w.heap.size, 0, none⟩ (.tmp 4) rfl rfl HL1.out rfl ?_)
      | (refine wpList_ld 41 ⟨w.heap.size + 1, 0, none⟩ (.tmp 5) rfl rfl HL2.out rfl ?_)
      | (refine wpList_ld 41 ⟨p + 1, 0, none⟩ (.tmp 13) rfl rfl HL12.out rfl ?_)
      | fail)
    refine HSF9.out.mono ?_
    rintro _ w13 ⟨rfl, hb13⟩
    have HRw13 := hid (HR12.out.below hb13)
    clear hb13 HSF9 HL1 HL2 HL11 HL12 hqe
    obtain ⟨c28, z28, hgl⟩ := HRw13.out.cell HO.out HX18.out HF.out.ok HLB.out 0 (by decide)
    have k1 := K1.out
    go_upto_region 18 with fail
    have hw14 : Rs w2 g o f (X1.set 0 y2) (w13.setCell ⟨g, 28, none⟩ (.int .u8 (y2 : Int))) := HRw13.out.put HX18.out HF.out.ok HLB.out 0 y2 (by decide)
    generalize w13.setCell ⟨g, 28, none⟩ (.int .u8 (y2 : Int)) = w14 at hw14 ⊢
    have HRw14 := hid hw14
    have hX14 := open_any _ (sxL o f (X1.set 0 y2)) w14 (HSN.out _ w14 g n HX28.out HX2B.out HN5.out hw14) (by rw [sxL_len HO.out HX28.out HF.out.ok HLB.out]; have := HLB.out; omega)
    rw [HO2.out] at hX14
    have HX14 := hid hX14
    clear hw14 hX14 c28 z28 hgl k1
    generalize opO (sxL o f (X1.set 0 y2)) = oo at HX14
    generalize opF (sxL o f (X1.set 0 y2)) = of at HX14
    go_wp2_with fail
    refine HX14.out.mono ?_
    rintro _ w15 ⟨a9, n9, c9, rfl, -, -, hb15⟩
    have HE : Hid (Below w.heap.size w w15) := HB2.out.trans ((HRw14.out.below hb15).be.mono HB2.out.size)
    clear hb15 HX14
    generalize ouCells oo = oz
    generalize frCells of (.slice a9 n9 c9) = fz
    go_wp2_with fail
    go_ret
    exact ⟨rfl, HE.out⟩
end Go.Proofs.Ytcelcnafcfefhaa.N
