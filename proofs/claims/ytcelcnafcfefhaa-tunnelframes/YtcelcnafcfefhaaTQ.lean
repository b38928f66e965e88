/-
  weftlaw7.frames.
-/
import Derived.Test.YtcelcnafcfefhaaTP
import Derived.Test.YtcelcnafcfefhaaTO
import Derived.Test.YtcelcnafcfefhaaTOB
import Derived.Test.YtcelcnafcfefhaaTJ
namespace Go.Proofs.Ytcelcnafcfefhaa.N
open Go.ChangeShapes Go.WideShapes Go.ChangeAt Go.RowKit
set_option maxHeartbeats 8000000
set_option maxRecDepth 100000

theorem pfF_ok {L : List Nat} (hb : ∀ x ∈ L, x < 256) : (Tn.pfF L).Ok := by
  unfold Tn.pfF
  split
  · rename_i h
    have h14 : 14 ≤ L.length := by
      unfold Tn.pfE at h
      split at h
      · cases h
      · split at h
        · cases h
        · omega
    refine ⟨by rw [List.length_take]; omega, by rw [List.length_take, List.length_drop]; omega, ?_⟩
    show Tn.num2 L 12 < 65536
    rw [num2_byt]
    have h1 := byt_lt hb 12
    have h2 := byt_lt hb (12 + 1)
    omega
  · exact ⟨rfl, rfl, by decide⟩

theorem frCells_size {f : Tn.Fr} (h : f.Ok) (v : Value) : (frCells f v).size = 14 := by
  unfold frCells
  simp only [List.size_toArray]
  exact frc_len h.dst h.src _ _

theorem frames_any (vr : Value) (L : List Nat) (f : Tn.Fr) (vb : Value) (w : World) (hvr : SeesB w vr L) (hf : FrB f) (hvb : SeesB w vb f.B) (hlr : L.length ≤ 140737488351232) (hlb : f.B.length ≤ 140737488351232) :
    Calls Try.prog 13 #[vr, .agg (frCells f vb)] w fun e w' => e = .returned (.bool true) ∧ Below w.heap.size w w' := by
  obtain ⟨ar, nr, capr, rfl, HNR, hnr1, hnr2⟩ := hvr.shape
  obtain ⟨ab, nb, capb, rfl, HNB, hnb1, hnb2⟩ := hvb.shape
  unfold maxLen at hnr2 hnb2
  obtain ⟨fr, hfr⟩ : ∃ fr, fr = frCells f (.slice ab nb capb) := ⟨_, rfl⟩
  obtain ⟨w1, hw1⟩ : ∃ w1, w1 = w.alloc (.cells fr 41) := ⟨_, rfl⟩
  have hs1 : w1.heap.size = w.heap.size + 1 := by rw [hw1]; simp
  have hb1 : Below w.heap.size w w1 := by rw [hw1]; exact (Below.refl _ _).alloc (Nat.le_refl _) _
  have hr1 : w1.heap[w.heap.size]? = some (.cells fr 41 (0, 0)) := by rw [hw1]; exact heap_alloc_new w _
  have HI : Hid (∀ zz : Array Value, zz.size = 14 → (Try.prog.info? 41).map (·.size) = some zz.size) := fun zz hz => by rw [hz]; kernel_rfl
  have HfrS : Hid (fr.size = 14) := by unfold Hid; rw [hfr]; exact frCells_size hf.ok _
  have HfrO : Hid (fr.all (·.oneCell') = true) := by unfold Hid; rw [hfr]; exact frc_one
  have HLD : Hid (∀ u, Below w1.heap.size w1 u → (Instr.loadAt 41 (.pointer (some ⟨w.heap.size, 0, none⟩))).run Try.prog u = .ok (.agg fr) u) := fun u hu => load_rowAt ((hu.block _ (by omega)).trans hr1) Try.underlying41 rfl (HI.out fr HfrS.out)
  have HC13 : Hid (∀ u, Below w1.heap.size w1 u → u.cell? ⟨w.heap.size, 13, none⟩ = some (.slice ab nb capb)) := fun u hu => (fr_at hf.ok (by rw [← hfr]; exact (hu.block _ (by omega)).trans hr1)).2
  have HVR := hid (hvr.below hb1)
  have HVB := hid (hvb.below hb1)
  have HBR := hid hvr.bytes
  have HBY := hid hvb.bytes
  have HLR := hid hlr
  have HLB := hid hlb
  have HF := hid hf
  have HFR := hid hfr
  have HW1 := hid hw1
  have HB1 := hid hb1
  have HRO := hid (roomy_any _ L w1 HVR.out hlr)
  have HPO := hid (pfF_ok HBR.out)
  rw [← hfr]
  clear hw1 hb1 hr1 hs1 hfr hvr hvb hlr hlb hf
  go_enter Try.func13, Try.ntmps13
  go_upto_region 1 with fail
  rw [← HW1.out]
  go_wp2_with fail
  refine HRO.out.mono ?_
  rintro _ w2 ⟨l2, rfl, ho2, hb2⟩
  have hbm : ∀ y ∈ L ++ mkN 70, y < 256 := fun y hy => (List.mem_append.1 hy).elim (HBR.out y) (mkN_bytes y)
  obtain ⟨ao, no, co, rfl, hsr, hsc, kcut⟩ := room_cut ho2 hbm
  rw [← HNR.out] at hsc kcut
  have HB2 := hid hb2
  have X2 := hid (parseF_any _ L w2 hsc)
  have HSR2 := hid hsr
  clear hb2 hsc hsr ho2 hbm HRO
  go_wp2_with fail
  refine X2.out.mono ?_
  rintro _ w3 ⟨a3, n3, c3, rfl, hs3, _, hb3⟩
  obtain ⟨xx, hxx⟩ : ∃ xx, xx = frCells (Tn.pfF L) (.slice a3 n3 c3) := ⟨_, rfl⟩
  have HxxS : Hid (xx.size = 14) := by unfold Hid; rw [hxx]; exact frCells_size HPO.out _
  have HxxO : Hid (xx.all (·.oneCell') = true) := by unfold Hid; rw [hxx]; exact frc_one
  obtain ⟨p1, hp1⟩ : ∃ p1, p1 = w3.heap.size := ⟨_, rfl⟩
  obtain ⟨w4, hw4⟩ : ∃ w4, w4 = (w3.alloc (.cells zeroF 41)).setCells p1 0 xx.toList := ⟨_, rfl⟩
  have HI4 := hid (HI.out xx HxxS.out)
  have hrp4 : (w3.alloc (.cells zeroF 41)).heap[p1]? = some (.cells zeroF 41 (0, 0)) := by rw [hp1]; exact heap_alloc_new w3 _
  have HT4 : Hid ((w3.alloc (.cells zeroF 41)).there p1 0 xx.size) := there_blk hrp4 (by rw [HxxS.out]; rfl)
  have hr4 : w4.heap[p1]? = some (.cells xx 41 (0, 0)) := by rw [hw4]; exact row_put hrp4 (by rw [HxxS.out]; rfl)
  have hbn4 : Below w3.heap.size w3 w4 := by rw [hw4]; exact below_setCells' (by omega) _ _ _ ((Below.refl _ _).alloc (Nat.le_refl _) _)
  have Hw4 := hid hw4
  have HPp1 := hid hp1
  unfold zeroF at Hw4 HT4
  have hb24 : Below w2.heap.size w2 w4 := hb3.trans (hbn4.mono hb3.size)
  have HB24 := hid hb24
  have HB14 := hid (HB2.out.trans (hb24.mono HB2.out.size))
  have HS4 := hid (hs3.below hbn4)
  have HR4 := hid hr4
  have X4 := hid (parseFR_any _ L w4 (HVR.out.below HB14.out))
  rw [← hxx]
  have HXX := hid hxx
  clear hxx hp1 hw4 hrp4 hr4 hbn4 hb3 hb24 hs3 X2
  go_upto_region 3 with (first
    | (rw [← HPp1.out]; refine wpList_store_mid rfl 41 (.tmp 6) (.tmp 23) rfl p1 0 xx rfl rfl HT4.out HI4.out HxxO.out ?_; rw [← Hw4.out])
    | fail)
  go_wp2_with fail
  refine X4.out.mono ?_
  rintro _ w5 ⟨a5, n5, c5, rfl, hs5, _, hb5⟩
  obtain ⟨yy, hyy⟩ : ∃ yy, yy = frCells (Tn.pfF L) (.slice a5 n5 c5) := ⟨_, rfl⟩
  have HyyS : Hid (yy.size = 14) := by unfold Hid; rw [hyy]; exact frCells_size HPO.out _
  have HyyO : Hid (yy.all (·.oneCell') = true) := by unfold Hid; rw [hyy]; exact frc_one
  obtain ⟨p2, hp2⟩ : ∃ p2, p2 = w5.heap.size := ⟨_, rfl⟩
  obtain ⟨w6, hw6⟩ : ∃ w6, w6 = (w5.alloc (.cells zeroF 41)).setCells p2 0 yy.toList := ⟨_, rfl⟩
  have HI6 := hid (HI.out yy HyyS.out)
  have hrp6 : (w5.alloc (.cells zeroF 41)).heap[p2]? = some (.cells zeroF 41 (0, 0)) := by rw [hp2]; exact heap_alloc_new w5 _
  have HT6 : Hid ((w5.alloc (.cells zeroF 41)).there p2 0 yy.size) := there_blk hrp6 (by rw [HyyS.out]; rfl)
  have hr6 : w6.heap[p2]? = some (.cells yy 41 (0, 0)) := by rw [hw6]; exact row_put hrp6 (by rw [HyyS.out]; rfl)
  have hbn6 : Below w5.heap.size w5 w6 := by rw [hw6]; exact below_setCells' (by omega) _ _ _ ((Below.refl _ _).alloc (Nat.le_refl _) _)
  have Hw6 := hid hw6
  have HPp2 := hid hp2
  unfold zeroF at Hw6 HT6
  have hb46 : Below w4.heap.size w4 w6 := hb5.trans (hbn6.mono hb5.size)
  have HB26 := hid (HB24.out.trans (hb46.mono HB24.out.size))
  have HB16 := hid (HB2.out.trans (HB26.out.mono HB2.out.size))
  have HLX := hid (load_rowAt (T := 41) ((hb46.block p1 (Array.getElem?_eq_some_iff.1 HR4.out).1).trans HR4.out) Try.underlying41 rfl (HI.out xx HxxS.out))
  have HLY := hid (load_rowAt (T := 41) hr6 Try.underlying41 rfl (HI.out yy HyyS.out))
  have XS : Hid (Calls Try.prog 21 #[.agg xx, .agg yy] w6 fun e w' => e = .returned (.bool true) ∧ Below w6.heap.size w6 w') := by
    unfold Hid
    rw [HXX.out, hyy]
    exact sameFrame_self _ _ _ w6 HPO.out (HS4.out.below hb46) (hs5.below hbn6)
  have HKP : Hid (∀ u, Below w6.heap.size w6 u → Calls Try.prog 32 #[.slice ao no co, .slice ar nr capr] u fun e w' => e = .returned (.bool true) ∧ Below u.heap.size u w') := fun u hu => kept_any _ _ L u (HSR2.out.below (HB26.out.trans (hu.mono HB26.out.size))) (HVR.out.below (HB16.out.trans (hu.mono HB16.out.size))) HLR.out
  rw [← hyy]
  generalize Tn.pfE L = E at *
  clear hyy hp2 hw6 hrp6 hr6 hbn6 hb5 hb46 hs5 X4 kcut
  go_upto_region 4 with (first
    | (rw [← HPp2.out]; refine wpList_store_mid rfl 41 (.tmp 8) (.tmp 28) rfl p2 0 yy rfl rfl HT6.out HI6.out HyyO.out ?_; rw [← Hw6.out])
    | fail)
  go_wp2_with (first
    | (refine wpList_ld 41 ⟨p1, 0, none⟩ (.tmp 6) rfl rfl HLX.out rfl ?_)
    | (refine wpList_ld 41 ⟨p2, 0, none⟩ (.tmp 8) rfl rfl HLY.out rfl ?_)
    | fail)
  refine XS.out.mono ?_
  rintro _ w7 ⟨rfl, hb7⟩
  have X7 := hid (HKP.out w7 hb7)
  have HB67 := hid hb7
  clear hb7 XS HKP HLX HLY
  go_wp2_with fail
  refine X7.out.mono ?_
  rintro _ w8 ⟨rfl, hb8⟩
  have HB68 := hid (HB67.out.trans (hb8.mono HB67.out.size))
  have HB18 := hid (HB16.out.trans (HB68.out.mono HB16.out.size))
  have d13 := HC13.out w8 HB18.out
  have X8 := hid (roomy_any _ f.B w8 (HVB.out.below HB18.out) HLB.out)
  clear hb8 X7 HB67 HB68 HR4 HS4 HB24 HB26 HB14 HB16 HSR2
  as_aux_lemma =>
  go_wp2_with fail
  refine X8.out.mono ?_
  rintro _ w9 ⟨l9, rfl, ho9, hb9⟩
  have hbm : ∀ y ∈ f.B ++ mkN 70, y < 256 := fun y hy => (List.mem_append.1 hy).elim (HBY.out y) (mkN_bytes y)
  obtain ⟨ap, np, cp, rfl, hsr, hsc, kcut⟩ := room_cut ho9 hbm
  rw [← HNB.out] at hsc kcut
  have HB19 := hid (HB18.out.trans (hb9.mono HB18.out.size))
  have HL9 := hid (HLD.out w9 HB19.out)
  obtain ⟨p3, hp3⟩ : ∃ p3, p3 = w9.heap.size := ⟨_, rfl⟩
  obtain ⟨w10, hw10⟩ : ∃ w10, w10 = (w9.alloc (.cells zeroF 41)).setCells p3 0 fr.toList := ⟨_, rfl⟩
  have HI10 := hid (HI.out fr HfrS.out)
  have hrp10 : (w9.alloc (.cells zeroF 41)).heap[p3]? = some (.cells zeroF 41 (0, 0)) := by rw [hp3]; exact heap_alloc_new w9 _
  have HT10 : Hid ((w9.alloc (.cells zeroF 41)).there p3 0 fr.size) := there_blk hrp10 (by rw [HfrS.out]; rfl)
  have hr10 : w10.heap[p3]? = some (.cells fr 41 (0, 0)) := by rw [hw10]; exact row_put hrp10 (by rw [HfrS.out]; rfl)
  have hbn10 : Below w9.heap.size w9 w10 := by rw [hw10]; exact below_setCells' (by omega) _ _ _ ((Below.refl _ _).alloc (Nat.le_refl _) _)
  have Hw10 := hid hw10
  have HPp3 := hid hp3
  unfold zeroF at Hw10 HT10
  obtain ⟨w11, hw11⟩ : ∃ w11, w11 = w10.setCell ⟨p3, 13, none⟩ (.slice ap nb np) := ⟨_, rfl⟩
  obtain ⟨gg, hgg⟩ : ∃ gg, gg = frCells f (.slice ap nb np) := ⟨_, rfl⟩
  have hr11 : w11.heap[p3]? = some (.cells gg 41 (0, 0)) := by
    rw [hw11, hgg]
    unfold frCells
    rw [← frc_set HF.out.ok.dst HF.out.ok.src f.ty (.slice ab nb capb)]
    have h0 : w10.heap[p3]? = some (.cells (frc f.dst f.src f.ty (.slice ab nb capb)).toArray 41 (0, 0)) := by rw [hr10, HFR.out]; rfl
    exact heap_setCell_row h0 _
  have hggS : gg.size = 14 := by rw [hgg]; exact frCells_size HF.out.ok _
  have e13 : w10.cell? ⟨p3, 13, none⟩ = some (.slice ab nb capb) := (fr_at HF.out.ok (by rw [← HFR.out]; exact hr10)).2
  have z13 : w10.frozen? ⟨p3, 13, none⟩ = false := frozen_of_row _ _ _ _ _ hr10
  have hb911 : Below w9.heap.size w9 w11 := by rw [hw11]; exact hbn10.setCell (p := ⟨p3, 13, none⟩) (by show w9.heap.size ≤ p3; omega) _
  have HB110 := hid (HB19.out.trans (hbn10.mono HB19.out.size))
  have HB111 := hid (HB19.out.trans (hb911.mono HB19.out.size))
  have i13 := HC13.out w10 HB110.out
  have HL11 := hid (load_rowAt (T := 41) hr11 Try.underlying41 rfl (HI.out gg hggS))
  have X11 := hid (buildF_any f (.slice ap nb np) w11 HF.out (hsc.below hb911))
  rw [← hgg] at X11
  have HSR11 := hid (hsr.below hb911)
  have HW11 := hid hw11
  have hnp : nb ≤ np := by obtain ⟨_, _, hv, h1, _⟩ := hsc; simp at hv; omega
  clear hgg hw11 hr11 hggS hb911 hp3 hw10 hrp10 hr10 hbn10 hb9 hsc hsr ho9 hbm X8
  go_upto_region 8 with (first
    | (refine wpList_ld 41 ⟨w.heap.size, 0, none⟩ (.tmp 3) rfl rfl HL9.out rfl ?_)
    | (rw [← HPp3.out]; refine wpList_store_mid rfl 41 (.tmp 10) (.tmp 48) rfl p3 0 fr rfl rfl HT10.out HI10.out HfrO.out ?_; rw [← Hw10.out])
    | fail)
  simp only [Act.put]
  go_upto_region 9 with fail
  rw [← HW11.out]
  go_wp2_with (first
    | (refine wpList_ld 41 ⟨p3, 0, none⟩ (.tmp 10) rfl rfl HL11.out rfl ?_)
    | fail)
  refine X11.out.mono ?_
  rintro _ w12 ⟨s12, n12, t12, rfl, hs12, _, hb12⟩
  have HB112 := hid (HB111.out.trans (hb12.mono HB111.out.size))
  have HS12 := hid hs12
  have HSR12 := hid (HSR11.out.below hb12)
  have X12 := hid (buildFR_any f (.slice ab nb capb) w12 HF.out (HVB.out.below HB112.out))
  rw [← HFR.out] at X12
  have HL12 := hid (HLD.out w12 HB112.out)
  generalize Tn.bfE f = E2 at *
  generalize Tn.bfL f = BL at *
  clear hs12 hb12 X11 HL11 HL9 kcut e13 z13 i13 d13
  go_wp2_with (first
    | (refine wpList_ld 41 ⟨w.heap.size, 0, none⟩ (.tmp 3) rfl rfl HL12.out rfl ?_)
    | fail)
  refine X12.out.mono ?_
  rintro _ w13 ⟨v13, rfl, ho13, hb13⟩
  have hs13 := ho13.sees HS12.out.bytes
  obtain ⟨s13, n13, t13, rfl, _, _, _⟩ := hs13.shape
  have XS := hid (same_self _ _ _ w13 (HS12.out.below hb13) hs13)
  have HB1213 := hid hb13
  clear ho13 hs13 hb13 X12 HL12
  go_wp2_with fail
  refine XS.out.mono ?_
  rintro _ w14 ⟨rfl, hb14⟩
  have hb1214 := HB1213.out.trans (hb14.mono HB1213.out.size)
  have HB114 := hid (HB112.out.trans (hb1214.mono HB112.out.size))
  have j13 := HC13.out w14 HB114.out
  have X14 := hid (kept_any _ _ f.B w14 (HSR12.out.below hb1214) (HVB.out.below HB114.out) HLB.out)
  clear hb14 hb1214 XS
  go_wp2_with fail
  refine X14.out.mono ?_
  rintro _ w15 ⟨rfl, hb15⟩
  have HB115 := hid (HB114.out.trans (hb15.mono HB114.out.size))
  clear hb15 X14
  go_wp2_with fail
  go_ret
  exact ⟨rfl, HB1.out.trans (HB115.out.mono HB1.out.size)⟩
end Go.Proofs.Ytcelcnafcfefhaa.N
