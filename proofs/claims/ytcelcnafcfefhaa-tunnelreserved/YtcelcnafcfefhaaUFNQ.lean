/-
  Seal's answer lies in a block of its own.
-/
import Derived.Test.YtcelcnafcfefhaaEZ
import Derived.Test.YtcelcnafcfefhaaNBP
namespace Go.Proofs.Ytcelcnafcfefhaa.N
open Go.ChangeShapes Go.WideShapes Go.ChangeAt Go.RowKit
set_option maxHeartbeats 8000000
set_option maxRecDepth 100000

theorem sealN_any (o : Ou) (f : Tn.Fr) (vb : Value) (w : World) (ho : o.Ok) (hf : FrB f) (hvb : SeesB w vb f.B) (hq : 0 ≤ o.vni ∧ o.vni ≤ 16777215) (hq2 : Tn.bfE f = 0) :
    Calls Try.prog 18 #[.agg (ouCells o), .agg (frCells f vb)] w fun e w' => ∃ g n, e = .returned (.tuple #[.slice (some ⟨g, 0, none⟩) n n, .int .i64 0]) ∧ Blk w' g (seL o f) ∧ n = (seL o f).length ∧ w.heap.size ≤ g ∧ Below w.heap.size w w' := by
  obtain ⟨ab, nb, capb, rfl, HNB, hnb1, hnb2⟩ := hvb.shape
  obtain ⟨oc, hoc⟩ : ∃ oc, oc = ouCells o := ⟨_, rfl⟩
  obtain ⟨fr, hfr⟩ : ∃ fr, fr = frCells f (.slice ab nb capb) := ⟨_, rfl⟩
  obtain ⟨wa, hwa⟩ : ∃ wa, wa = w.alloc (.cells oc 60) := ⟨_, rfl⟩
  obtain ⟨w1, hw1⟩ : ∃ w1, w1 = wa.alloc (.cells fr 41) := ⟨_, rfl⟩
  have hsa : wa.heap.size = w.heap.size + 1 := by rw [hwa]; simp
  have hs1 : w1.heap.size = w.heap.size + 2 := by rw [hw1]; simp [hsa]
  have hba : Below w.heap.size w wa := by rw [hwa]; exact (Below.refl _ _).alloc (Nat.le_refl _) _
  have hb1 : Below w.heap.size w w1 := by rw [hw1]; exact hba.alloc (by omega) _
  have hr0 : w1.heap[w.heap.size]? = some (.cells (ouCells o) 60 (0, 0)) := by rw [hw1, heap_alloc_old _ _ (by omega), hwa, ← hoc]; exact heap_alloc_new w _
  have hr1 : w1.heap[w.heap.size + 1]? = some (.cells fr 41 (0, 0)) := by rw [hw1, ← hsa]; exact heap_alloc_new wa _
  have HO : Hid (∀ u, Below w1.heap.size w1 u → u.cell? ⟨w.heap.size, 0, none⟩ = some (.int .u32 (o.src : Int)) ∧ u.cell? ⟨w.heap.size, 1, none⟩ = some (.int .u32 (o.dst : Int)) ∧ u.cell? ⟨w.heap.size, 2, none⟩ = some (.int .u16 (o.sp : Int)) ∧ u.cell? ⟨w.heap.size, 3, none⟩ = some (.int .u16 (o.dp : Int)) ∧ u.cell? ⟨w.heap.size, 4, none⟩ = some (.int .u8 (o.ttl : Int)) ∧ u.cell? ⟨w.heap.size, 5, none⟩ = some (.int .i64 o.vni)) := fun u hu => ou_at ((hu.block _ (by omega)).trans hr0)
  have HLF : Hid ((Instr.loadAt 41 (.pointer (some ⟨w.heap.size + 1, 0, none⟩))).run Try.prog w1 = .ok (.agg fr) w1) := load_rowAt hr1 Try.underlying41 rfl (by
    have : fr.size = 14 := by rw [hfr]; unfold frCells; simp only [List.size_toArray]; exact frc_len hf.ok.dst hf.ok.src _ _
    rw [this]; exact (show (Try.prog.info? 41).map (·.size) = some 14 from by kernel_rfl))
  obtain ⟨c0, c1, c2, c3, c4, c5⟩ := HO.out _ (Below.refl _ _)
  have HB1 := hid hb1
  have HS1 := hid hs1
  have HW1 : Hid (w1 = (w.alloc (.cells oc 60)).alloc (.cells fr 41)) := by unfold Hid; rw [hw1, hwa]
  have XF := hid (buildF_any f _ w1 hf (hvb.below hb1))
  rw [← hfr] at XF ⊢
  rw [← hoc]
  have hvlo := ho.vlo
  have hvhi := ho.vhi
  have HBY := hid hvb.bytes
  clear hwa hw1 hsa hs1 hba hb1 hr0 hr1 hoc hfr hvb
  have hbad : ¬ (o.vni < 0 ∨ 16777215 < o.vni) := by omega
  have hv0 : ¬ o.vni < 0 := by omega
  have hv1 : ¬ 16777215 < o.vni := by omega
  obtain ⟨vn, hvn⟩ : ∃ vn : Nat, o.vni = (vn : Int) := ⟨o.vni.toNat, by omega⟩
  have hvn24 : vn < 16777216 := by omega
  have hvt : o.vni.toNat = vn := by omega
  have hfe := hq2
  have hlB : f.B.length ≤ 65485 := by
    unfold Tn.bfE at hfe
    split at hfe
    · cases hfe
    · omega
  have hfl : (Tn.frL f).length = 14 + f.B.length := Tn.frL_len hf.ok
  have hbl : Tn.bfL f = Tn.frL f := by unfold Tn.bfL; rw [if_pos hfe]
  have hdl : (odg o f).B.length = 22 + f.B.length := by show (vxH o.vni.toNat ++ Tn.frL f).length = _; rw [List.length_append, hfl]; show 8 + _ = _; omega
  have hbu : Tn.buE (odg o f) = 0 := by unfold Tn.buE; rw [if_neg (by omega)]
  have hbv : Tn.buL o.src o.dst (odg o f) false = Tn.builtU o.src o.dst (odg o f) false := by unfold Tn.buL; rw [if_neg (by omega)]
  have HE : Hid (seE o f = refE (ohd o) (Tn.builtU o.src o.dst (odg o f) false).length ∧ seL o f = builtL (ohd o) (Tn.builtU o.src o.dst (odg o f) false)) := by unfold Hid seE seL; rw [if_neg hbad, if_neg hbad, if_neg (by simp [hfe]), if_neg (by simp [hfe])]; exact ⟨rfl, rfl⟩
  have hul : (Tn.builtU o.src o.dst (odg o f) false).length = 30 + f.B.length := by unfold Tn.builtU; rw [Tn.udp_len, hdl]; omega
  obtain ⟨DG, hDG⟩ : ∃ DG, DG = odg o f := ⟨_, rfl⟩
  have hDok : DG.Ok := by rw [hDG]; exact ⟨ho.sp, ho.dp⟩
  have hDB : DG.B = vxH vn ++ Tn.frL f := by rw [hDG, ← hvt]; rfl
  have hDc : ∀ v, dgCells DG v = #[.int .u16 (o.sp : Int), .int .u16 (o.dp : Int), v] := fun v => by rw [hDG]; rfl
  rw [← hDG] at hbu hbv HE hul hdl
  obtain ⟨UL, hUL⟩ : ∃ UL, UL = Tn.builtU o.src o.dst DG false := ⟨_, rfl⟩
  rw [← hUL] at HE hbv hul
  have HBU : Hid (∀ (vb : Value) (u : World), SeesB u vb DG.B → Calls Try.prog 10 #[.int .u32 (o.src : Int), .int .u32 (o.dst : Int), .agg (dgCells DG vb), .bool false] u fun e w' => ∃ ao n cap, e = .returned (.tuple #[.slice ao n cap, .int .i64 0]) ∧ SeesB w' (.slice ao n cap) UL ∧ Below u.heap.size u w') := fun vb u hv => by
    refine (buildU_any DG vb o.src o.dst false u hDok hv ho.src ho.dst).mono ?_
    rintro e w' ⟨ao, n, cap, rfl, h1, _, h2⟩
    rw [hbv] at h1
    exact ⟨ao, n, cap, by rw [hbu], h1, h2⟩
  have HRZ : Hid (refE (ohd o) UL.length = 0) := by
    have h := (seL_sx hq hq2 hf.ok).1
    rw [HE.out.1] at h
    exact h
  have HIB : Hid (∀ (vb : Value) (u : World), SeesB u vb UL → Calls Try.prog 15 #[.agg (pkCells (ohd o) (.slice none 0 0) vb)] u fun e w' => ∃ g n, e = .returned (.tuple #[.slice (some ⟨g, 0, none⟩) n n, .int .i64 0]) ∧ Blk w' g (seL o f) ∧ n = (seL o f).length ∧ u.heap.size < g ∧ Below u.heap.size u w') := fun vb u hv => by
    rw [HE.out.2]
    exact build_new (ohd o) _ vb UL u (ohd_ok ho) (sees_nil _) hv HRZ.out
  have HHO := hid (fun u => headOf_any vn u hvn24)
  have HBYF : Hid (∀ y ∈ Tn.frL f, y < 256) := frL_bytes hf HBY.out
  have HDB := hid hDB
  have HDC := hid hDc
  have HFL := hid hfl
  have hnb : nb ≤ 65485 := by rw [HNB.out]; exact hlB
  rw [hfe, hbl] at XF
  have hvni := hvn
  rw [hvn] at hv0 hv1
  have HOV : Hid (∀ u, Below w1.heap.size w1 u → u.cell? ⟨w.heap.size, 5, none⟩ = some (.int .i64 (vn : Int))) := fun u hu => by rw [← hvni]; exact (HO.out u hu).2.2.2.2.2
  rw [hvn] at c5
  have hohd : ∀ vb, pkCells (ohd o) (.slice none 0 0) vb = #[.int .u8 0, .int .u16 0, .bool true, .bool false, .int .i64 0, .int .u8 (o.ttl : Int), .int .u8 17, .int .u32 (o.src : Int), .int .u32 (o.dst : Int), .slice none 0 0, vb] := fun vb => rfl
  have HOHD := hid hohd
  obtain ⟨SL, hSL⟩ : ∃ SL, SL = seL o f := ⟨_, rfl⟩
  rw [← hSL] at HIB ⊢
  have hsp := ho.sp
  have hdp := ho.dp
  have htt := ho.ttl
  have hsr := ho.src
  have hds := ho.dst
  clear hbad hvn hvt hvni hfe hlB hbl hdl hbu hbv hul hDok hDB hDc hUL hDG HE hfl hohd hSL ho hf
  go_enter Try.func18, Try.ntmps18
  go_upto_region 1 with fail
  rw [← HW1.out]
  go_wp2_with (first
    | (refine wpList_ld 41 ⟨w.heap.size + 1, 0, none⟩ _ rfl rfl HLF.out rfl ?_)
    | fail)
  refine XF.out.mono ?_
  rintro _ w2 ⟨a2, n2, k2, rfl, hs2, _, hb2⟩
  have HB2 := hid hb2
  have HS2 := hid hs2
  have d5 := HOV.out w2 hb2
  have X2 := hid (HHO.out w2)
  clear hb2 hs2 XF HLF c0 c1 c2 c3 c4 c5
  go_wp2_with fail
  refine X2.out.mono ?_
  rintro _ w3 ⟨rfl, hb3⟩
  obtain ⟨pa, hpa⟩ : ∃ pa, pa = (bs (vxH vn)).toArray := ⟨_, rfl⟩
  obtain ⟨p, hp⟩ : ∃ p, p = w3.heap.size := ⟨_, rfl⟩
  obtain ⟨w4, hw4⟩ : ∃ w4, w4 = (w3.alloc (.cells Z8 69)).setCells p 0 pa.toList := ⟨_, rfl⟩
  have hps : pa.size = 8 := by rw [hpa, bs_size]; rfl
  have HIP : Hid ((Try.prog.info? 69).map (·.size) = some pa.size) := by unfold Hid; rw [hps]; kernel_rfl
  have hrp : (w3.alloc (.cells Z8 69)).heap[p]? = some (.cells Z8 69 (0, 0)) := by rw [hp]; exact heap_alloc_new w3 _
  have HTP : Hid ((w3.alloc (.cells Z8 69)).there p 0 pa.size) := there_blk hrp (by rw [hps]; rfl)
  have HOP : Hid (pa.all (·.oneCell') = true) := by unfold Hid; rw [hpa]; exact bs_one _
  have hB4 : BlkT 69 w4 p (vxH vn) := by
    unfold BlkT
    rw [hw4, ← hpa]
    exact row_put hrp (by rw [hps]; rfl)
  have hb34 : Below w3.heap.size w3 w4 := by rw [hw4]; exact below_setCells' (by omega) _ _ _ ((Below.refl _ _).alloc (Nat.le_refl _) _)
  have hb24 := hb3.trans (hb34.mono hb3.size)
  have HB14 := hid (HB2.out.trans (hb24.mono HB2.out.size))
  have HS8 : Hid (SeesB w4 (.slice (some ⟨p, 0, none⟩) 8 8) (vxH vn)) := hB4.sees (vxH_bytes vn) 0 8 8 (Nat.le_refl 8) (Nat.le_refl _) (by unfold maxLen; omega)
  have HSF4 := hid (HS2.out.below hb24)
  have HW4 := hid hw4
  have HP := hid hp
  unfold Z8 at HW4 HTP
  rw [← hpa]
  clear hpa hp hw4 hps hrp hb3 hb34 hb24 hB4 X2 d5
  go_upto_region 7 with (first
    | (rw [← HP.out]; refine wpList_store_mid rfl 69 (.tmp 8) (.tmp 31) rfl p 0 pa rfl rfl HTP.out HIP.out HOP.out ?_; rw [← HW4.out])
    | fail)
  simp only [Act.put]
  obtain ⟨e0, e1, e2, e3, e4, e5⟩ := HO.out w4 HB14.out
  have hlt : w.heap.size < w4.heap.size := by have := HB14.out.size; have := HS1.out; omega
  have HLT := hid hlt
  obtain ⟨k, hk⟩ : ∃ k, k = 22 + nb := ⟨_, rfl⟩
  have HJ : Hid (∀ u, Below w4.heap.size w4 u → Calls Try.prog 26 #[.slice (some ⟨p, 0, none⟩) 8 8, .slice a2 n2 k2] u fun e w' => ∃ g, e = .returned (.slice (some ⟨g, 0, none⟩) k k) ∧ Blk w' g (vxH vn ++ Tn.frL f) ∧ u.heap.size ≤ g ∧ Below u.heap.size u w') := fun u hu => by
    have h8 : (vxH vn).length = 8 := rfl
    refine (join_any _ _ _ _ u (HS8.out.below hu) (HSF4.out.below hu) (by rw [h8, HFL.out, ← HNB.out]; omega)).mono ?_
    rintro e u' ⟨g, k', rfl, hk', hB, hg, hb⟩
    refine ⟨g, ?_, hB, hg, hb⟩
    rw [hk', List.length_append, h8, HFL.out, ← HNB.out, hk, show 8 + (14 + nb) = 22 + nb by omega]
  have HKL : Hid ((vxH vn ++ Tn.frL f).length = k) := by unfold Hid; rw [List.length_append, HFL.out, ← HNB.out, hk]; show 8 + _ = _; omega
  have HKN : Hid (k ≤ 65507) := by unfold Hid; omega
  obtain ⟨mk, hmk⟩ : ∃ mk : Value → Value, mk = fun v => .agg #[.int .u16 (o.sp : Int), .int .u16 (o.dp : Int), v] := ⟨_, rfl⟩
  have HMK := hid hmk
  clear hmk hk hlt
  go_cut [9] from 12 (fun pt wx => ∃ q g, pt = .pointer (some ⟨q, 0, none⟩) ∧ Hid (wx.heap[q]? = some (.cells #[.int .u16 (o.sp : Int), .int .u16 (o.dp : Int), .slice (some ⟨g, 0, none⟩) k k] 27 (0, 0)) ∧ SeesB wx (.slice (some ⟨g, 0, none⟩) k k) (vxH vn ++ Tn.frL f) ∧ Below w4.heap.size w4 wx))
  case first =>
    refine wp_region_mono' 9 (fun i => [32, 33, 34, 35, 36, 37, 38, 39, 9].getD i 0) (FS [.pointer (some ⟨w.heap.size, 2, none⟩), .int .u16 (o.sp : Int), .pointer (some ⟨w.heap.size, 3, none⟩), .int .u16 (o.dp : Int), .slice (some ⟨p, 0, none⟩) 8 8, .slice a2 n2 k2] mk (vxH vn ++ Tn.frL f) w4.heap.size k) (by kernel_rfl) (by kernel_rfl) (FS.keeps _ _ _ _ _) ?_ ?_
    · simp only [List.take_succ_cons, List.take_zero, stepsOk]
      refine ⟨?_, ?_, ?_, ?_, ?_, ?_, ?_, ?_, ?_, trivial⟩
      · intro a u vs hb hold hdep
        exact wp_stillF (ex_field _ ⟨w.heap.size, 0, none⟩ (.tmp 2) 2 _ rfl (hold 2 (dl9 (by decide))) (field_ou _ u).1) rfl rfl hb
      · intro a u vs hb hold hdep
        have h1 : a.eval (.tmp 32) = .pointer (some ⟨w.heap.size, 2, none⟩) := by have h0 := hdep ⟨0, .data⟩ (by simp) rfl (by decide); exact h0.1.trans (Option.some.inj h0.2).symm
        exact wp_stillF (ex_load _ ⟨w.heap.size, 2, none⟩ (.tmp 32) _ rfl h1 (load_u16 ((hb.cell (p := ⟨w.heap.size, 2, none⟩) HLT.out).trans e2))) rfl rfl hb
      · intro a u vs hb hold hdep
        exact wp_stillF (ex_field _ ⟨w.heap.size, 0, none⟩ (.tmp 2) 3 _ rfl (hold 2 (dl9 (by decide))) (field_ou _ u).2) rfl rfl hb
      · intro a u vs hb hold hdep
        have h1 : a.eval (.tmp 34) = .pointer (some ⟨w.heap.size, 3, none⟩) := by have h0 := hdep ⟨2, .data⟩ (by simp) rfl (by decide); exact h0.1.trans (Option.some.inj h0.2).symm
        exact wp_stillF (ex_load _ ⟨w.heap.size, 3, none⟩ (.tmp 34) _ rfl h1 (load_u16 ((hb.cell (p := ⟨w.heap.size, 3, none⟩) HLT.out).trans e3))) rfl rfl hb
      · intro a u vs hb hold hdep
        exact wp_stillF (ex_slice _ (.tmp 8) _ _ _ _ _ _ _ _ rfl (hold 8 (dl9 (by decide))) rfl rfl rfl (cut8 p u).2.1) rfl rfl hb
      · intro a u vs hb hold hdep
        exact wp_stillF (ex_move (.tmp 6) _ rfl (hold 6 (dl9 (by decide)))) rfl rfl hb
      · intro a u vs hb hold hdep
        have h1 : a.eval (.tmp 36) = .slice (some ⟨p, 0, none⟩) 8 8 := by have h0 := hdep ⟨4, .data⟩ (by simp) rfl (by decide); exact h0.1.trans (Option.some.inj h0.2).symm
        have h2 : a.eval (.tmp 37) = .slice a2 n2 k2 := by have h0 := hdep ⟨5, .data⟩ (by simp) rfl (by decide); exact h0.1.trans (Option.some.inj h0.2).symm
        refine wp_call 26 _ _ rfl (enters_of Try.func26 (by kernel_rfl) rfl) #[.slice (some ⟨p, 0, none⟩) 8 8, .slice a2 n2 k2] (by simp only [List.map_toArray, List.map_cons, List.map_nil, h1, h2]) ?_
        refine (HJ.out u hb).mono ?_
        rintro _ u' ⟨g, rfl, hB, hg, hb'⟩
        exact ⟨_, rfl, _, rfl, ⟨g, rfl, hB, Nat.le_trans hb.size hg⟩, hb.trans (hb'.mono hb.size), hb'⟩
      · intro a u vs hb hold hdep
        have h1 : a.eval (.tmp 33) = .int .u16 (o.sp : Int) := by have h0 := hdep ⟨1, .data⟩ (by simp) rfl (by decide); exact h0.1.trans (Option.some.inj h0.2).symm
        have h2 : a.eval (.tmp 35) = .int .u16 (o.dp : Int) := by have h0 := hdep ⟨3, .data⟩ (by simp) rfl (by decide); exact h0.1.trans (Option.some.inj h0.2).symm
        obtain ⟨q1, g, q2, q3, q4⟩ := hdep ⟨6, .data⟩ (by simp) rfl (by decide)
        have h3 : a.eval (.tmp 38) = .slice (some ⟨g, 0, none⟩) k k := q1.trans q2
        refine wp_stillF (ex_build _ _ #[(0, .int .u16 (o.sp : Int)), (1, .int .u16 (o.dp : Int)), (2, .slice (some ⟨g, 0, none⟩) k k)] (mk (.slice (some ⟨g, 0, none⟩) k k)) rfl (by simp only [List.map_toArray, List.map_cons, List.map_nil, h1, h2, h3]) ?_) rfl ⟨g, rfl, q3, q4⟩ hb
        rw [HMK.out]
        exact build_dg _ _ _ _ _ u
      · intro a u vs hb hold hdep
        have hbA : Below u.heap.size u (u.alloc (.cells zeroD 27)) := (Below.refl _ _).alloc (Nat.le_refl _) _
        exact wp_val (ex_alloc _ _ rfl (alloc_dg u)) ⟨_, rfl, ⟨u.heap.size, rfl, heap_alloc_new u _, hb.size⟩, hb.trans (hbA.mono hb.size), hbA⟩
    intro vs u hb hF
    obtain ⟨g, e7, hBg, hg⟩ := hF 7 (by decide)
    obtain ⟨q, e8, hrq, hq⟩ := hF 8 (by decide)
    obtain ⟨yy, hyy⟩ : ∃ yy : Array Value, yy = #[.int .u16 (o.sp : Int), .int .u16 (o.dp : Int), .slice (some ⟨g, 0, none⟩) k k] := ⟨_, rfl⟩
    have e7' : vs 7 = .agg yy := by rw [e7, HMK.out, hyy]
    have e8' : vs 8 = .pointer (some ⟨q, 0, none⟩) := e8
    have hys : yy.size = 3 := by rw [hyy]; rfl
    have HYI : Hid ((Try.prog.info? 27).map (·.size) = some yy.size) := by unfold Hid; rw [hys]; kernel_rfl
    have HYO : Hid (yy.all (·.oneCell') = true) := by unfold Hid; rw [hyy]; simp [Value.oneCell']
    have HTQ : Hid (u.there q 0 yy.size) := there_blk hrq (by rw [hys]; rfl)
    have hr9 : (u.setCells q 0 yy.toList).heap[q]? = some (.cells yy 27 (0, 0)) := row_put hrq (by rw [hys]; rfl)
    have hb9 : Below w4.heap.size w4 (u.setCells q 0 yy.toList) := below_setCells' hq _ _ _ hb
    have hne : g ≠ q := fun e => by
      subst e
      unfold Blk at hBg
      rw [hrq] at hBg
      simp at hBg
    have hsg : SeesB u (.slice (some ⟨g, 0, none⟩) k k) (vxH vn ++ Tn.frL f) := by
      have h0 := hBg.sees (fun x hx => (List.mem_append.1 hx).elim (vxH_bytes vn x) (HBYF.out x)) 0 k k (by rw [HKL.out]; omega) (Nat.le_refl _) (by have := HKN.out; unfold maxLen; omega)
      rw [List.drop_zero, List.take_of_length_le (by rw [HKL.out]; exact Nat.le_refl _)] at h0
      exact h0
    have hB9 : SeesB (u.setCells q 0 yy.toList) (.slice (some ⟨g, 0, none⟩) k k) (vxH vn ++ Tn.frL f) := sees_set' hsg (fun a ha => by cases ha; exact hne)
    have HEND : Hid ((u.setCells q 0 yy.toList).heap[q]? = some (.cells #[.int .u16 (o.sp : Int), .int .u16 (o.dp : Int), .slice (some ⟨g, 0, none⟩) k k] 27 (0, 0)) ∧ SeesB (u.setCells q 0 yy.toList) (.slice (some ⟨g, 0, none⟩) k k) (vxH vn ++ Tn.frL f) ∧ Below w4.heap.size w4 (u.setCells q 0 yy.toList)) := ⟨by rw [← hyy]; exact hr9, hB9, hb9⟩
    generalize vs 0 = y0
    generalize vs 1 = y1
    generalize vs 2 = y2
    generalize vs 3 = y3
    generalize vs 4 = y4
    generalize vs 5 = y5
    generalize vs 6 = y6
    simp only [List.drop_succ_cons, List.drop_zero, puts, List.range, List.range.loop, List.foldr, if_true, Act.put, e7', e8', List.getD_cons_zero, List.getD_cons_succ, List.setIfInBounds_toArray, List.set_cons_succ, List.set_cons_zero]
    clear e7 e7' e8 e8' hyy hF hBg hrq hr9 hb9 hB9 hsg hne hys
    go_wp2_with (first
      | (refine wpList_store_mid rfl 27 (.tmp 9) (.tmp 39) rfl q 0 yy rfl rfl HTQ.out HYI.out HYO.out ?_)
      | fail)
    go_meet
    case rel => exact ⟨q, g, rfl, HEND.out⟩
  case rest =>
  obtain ⟨q, g, rfl, HC⟩ := hcut
  obtain ⟨w5, hw5⟩ : ∃ w5, w5 = wc := ⟨_, rfl⟩
  rw [← hw5] at HC ⊢
  obtain ⟨hrq, hsg, hbc⟩ := HC.out
  have HB15 := hid (HB14.out.trans (hbc.mono HB14.out.size))
  obtain ⟨f0, f1, f2, f3, f4, f5⟩ := HO.out w5 HB15.out
  have HLD : Hid ((Instr.loadAt 27 (.pointer (some ⟨q, 0, none⟩))).run Try.prog w5 = .ok (.agg (dgCells DG (.slice (some ⟨g, 0, none⟩) k k))) w5) := by
    unfold Hid
    rw [HDC.out]
    exact load_rowAt hrq Try.underlying27 rfl (by kernel_rfl)
  have XU := hid (HBU.out (.slice (some ⟨g, 0, none⟩) k k) w5 (by rw [HDB.out]; exact hsg))
  obtain ⟨dgc, hdgc⟩ : ∃ dgc, dgc = dgCells DG (.slice (some ⟨g, 0, none⟩) k k) := ⟨_, rfl⟩
  rw [← hdgc] at HLD XU
  clear hw5 hrq hsg hbc HC hdgc e0 e1 e2 e3 e4 e5 HBU HJ HMK HKL HKN HDC HDB
  go_wp2_with (first
    | (refine wpList_ld 27 ⟨q, 0, none⟩ _ rfl rfl HLD.out rfl ?_)
    | fail)
  refine XU.out.mono ?_
  rintro _ w6 ⟨a6, n6, k6, rfl, hs6, hb6⟩
  have HB16 := hid (HB15.out.trans (hb6.mono HB15.out.size))
  obtain ⟨i0, i1, i2, i3, i4, i5⟩ := HO.out w6 HB16.out
  have HS6 := hid hs6
  clear hs6 hb6 XU HLD f0 f1 f2 f3 f4 f5
  obtain ⟨w7, hw7⟩ : ∃ w7, w7 = w6.alloc (.cells #[.int .u8 0, .int .u16 0, .bool true, .bool false, .int .i64 0, .int .u8 (o.ttl : Int), .int .u8 17, .int .u32 (o.src : Int), .int .u32 (o.dst : Int), .slice none 0 0] 50) := ⟨_, rfl⟩
  have hb67 : Below w6.heap.size w6 w7 := by rw [hw7]; exact (Below.refl _ _).alloc (Nat.le_refl _) _
  have HB17 := hid (HB16.out.trans (hb67.mono HB16.out.size))
  have X7 := hid (HIB.out (.slice a6 n6 k6) w7 (HS6.out.below hb67))
  rw [HOHD.out] at X7
  have HW7 := hid hw7
  clear hw7 hb67
  go_wp2_with fail
  rw [← HW7.out]
  refine X7.out.mono ?_
  rintro _ w8 ⟨g8, n8, rfl, hs8, hn8, hg8, hb8⟩
  have HN8 := hid hn8
  have HG8 : Hid (w1.heap.size ≤ g8) := by unfold Hid; have := HB17.out.size; omega
  clear hn8 hg8
  have HS9 := hid hs8
  have HB18 := hid (HB17.out.trans (hb8.mono HB17.out.size))
  clear hs8 hb8 X7
  go_wp2_with fail
  refine bodyPost_ret (results_tmp2 Try.results18 _ _ _) rfl ?_
  exact ⟨_, _, rfl, HS9.out, HN8.out, Nat.le_trans HB1.out.size HG8.out, HB1.out.trans (HB18.out.mono HB1.out.size)⟩

end Go.Proofs.Ytcelcnafcfefhaa.N
