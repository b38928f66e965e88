/-
  weftlaw6.about: the walk.
-/
import Derived.Test.YtcboenmmkaochaaDoorM5
import Derived.Test.YtcboenmmkaochaaDoorRKE
namespace Go.Proofs.YtcboenmmkaochaaDoor.N
open Go.ChangeShapes Go.WideShapes Go.ChangeAt Go.RowKit
set_option maxHeartbeats 16000000
set_option maxRecDepth 100000

theorem aboutL_any (h : Hd) (vo vb : Value) (B : List Nat) (t c : Nat) (a : Int) (f : Nat) (w : World) (hok : h.Ok) (hvo : SeesB w vo h.opts) (hvb : SeesB w vb B) (hlo : h.opts.length ≤ 140737488355328) (hlb : B.length ≤ 140737488355328) (ht : t < 256) (hc : c < 256) (hf : f < 4294967296) (htC : Ad.TabC w) (htK : TabK w) :
    Calls Tryd.prog 11 #[.agg (pkCells h vo vb), .int .u8 (t : Int), .int .u8 (c : Int), .int .i64 a, .int .u32 (f : Int)] w fun e w' => e = .returned (.bool true) ∧ Below w.heap.size w w' := by
  obtain ⟨w1, hw1⟩ : ∃ w1, w1 = w.alloc (.cells (pkCells h vo vb) 29) := ⟨_, rfl⟩
  have hb1 : Below w.heap.size w w1 := by rw [hw1]; exact (Below.refl _ _).alloc (Nat.le_refl _) _
  have hs1 : w1.heap.size = w.heap.size + 1 := by rw [hw1]; simp
  obtain ⟨ab, nb, capb, rfl, HNB, hnb1, hnb2⟩ := hvb.shape
  obtain ⟨ao, no, capo, rfl, HNO, hno1, hno2⟩ := hvo.shape
  unfold maxLen at hnb2 hno2
  have HK : Hid (∀ u, Below w1.heap.size w1 u → u.heap[w.heap.size]? = some (.cells (pkCells h (.slice ao no capo) (.slice ab nb capb)) 29 (0, 0))) := fun u hu => by
    rw [hu.block _ (by omega), hw1]; exact heap_alloc_new w _
  have HC : Hid (∀ u, Below w1.heap.size w1 u → u.cell? ⟨w.heap.size, 7, none⟩ = some (.int .u32 (h.src : Int)) ∧ u.cell? ⟨w.heap.size, 9, none⟩ = some (.slice ao no capo) ∧ u.cell? ⟨w.heap.size, 10, none⟩ = some (.slice ab nb capb) ∧ (Instr.loadAt 27 (.pointer (some ⟨w.heap.size, 0, none⟩))).run Tryd.prog u = .ok (.agg (hdCells h (.slice ao no capo))) u) := fun u hu =>
    ⟨pk_at (HK.out u hu) 7 (by omega), pk_at (HK.out u hu) 9 (by omega), pk_at (HK.out u hu) 10 (by omega), pk_loadH (HK.out u hu)⟩
  have HL1 := hid (pk_load (HK.out _ (Below.refl _ _)))
  have HFT := hid (fault_any h _ _ B t c a f w1 hok (hvo.below hb1) (hvb.below hb1) hlo hlb ht hc hf (htC.below hb1) (htK.below hb1))
  have hbs := built_bytes hok hvo.bytes hvb.bytes
  have HAF : Hid (fltE h B t c a f = 0 → _) := about_facts h B t c a f hok ht hc hbs
  have HSF : Hid (fltE h B t c a f = 0 → (Im.laid (fltM h B t c a)).length ≤ 65515 ∧ h.src < 4294967296) := fun e => by
    obtain ⟨_, _, f3, _, f5, _⟩ := storm_facts h B t c a f hok ht hc hbs e
    exact ⟨f3, f5⟩
  have HPP : Hid (fltP h B t c a f = if fltE h B t c a f = 0 then (mdH 0 f h.src, Im.laid (fltM h B t c a)) else (zeroH, [])) := rfl
  have HMT : Hid ((fltM h B t c a).t = t ∧ (fltM h B t c a).c = c) := ⟨rfl, rfl⟩
  have HTB : Hid (∀ u, Below w1.heap.size w1 u → Ad.TabC u ∧ TabK u) := fun u hu => ⟨(htC.below hb1).below hu, (htK.below hb1).below hu⟩
  have HVS : Hid (∀ u, Below w1.heap.size w1 u → SeesB u (.slice ao no capo) h.opts ∧ SeesB u (.slice ab nb capb) B) := fun u hu => ⟨hvo.below (hb1.trans (hu.mono hb1.size)), hvb.below (hb1.trans (hu.mono hb1.size))⟩
  have hnoL : no ≤ 140737488355328 := by have := HNO.out; omega
  have hnbL : nb ≤ 140737488355328 := by have := HNB.out; omega
  have HW1 := hid hw1
  have HB1 := hid hb1
  clear hw1 hb1 hs1 hvo hvb hok hlo hlb htC htK HK hbs
  generalize fltP h B t c a f = AB at *
  generalize fltE h B t c a f = AE at *
  generalize fltM h B t c a = FM at *
  generalize Im.laid FM = LD at *
  generalize pkCells h (.slice ao no capo) (.slice ab nb capb) = pk at *
  generalize h.src = src at *
  obtain ⟨H, BD⟩ := AB
  simp only at *
  go_enter Tryd.func11, Tryd.ntmps11
  go_upto_region 1 with fail
  rw [← HW1.out]
  go_wp2_with (first | (refine wpList_ld 29 ⟨w.heap.size, 0, none⟩ (.tmp 5) rfl rfl HL1.out rfl ?_) | fail)
  refine HFT.out.mono ?_
  rintro _ w3 ⟨a3, n3, c3, rfl, hs3, _, hb3⟩
  obtain ⟨pa, hpa⟩ : ∃ pa : Array Value, pa = pkCells H (.slice none 0 0) (.slice a3 n3 c3) := ⟨_, rfl⟩
  obtain ⟨w4, hw4⟩ : ∃ w4, w4 = (w3.alloc (.cells zeroP 29)).setCells w3.heap.size 0 pa.toList := ⟨_, rfl⟩
  have HZA : Hid ((Tryd.prog.info? 29).map (·.size) = some pa.size) := by unfold Hid; rw [hpa]; exact size_pk
  have HOA : Hid (pa.all (·.oneCell') = true) := by unfold Hid; rw [hpa]; exact pk_one _ (sees_nil w3) hs3
  have HTA : Hid ((w3.alloc (.cells zeroP 29)).there w3.heap.size 0 pa.size) := by unfold Hid; rw [hpa]; exact there_blk (C := zeroP) (t := 29) (heap_alloc_new w3 _) rfl
  have hr4 : w4.heap[w3.heap.size]? = some (.cells pa 29 (0, 0)) := by
    rw [hw4]
    have := heap_setCells_row (b := w3.heap.size) (T := 29) pa.toList 0 _ zeroP (heap_alloc_new w3 (.cells zeroP 29))
    rwa [show wr zeroP 0 pa.toList = pa by rw [hpa]; exact wr_pk _ _ _] at this
  have hlt4 : w3.heap.size < w4.heap.size := (Array.getElem?_eq_some_iff.1 hr4).1
  have hb34 : Below w3.heap.size w3 w4 := by rw [hw4]; exact below_setCells (Nat.le_refl _) _ _ _ ((Below.refl _ _).alloc (Nat.le_refl _) _)
  have hb14 := hb3.trans (hb34.mono hb3.size)
  have HQ : Hid (∀ u, Below w4.heap.size w4 u → u.cell? ⟨w3.heap.size, 2, none⟩ = some (.bool H.df) ∧ u.cell? ⟨w3.heap.size, 5, none⟩ = some (.int .u8 (H.ttl : Int)) ∧ u.cell? ⟨w3.heap.size, 7, none⟩ = some (.int .u32 (H.src : Int)) ∧ u.cell? ⟨w3.heap.size, 8, none⟩ = some (.int .u32 (H.dst : Int)) ∧ u.cell? ⟨w3.heap.size, 10, none⟩ = some (.slice a3 n3 c3) ∧ (Instr.loadAt 29 (.pointer (some ⟨w3.heap.size, 0, none⟩))).run Tryd.prog u = .ok (.agg pa) u) := fun u hu => by
    have k : u.heap[w3.heap.size]? = some (.cells (pkCells H (.slice none 0 0) (.slice a3 n3 c3)) 29 (0, 0)) := by
      rw [hu.block _ hlt4, hr4, hpa]
    have := pk_load k
    rw [← hpa] at this
    exact ⟨pk_at k 2 (by omega), pk_at k 5 (by omega), pk_at k 7 (by omega), pk_at k 8 (by omega), pk_at k 10 (by omega), this⟩
  have HSAME : Hid ((H, BD) = (zeroH, []) → Calls Tryd.prog 14 #[.agg pa, .agg #[.int .u8 0, .int .u16 0, .bool false, .bool false, .int .i64 0, .int .u8 0, .int .u8 0, .int .u32 0, .int .u32 0, .slice none 0 0, .slice none 0 0]] w4 fun e w' => e = .returned (.bool true) ∧ Below w4.heap.size w4 w') := fun e => zeros_same w4 H BD e _ (hs3.below hb34) pa hpa
  have HS4 := hid (hs3.below hb34)
  have HPA := hid hpa
  have HL4 := hid (HQ.out _ (Below.refl _ _)).2.2.2.2.2
  have HW4 : Hid (w4 = (w3.alloc (.cells #[.int .u8 0, .int .u16 0, .bool false, .bool false, .int .i64 0, .int .u8 0, .int .u8 0, .int .u32 0, .int .u32 0, .slice none 0 0, .slice none 0 0] 29)).setCells w3.heap.size 0 pa.toList) := hw4
  have HB14 := hid hb14
  rw [← hpa]
  clear hpa hw4 hs3 hb3 hb34 hb14 hr4 hlt4 HL1 HFT
  go_upto_region 2 with (first
    | (refine wpList_store_mid rfl 29 (.tmp 11) (.tmp 28) rfl w3.heap.size 0 pa rfl rfl HTA.out HZA.out HOA.out ?_)
    | fail)
  rw [← HW4.out]
  by_cases hq : AE = 0
  · subst hq
    obtain ⟨e1, e2, e3, e4, e5, e6, e7, e8⟩ := HAF.out rfl
    obtain ⟨hLD, hsrc⟩ := HSF.out rfl
    obtain ⟨rfl, rfl⟩ : H = mdH 0 f src ∧ BD = LD := by
      have := HPP.out
      rw [if_pos rfl, Prod.mk.injEq] at this
      exact this
    have hmd : (mdH 0 f src).Ok := ⟨by show 0 < 256; omega, by show 0 < 65536; omega, by show -9223372036854775808 ≤ (0 : Int) ∧ (0 : Int) ≤ 9223372036854775807; omega, by show 64 < 256; omega, by show 1 < 256; omega, hf, hsrc⟩
    have HAB : Hid (Calls Tryd.prog 23 #[.agg pa] w4 fun e w' => ∃ a1 n1 c1 a2 n2 c2, e = .returned (.tuple #[.agg (hdCells h (.slice a1 n1 c1)), .slice a2 n2 c2, .int .i64 0]) ∧ SeesB w' (.slice a1 n1 c1) h.opts ∧ SeesB w' (.slice a2 n2 c2) (B.take (min B.length 8)) ∧ Below w4.heap.size w4 w') := by
      unfold Hid
      rw [HPA.out]
      have := about_any (mdH 0 f src) (.slice none 0 0) (.slice a3 n3 c3) BD w4 hmd (sees_nil _) HS4.out (by show 0 ≤ 140737488355328; omega) (by omega) (HTB.out _ HB14.out).2
      rw [e1] at this
      exact this
    have HBU : Hid (∀ u, Below w4.heap.size w4 u → Calls Tryd.prog 13 #[.agg pa] u fun e w' => ∃ a2 c2, e = .returned (.tuple #[.slice a2 (48 + no + min nb 8) c2, .int .i64 0]) ∧ Below u.heap.size u w') := fun u hu => by
      rw [HPA.out]
      refine (build_code (mdH 0 f src) (.slice none 0 0) (.slice a3 n3 c3) BD u hmd (sees_nil _) (HS4.out.below hu) (by show 0 ≤ 140737488355328; omega) (by omega)).mono ?_
      rintro e w' ⟨a2, n2, c2, rfl, hs, hb⟩
      rw [e2]
      obtain ⟨ao', n', cap', hv, hn', _, _⟩ := hs.shape
      simp at hv
      obtain ⟨rfl, rfl, rfl⟩ := hv
      have hn2 : n2 = 48 + no + min nb 8 := by rw [hn'.out, e3, HNO.out, HNB.out]
      subst hn2
      exact ⟨a2, c2, rfl, hb⟩
    have HPR : Hid (∀ u, Below w4.heap.size w4 u → Calls Tryd.prog 26 #[.slice a3 n3 c3] u fun e w' => ∃ a2 n2 c2, e = .returned (.tuple #[.agg (ctCells FM (.slice a2 n2 c2)), .int .i64 0]) ∧ Below u.heap.size u w') := fun u hu => by
      refine (iparse_any _ BD u (HS4.out.below hu)).mono ?_
      rintro e w' ⟨a2, n2, c2, rfl, _, _, hb⟩
      rw [e4, e5]
      exact ⟨a2, n2, c2, rfl, hb⟩
    have HPF : Hid (∀ u, Calls Tryd.prog 15 #[.int .u32 (f : Int)] u fun e w' => e = .returned (.bool true) ∧ w' = u) := fun u => by have := plainL_any f u hf; rw [e6] at this; exact this
    have HPS : Hid (∀ u, Calls Tryd.prog 15 #[.int .u32 (src : Int)] u fun e w' => e = .returned (.bool true) ∧ w' = u) := fun u => by have := plainL_any src u hsrc; rw [e7] at this; exact this
    have HQ' : Hid (∀ u, Below w4.heap.size w4 u → u.cell? ⟨w3.heap.size, 2, none⟩ = some (.bool false) ∧ u.cell? ⟨w3.heap.size, 5, none⟩ = some (.int .u8 64) ∧ u.cell? ⟨w3.heap.size, 7, none⟩ = some (.int .u32 (f : Int)) ∧ u.cell? ⟨w3.heap.size, 8, none⟩ = some (.int .u32 (src : Int)) ∧ u.cell? ⟨w3.heap.size, 10, none⟩ = some (.slice a3 n3 c3) ∧ (Instr.loadAt 29 (.pointer (some ⟨w3.heap.size, 0, none⟩))).run Tryd.prog u = .ok (.agg pa) u) := HQ.out
    clear e1 e2 e3 e4 e5 e6 e7 e8 hmd HSAME HAF HSF HPP HQ HPA HTB hLD hsrc
    go_upto_region 4 with fail
    go_wp2_with (first | (refine wpList_ld 29 ⟨w3.heap.size, 0, none⟩ (.tmp 11) rfl rfl HL4.out rfl ?_) | fail)
    refine HAB.out.mono ?_
    rintro _ w5 ⟨a5, n5, c5, a6, n6, c6, rfl, hs5, hs6, hb5⟩
    obtain ⟨pb, hpb⟩ : ∃ pb : Array Value, pb = hdCells h (.slice a5 n5 c5) := ⟨_, rfl⟩
    obtain ⟨w6, hw6⟩ : ∃ w6, w6 = (w5.alloc (.cells zeroHC 27)).setCells w5.heap.size 0 pb.toList := ⟨_, rfl⟩
    have HZB : Hid ((Tryd.prog.info? 27).map (·.size) = some pb.size) := by unfold Hid; rw [hpb]; exact size_hd
    have HOB : Hid (pb.all (·.oneCell') = true) := by unfold Hid; rw [hpb]; exact hd_one _ _ _ _
    obtain ⟨htb, hb56, hrg6, hlt5⟩ : (w5.alloc (.cells zeroHC 27)).there w5.heap.size 0 pb.size ∧ Below w5.heap.size w5 w6 ∧ w6.rangeAt w5.heap.size 0 pb.toList ∧ w5.heap.size < w6.heap.size := by
      have hn := new_put (u := w5) (T := 27) (Z := zeroHC) (pa := pb) (by rw [hpb]; rfl)
      rw [← hw6] at hn
      exact ⟨new_there (by rw [hpb]; rfl), hn.below, hn.range, hn.lt⟩
    have HTB6 := hid htb
    have hb46 := hb5.trans (hb56.mono hb5.size)
    have hb16 := HB14.out.trans (hb46.mono HB14.out.size)
    have HLB := hid (load_range (T := 27) hrg6 und27 HZB.out)
    have HLH := hid (HC.out _ hb16).2.2.2
    obtain ⟨_, _, q10, _⟩ := HC.out _ hb16
    have HHS : Hid (Calls Tryd.prog 24 #[.agg pb, .agg (hdCells h (.slice ao no capo))] w6 fun e w' => e = .returned (.bool true) ∧ Below w6.heap.size w6 w') := by
      unfold Hid
      rw [hpb]
      exact heads_same h _ _ w6 (hs5.below hb56) (HVS.out _ hb16).1
    have HV6 := hid (HVS.out _ hb16).2
    have HSM : Hid (∀ (m : Nat), m = min nb 8 → ∀ u, Below w6.heap.size w6 u → Calls Tryd.prog 25 #[.slice a6 n6 c6, .slice ab m capb] u fun e w' => e = .returned (.bool true) ∧ Below u.heap.size u w') := fun m hm u hu => by
      have hm' : min B.length 8 = m := by rw [hm, HNB.out]
      have h1 := hs6.below hb56
      rw [hm'] at h1
      have := same_any (.slice a6 n6 c6) (.slice ab m capb) (B.take m) (B.take m) u (h1.below hu) ((HV6.out.takeS m (by omega)).below hu)
      rw [decide_eq_true (rfl : B.take m = B.take m)] at this
      exact this
    have HW6 : Hid (w6 = (w5.alloc (.cells #[.int .u8 0, .int .u16 0, .bool false, .bool false, .int .i64 0, .int .u8 0, .int .u8 0, .int .u32 0, .int .u32 0, .slice none 0 0] 27)).setCells w5.heap.size 0 pb.toList) := hw6
    have HB46 := hid hb46
    have HB16 := hid hb16
    have HMF : Hid (FM.t = t ∧ FM.c = c) := HMT.out
    generalize hdCells h (.slice ao no capo) = hc0 at *
    rw [← hpb]
    clear hpb hw6 hs5 hs6 hb5 hb56 hrg6 hlt5 htb hb46 hb16 HAB HL4 HVS
    go_upto_region 5 with (first
      | (refine wpList_store_mid rfl 27 (.tmp 13) (.tmp 38) rfl w5.heap.size 0 pb rfl rfl HTB6.out HZB.out HOB.out ?_)
      | fail)
    rw [← HW6.out]
    by_cases h8 : 8 < nb
    · have HCUT := hid (cut_high ab nb capb 8 8 rfl (by omega) HV6.out)
      have hsm0 := HSM.out 8 (by omega)
      have HX := hid hsm0
      have hmm : min nb 8 = 8 := by omega
      clear hsm0 HSM HV6
      rw [hmm] at HBU
      go_upto_region 8 with fail
      go_wp2_with (first
        | (refine wpList_ld 27 ⟨w5.heap.size, 0, none⟩ (.tmp 13) rfl rfl HLB.out rfl ?_)
        | (refine wpList_ld 27 ⟨w.heap.size, 0, none⟩ (.tmp 50) rfl rfl HLH.out rfl ?_)
        | fail)
      refine HHS.out.mono ?_
      rintro _ w7 ⟨rfl, hb7⟩
      have hb17 := HB16.out.trans (hb7.mono HB16.out.size)
      obtain ⟨_, _, q10', _⟩ := HC.out _ hb17
      have hcut := HCUT.out
      have HX7 := hid (HX.out _ hb7)
      have HB7 := hid hb7
      clear q10 hb17 hb7 HX
      go_wp2_with fail
      refine HX7.out.mono ?_
      rintro _ w8 ⟨rfl, hb8⟩
      have hb68 := HB7.out.trans (hb8.mono HB7.out.size)
      have hb48 := HB46.out.trans (hb68.mono HB46.out.size)
      have HL8 := hid (HQ'.out _ hb48).2.2.2.2.2
      have HX8 := hid (HBU.out _ hb48)
      have HB48 := hid hb48
      clear q10' hb8 hb68 hb48 HX7 hcut HB7
      go_upto_region 10 with fail
      go_wp2_with (first | (refine wpList_ld 29 ⟨w3.heap.size, 0, none⟩ (.tmp 11) rfl rfl HL8.out rfl ?_) | fail)
      refine HX8.out.mono ?_
      rintro _ w9 ⟨a9, c9, rfl, hb9⟩
      have hb49 := HB48.out.trans (hb9.mono HB48.out.size)
      obtain ⟨_, _, _, _, r10, _⟩ := HQ'.out _ hb49
      have HX9 := hid (HPR.out _ hb49)
      have HB49 := hid hb49
      clear hb9 hb49 HX8 HL8
      go_upto_region 11 with fail
      go_wp2_with fail
      refine HX9.out.mono ?_
      rintro _ wa ⟨a7, n7, c7, rfl, hba⟩
      obtain ⟨pc, hpc⟩ : ∃ pc : Array Value, pc = ctCells FM (.slice a7 n7 c7) := ⟨_, rfl⟩
      obtain ⟨we, hwe⟩ : ∃ we, we = (wa.alloc (.cells zeroC 37)).setCells wa.heap.size 0 pc.toList := ⟨_, rfl⟩
      have HZC : Hid ((Tryd.prog.info? 37).map (·.size) = some pc.size) := by unfold Hid; rw [hpc]; exact size_ct
      have HOC : Hid (pc.all (·.oneCell') = true) := by unfold Hid; rw [hpc]; simp [ctCells, Value.oneCell']
      have HTC : Hid ((wa.alloc (.cells zeroC 37)).there wa.heap.size 0 pc.size) := by unfold Hid; rw [hpc]; exact there_blk (C := zeroC) (t := 37) (heap_alloc_new wa _) rfl
      have hre : we.heap[wa.heap.size]? = some (.cells (ctCells FM (.slice a7 n7 c7)) 37 (0, 0)) := by
        rw [hwe, hpc]
        have := heap_setCells_row (b := wa.heap.size) (T := 37) (ctCells FM (.slice a7 n7 c7)).toList 0 _ zeroC (heap_alloc_new wa (.cells zeroC 37))
        rwa [show wr zeroC 0 (ctCells FM (.slice a7 n7 c7)).toList = ctCells FM (.slice a7 n7 c7) by simp [wr, zeroC, ctCells]] at this
      have hbae : Below wa.heap.size wa we := by rw [hwe]; exact below_setCells (Nat.le_refl _) _ _ _ ((Below.refl _ _).alloc (Nat.le_refl _) _)
      have hb4a := HB49.out.trans (hba.mono HB49.out.size)
      have hb4e := hb4a.trans (hbae.mono hb4a.size)
      have hb1e := HB14.out.trans (hb4e.mono HB14.out.size)
      obtain ⟨d0, d1, _, _⟩ := ct_at hre
      rw [HMF.out.1] at d0
      rw [HMF.out.2] at d1
      obtain ⟨z2, z5, z7, z8, _, _⟩ := HQ'.out _ hb4e
      obtain ⟨p7, p9, _, _⟩ := HC.out _ hb1e
      have HWE : Hid (we = (wa.alloc (.cells #[.int .u8 0, .int .u8 0, .int .u32 0, .slice none 0 0] 37)).setCells wa.heap.size 0 pc.toList) := hwe
      have HB1E := hid hb1e
      rw [← hpc]
      clear hpc hwe hre hba hbae hb4a hb4e hb1e r10 HX9
      go_upto_region 12 with (first
        | (refine wpList_store_mid rfl 37 (.tmp 19) (.tmp 73) rfl wa.heap.size 0 pc rfl rfl HTC.out HZC.out HOC.out ?_)
        | fail)
      rw [← HWE.out]
      go_upto_region 14 with fail
      go_wp2_with fail
      refine (HPF.out _).mono ?_
      rintro _ wf ⟨rfl, rfl⟩
      go_wp2_with fail
      refine (HPS.out _).mono ?_
      rintro _ wg ⟨rfl, rfl⟩
      go_wp2_with fail
      go_ret
      exact ⟨rfl, HB1.out.trans (HB1E.out.mono HB1.out.size)⟩
    · have HCUT := hid (cut_high ab nb capb nb (nb : Int) rfl (by omega) HV6.out)
      have hsm0 := HSM.out nb (by omega)
      have HX := hid hsm0
      have hmm : min nb 8 = nb := by omega
      clear hsm0 HSM HV6
      rw [hmm] at HBU
      go_upto_region 8 with fail
      go_wp2_with (first
        | (refine wpList_ld 27 ⟨w5.heap.size, 0, none⟩ (.tmp 13) rfl rfl HLB.out rfl ?_)
        | (refine wpList_ld 27 ⟨w.heap.size, 0, none⟩ (.tmp 50) rfl rfl HLH.out rfl ?_)
        | fail)
      refine HHS.out.mono ?_
      rintro _ w7 ⟨rfl, hb7⟩
      have hb17 := HB16.out.trans (hb7.mono HB16.out.size)
      obtain ⟨_, _, q10', _⟩ := HC.out _ hb17
      have hcut := HCUT.out
      have HX7 := hid (HX.out _ hb7)
      have HB7 := hid hb7
      clear q10 hb17 hb7 HX
      go_wp2_with fail
      refine HX7.out.mono ?_
      rintro _ w8 ⟨rfl, hb8⟩
      have hb68 := HB7.out.trans (hb8.mono HB7.out.size)
      have hb48 := HB46.out.trans (hb68.mono HB46.out.size)
      have HL8 := hid (HQ'.out _ hb48).2.2.2.2.2
      have HX8 := hid (HBU.out _ hb48)
      have HB48 := hid hb48
      clear q10' hb8 hb68 hb48 HX7 hcut HB7
      go_upto_region 10 with fail
      go_wp2_with (first | (refine wpList_ld 29 ⟨w3.heap.size, 0, none⟩ (.tmp 11) rfl rfl HL8.out rfl ?_) | fail)
      refine HX8.out.mono ?_
      rintro _ w9 ⟨a9, c9, rfl, hb9⟩
      have hb49 := HB48.out.trans (hb9.mono HB48.out.size)
      obtain ⟨_, _, _, _, r10, _⟩ := HQ'.out _ hb49
      have HX9 := hid (HPR.out _ hb49)
      have HB49 := hid hb49
      clear hb9 hb49 HX8 HL8
      go_upto_region 11 with fail
      go_wp2_with fail
      refine HX9.out.mono ?_
      rintro _ wa ⟨a7, n7, c7, rfl, hba⟩
      obtain ⟨pc, hpc⟩ : ∃ pc : Array Value, pc = ctCells FM (.slice a7 n7 c7) := ⟨_, rfl⟩
      obtain ⟨we, hwe⟩ : ∃ we, we = (wa.alloc (.cells zeroC 37)).setCells wa.heap.size 0 pc.toList := ⟨_, rfl⟩
      have HZC : Hid ((Tryd.prog.info? 37).map (·.size) = some pc.size) := by unfold Hid; rw [hpc]; exact size_ct
      have HOC : Hid (pc.all (·.oneCell') = true) := by unfold Hid; rw [hpc]; simp [ctCells, Value.oneCell']
      have HTC : Hid ((wa.alloc (.cells zeroC 37)).there wa.heap.size 0 pc.size) := by unfold Hid; rw [hpc]; exact there_blk (C := zeroC) (t := 37) (heap_alloc_new wa _) rfl
      have hre : we.heap[wa.heap.size]? = some (.cells (ctCells FM (.slice a7 n7 c7)) 37 (0, 0)) := by
        rw [hwe, hpc]
        have := heap_setCells_row (b := wa.heap.size) (T := 37) (ctCells FM (.slice a7 n7 c7)).toList 0 _ zeroC (heap_alloc_new wa (.cells zeroC 37))
        rwa [show wr zeroC 0 (ctCells FM (.slice a7 n7 c7)).toList = ctCells FM (.slice a7 n7 c7) by simp [wr, zeroC, ctCells]] at this
      have hbae : Below wa.heap.size wa we := by rw [hwe]; exact below_setCells (Nat.le_refl _) _ _ _ ((Below.refl _ _).alloc (Nat.le_refl _) _)
      have hb4a := HB49.out.trans (hba.mono HB49.out.size)
      have hb4e := hb4a.trans (hbae.mono hb4a.size)
      have hb1e := HB14.out.trans (hb4e.mono HB14.out.size)
      obtain ⟨d0, d1, _, _⟩ := ct_at hre
      rw [HMF.out.1] at d0
      rw [HMF.out.2] at d1
      obtain ⟨z2, z5, z7, z8, _, _⟩ := HQ'.out _ hb4e
      obtain ⟨p7, p9, _, _⟩ := HC.out _ hb1e
      have HWE : Hid (we = (wa.alloc (.cells #[.int .u8 0, .int .u8 0, .int .u32 0, .slice none 0 0] 37)).setCells wa.heap.size 0 pc.toList) := hwe
      have HB1E := hid hb1e
      rw [← hpc]
      clear hpc hwe hre hba hbae hb4a hb4e hb1e r10 HX9
      go_upto_region 12 with (first
        | (refine wpList_store_mid rfl 37 (.tmp 19) (.tmp 73) rfl wa.heap.size 0 pc rfl rfl HTC.out HZC.out HOC.out ?_)
        | fail)
      rw [← HWE.out]
      go_upto_region 14 with fail
      go_wp2_with fail
      refine (HPF.out _).mono ?_
      rintro _ wf ⟨rfl, rfl⟩
      go_wp2_with fail
      refine (HPS.out _).mono ?_
      rintro _ wg ⟨rfl, rfl⟩
      go_wp2_with fail
      go_ret
      exact ⟨rfl, HB1.out.trans (HB1E.out.mono HB1.out.size)⟩
  · have HX := hid (HSAME.out (by have := HPP.out; rw [if_neg hq] at this; exact this))
    clear HSAME HAF HSF HPP HQ HPA HTB
    go_upto_region 3 with fail
    go_wp2_with (first | (refine wpList_ld 29 ⟨w3.heap.size, 0, none⟩ (.tmp 11) rfl rfl HL4.out rfl ?_) | fail)
    refine HX.out.mono ?_
    rintro _ w5 ⟨rfl, hb5⟩
    go_wp2_with fail
    go_ret
    have hb15 := HB14.out.trans (hb5.mono HB14.out.size)
    exact ⟨rfl, HB1.out.trans (hb15.mono HB1.out.size)⟩
end Go.Proofs.YtcboenmmkaochaaDoor.N
