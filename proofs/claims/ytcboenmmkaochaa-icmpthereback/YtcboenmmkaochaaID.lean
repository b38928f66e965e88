/-
  icmp.Parse.
-/
import Derived.Test.YtcboenmmkaochaaIC
import Derived.Test.YtcboenmmkaochaaLW
namespace Go.Proofs.Ytcboenmmkaochaa.N
open Go.ChangeShapes Go.WideShapes Go.ChangeAt Go.RowKit
set_option maxHeartbeats 2000000
set_option maxRecDepth 100000

theorem size_ct : (Try.prog.info? 25).map (·.size) = some 4 := by kernel_rfl

theorem load_cell {w : World} {b : Nat} {pa : Array Value} {T : TypeId} {fs : Array Field} (h : w.there b 0 pa.size) (hu : Try.prog.underlying T = some (.struct fs)) (hi : (Try.prog.info? T).map (·.size) = some pa.size) :
    (loadVar T ⟨b, 0, none⟩).run Try.prog (w.setCells b 0 pa.toList) = .ok (.agg pa) (w.setCells b 0 pa.toList) :=
  run_loadVar_mid _ b 0 T pa.toList (.struct fs) (World.rangeAt_setCells_same w b 0 pa.toList (by rw [Array.length_toList]; exact h)) hu rfl (by rw [Array.length_toList]; exact hi)

def zeroC : Array Value := #[.int .u8 0, .int .u8 0, .int .u32 0, .slice none 0 0]

theorem iparse_bad (v : Value) (L : List Nat) (w : World) (hv : SeesB w v L) (he : Im.prE L ≠ 0) :
    Calls Try.prog 10 #[v] w fun e w' => e = .returned (.tuple #[.agg zeroC, .int .i64 (Im.prE L)]) ∧ Below w.heap.size w w' := by
  obtain ⟨zz, hzz⟩ : ∃ zz : Array Value, zz = zeroC := ⟨_, rfl⟩
  obtain ⟨w1, hw1⟩ : ∃ w1, w1 = w.alloc (.cells zeroC 25) := ⟨_, rfl⟩
  have hb1 : Below w.heap.size w w1 := by rw [hw1]; exact (Below.refl _ _).alloc (Nat.le_refl _) _
  have hs1 : w1.heap.size = w.heap.size + 1 := by rw [hw1]; simp
  have HTH : Hid (∀ u, Below w1.heap.size w1 u → u.there w.heap.size 0 zz.size) := fun u hu => by
    rw [hzz]
    refine there_blk (C := zeroC) (t := 25) ?_ rfl
    rw [hu.block _ (by omega), hw1]
    exact heap_alloc_new w _
  have HW1 : Hid (w1 = w.alloc (.cells #[.int .u8 0, .int .u8 0, .int .u32 0, .slice none 0 0] 25)) := hw1
  have HB1 := hid hb1
  have HZ : Hid (zz = #[.int .u8 0, .int .u8 0, .int .u32 0, .slice none 0 0]) := hzz
  have HONE : Hid (zz.all (·.oneCell') = true) := by unfold Hid; rw [hzz]; simp [zeroC, Value.oneCell']
  have HINF : Hid ((Try.prog.info? 25).map (·.size) = some zz.size) := by unfold Hid; rw [hzz]; exact size_ct
  obtain ⟨ao, n, cap, rfl, HN, hn1, hn2⟩ := hv.shape
  unfold maxLen at hn2
  rw [← hzz]
  have HLV : Hid (∀ u, Below w1.heap.size w1 u → (loadVar 25 ⟨w.heap.size, 0, none⟩).run Try.prog (u.setCells w.heap.size 0 zz.toList) = .ok (.agg zz) (u.setCells w.heap.size 0 zz.toList)) := fun u hu => load_cell (HTH.out u hu) Try.underlying25 HINF.out
  have HBF : Hid (∀ u, Below w1.heap.size w1 u → Below w.heap.size w (u.setCells w.heap.size 0 zz.toList)) := fun u hu => below_setCells (Nat.le_refl _) _ _ _ (HB1.out.trans (hu.mono HB1.out.size))
  have HPE : Hid (Im.prE L = if n < 8 then 30 else if 65515 < n then 37 else if M.csum L = 0 then 0 else 33) := by unfold Hid; rw [HN.out]; rfl
  by_cases h8 : n < 8
  · have HE : Hid (Im.prE L = 30) := by unfold Hid; rw [HPE.out, if_pos h8]
    have h0 := Below.refl w1.heap.size w1
    have HTZ := hid (HTH.out _ h0)
    have HLV := hid (HLV.out _ h0)
    have HBF := hid (HBF.out _ h0)
    clear hw1 hb1 hs1 hv he hzz HPE h0
    go_enter Try.func10, Try.ntmps10
    go_upto_region 1 with fail
    rw [← HW1.out]
    go_wp2_with (first
      | (refine wpList_store_mid rfl 25 (.tmp 2) (.tmp 9) rfl w.heap.size 0 zz rfl (by rw [HZ.out]; rfl) HTZ.out HINF.out HONE.out ?_)
      | fail)
    generalize w1.setCells w.heap.size 0 zz.toList = wf at HLV HBF ⊢
    refine bodyPost_ret (v := .tuple #[.agg zz, .int .i64 30]) (by simp [results, Try.results10, asAddr, HLV.out]) rfl ?_
    exact ⟨by rw [HE.out], HBF.out⟩
  · by_cases hB : 65515 < n
    · have HE : Hid (Im.prE L = 37) := by unfold Hid; rw [HPE.out, if_neg h8, if_pos hB]
      have h0 := Below.refl w1.heap.size w1
      have HTZ := hid (HTH.out _ h0)
      have HLV := hid (HLV.out _ h0)
      have HBF := hid (HBF.out _ h0)
      clear hw1 hb1 hs1 hv he hzz HPE h0
      go_enter Try.func10, Try.ntmps10
      go_upto_region 1 with fail
      rw [← HW1.out]
      go_wp2_with (first
        | (refine wpList_store_mid rfl 25 (.tmp 2) (.tmp 14) rfl w.heap.size 0 zz rfl (by rw [HZ.out]; rfl) HTZ.out HINF.out HONE.out ?_)
        | fail)
      generalize w1.setCells w.heap.size 0 zz.toList = wf at HLV HBF ⊢
      refine bodyPost_ret (v := .tuple #[.agg zz, .int .i64 37]) (by simp [results, Try.results10, asAddr, HLV.out]) rfl ?_
      exact ⟨by rw [HE.out], HBF.out⟩
    · have hc : M.csum L ≠ 0 := fun h => he (by rw [HPE.out, if_neg h8, if_neg hB, if_pos h])
      have HE : Hid (Im.prE L = 33) := by unfold Hid; rw [HPE.out, if_neg h8, if_neg hB, if_neg hc]
      have hs := seesBB_one (w := w1) rfl _ _ (hv.below hb1) 23
      have HSM0 := sum_code _ _ _ hs (by simp; have := HN.out; omega)
      rw [show [L].flatten = L by simp] at HSM0
      have HSM : Hid (Calls Try.prog 11 #[.slice (some ⟨w1.heap.size, 0, none⟩) 1 1] (w1.alloc (.cells #[.slice ao n cap] 23)) fun e w' => e = .returned (.int .u16 ((M.csum L : Nat) : Int)) ∧ Below w1.heap.size w1 w') := by
        refine HSM0.mono ?_
        rintro e w' ⟨rfl, hb⟩
        have hbA : Below w1.heap.size w1 (w1.alloc (.cells #[.slice ao n cap] 23)) := (Below.refl w1.heap.size w1).alloc (Nat.le_refl _) _
        exact ⟨rfl, hbA.trans (hb.mono hbA.size)⟩
      generalize M.csum L = s at *
      have hq : ((s : Int) != 0) = true := by simp; omega
      clear hw1 hb1 hs1 hv he hzz HPE hs HSM0 hc
      go_enter Try.func10, Try.ntmps10
      go_upto_region 1 with fail
      rw [← HW1.out]
      go_wp2_with fail
      refine HSM.out.mono ?_
      rintro _ w2 ⟨rfl, hb2⟩
      have HTZ := hid (HTH.out _ hb2)
      have HLV := hid (HLV.out _ hb2)
      have HBF := hid (HBF.out _ hb2)
      go_wp2_with (first
        | (refine wpList_store_mid rfl 25 (.tmp 2) (.tmp 20) rfl w.heap.size 0 zz rfl (by rw [HZ.out]; rfl) HTZ.out HINF.out HONE.out ?_)
        | fail)
      generalize w2.setCells w.heap.size 0 zz.toList = wf at HLV HBF ⊢
      refine bodyPost_ret (v := .tuple #[.agg zz, .int .i64 33]) (by simp [results, Try.results10, asAddr, HLV.out]) rfl ?_
      exact ⟨by rw [HE.out], HBF.out⟩

theorem sees_setI {w : World} {ao : Option Addr} {n cap b : Nat} {L : List Nat} {vs : List Value} (h : SeesB w (.slice ao n cap) L) (hne : ∀ a, ao = some a → a.block ≠ b) : SeesB (w.setCells b 0 vs) (.slice ao n cap) L := by
  obtain ⟨ao', cap', hv, h1, h2, h3⟩ := h
  simp at hv
  obtain ⟨rfl, hn, rfl⟩ := hv
  refine ⟨ao, cap, by rw [hn], h1, h2, fun j hj => ?_⟩
  obtain ⟨g, off, ha, hg, hc, hb⟩ := h3 j hj
  have hg' := hne _ ha
  have e := World.cell?_setCells_out b vs 0 w ⟨g, off + j, none⟩ (fun hb _ => absurd hb hg')
  exact ⟨g, off, ha, World.block_lt_of_cell? _ ⟨g, off + j, none⟩ (e.trans hc), e.trans hc, hb⟩

theorem idx_at (n cap g off m : Nat) (i : Int) (hi : i = (m : Int)) (hm : m < n) (u : World) : (Instr.indexAt 23 (.slice (some ⟨g, off, none⟩) n cap) (.int .i64 i)).run Try.prog u = .ok (.pointer (some ⟨g, off + m, none⟩)) u := by
  subst hi
  have hu : Try.prog.underlying 23 = some (.slice 5) := by kernel_rfl
  have hsz : (sizeOf 5).run Try.prog u = .ok 1 u := by kernel_rfl
  simp [Instr.indexAt, run_underlying hu, asIntOf, go_sem, hsz, Result.andThen]
  omega

theorem load_u8 {u : World} {p : Addr} {x : Int} (h : u.cell? p = some (.int .u8 x)) : (Instr.loadAt 5 (.pointer (some p))).run Try.prog u = .ok (.int .u8 x) u := by
  simp [Instr.loadAt, go_sem, h]

theorem build_ct (a b c : Int) (p : Option Addr) (n cap : Nat) (u : World) : (Instr.build 25 #[(0, .int .u8 a), (1, .int .u8 b), (2, .int .u32 c), (3, .slice p n cap)]).run Try.prog u = .ok (.agg #[.int .u8 a, .int .u8 b, .int .u32 c, .slice p n cap]) u := by
  simp [Instr.build, run_underlying Try.underlying25, go_sem]

theorem rest_drop (L : List Nat) : Im.rest4 L = (byt (L.drop 4) 0 * 256 + byt (L.drop 4) 1) * 65536 + (byt (L.drop 4) 2 * 256 + byt (L.drop 4) 3) := by
  unfold Im.rest4 Im.at0 byt
  simp only [List.getD_eq_getElem?_getD, List.getElem?_drop]

theorem iparse_good (v : Value) (L : List Nat) (w : World) (hv : SeesB w v L) (he : Im.prE L = 0) :
    Calls Try.prog 10 #[v] w fun e w' => ∃ g k, e = .returned (.tuple #[.agg (ctCells (Im.prC L) (.slice (some ⟨g, 0, none⟩) k k)), .int .i64 0]) ∧ SeesB w' (.slice (some ⟨g, 0, none⟩) k k) (Im.prC L).B ∧ w.heap.size ≤ g ∧ Below w.heap.size w w' := by
  have hC : Im.prC L = ⟨byt L 0, byt L 1, Im.rest4 L, L.drop 8⟩ := by unfold Im.prC; rw [if_pos he]; rfl
  rw [hC, rest_drop]
  obtain ⟨w1, hw1⟩ : ∃ w1, w1 = w.alloc (.cells zeroC 25) := ⟨_, rfl⟩
  have hb1 : Below w.heap.size w w1 := by rw [hw1]; exact (Below.refl _ _).alloc (Nat.le_refl _) _
  have hs1 : w1.heap.size = w.heap.size + 1 := by rw [hw1]; simp
  obtain ⟨ao, n, cap, rfl, HN, hn1, hn2⟩ := hv.shape
  unfold maxLen at hn2
  have h8 : 8 ≤ n ∧ n ≤ 65515 ∧ M.csum L = 0 := by
    rw [HN.out]
    unfold Im.prE at he
    split at he
    · cases he
    · split at he
      · cases he
      · split at he
        · omega
        · cases he
  obtain ⟨h8, hB, hc⟩ := h8
  have hs := seesBB_one (w := w1) rfl _ _ (hv.below hb1) 23
  have HSM0 := sum_code _ _ _ hs (by simp; have := HN.out; omega)
  rw [show [L].flatten = L by simp, hc] at HSM0
  have HSM : Hid (Calls Try.prog 11 #[.slice (some ⟨w1.heap.size, 0, none⟩) 1 1] (w1.alloc (.cells #[.slice ao n cap] 23)) fun e w' => e = .returned (.int .u16 0) ∧ Below w1.heap.size w1 w') := by
    refine HSM0.mono ?_
    rintro e w' ⟨rfl, hb⟩
    have hbA : Below w1.heap.size w1 (w1.alloc (.cells #[.slice ao n cap] 23)) := (Below.refl w1.heap.size w1).alloc (Nat.le_refl _) _
    exact ⟨rfl, hbA.trans (hb.mono hbA.size)⟩
  obtain ⟨k, hk⟩ : ∃ k, k = n - 8 := ⟨_, rfl⟩
  have hmk : ∀ u : World, (Instr.makeSlice 23 (.int .i64 ((n : Int) - 8)) (.int .i64 ((n : Int) - 8))).run Try.prog u = .ok (.slice (some ⟨u.heap.size, 0, none⟩) k k) (u.alloc (.cells (madeCells #[.int .u8 0] k) 5)) := by
    rw [show (n : Int) - 8 = (k : Int) by omega]
    exact make_bytes k (by omega)
  obtain ⟨a8, HS8, hl8⟩ := hv.low 8 8 rfl (by omega)
  obtain ⟨a4, HS4, hl4⟩ := hv.low 4 4 rfl (by omega)
  rw [show n - 8 = k by omega] at hl8 HS8
  obtain ⟨g0, off, rfl, hg0, hc0⟩ := hv.atB 0 (by omega)
  obtain ⟨g1, off1, he1, _, hc1⟩ := hv.atB 1 (by omega)
  simp at he1
  obtain ⟨rfl, rfl⟩ := he1
  have HKL : Hid ((L.drop 8).length = k) := by unfold Hid; rw [List.length_drop]; have := HN.out; omega
  have HK := hid hk
  have HRL := hid (show 4 ≤ (L.drop 4).length by rw [List.length_drop]; have := HN.out; omega)
  have HSV := hid hv
  have HW1 : Hid (w1 = w.alloc (.cells #[.int .u8 0, .int .u8 0, .int .u32 0, .slice none 0 0] 25)) := hw1
  have HB1 := hid hb1
  have HTH : Hid (∀ u, Below w1.heap.size w1 u → u.there w.heap.size 0 4) := fun u hu => by
    refine there_blk (C := zeroC) (t := 25) ?_ rfl
    rw [hu.block _ (by omega), hw1]
    exact heap_alloc_new w _
  rw [Nat.add_zero] at hc0
  have b0 : (0 : Int) < (n : Int) := by omega
  have b1 : (1 : Int) < (n : Int) := by omega
  have HS1 := hid hs1
  generalize byt L 0 = x0 at *
  generalize byt L 1 = x1 at *
  clear hw1 hb1 hs1 hv hs HSM0 hc hC he hk
  go_enter Try.func10, Try.ntmps10
  go_upto_region 1 with fail
  rw [← HW1.out]
  go_wp2_with fail
  refine HSM.out.mono ?_
  rintro _ w2 ⟨rfl, hb2⟩
  have HBW : Hid (∀ u, Below w1.heap.size w1 u → Below w.heap.size w u) := fun u hu => HB1.out.trans (hu.mono HB1.out.size)
  have HB2 := hid hb2
  clear hb2
  go_wp2_with (first | (refine wpList_copy_splice rfl (.tmp 25) (.tmp 27) 23 23 rfl 5 Try.underlying23 size5 _ _ k k k (cap - 8) rfl rfl w2.heap.size 0 (madeCells #[.int .u8 0] k).toList 5 ?c1 (bs (L.drop 8)) ?c2 ?c3 ?c4 ?c5 w2.heap.size w2 ?c6 ?c7 ?_) | fail)
  case c1 => rw [Array.toArray_toList]; exact heap_alloc_new w2 _
  case c2 => show (bs _).length = min k k; rw [Nat.min_self, bs, List.length_map]; exact HKL.out
  case c3 => exact fun hp => (HS8.out.below (HBW.out _ (HB2.out.alloc HB2.out.size _))).src hp
  case c4 => rw [bs, List.length_map, HKL.out, Array.length_toList, size_madeCells]; omega
  case c5 => intro q hq; obtain ⟨y, _, rfl⟩ := List.mem_map.1 hq; rfl
  case c6 => exact (Below.refl _ _).alloc (Nat.le_refl _) _
  case c7 => exact Nat.le_refl _
  intro w3 HG hb3
  rw [splice_whole (by rw [bs, List.length_map, HKL.out, Array.length_toList, size_madeCells])] at HG
  have hb13 : Below w1.heap.size w1 w3 := HB2.out.trans (hb3.mono HB2.out.size)
  have hbw : Below w.heap.size w w3 := HBW.out _ hb13
  have HSB := hid (sees_blk (t := 5) HG.out HKL.out (by have := HK.out; omega) (fun x hx => HSV.out.bytes x (List.mem_of_mem_drop hx)))
  have d0 : w3.cell? ⟨g0, off, none⟩ = some (.int .u8 (x0 : Int)) := (hbw.cell (p := ⟨g0, _, none⟩) hg0).trans hc0
  have d1 : w3.cell? ⟨g0, off + 1, none⟩ = some (.int .u8 (x1 : Int)) := (hbw.cell (p := ⟨g0, _, none⟩) hg0).trans hc1
  obtain ⟨r, hr⟩ : ∃ r, r = (byt (L.drop 4) 0 * 256 + byt (L.drop 4) 1) * 65536 + (byt (L.drop 4) 2 * 256 + byt (L.drop 4) 3) := ⟨_, rfl⟩
  have HR := hid hr
  have HRD : Hid (∀ u, Below w3.heap.size w3 u → Calls Try.prog 15 #[.slice a4 (n - 4) (cap - 4)] u fun e w' => e = .returned (.int .u32 (r : Int)) ∧ Below u.heap.size u w') := fun u hu => by
    refine (iread32_any _ (L.drop 4) u (HS4.out.below (hbw.trans (hu.mono hbw.size))) HRL.out).mono ?_
    rintro e w' ⟨rfl, hb⟩
    rw [← HR.out]
    exact ⟨rfl, hb⟩
  have HB3 := hid hb3
  have HB13 := hid hb13
  clear hr hb3 hb13 hbw HG hc0 hc1 hmk hl8 HS8 HSM
  obtain ⟨zz, hzz⟩ : ∃ zz : Array Value, zz = #[.int .u8 (x0 : Int), .int .u8 (x1 : Int), .int .u32 (r : Int), .slice (some ⟨w2.heap.size, 0, none⟩) k k] := ⟨_, rfl⟩
  have HZ := hid hzz
  have HONE : Hid (zz.all (·.oneCell') = true) := by unfold Hid; rw [hzz]; simp [Value.oneCell']
  have HINF : Hid ((Try.prog.info? 25).map (·.size) = some zz.size) := by unfold Hid; rw [hzz]; exact size_ct
  have HTZ : Hid (∀ u, Below w3.heap.size w3 u → u.there w.heap.size 0 zz.size) := fun u hu => by
    rw [hzz]; exact HTH.out _ (HB13.out.trans (hu.mono HB13.out.size))
  have HEND : Hid (∀ u, Below w3.heap.size w3 u → (loadVar 25 ⟨w.heap.size, 0, none⟩).run Try.prog (u.setCells w.heap.size 0 zz.toList) = .ok (.agg zz) (u.setCells w.heap.size 0 zz.toList) ∧ Below w.heap.size w (u.setCells w.heap.size 0 zz.toList) ∧ SeesB (u.setCells w.heap.size 0 zz.toList) (.slice (some ⟨w2.heap.size, 0, none⟩) k k) (L.drop 8)) := fun u hu => by
    have hb := HB13.out.trans (hu.mono HB13.out.size)
    refine ⟨load_cell (HTZ.out u hu) Try.underlying25 HINF.out, below_setCells (Nat.le_refl _) _ _ _ (HBW.out _ hb), ?_⟩
    refine sees_setI (HSB.out.below hu) (fun a ha => ?_)
    cases ha
    have := HB2.out.size
    have := HS1.out
    show w2.heap.size ≠ w.heap.size
    omega
  clear hzz HTH
  go_upto_region 9 with fail
  refine wp_region_mono' 11 (fun i => 29 + i) (Vs [.slice (some ⟨g0, off, none⟩) n cap, .pointer (some ⟨g0, off, none⟩), .int .u8 (x0 : Int), .slice (some ⟨g0, off, none⟩) n cap, .pointer (some ⟨g0, off + 1, none⟩), .int .u8 (x1 : Int), .slice (some ⟨g0, off, none⟩) n cap, .slice a4 (n - 4) (cap - 4), .int .u32 (r : Int), .slice (some ⟨w2.heap.size, 0, none⟩) k k, .agg zz]) (by kernel_rfl) (by kernel_rfl) (Vs.keeps _) ?_ ?_
  · simp only [List.take_succ_cons, List.take_zero, stepsOk]
    refine ⟨?_, ?_, ?_, ?_, ?_, ?_, ?_, ?_, ?_, ?_, ?_, trivial⟩
    · intro a u vs hb hold hdep
      exact wp_still (ex_move (.tmp 0) _ rfl (hold 0 (fun j _ => low (by decide)))) rfl rfl hb
    · intro a u vs hb hold hdep
      exact wp_still (ex_index _ _ _ _ _ _ rfl (Vs.dep (hdep ⟨0, .data⟩ (by simp) rfl (by decide)) rfl) rfl (idx_at n cap g0 off 0 0 rfl (by omega) u)) rfl rfl hb
    · intro a u vs hb hold hdep
      refine wp_still (ex_load _ _ _ _ rfl (Vs.dep (hdep ⟨1, .data⟩ (by simp) rfl (by decide)) rfl) (load_u8 ((hb.cell (p := ⟨g0, _, none⟩) (World.block_lt_of_cell? w3 _ d0)).trans d0))) rfl rfl hb
    · intro a u vs hb hold hdep
      exact wp_still (ex_move (.tmp 0) _ rfl (hold 0 (fun j _ => low (by decide)))) rfl rfl hb
    · intro a u vs hb hold hdep
      exact wp_still (ex_index _ _ _ _ _ _ rfl (Vs.dep (hdep ⟨3, .data⟩ (by simp) rfl (by decide)) rfl) rfl (idx_at n cap g0 off 1 1 rfl (by omega) u)) rfl rfl hb
    · intro a u vs hb hold hdep
      refine wp_still (ex_load _ _ _ _ rfl (Vs.dep (hdep ⟨4, .data⟩ (by simp) rfl (by decide)) rfl) (load_u8 ((hb.cell (p := ⟨g0, _, none⟩) (World.block_lt_of_cell? w3 _ d1)).trans d1))) rfl rfl hb
    · intro a u vs hb hold hdep
      exact wp_still (ex_move (.tmp 0) _ rfl (hold 0 (fun j _ => low (by decide)))) rfl rfl hb
    · intro a u vs hb hold hdep
      exact wp_still (ex_cut _ _ _ _ _ _ rfl (Vs.dep (hdep ⟨6, .data⟩ (by simp) rfl (by decide)) rfl) rfl (hl4 u)) rfl rfl hb
    · intro a u vs hb hold hdep
      have e1 : a.eval (.tmp 36) = .slice a4 (n - 4) (cap - 4) := Vs.dep (hdep ⟨7, .data⟩ (by simp) rfl (by decide)) rfl
      refine wp_call 15 _ _ rfl (enters_of Try.func15 (by kernel_rfl) rfl) #[.slice a4 (n - 4) (cap - 4)] (by simp only [List.map_toArray, List.map_cons, List.map_nil, e1]) ?_
      refine (HRD.out u hb).mono ?_
      rintro _ u' ⟨rfl, hb'⟩
      exact ⟨_, rfl, _, rfl, rfl, hb.trans (hb'.mono hb.size), hb'⟩
    · intro a u vs hb hold hdep
      exact wp_still (ex_move (.tmp 4) _ rfl (hold 4 (fun j _ => low (by decide)))) rfl rfl hb
    · intro a u vs hb hold hdep
      have e2 : a.eval (.tmp 31) = .int .u8 (x0 : Int) := Vs.dep (hdep ⟨2, .data⟩ (by simp) rfl (by decide)) rfl
      have e5 : a.eval (.tmp 34) = .int .u8 (x1 : Int) := Vs.dep (hdep ⟨5, .data⟩ (by simp) rfl (by decide)) rfl
      have e8 : a.eval (.tmp 37) = .int .u32 (r : Int) := Vs.dep (hdep ⟨8, .data⟩ (by simp) rfl (by decide)) rfl
      have e9 : a.eval (.tmp 38) = .slice (some ⟨w2.heap.size, 0, none⟩) k k := Vs.dep (hdep ⟨9, .data⟩ (by simp) rfl (by decide)) rfl
      refine wp_still (ex_build _ _ #[(0, .int .u8 (x0 : Int)), (1, .int .u8 (x1 : Int)), (2, .int .u32 (r : Int)), (3, .slice (some ⟨w2.heap.size, 0, none⟩) k k)] (.agg zz) rfl (by simp only [List.map_toArray, List.map_cons, List.map_nil, e2, e5, e8, e9]) ?_) rfl rfl hb
      rw [HZ.out]
      exact build_ct _ _ _ _ _ _ u
  intro vs u hb hF
  have e0 : vs 0 = .slice (some ⟨g0, off, none⟩) n cap := (Option.some.inj (hF 0 (by decide))).symm
  have e1 : vs 1 = .pointer (some ⟨g0, off, none⟩) := (Option.some.inj (hF 1 (by decide))).symm
  have e2 : vs 2 = .int .u8 (x0 : Int) := (Option.some.inj (hF 2 (by decide))).symm
  have e3 : vs 3 = .slice (some ⟨g0, off, none⟩) n cap := (Option.some.inj (hF 3 (by decide))).symm
  have e4 : vs 4 = .pointer (some ⟨g0, off + 1, none⟩) := (Option.some.inj (hF 4 (by decide))).symm
  have e5 : vs 5 = .int .u8 (x1 : Int) := (Option.some.inj (hF 5 (by decide))).symm
  have e6 : vs 6 = .slice (some ⟨g0, off, none⟩) n cap := (Option.some.inj (hF 6 (by decide))).symm
  have e7 : vs 7 = .slice a4 (n - 4) (cap - 4) := (Option.some.inj (hF 7 (by decide))).symm
  have e8 : vs 8 = .int .u32 (r : Int) := (Option.some.inj (hF 8 (by decide))).symm
  have e9 : vs 9 = .slice (some ⟨w2.heap.size, 0, none⟩) k k := (Option.some.inj (hF 9 (by decide))).symm
  have e10 : vs 10 = .agg zz := (Option.some.inj (hF 10 (by decide))).symm
  simp only [List.drop_succ_cons, List.drop_zero, puts, List.range, List.range.loop, List.foldr, if_true, Act.put, e0, e1, e2, e3, e4, e5, e6, e7, e8, e9, e10, Nat.reduceAdd, List.setIfInBounds_toArray, List.set_cons_succ, List.set_cons_zero]
  clear e0 e1 e2 e3 e4 e5 e6 e7 e8 e9 e10 hF
  have HTU := hid (HTZ.out u hb)
  obtain ⟨q1, q2, q3⟩ := HEND.out u hb
  have HLV := hid q1
  have HBF := hid q2
  have HSF := hid q3
  clear q1 q2 q3
  go_wp2_with (first
    | (refine wpList_store_mid rfl 25 (.tmp 2) (.tmp 39) rfl w.heap.size 0 zz rfl rfl HTU.out HINF.out HONE.out ?_)
    | fail)
  generalize u.setCells w.heap.size 0 zz.toList = wf at HLV HBF HSF ⊢
  refine bodyPost_ret (v := .tuple #[.agg zz, .int .i64 0]) (by simp [results, Try.results10, asAddr, HLV.out]) rfl ?_
  exact ⟨w2.heap.size, k, by rw [HZ.out, HR.out]; rfl, HSF.out, by have := HB2.out.size; have := HS1.out; omega, HBF.out⟩
end Go.Proofs.Ytcboenmmkaochaa.N
