/-
  weftref7.ParseUDP.
-/
import Derived.Test.YtcelcnafcfefhabTG
namespace Go.Proofs.Ytcelcnafcfefhab.N
open Go.ChangeShapes Go.WideShapes Go.ChangeAt Go.RowKit
set_option maxHeartbeats 8000000
set_option maxRecDepth 100000

theorem below_ext {w w' : World} {base : Nat} {v : Value} {L : List Nat} (h : OwnB w base v L) (hb : Below w.heap.size w w') : OwnB w' base v L := h.below hb

theorem OwnB.new {w : World} {base : Nat} {ao : Option Addr} {n cap : Nat} {L : List Nat} (h : OwnB w base (.slice ao n cap) L) : ∀ a, ao = some a → base ≤ a.block := fun a ha => by
  rcases h.2 with ⟨h1, _⟩ | ⟨g, cap', cur, h1, hb, _⟩
  · simp at h1
    rw [h1.1] at ha
    cases ha
  · simp at h1
    rw [h1.1] at ha
    cases ha
    exact hb

theorem parseUR_any (v : Value) (L : List Nat) (src dst : Nat) (w : World) (hv : SeesB w v L) (hs : src < 4294967296) (hd : dst < 4294967296) :
    Calls Try.prog 53 #[.int .u32 (src : Int), .int .u32 (dst : Int), v] w fun e w' => ∃ ao n cap, e = .returned (.tuple #[.agg (dgCells (Tn.puD src dst L) (.slice ao n cap)), .int .i64 (Tn.puE src dst L)]) ∧ SeesB w' (.slice ao n cap) (Tn.puD src dst L).B ∧ (∀ a, ao = some a → w.heap.size ≤ a.block) ∧ Below w.heap.size w w' := by
  obtain ⟨w1, hw1⟩ : ∃ w1, w1 = w.alloc (.cells zeroD 33) := ⟨_, rfl⟩
  have hs1 : w1.heap.size = w.heap.size + 1 := by rw [hw1]; simp
  have hb1 : Below w.heap.size w w1 := by rw [hw1]; exact (Below.refl _ _).alloc (Nat.le_refl _) _
  have hr1 : w1.heap[w.heap.size]? = some (.cells zeroD 33 (0, 0)) := by rw [hw1]; exact heap_alloc_new w _
  obtain ⟨ao, n, cap, rfl, HN, hn1, hn2⟩ := hv.shape
  unfold maxLen at hn2
  have HV1 := hid (hv.below hb1)
  have HBY := hid hv.bytes
  have HI : Hid (∀ zz : Array Value, zz.size = 3 → (Try.prog.info? 33).map (·.size) = some zz.size) := fun zz hz => by rw [hz]; kernel_rfl
  have HCE : Hid (∀ (zz : Array Value) (u : World), zz.size = 3 → Below w1.heap.size w1 u → u.there w.heap.size 0 zz.size ∧ (loadVar 33 ⟨w.heap.size, 0, none⟩).run Try.prog (u.setCells w.heap.size 0 zz.toList) = .ok (.agg zz) (u.setCells w.heap.size 0 zz.toList)) := fun zz u hz hb =>
    cell_end hr1 hb (by rw [hz]; rfl) Try.underlying33 rfl (HI.out zz hz)
  have HBW : Hid (∀ u, Below w1.heap.size w1 u → Below w.heap.size w u) := fun u hu => hb1.trans (hu.mono hb1.size)
  have HBF0 : Hid (∀ (zz : Array Value) (u : World), Below w1.heap.size w1 u → Below w.heap.size w (u.setCells w.heap.size 0 zz.toList)) := fun zz u hu => below_setCells' (Nat.le_refl _) _ _ _ (HBW.out u hu)
  have HW1 : Hid (w1 = w.alloc (.cells #[.int .u16 0, .int .u16 0, .slice none 0 0] 33)) := hw1
  obtain ⟨zz, hzz⟩ : ∃ zz : Array Value, zz = zeroD := ⟨_, rfl⟩
  have HZ : Hid (zz = #[.int .u16 0, .int .u16 0, .slice none 0 0]) := hzz
  have HZS : Hid (zz.size = 3) := by unfold Hid; rw [hzz]; rfl
  have HONE : Hid (zz.all (·.oneCell') = true) := by unfold Hid; rw [hzz]; simp [zeroD, Value.oneCell']
  have HZC : Hid (zz = dgCells Tn.none0 (.slice none 0 0)) := hzz
  have HINF := hid (HI.out zz HZS.out)
  have HS1 := hid hs1
  have HNU : Hid (∀ (p : Nat) (u : World), p + 2 ≤ n → Below w1.heap.size w1 u → Calls Try.prog 55 #[.slice ao n cap, .int .i64 (p : Int), .int .i64 2] u fun e w' => e = .returned (.int .i64 ((Tn.num2 L p : Nat) : Int)) ∧ Below u.heap.size u w') := fun p u hp hu => by
    have := numberR_any _ L p 2 u (HV1.out.below hu) (by omega) (by have := HN.out; omega)
    rw [numN_two] at this
    exact this
  have HN16 : Hid (∀ p, Tn.num2 L p < 65536) := fun p => by
    rw [num2_byt]
    have h1 := byt_lt HBY.out p
    have h2 := byt_lt HBY.out (p + 1)
    omega
  clear hzz hw1 hs1 hb1 hr1 hv
  by_cases hA : 65535 < n
  · have HE := hid (pu_bad (src := src) (dst := dst) (L := L) (e := 2) (by unfold Tn.puE; rw [if_pos (by have := HN.out; omega)]) (by decide))
    have hA' : (65535 : Int) < (n : Int) := by omega
    go_enter Try.func53, Try.ntmps53
    go_upto_region 1 with fail
    rw [← HW1.out]
    obtain ⟨q1, q2⟩ := HCE.out zz w1 HZS.out (Below.refl _ _)
    have HTU := hid q1
    have HLV := hid q2
    have HBF := hid (HBF0.out zz w1 (Below.refl _ _))
    clear q1 q2
    go_wp2_with (first
      | (refine wpList_store_mid rfl 33 (.tmp 6) (.tmp 17) rfl w.heap.size 0 zz rfl (by rw [HZ.out]; rfl) HTU.out HINF.out HONE.out ?_)
      | fail)
    generalize w1.setCells w.heap.size 0 zz.toList = wf at HLV HBF ⊢
    refine bodyPost_ret (v := .tuple #[.agg zz, .int .i64 2]) (by simp [results, Try.results53, asAddr, HLV.out]) rfl ?_
    rw [HE.out.1, HE.out.2]
    exact ⟨none, 0, 0, by rw [HZC.out], sees_nil _, (fun a ha => by cases ha), HBF.out⟩
  have hA' : ¬ (65535 : Int) < (n : Int) := by omega
  by_cases hB : n < 8
  · have HE := hid (pu_bad (src := src) (dst := dst) (L := L) (e := 72) (by unfold Tn.puE; rw [if_neg (by have := HN.out; omega), if_pos (by have := HN.out; omega)]) (by decide))
    have hB' : (n : Int) < 8 := by omega
    go_enter Try.func53, Try.ntmps53
    go_upto_region 1 with fail
    rw [← HW1.out]
    obtain ⟨q1, q2⟩ := HCE.out zz w1 HZS.out (Below.refl _ _)
    have HTU := hid q1
    have HLV := hid q2
    have HBF := hid (HBF0.out zz w1 (Below.refl _ _))
    clear q1 q2
    go_wp2_with (first
      | (refine wpList_store_mid rfl 33 (.tmp 6) (.tmp 21) rfl w.heap.size 0 zz rfl (by rw [HZ.out]; rfl) HTU.out HINF.out HONE.out ?_)
      | fail)
    generalize w1.setCells w.heap.size 0 zz.toList = wf at HLV HBF ⊢
    refine bodyPost_ret (v := .tuple #[.agg zz, .int .i64 72]) (by simp [results, Try.results53, asAddr, HLV.out]) rfl ?_
    rw [HE.out.1, HE.out.2]
    exact ⟨none, 0, 0, by rw [HZC.out], sees_nil _, (fun a ha => by cases ha), HBF.out⟩
  have hB' : ¬ (n : Int) < 8 := by omega
  have X1 := hid (HNU.out 4 w1 (by omega) (Below.refl _ _))
  have HPE : Hid (Tn.puE src dst L = if Tn.num2 L 4 < 8 ∨ n < Tn.num2 L 4 then 72 else if Tn.num2 L 6 ≠ 0 ∧ M.csum (Tn.cov src dst L (Tn.num2 L 4)) ≠ 0 then 73 else 0) := by
    unfold Hid Tn.puE
    rw [if_neg (by have := HN.out; omega), if_neg (by have := HN.out; omega), ← HN.out]
  have hlen16 : Tn.num2 L 4 < 65536 := HN16.out 4
  have HPD : Hid (Tn.puE src dst L = 0 → Tn.puD src dst L = ⟨Tn.num2 L 0, Tn.num2 L 2, (L.take (Tn.num2 L 4)).drop 8⟩) := fun h => by unfold Tn.puD; rw [if_pos h]
  obtain ⟨len, hlen⟩ : ∃ len, len = Tn.num2 L 4 := ⟨_, rfl⟩
  rw [← hlen] at X1 HPE hlen16 HPD
  by_cases hC : len < 8
  · have HE := hid (pu_bad (src := src) (dst := dst) (L := L) (e := 72) (by rw [HPE.out, if_pos (.inl hC)]) (by decide))
    have hC' : (len : Int) < 8 := by omega
    go_enter Try.func53, Try.ntmps53
    go_upto_region 1 with fail
    rw [← HW1.out]
    go_wp2_with fail
    refine X1.out.mono ?_
    rintro _ w2 ⟨rfl, hb2⟩
    obtain ⟨q1, q2⟩ := HCE.out zz w2 HZS.out hb2
    have HTU := hid q1
    have HLV := hid q2
    have HBF := hid (HBF0.out zz w2 hb2)
    clear q1 q2
    go_wp2_with (first
      | (refine wpList_store_mid rfl 33 (.tmp 6) (.tmp 32) rfl w.heap.size 0 zz rfl (by rw [HZ.out]; rfl) HTU.out HINF.out HONE.out ?_)
      | fail)
    generalize w2.setCells w.heap.size 0 zz.toList = wf at HLV HBF ⊢
    refine bodyPost_ret (v := .tuple #[.agg zz, .int .i64 72]) (by simp [results, Try.results53, asAddr, HLV.out]) rfl ?_
    rw [HE.out.1, HE.out.2]
    exact ⟨none, 0, 0, by rw [HZC.out], sees_nil _, (fun a ha => by cases ha), HBF.out⟩
  have hC' : ¬ (len : Int) < 8 := by omega
  by_cases hD : n < len
  · have HE := hid (pu_bad (src := src) (dst := dst) (L := L) (e := 72) (by rw [HPE.out, if_pos (.inr hD)]) (by decide))
    have hD' : (n : Int) < (len : Int) := by omega
    go_enter Try.func53, Try.ntmps53
    go_upto_region 1 with fail
    rw [← HW1.out]
    go_wp2_with fail
    refine X1.out.mono ?_
    rintro _ w2 ⟨rfl, hb2⟩
    obtain ⟨q1, q2⟩ := HCE.out zz w2 HZS.out hb2
    have HTU := hid q1
    have HLV := hid q2
    have HBF := hid (HBF0.out zz w2 hb2)
    clear q1 q2
    go_wp2_with (first
      | (refine wpList_store_mid rfl 33 (.tmp 6) (.tmp 32) rfl w.heap.size 0 zz rfl (by rw [HZ.out]; rfl) HTU.out HINF.out HONE.out ?_)
      | fail)
    generalize w2.setCells w.heap.size 0 zz.toList = wf at HLV HBF ⊢
    refine bodyPost_ret (v := .tuple #[.agg zz, .int .i64 72]) (by simp [results, Try.results53, asAddr, HLV.out]) rfl ?_
    rw [HE.out.1, HE.out.2]
    exact ⟨none, 0, 0, by rw [HZC.out], sees_nil _, (fun a ha => by cases ha), HBF.out⟩
  have hD' : ¬ (n : Int) < (len : Int) := by omega
  rw [if_neg (by omega)] at HPE
  have HX6 := hid (fun (u : World) (hu : Below w1.heap.size w1 u) => HNU.out 6 u (by omega) hu)
  have HX0 := hid (fun (u : World) (hu : Below w1.heap.size w1 u) => HNU.out 0 u (by omega) hu)
  have HX2 := hid (fun (u : World) (hu : Below w1.heap.size w1 u) => HNU.out 2 u (by omega) hu)
  have HCO : Hid (∀ u, Below w1.heap.size w1 u → Calls Try.prog 72 #[.int .u32 (src : Int), .int .u32 (dst : Int), .slice ao n cap, .int .i64 (len : Int)] u fun e w' => ∃ l', e = .returned l' ∧ OwnB w' u.heap.size l' (Tn.cov src dst L len) ∧ Below u.heap.size u w') := fun u hu =>
    coveredR_any src dst len _ L u hs hd (HV1.out.below hu) (by have := HN.out; omega) hlen16
  have HJO : Hid (∀ u, Below w1.heap.size w1 u → Calls Try.prog 44 #[.slice none 0 0, .slice ao n cap, .int .i64 8, .int .i64 (len : Int)] u fun e w' => ∃ a2 n2 c2, e = .returned (.slice a2 n2 c2) ∧ SeesB w' (.slice a2 n2 c2) ((L.take len).drop 8) ∧ (∀ a, a2 = some a → u.heap.size ≤ a.block) ∧ Below u.heap.size u w') := fun u hu => by
    refine (joinedR_any (.slice none 0 0) _ [] L 8 len u u (Below.refl _ _) (ownB_nil _ _) (HV1.out.below hu) (by omega) (by have := HN.out; omega) (by simp; omega)).mono ?_
    rintro e w' ⟨l', rfl, ho, hb⟩
    rw [List.nil_append] at ho
    have hsee := ho.sees (fun x hx => HBY.out x (List.mem_of_mem_take (List.mem_of_mem_drop hx)))
    obtain ⟨a2, n2, c2, rfl, _, _, _⟩ := hsee.shape
    exact ⟨a2, n2, c2, rfl, hsee, ho.new, hb⟩
  have hcb : ∀ y ∈ Tn.cov src dst L len, y < 256 := fun y hy => by
    simp only [Tn.cov, Tn.be4, Tn.be2, List.mem_append, List.mem_cons, List.not_mem_nil, or_false] at hy
    rcases hy with (((h | h) | h) | h) | h
    · omega
    · omega
    · omega
    · omega
    · exact HBY.out y (List.mem_of_mem_take h)
  have HSM : Hid (∀ (a7 : Option Addr) (n7 c7 : Nat) (w7 : World), SeesB w7 (.slice a7 n7 c7) (Tn.cov src dst L len) → Calls Try.prog 73 #[.slice (some ⟨w7.heap.size, 0, none⟩) 1 1] (w7.alloc (.cells #[.slice a7 n7 c7] 29)) fun e w' => e = .returned (.int .u16 ((M.csum (Tn.cov src dst L len) : Nat) : Int)) ∧ Below w7.heap.size w7 w') := fun a7 n7 c7 w7 hs7 => by
    have hbb := seesBB_one (w := w7) rfl _ _ hs7 29
    have HSM0 := sum_ref _ _ _ hbb (by simp [Tn.cov_len]; omega)
    rw [show [Tn.cov src dst L len].flatten = Tn.cov src dst L len by simp] at HSM0
    refine HSM0.mono ?_
    rintro e w' ⟨rfl, hb⟩
    have hbA : Below w7.heap.size w7 (w7.alloc (.cells #[.slice a7 n7 c7] 29)) := (Below.refl w7.heap.size w7).alloc (Nat.le_refl _) _
    exact ⟨rfl, hbA.trans (hb.mono hbA.size)⟩
  have hcl := M.csum_lt (Tn.cov src dst L len)
  have HCB := hid hcb
  have hm0 := HN16.out 0
  have hm2 := HN16.out 2
  have hm6 := HN16.out 6
  clear hlen hcb HNU HN16
  generalize M.csum (Tn.cov src dst L len) = cs at *
  generalize (L.take len).drop 8 = B at *
  generalize Tn.cov src dst L len = CV at *
  generalize Tn.num2 L 6 = m6 at *
  generalize Tn.num2 L 0 = m0 at *
  generalize Tn.num2 L 2 = m2 at *
  go_enter Try.func53, Try.ntmps53
  go_upto_region 1 with fail
  rw [← HW1.out]
  go_wp2_with fail
  refine X1.out.mono ?_
  rintro _ w2 ⟨rfl, hb2⟩
  have X6 := hid (HX6.out w2 hb2)
  have HB2 := hid hb2
  clear hb2 X1
  go_wp2_with fail
  refine X6.out.mono ?_
  rintro _ w3 ⟨rfl, hb3⟩
  have HB3 := hid (HB2.out.trans (hb3.mono HB2.out.size))
  clear hb3 X6
  by_cases hU : m6 ≠ 0 ∧ cs ≠ 0
  · obtain ⟨hm6, hc0⟩ := hU
    have HE := hid (pu_bad (src := src) (dst := dst) (L := L) (e := 73) (by rw [HPE.out, if_pos ⟨hm6, hc0⟩]) (by decide))
    have r1 : ((m6 : Int) == 0) = false := by simp; omega
    have r2 : ((cs : Int) == 0) = false := by simp; omega
    have r3 : ¬ (m6 : Int) = 0 := by omega
    have r4 : ¬ (cs : Int) = 0 := by omega
    have r5 : ((cs : Int) != 0) = true := by simp; omega
    have r6 : ((m6 : Int) != 0) = true := by simp; omega
    go_wp2_with fail
    refine (HCO.out _ HB3.out).mono ?_
    rintro _ w4 ⟨l4, rfl, ho4, hb4⟩
    have hs4 := ho4.sees HCB.out
    obtain ⟨a4, n4, c4, rfl, _, _, _⟩ := hs4.shape
    have X7 := hid (HSM.out a4 n4 c4 w4 hs4)
    have HB4 := hid (HB3.out.trans (hb4.mono HB3.out.size))
    clear hb4 hs4 ho4
    go_wp2_with fail
    refine X7.out.mono ?_
    rintro _ w5 ⟨rfl, hb5⟩
    have hb15 := HB4.out.trans (hb5.mono HB4.out.size)
    clear hb5 X7
    obtain ⟨q1, q2⟩ := HCE.out zz w5 HZS.out hb15
    have HTU := hid q1
    have HLV := hid q2
    have HBF := hid (HBF0.out zz w5 hb15)
    clear q1 q2
    go_wp2_with (first
      | (refine wpList_store_mid rfl 33 (.tmp 6) (.tmp 47) rfl w.heap.size 0 zz rfl (by rw [HZ.out]; rfl) HTU.out HINF.out HONE.out ?_)
      | fail)
    generalize w5.setCells w.heap.size 0 zz.toList = wf at HLV HBF ⊢
    refine bodyPost_ret (v := .tuple #[.agg zz, .int .i64 73]) (by simp [results, Try.results53, asAddr, HLV.out]) rfl ?_
    rw [HE.out.1, HE.out.2]
    exact ⟨none, 0, 0, by rw [HZC.out], sees_nil _, (fun a ha => by cases ha), HBF.out⟩
  have HPE2 : Hid (Tn.puE src dst L = 0) := by unfold Hid; rw [HPE.out, if_neg hU]
  have HD := hid (HPD.out HPE2.out)
  go_upto_if 36 with fail
  go_cut [10, 11] from 14 (fun _ _ wx => Hid (Below w1.heap.size w1 wx))
  case first =>
    by_cases hm6 : m6 = 0
    · subst hm6
      go_wp2_with fail
      go_meet
      case rel => exact HB3.out
    · have hc0 : cs = 0 := Decidable.byContradiction fun h => hU ⟨hm6, h⟩
      subst hc0
      have r1 : ((m6 : Int) == 0) = false := by simp; omega
      have r3 : ¬ (m6 : Int) = 0 := by omega
      have r6 : ((m6 : Int) != 0) = true := by simp; omega
      go_wp2_with fail
      refine (HCO.out _ HB3.out).mono ?_
      rintro _ w4 ⟨l4, rfl, ho4, hb4⟩
      have hs4 := ho4.sees HCB.out
      obtain ⟨a4, n4, c4, rfl, _, _, _⟩ := hs4.shape
      have X7 := hid (HSM.out a4 n4 c4 w4 hs4)
      have HB4 := hid (HB3.out.trans (hb4.mono HB3.out.size))
      clear hb4 hs4 ho4
      go_wp2_with fail
      refine X7.out.mono ?_
      rintro _ w5 ⟨rfl, hb5⟩
      have HB5 := hid (HB4.out.trans (hb5.mono HB4.out.size))
      clear hb5 X7
      go_wp2_with fail
      go_meet
      case rel => exact HB5.out
  case rest =>
  have HB5 := hcut
  obtain ⟨w5, hw5⟩ : ∃ w5, w5 = wc := ⟨_, rfl⟩
  rw [← hw5] at HB5 ⊢
  have X0 := hid (HX0.out w5 HB5.out)
  clear hw5 hcut HSM HCO HX6 HPE HPD HX0
  go_wp2_with fail
  refine X0.out.mono ?_
  rintro _ w6 ⟨rfl, hb6⟩
  have HB6 := hid (HB5.out.trans (hb6.mono HB5.out.size))
  have X2 := hid (HX2.out w6 HB6.out)
  clear hb6 X0 HX2
  go_wp2_with fail
  refine X2.out.mono ?_
  rintro _ w7 ⟨rfl, hb7⟩
  have HB7 := hid (HB6.out.trans (hb7.mono HB6.out.size))
  have XJ := hid (HJO.out w7 HB7.out)
  clear hb7 X2 HJO
  go_wp2_with fail
  refine XJ.out.mono ?_
  rintro _ w8 ⟨a8, n8, c8, rfl, hs8, hn8, hb8⟩
  have hb18 := HB7.out.trans (hb8.mono HB7.out.size)
  obtain ⟨yy, hyy⟩ : ∃ yy : Array Value, yy = dgCells ⟨m0, m2, B⟩ (.slice a8 n8 c8) := ⟨_, rfl⟩
  have HYY := hid hyy
  have HYL : Hid (yy = #[.int .u16 (m0 : Int), .int .u16 (m2 : Int), .slice a8 n8 c8]) := hyy
  have HYS : Hid (yy.size = 3) := by unfold Hid; rw [hyy]; rfl
  have HYO : Hid (yy.all (·.oneCell') = true) := by unfold Hid; rw [hyy]; simp [dgCells, Value.oneCell']
  have HYI := hid (HI.out yy HYS.out)
  obtain ⟨q1, q2⟩ := HCE.out yy w8 HYS.out hb18
  have HTU := hid q1
  have HLV := hid q2
  have HBF := hid (HBF0.out yy w8 hb18)
  have HNW : Hid (∀ a, a8 = some a → w.heap.size < a.block) := fun a ha => by have := hn8 a ha; have := HB7.out.size; have := HS1.out; omega
  have HSF := hid (sees_set' (b := w.heap.size) (vs := yy.toList) hs8 (fun a ha => by have := HNW.out a ha; omega))
  clear q1 q2 hyy hs8 hn8 hb8 hb18 XJ
  go_wp2_with (first
    | (refine wpList_store_mid rfl 33 (.tmp 6) (.tmp 59) rfl w.heap.size 0 yy rfl (by rw [HYL.out]; rfl) HTU.out HYI.out HYO.out ?_)
    | fail)
  generalize w8.setCells w.heap.size 0 yy.toList = wf at HLV HBF HSF ⊢
  refine bodyPost_ret (v := .tuple #[.agg yy, .int .i64 0]) (by simp [results, Try.results53, asAddr, HLV.out]) rfl ?_
  rw [HPE2.out, HD.out]
  exact ⟨_, _, _, by rw [HYY.out], HSF.out, (fun a ha => Nat.le_of_lt (HNW.out a ha)), HBF.out⟩
end Go.Proofs.Ytcelcnafcfefhab.N
