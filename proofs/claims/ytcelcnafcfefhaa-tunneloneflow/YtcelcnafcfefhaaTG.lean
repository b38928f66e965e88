/-
  tunnel.ParseUDP.
-/
import Derived.Test.YtcelcnafcfefhaaTF
namespace Go.Proofs.Ytcelcnafcfefhaa.N
open Go.ChangeShapes Go.WideShapes Go.ChangeAt Go.RowKit
set_option maxHeartbeats 8000000
set_option maxRecDepth 100000

theorem SeesB.highK {w : World} {ao : Option Addr} {n cap : Nat} {L : List Nat} (h : SeesB w (.slice ao n cap) L) (m : Nat) (kd : IntKind) (hm : m ≤ n) :
    SeesB w (.slice ao m cap) (L.take m) ∧ ∀ u : World, (Instr.sliceAt 25 (.slice ao n cap) none (some (.int kd (m : Int))) none).run Try.prog u = .ok (.slice ao m cap) u := by
  have h0 := h
  obtain ⟨ao1, cap1, hv, h1, h2, h3⟩ := h
  simp at hv
  obtain ⟨rfl, hlen, rfl⟩ := hv
  refine ⟨?_, fun u => ?_⟩
  · refine ⟨ao, cap, by rw [List.length_take]; congr 1; omega, ⟨by rw [List.length_take]; omega, h1.2⟩, h2, fun j hj => ?_⟩
    rw [List.length_take] at hj
    obtain ⟨g, off, ha, hg, hc, hb⟩ := h3 j (by omega)
    exact ⟨g, off, ha, hg, by rw [List.getElem_take]; exact hc, by rw [List.getElem_take]; exact hb⟩
  · have hu : Try.prog.underlying 25 = some (.slice (Try.prog.elem 25)) := by kernel_rfl
    have hsz : (sizeOf (Try.prog.elem 25)).run Try.prog u = .ok 1 u := by kernel_rfl
    rw [run_sliceAt_slice (h := hu), run_slice_h (ht := hu) (h0 := by omega) (h2 := by omega), hsz]
    simp [Result.andThen, sliced]
    intro _
    cases ao <;> simp [Addr.add]

theorem byt_mid {L : List Nat} {a b i : Nat} (h : a + i < b) : byt ((L.take b).drop a) i = byt L (a + i) := by
  unfold byt
  rw [List.getD_eq_getElem?_getD, List.getD_eq_getElem?_getD, List.getElem?_drop, List.getElem?_take_of_lt h]

theorem byt_drop {L : List Nat} {a i : Nat} : byt (L.drop a) i = byt L (a + i) := by
  unfold byt
  rw [List.getD_eq_getElem?_getD, List.getD_eq_getElem?_getD, List.getElem?_drop]

theorem num2_byt (L : List Nat) (i : Nat) : Tn.num2 L i = byt L i * 256 + byt L (i + 1) := rfl

/-- The number in two bytes of a list. -/
theorem read_mid (ao : Option Addr) (c : Nat) (L : List Nat) (a b : Nat) (hb : b = a + 2) (w : World) (hv : SeesB w (.slice ao 2 c) ((L.take b).drop a)) (hl : b ≤ L.length) :
    Calls Try.prog 27 #[.slice ao 2 c] w fun e w' => e = .returned (.int .u16 ((Tn.num2 L a : Nat) : Int)) ∧ w' = w := by
  have := tread16_any _ _ w hv (by rw [List.length_drop, List.length_take]; omega)
  rw [byt_mid (by omega), byt_mid (by omega)] at this
  exact this

def zeroD : Array Value := #[.int .u16 0, .int .u16 0, .slice none 0 0]

theorem cell_end {w1 u : World} {r : Nat} {Z zz : Array Value} {T t : TypeId} {d : TypeDesc} (hr : w1.heap[r]? = some (.cells Z t (0, 0))) (hb : Below w1.heap.size w1 u) (hz : zz.size = Z.size) (hu : Try.prog.underlying T = some d) (hd : d.isRow = true) (hi : (Try.prog.info? T).map (·.size) = some zz.size) :
    u.there r 0 zz.size ∧ (loadVar T ⟨r, 0, none⟩).run Try.prog (u.setCells r 0 zz.toList) = .ok (.agg zz) (u.setCells r 0 zz.toList) := by
  have hr2 := (hb.block r (Array.getElem?_eq_some_iff.1 hr).1).trans hr
  exact ⟨there_blk hr2 hz, load_row (row_put hr2 hz) hu hd hi⟩

theorem pu_bad {src dst : Nat} {L : List Nat} {e : Int} (h : Tn.puE src dst L = e) (he : e ≠ 0) : Tn.puE src dst L = e ∧ Tn.puD src dst L = Tn.none0 := ⟨h, by unfold Tn.puD; rw [if_neg (by rw [h]; exact he)]⟩

/-- What a drawn statement's operations give, a copy among them. -/
def FP (l : List Value) (mk : Value → Value) (B : List Nat) (base k : Nat) : Nat → Value → World → Prop
  | 8, v, w => ∃ g, v = .slice (some ⟨g, 0, none⟩) k k ∧ Blk w g B ∧ base ≤ g
  | 9, v, w => ∃ g, v = mk (.slice (some ⟨g, 0, none⟩) k k) ∧ Blk w g B ∧ base ≤ g
  | i, v, _ => l[i]? = some v

theorem FP.keeps (l : List Value) (mk : Value → Value) (B : List Nat) (base k : Nat) : ∀ (i : Nat) (v : Value) (w w' : World), FP l mk B base k i v w → Below w.heap.size w w' → FP l mk B base k i v w' := fun i v w w' h hb => by
  unfold FP at h ⊢
  split at h
  · obtain ⟨q, e, hs, hg⟩ := h; exact ⟨q, e, hs.below hb, hg⟩
  · obtain ⟨q, e, hs, hg⟩ := h; exact ⟨q, e, hs.below hb, hg⟩
  · exact h

theorem build_dg (s d : Int) (p : Option Addr) (n cap : Nat) (u : World) : (Instr.build 27 #[(0, .int .u16 s), (1, .int .u16 d), (2, .slice p n cap)]).run Try.prog u = .ok (.agg #[.int .u16 s, .int .u16 d, .slice p n cap]) u := by
  simp [Instr.build, run_underlying Try.underlying27, go_sem]

theorem build2 (v1 v2 : Value) (h1 : v1.cells = #[v1]) (h2 : v2.cells = #[v2]) (u : World) : (Instr.buildSlice 36 2 #[(0, v1), (1, v2)]).run Try.prog u = .ok (.slice (some ⟨u.heap.size, 0, none⟩) 2 2) (u.alloc (.cells #[v1, v2] 25)) := by
  obtain ⟨ie, hi, hz, hs⟩ := info25
  refine run_buildSlice u _ _ 2 _ _ ie _ Try.underlying36 hi hz (by rw [hs]; decide) (by rw [hs]; decide) ?_
  simp only [hs, Nat.mul_one, show Array.range 2 = #[0, 1] from rfl]
  simp [Instr.fill, h1, h2]

theorem parseU_any (v : Value) (L : List Nat) (src dst : Nat) (w : World) (hv : SeesB w v L) (hs : src < 4294967296) (hd : dst < 4294967296) :
    Calls Try.prog 11 #[.int .u32 (src : Int), .int .u32 (dst : Int), v] w fun e w' => ∃ ao n cap, e = .returned (.tuple #[.agg (dgCells (Tn.puD src dst L) (.slice ao n cap)), .int .i64 (Tn.puE src dst L)]) ∧ SeesB w' (.slice ao n cap) (Tn.puD src dst L).B ∧ (∀ a, ao = some a → w.heap.size ≤ a.block) ∧ Below w.heap.size w w' := by
  obtain ⟨w1, hw1⟩ : ∃ w1, w1 = w.alloc (.cells zeroD 27) := ⟨_, rfl⟩
  have hs1 : w1.heap.size = w.heap.size + 1 := by rw [hw1]; simp
  have hb1 : Below w.heap.size w w1 := by rw [hw1]; exact (Below.refl _ _).alloc (Nat.le_refl _) _
  have hr1 : w1.heap[w.heap.size]? = some (.cells zeroD 27 (0, 0)) := by rw [hw1]; exact heap_alloc_new w _
  obtain ⟨ao, n, cap, rfl, HN, hn1, hn2⟩ := hv.shape
  unfold maxLen at hn2
  have HV1 := hid (hv.below hb1)
  have HBY := hid hv.bytes
  have HI : Hid (∀ zz : Array Value, zz.size = 3 → (Try.prog.info? 27).map (·.size) = some zz.size) := fun zz hz => by rw [hz]; kernel_rfl
  have HCE : Hid (∀ (zz : Array Value) (u : World), zz.size = 3 → Below w1.heap.size w1 u → u.there w.heap.size 0 zz.size ∧ (loadVar 27 ⟨w.heap.size, 0, none⟩).run Try.prog (u.setCells w.heap.size 0 zz.toList) = .ok (.agg zz) (u.setCells w.heap.size 0 zz.toList)) := fun zz u hz hb =>
    cell_end hr1 hb (by rw [hz]; rfl) Try.underlying27 rfl (HI.out zz hz)
  have HBW : Hid (∀ u, Below w1.heap.size w1 u → Below w.heap.size w u) := fun u hu => hb1.trans (hu.mono hb1.size)
  have HBF0 : Hid (∀ (zz : Array Value) (u : World), Below w1.heap.size w1 u → Below w.heap.size w (u.setCells w.heap.size 0 zz.toList)) := fun zz u hu => below_setCells' (Nat.le_refl _) _ _ _ (HBW.out u hu)
  have HW1 : Hid (w1 = w.alloc (.cells #[.int .u16 0, .int .u16 0, .slice none 0 0] 27)) := hw1
  obtain ⟨zz, hzz⟩ : ∃ zz : Array Value, zz = zeroD := ⟨_, rfl⟩
  have HZ : Hid (zz = #[.int .u16 0, .int .u16 0, .slice none 0 0]) := hzz
  have HZS : Hid (zz.size = 3) := by unfold Hid; rw [hzz]; rfl
  have HONE : Hid (zz.all (·.oneCell') = true) := by unfold Hid; rw [hzz]; simp [zeroD, Value.oneCell']
  have HZC : Hid (zz = dgCells Tn.none0 (.slice none 0 0)) := hzz
  have HINF := hid (HI.out zz HZS.out)
  have HS1 := hid hs1
  clear hzz hw1 hs1 hb1 hr1 hv
  by_cases hA : 65535 < n
  · have HE := hid (pu_bad (src := src) (dst := dst) (L := L) (e := 2) (by unfold Tn.puE; rw [if_pos (by have := HN.out; omega)]) (by decide))
    have hA' : (65535 : Int) < (n : Int) := by omega
    go_enter Try.func11, Try.ntmps11
    go_upto_region 1 with fail
    rw [← HW1.out]
    obtain ⟨q1, q2⟩ := HCE.out zz w1 HZS.out (Below.refl _ _)
    have HTU := hid q1
    have HLV := hid q2
    have HBF := hid (HBF0.out zz w1 (Below.refl _ _))
    clear q1 q2
    go_wp2_with (first
      | (refine wpList_store_mid rfl 27 (.tmp 6) (.tmp 14) rfl w.heap.size 0 zz rfl (by rw [HZ.out]; rfl) HTU.out HINF.out HONE.out ?_)
      | fail)
    generalize w1.setCells w.heap.size 0 zz.toList = wf at HLV HBF ⊢
    refine bodyPost_ret (v := .tuple #[.agg zz, .int .i64 2]) (by simp [results, Try.results11, asAddr, HLV.out]) rfl ?_
    rw [HE.out.1, HE.out.2]
    exact ⟨none, 0, 0, by rw [HZC.out], sees_nil _, (fun a ha => by cases ha), HBF.out⟩
  have hA' : ¬ (65535 : Int) < (n : Int) := by omega
  by_cases hB : n < 8
  · have HE := hid (pu_bad (src := src) (dst := dst) (L := L) (e := 72) (by unfold Tn.puE; rw [if_neg (by have := HN.out; omega), if_pos (by have := HN.out; omega)]) (by decide))
    have hB' : (n : Int) < 8 := by omega
    go_enter Try.func11, Try.ntmps11
    go_upto_region 1 with fail
    rw [← HW1.out]
    obtain ⟨q1, q2⟩ := HCE.out zz w1 HZS.out (Below.refl _ _)
    have HTU := hid q1
    have HLV := hid q2
    have HBF := hid (HBF0.out zz w1 (Below.refl _ _))
    clear q1 q2
    go_wp2_with (first
      | (refine wpList_store_mid rfl 27 (.tmp 6) (.tmp 19) rfl w.heap.size 0 zz rfl (by rw [HZ.out]; rfl) HTU.out HINF.out HONE.out ?_)
      | fail)
    generalize w1.setCells w.heap.size 0 zz.toList = wf at HLV HBF ⊢
    refine bodyPost_ret (v := .tuple #[.agg zz, .int .i64 72]) (by simp [results, Try.results11, asAddr, HLV.out]) rfl ?_
    rw [HE.out.1, HE.out.2]
    exact ⟨none, 0, 0, by rw [HZC.out], sees_nil _, (fun a ha => by cases ha), HBF.out⟩
  have hB' : ¬ (n : Int) < 8 := by omega
  obtain ⟨a4, HS4, k4⟩ := HV1.out.mid 4 6 4 6 rfl rfl (by omega) (by omega)
  have X1 := hid (read_mid a4 (cap - 4) L 4 6 rfl w1 HS4.out (by have := HN.out; omega))
  have HPE : Hid (Tn.puE src dst L = if Tn.num2 L 4 < 8 ∨ n < Tn.num2 L 4 then 72 else if Tn.num2 L 6 ≠ 0 ∧ M.csum (Tn.cov src dst L (Tn.num2 L 4)) ≠ 0 then 73 else 0) := by
    unfold Hid Tn.puE
    rw [if_neg (by have := HN.out; omega), if_neg (by have := HN.out; omega), ← HN.out]
  have hlen16 : Tn.num2 L 4 < 65536 := by
    rw [num2_byt]
    have h1 := byt_lt HBY.out 4
    have h2 := byt_lt HBY.out (4 + 1)
    omega
  have HPD : Hid (Tn.puE src dst L = 0 → Tn.puD src dst L = ⟨Tn.num2 L 0, Tn.num2 L 2, (L.take (Tn.num2 L 4)).drop 8⟩) := fun h => by unfold Tn.puD; rw [if_pos h]
  obtain ⟨len, hlen⟩ : ∃ len, len = Tn.num2 L 4 := ⟨_, rfl⟩
  rw [← hlen] at X1 HPE hlen16 HPD
  by_cases hC : len < 8
  · have HE := hid (pu_bad (src := src) (dst := dst) (L := L) (e := 72) (by rw [HPE.out, if_pos (.inl hC)]) (by decide))
    have hC' : (len : Int) < 8 := by omega
    go_enter Try.func11, Try.ntmps11
    go_upto_region 1 with fail
    rw [← HW1.out]
    go_wp2_with fail
    refine X1.out.mono ?_
    rintro _ w2 ⟨rfl, rfl⟩
    obtain ⟨q1, q2⟩ := HCE.out zz w2 HZS.out (Below.refl _ _)
    have HTU := hid q1
    have HLV := hid q2
    have HBF := hid (HBF0.out zz w2 (Below.refl _ _))
    clear q1 q2
    go_wp2_with (first
      | (refine wpList_store_mid rfl 27 (.tmp 6) (.tmp 32) rfl w.heap.size 0 zz rfl (by rw [HZ.out]; rfl) HTU.out HINF.out HONE.out ?_)
      | fail)
    generalize w2.setCells w.heap.size 0 zz.toList = wf at HLV HBF ⊢
    refine bodyPost_ret (v := .tuple #[.agg zz, .int .i64 72]) (by simp [results, Try.results11, asAddr, HLV.out]) rfl ?_
    rw [HE.out.1, HE.out.2]
    exact ⟨none, 0, 0, by rw [HZC.out], sees_nil _, (fun a ha => by cases ha), HBF.out⟩
  have hC' : ¬ (len : Int) < 8 := by omega
  by_cases hD : n < len
  · have HE := hid (pu_bad (src := src) (dst := dst) (L := L) (e := 72) (by rw [HPE.out, if_pos (.inr hD)]) (by decide))
    have hD' : (n : Int) < (len : Int) := by omega
    go_enter Try.func11, Try.ntmps11
    go_upto_region 1 with fail
    rw [← HW1.out]
    go_wp2_with fail
    refine X1.out.mono ?_
    rintro _ w2 ⟨rfl, rfl⟩
    obtain ⟨q1, q2⟩ := HCE.out zz w2 HZS.out (Below.refl _ _)
    have HTU := hid q1
    have HLV := hid q2
    have HBF := hid (HBF0.out zz w2 (Below.refl _ _))
    clear q1 q2
    go_wp2_with (first
      | (refine wpList_store_mid rfl 27 (.tmp 6) (.tmp 32) rfl w.heap.size 0 zz rfl (by rw [HZ.out]; rfl) HTU.out HINF.out HONE.out ?_)
      | fail)
    generalize w2.setCells w.heap.size 0 zz.toList = wf at HLV HBF ⊢
    refine bodyPost_ret (v := .tuple #[.agg zz, .int .i64 72]) (by simp [results, Try.results11, asAddr, HLV.out]) rfl ?_
    rw [HE.out.1, HE.out.2]
    exact ⟨none, 0, 0, by rw [HZC.out], sees_nil _, (fun a ha => by cases ha), HBF.out⟩
  have hD' : ¬ (n : Int) < (len : Int) := by omega
  rw [if_neg (by omega)] at HPE
  obtain ⟨hvT, kT⟩ := HV1.out.highK len .u16 (by omega)
  have hlT : (L.take len).length = len := by rw [List.length_take, ← HN.out]; omega
  have hnum : ∀ i, i + 1 < len → Tn.num2 (L.take len) i = Tn.num2 L i := fun i hi => by
    rw [num2_byt, num2_byt]
    unfold byt
    rw [List.getD_eq_getElem?_getD, List.getD_eq_getElem?_getD, List.getD_eq_getElem?_getD, List.getD_eq_getElem?_getD, List.getElem?_take_of_lt (by omega), List.getElem?_take_of_lt hi]
  obtain ⟨a6, HS6, k6⟩ := hvT.mid 6 8 6 8 rfl rfl (by omega) (by omega)
  obtain ⟨a0, HS0, k0⟩ := hvT.mid 0 2 0 2 rfl rfl (by omega) (by omega)
  obtain ⟨a2, HS2, k2⟩ := hvT.mid 2 4 2 4 rfl rfl (by omega) (by omega)
  obtain ⟨a8, HS8, k8⟩ := hvT.low 8 8 rfl (by omega)
  have HPS := hid (fun u => pseudoOf_any src dst len u hs hd hlen16)
  have HX6 : Hid (∀ u, Below w1.heap.size w1 u → Calls Try.prog 27 #[.slice a6 2 (cap - 6)] u fun e w' => e = .returned (.int .u16 ((Tn.num2 L 6 : Nat) : Int)) ∧ w' = u) := fun u hu => by
    rw [← hnum 6 (by omega)]
    exact read_mid a6 (cap - 6) (L.take len) 6 8 rfl u (HS6.out.below hu) (by omega)
  have HX0 : Hid (∀ u, Below w1.heap.size w1 u → Calls Try.prog 27 #[.slice a0 2 cap] u fun e w' => e = .returned (.int .u16 ((Tn.num2 L 0 : Nat) : Int)) ∧ w' = u) := fun u hu => by
    rw [← hnum 0 (by omega)]
    exact read_mid a0 cap (L.take len) 0 2 rfl u (HS0.out.below hu) (by omega)
  have HX2 : Hid (∀ u, Below w1.heap.size w1 u → Calls Try.prog 27 #[.slice a2 2 (cap - 2)] u fun e w' => e = .returned (.int .u16 ((Tn.num2 L 2 : Nat) : Int)) ∧ w' = u) := fun u hu => by
    rw [← hnum 2 (by omega)]
    exact read_mid a2 (cap - 2) (L.take len) 2 4 rfl u (HS2.out.below hu) (by omega)
  have HLB : Hid (((L.take len).drop 8).length = len - 8) := by unfold Hid; rw [List.length_drop, hlT]
  have HX8 : Hid (∀ u, Below w1.heap.size w1 u → Calls Try.prog 28 #[.slice a8 (len - 8) (cap - 8)] u fun e w' => ∃ g, e = .returned (.slice (some ⟨g, 0, none⟩) (len - 8) (len - 8)) ∧ Blk w' g ((L.take len).drop 8) ∧ u.heap.size ≤ g ∧ Below u.heap.size u w') := fun u hu => by
    refine (copied_any _ _ u (HS8.out.below hu) (by rw [HLB.out]; omega)).mono ?_
    rintro e u' ⟨g, k, rfl, hk, hB, hg, hb⟩
    exact ⟨g, by rw [hk, HLB.out], hB, hg, hb⟩
  have HSP : Hid (∀ u, Below w1.heap.size w1 u → SeesB u (.slice ao len cap) (L.take len)) := fun u hu => hvT.below hu
  have hn0 : Tn.num2 L 0 < 65536 := by
    rw [num2_byt]
    have h1 := byt_lt HBY.out 0
    have h2 := byt_lt HBY.out (0 + 1)
    omega
  have hn2' : Tn.num2 L 2 < 65536 := by
    rw [num2_byt]
    have h1 := byt_lt HBY.out 2
    have h2 := byt_lt HBY.out (2 + 1)
    omega
  have hn6 : Tn.num2 L 6 < 65536 := by
    rw [num2_byt]
    have h1 := byt_lt HBY.out 6
    have h2 := byt_lt HBY.out (6 + 1)
    omega
  have HCV : Hid ([Tn.pseudo src dst len, L.take len].flatten = Tn.cov src dst L len) := by
    unfold Hid
    rw [Tn.cov_pseudo]
    simp
  have HCL : Hid ([Tn.pseudo src dst len, L.take len].flatten.length ≤ 1099511627776) := by
    unfold Hid
    rw [HCV.out, Tn.cov_len]
    omega
  have HSM : Hid (∀ (q : Value) (u : World), SeesBB u q [Tn.pseudo src dst len, L.take len] → Calls Try.prog 25 #[q] u fun e w' => e = .returned (.int .u16 ((M.csum (Tn.cov src dst L len) : Nat) : Int)) ∧ Below u.heap.size u w') := fun q u hq => by
    have := sum_code q _ u hq HCL.out
    rw [HCV.out] at this
    exact this
  have hcl := M.csum_lt (Tn.cov src dst L len)
  have HLEN := hid hlen
  have HLT : Hid (((L.take len).drop 8).length = len - 8) := HLB.out
  clear hvT hlT hnum hlen HS4 HS6 HS0 HS2 HS8 HLB HCV HCL
  generalize M.csum (Tn.cov src dst L len) = cs at *
  generalize hb8 : (L.take len).drop 8 = B at *
  have HB8 := hid hb8
  have HBYT : Hid (∀ x ∈ L.take len, x < 256) := fun x hx => HBY.out x (List.mem_of_mem_take hx)
  generalize hLT : L.take len = LT at *
  generalize Tn.num2 L 6 = m6 at *
  generalize Tn.num2 L 0 = m0 at *
  generalize Tn.num2 L 2 = m2 at *
  clear hb8 hLT HLEN
  have HBYB : Hid (∀ x ∈ B, x < 256) := fun x hx => by
    rw [← HB8.out] at hx
    exact HBYT.out x (List.mem_of_mem_drop hx)
  go_enter Try.func11, Try.ntmps11
  go_upto_region 1 with fail
  rw [← HW1.out]
  go_wp2_with fail
  refine X1.out.mono ?_
  rintro _ w2 ⟨rfl, rfl⟩
  go_wp2_with fail
  refine (HPS.out w2).mono ?_
  rintro _ w3 ⟨rfl, hb3⟩
  obtain ⟨pa, hpa⟩ : ∃ pa, pa = (bs (Tn.pseudo src dst len)).toArray := ⟨_, rfl⟩
  obtain ⟨p, hp⟩ : ∃ p, p = w3.heap.size := ⟨_, rfl⟩
  obtain ⟨w4, hw4⟩ : ∃ w4, w4 = (w3.alloc (.cells Z12 71)).setCells p 0 pa.toList := ⟨_, rfl⟩
  have hps : pa.size = 12 := by rw [hpa, bs_size]; rfl
  have HIP : Hid ((Try.prog.info? 71).map (·.size) = some pa.size) := by unfold Hid; rw [hps]; kernel_rfl
  have hrp : (w3.alloc (.cells Z12 71)).heap[p]? = some (.cells Z12 71 (0, 0)) := by rw [hp]; exact heap_alloc_new w3 _
  have HTP : Hid ((w3.alloc (.cells Z12 71)).there p 0 pa.size) := there_blk hrp (by rw [hps]; rfl)
  have HOP : Hid (pa.all (·.oneCell') = true) := by unfold Hid; rw [hpa]; exact bs_one _
  have hB4 : BlkT 71 w4 p (Tn.pseudo src dst len) := by
    unfold BlkT
    rw [hw4, ← hpa]
    exact row_put hrp (by rw [hps]; rfl)
  have hb4 : Below w3.heap.size w3 w4 := by
    rw [hw4]
    exact below_setCells' (by omega) _ _ _ ((Below.refl _ _).alloc (Nat.le_refl _) _)
  have hb24 : Below w2.heap.size w2 w4 := hb3.trans (hb4.mono hb3.size)
  have HB24 := hid hb24
  have HS12 : Hid (SeesB w4 (.slice (some ⟨p, 0, none⟩) 12 12) (Tn.pseudo src dst len)) := hB4.sees (fun y hy => by simp only [Tn.pseudo, Tn.be4, Tn.be2, List.mem_append, List.mem_cons, List.not_mem_nil, or_false] at hy; omega) 0 12 12 (Nat.le_refl 12) (Nat.le_refl _) (by unfold maxLen; omega)
  have X6 := hid (HX6.out w4 hb24)
  have HPA := hid hpa
  have HW4 := hid hw4
  have HP := hid hp
  unfold Z12 at HW4 HTP
  rw [← hpa]
  clear hpa hp hw4 hps hrp hb3 hb4 hb24 hB4
  go_upto_region 10 with (first
    | (rw [← HP.out]; refine wpList_store_mid rfl 71 (.tmp 9) (.tmp 39) rfl p 0 pa rfl rfl HTP.out HIP.out HOP.out ?_; rw [← HW4.out])
    | fail)
  simp only [Act.put]
  by_cases hU : m6 ≠ 0 ∧ cs ≠ 0
  · obtain ⟨hm6, hc0⟩ := hU
    have HE := hid (pu_bad (src := src) (dst := dst) (L := L) (e := 73) (by rw [HPE.out, if_pos ⟨hm6, hc0⟩]) (by decide))
    have q1 : ((m6 : Int) == 0) = false := by simp; omega
    have q2 : ((cs : Int) == 0) = false := by simp; omega
    have q3 : ¬ (m6 : Int) = 0 := by omega
    have q4 : ¬ (cs : Int) = 0 := by omega
    have q5 : ((cs : Int) != 0) = true := by simp; omega
    have q6 : ((m6 : Int) != 0) = true := by simp; omega
    go_wp2_with fail
    refine X6.out.mono ?_
    rintro _ w5 ⟨rfl, rfl⟩
    go_wp2_with fail
    refine (HSM.out _ _ (seesBB_two rfl _ _ _ _ HS12.out (HSP.out _ HB24.out) _)).mono ?_
    rintro _ w6 ⟨rfl, hb6⟩
    have hb56 : Below w5.heap.size w5 w6 := ((Below.refl _ _).alloc (Nat.le_refl _) _).trans (hb6.mono (by simp))
    have hb26 : Below w2.heap.size w2 w6 := HB24.out.trans (hb56.mono HB24.out.size)
    clear hb6 hb56
    obtain ⟨q1, q2⟩ := HCE.out zz w6 HZS.out hb26
    have HTU := hid q1
    have HLV := hid q2
    have HBF := hid (HBF0.out zz w6 hb26)
    clear q1 q2
    go_wp2_with (first
      | (refine wpList_store_mid rfl 27 (.tmp 6) (.tmp 51) rfl w.heap.size 0 zz rfl (by rw [HZ.out]; rfl) HTU.out HINF.out HONE.out ?_)
      | fail)
    generalize w6.setCells w.heap.size 0 zz.toList = wf at HLV HBF ⊢
    refine bodyPost_ret (v := .tuple #[.agg zz, .int .i64 73]) (by simp [results, Try.results11, asAddr, HLV.out]) rfl ?_
    rw [HE.out.1, HE.out.2]
    exact ⟨none, 0, 0, by rw [HZC.out], sees_nil _, (fun a ha => by cases ha), HBF.out⟩
  have HPE2 : Hid (Tn.puE src dst L = 0) := by unfold Hid; rw [HPE.out, if_neg hU]
  have HD := hid (HPD.out HPE2.out)
  go_cut [50] from 11 (fun c wx => c = .bool false ∧ Hid (Below w2.heap.size w2 wx))
  case first =>
    go_wp2_with fail
    refine X6.out.mono ?_
    rintro _ w5 ⟨rfl, rfl⟩
    by_cases hm6 : m6 = 0
    · subst hm6
      go_wp2_with fail
      go_meet
      case rel => exact ⟨rfl, HB24.out⟩
    · have hc0 : cs = 0 := Decidable.byContradiction fun h => hU ⟨hm6, h⟩
      subst hc0
      have q1 : ((m6 : Int) == 0) = false := by simp; omega
      have q3 : ¬ (m6 : Int) = 0 := by omega
      have q6 : ((m6 : Int) != 0) = true := by simp; omega
      go_wp2_with fail
      refine (HSM.out _ _ (seesBB_two rfl _ _ _ _ HS12.out (HSP.out _ HB24.out) _)).mono ?_
      rintro _ w6 ⟨rfl, hb6⟩
      have hb56 : Below w5.heap.size w5 w6 := ((Below.refl _ _).alloc (Nat.le_refl _) _).trans (hb6.mono (by simp))
      have HB26 := hid (HB24.out.trans (hb56.mono HB24.out.size))
      clear hb6 hb56
      go_wp2_with fail
      go_meet
      case rel => exact ⟨rfl, HB26.out⟩
  case rest =>
  obtain ⟨rfl, HB25⟩ := hcut
  obtain ⟨w5, hw5⟩ : ∃ w5, w5 = wc := ⟨_, rfl⟩
  rw [← hw5] at HB25 ⊢
  obtain ⟨mk, hmk⟩ : ∃ mk : Value → Value, mk = fun v => .agg (dgCells ⟨m0, m2, B⟩ v) := ⟨_, rfl⟩
  have HMK := hid hmk
  clear hw5 hmk X6 HSM HS12 HPS HX6 X1 HPE HPD k6 k4 kT
  go_upto_region 12 with fail
  refine wp_region_mono' 10 (fun i => 52 + i) (FP [.slice ao len cap, .slice a0 2 cap, .int .u16 (m0 : Int), .slice ao len cap, .slice a2 2 (cap - 2), .int .u16 (m2 : Int), .slice ao len cap, .slice a8 (len - 8) (cap - 8)] mk B w5.heap.size (len - 8)) (by kernel_rfl) (by kernel_rfl) (FP.keeps _ _ _ _ _) ?_ ?_
  · simp only [List.take_succ_cons, List.take_zero, stepsOk]
    refine ⟨?_, ?_, ?_, ?_, ?_, ?_, ?_, ?_, ?_, ?_, trivial⟩
    · intro a u vs hb hold hdep
      exact wp_stillF (ex_move (.tmp 2) _ rfl (hold 2 (fun j _ => low (by decide)))) rfl rfl hb
    · intro a u vs hb hold hdep
      have e0 : a.eval (.tmp 52) = .slice ao len cap := by have h0 := hdep ⟨0, .data⟩ (by simp) rfl (by decide); exact h0.1.trans (Option.some.inj h0.2).symm
      exact wp_stillF (ex_slice _ (.tmp 52) _ _ _ _ _ _ _ _ rfl e0 rfl rfl rfl (k0 u)) rfl rfl hb
    · intro a u vs hb hold hdep
      have e1 : a.eval (.tmp 53) = .slice a0 2 cap := by have h0 := hdep ⟨1, .data⟩ (by simp) rfl (by decide); exact h0.1.trans (Option.some.inj h0.2).symm
      refine wp_call 27 _ _ rfl (enters_of Try.func27 (by kernel_rfl) rfl) #[.slice a0 2 cap] (by simp only [List.map_toArray, List.map_cons, List.map_nil, e1]) ?_
      refine (HX0.out u (HB25.out.trans (hb.mono HB25.out.size))).mono ?_
      rintro _ u' ⟨rfl, rfl⟩
      exact ⟨_, rfl, _, rfl, rfl, hb, Below.refl _ _⟩
    · intro a u vs hb hold hdep
      exact wp_stillF (ex_move (.tmp 2) _ rfl (hold 2 (fun j _ => low (by decide)))) rfl rfl hb
    · intro a u vs hb hold hdep
      have e0 : a.eval (.tmp 55) = .slice ao len cap := by have h0 := hdep ⟨3, .data⟩ (by simp) rfl (by decide); exact h0.1.trans (Option.some.inj h0.2).symm
      exact wp_stillF (ex_slice _ (.tmp 55) _ _ _ _ _ _ _ _ rfl e0 rfl rfl rfl (k2 u)) rfl rfl hb
    · intro a u vs hb hold hdep
      have e1 : a.eval (.tmp 56) = .slice a2 2 (cap - 2) := by have h0 := hdep ⟨4, .data⟩ (by simp) rfl (by decide); exact h0.1.trans (Option.some.inj h0.2).symm
      refine wp_call 27 _ _ rfl (enters_of Try.func27 (by kernel_rfl) rfl) #[.slice a2 2 (cap - 2)] (by simp only [List.map_toArray, List.map_cons, List.map_nil, e1]) ?_
      refine (HX2.out u (HB25.out.trans (hb.mono HB25.out.size))).mono ?_
      rintro _ u' ⟨rfl, rfl⟩
      exact ⟨_, rfl, _, rfl, rfl, hb, Below.refl _ _⟩
    · intro a u vs hb hold hdep
      exact wp_stillF (ex_move (.tmp 2) _ rfl (hold 2 (fun j _ => low (by decide)))) rfl rfl hb
    · intro a u vs hb hold hdep
      have e0 : a.eval (.tmp 58) = .slice ao len cap := by have h0 := hdep ⟨6, .data⟩ (by simp) rfl (by decide); exact h0.1.trans (Option.some.inj h0.2).symm
      exact wp_stillF (ex_slice _ (.tmp 58) _ _ _ _ _ _ _ _ rfl e0 rfl rfl rfl (k8 u)) rfl rfl hb
    · intro a u vs hb hold hdep
      have e1 : a.eval (.tmp 59) = .slice a8 (len - 8) (cap - 8) := by have h0 := hdep ⟨7, .data⟩ (by simp) rfl (by decide); exact h0.1.trans (Option.some.inj h0.2).symm
      refine wp_call 28 _ _ rfl (enters_of Try.func28 (by kernel_rfl) rfl) #[.slice a8 (len - 8) (cap - 8)] (by simp only [List.map_toArray, List.map_cons, List.map_nil, e1]) ?_
      refine (HX8.out u (HB25.out.trans (hb.mono HB25.out.size))).mono ?_
      rintro _ u' ⟨g, rfl, hB, hg, hb'⟩
      exact ⟨_, rfl, _, rfl, ⟨g, rfl, hB, Nat.le_trans hb.size hg⟩, hb.trans (hb'.mono hb.size), hb'⟩
    · intro a u vs hb hold hdep
      have e2 : a.eval (.tmp 54) = .int .u16 (m0 : Int) := by have h0 := hdep ⟨2, .data⟩ (by simp) rfl (by decide); exact h0.1.trans (Option.some.inj h0.2).symm
      have e5 : a.eval (.tmp 57) = .int .u16 (m2 : Int) := by have h0 := hdep ⟨5, .data⟩ (by simp) rfl (by decide); exact h0.1.trans (Option.some.inj h0.2).symm
      obtain ⟨h1, g, h2, h3, h4⟩ := hdep ⟨8, .data⟩ (by simp) rfl (by decide)
      have e8 : a.eval (.tmp 60) = .slice (some ⟨g, 0, none⟩) (len - 8) (len - 8) := h1.trans h2
      refine wp_stillF (ex_build _ _ #[(0, .int .u16 (m0 : Int)), (1, .int .u16 (m2 : Int)), (2, .slice (some ⟨g, 0, none⟩) (len - 8) (len - 8))] (mk (.slice (some ⟨g, 0, none⟩) (len - 8) (len - 8))) rfl (by simp only [List.map_toArray, List.map_cons, List.map_nil, e2, e5, e8]) ?_) rfl ⟨g, rfl, h3, h4⟩ hb
      rw [HMK.out]
      exact build_dg _ _ _ _ _ u
  intro vs u hb hF
  obtain ⟨g, e9, hBg, hg⟩ := hF 9 (by decide)
  obtain ⟨yy, hyy⟩ : ∃ yy : Array Value, yy = dgCells ⟨m0, m2, B⟩ (.slice (some ⟨g, 0, none⟩) (len - 8) (len - 8)) := ⟨_, rfl⟩
  have e9' : vs 9 = .agg yy := by rw [e9, HMK.out, hyy]
  have HYY := hid hyy
  have HYS : Hid (yy.size = 3) := by unfold Hid; rw [hyy]; rfl
  have HYO : Hid (yy.all (·.oneCell') = true) := by unfold Hid; rw [hyy]; simp [dgCells, Value.oneCell']
  have HYI := hid (HI.out yy HYS.out)
  have hb2u := HB25.out.trans (hb.mono HB25.out.size)
  obtain ⟨q1, q2⟩ := HCE.out yy u HYS.out hb2u
  have HTU := hid q1
  have HLV := hid q2
  have HBF := hid (HBF0.out yy u hb2u)
  have hsb := sees_blk hBg HLT.out (by omega) HBYB.out
  have hgr : w.heap.size < g := by have := HB25.out.size; have := HS1.out; omega
  have HSF := hid (sees_set' (b := w.heap.size) (vs := yy.toList) hsb (fun a ha => by cases ha; show g ≠ w.heap.size; omega))
  generalize vs 0 = y0
  generalize vs 1 = y1
  generalize vs 2 = y2
  generalize vs 3 = y3
  generalize vs 4 = y4
  generalize vs 5 = y5
  generalize vs 6 = y6
  generalize vs 7 = y7
  generalize vs 8 = y8
  simp only [List.drop_succ_cons, List.drop_zero, puts, List.range, List.range.loop, List.foldr, if_true, Act.put, e9', Nat.reduceAdd, List.setIfInBounds_toArray, List.set_cons_succ, List.set_cons_zero]
  clear e9 e9' hyy hF q1 q2 hsb hb2u hBg
  go_wp2_with (first
    | (refine wpList_store_mid rfl 27 (.tmp 6) (.tmp 61) rfl w.heap.size 0 yy rfl rfl HTU.out HYI.out HYO.out ?_)
    | fail)
  generalize u.setCells w.heap.size 0 yy.toList = wf at HLV HBF HSF ⊢
  refine bodyPost_ret (v := .tuple #[.agg yy, .int .i64 0]) (by simp [results, Try.results11, asAddr, HLV.out]) rfl ?_
  rw [HPE2.out, HD.out]
  exact ⟨_, _, _, by rw [HYY.out], HSF.out, (fun a ha => by cases ha; show w.heap.size ≤ g; omega), HBF.out⟩
end Go.Proofs.Ytcelcnafcfefhaa.N
