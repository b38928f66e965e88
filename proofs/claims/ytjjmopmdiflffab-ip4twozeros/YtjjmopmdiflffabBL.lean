import Derived.Test.YtjjmopmdiflffabBK
namespace Go.Proofs.Ytjjmopmdiflffab
open Go.ChangeShapes Go.WideShapes Go.ChangeAt Go.RowKit
set_option maxHeartbeats 1000000
set_option maxRecDepth 100000

def smH : Hd := ⟨3, 7216, false, false, 0, 9, 17, 167838211, 167904004, [131, 3, 4, 0]⟩

theorem smH_ok : smH.Ok := ⟨by decide, by decide, by decide, by decide, by decide, by decide, by decide⟩

theorem sm_ref : refE smH [1, 2, 3].length = 0 := by
  have h3 : M.nxt [131, 3, 4, 0] = some 3 := M.nxt_good (by decide) (by decide) (by simp)
  have h0 : M.nxt [0] = some 1 := M.nxt_zero_ok (by decide)
  have h1 : M.area smH.opts = true := by
    show M.area [131, 3, 4, 0] = true
    unfold M.area
    rw [M.okO_some (by simp) h3]
    show (_ && M.okO [0]) = true
    rw [M.okO_some (by simp) h0]
    show (_ && M.okO []) = true
    rw [M.okO_nil]
    decide
  unfold refE; rw [if_pos h1, if_pos (by decide), if_pos (by decide)]

theorem sees_4 {w : World} {n : Nat} (hn : w.heap.size = n) (t : TypeId) : SeesB (w.alloc (.cells #[.int .u8 131, .int .u8 3, .int .u8 4, .int .u8 0] t)) (.slice (some ⟨n, 0, none⟩) 4 4) [131, 3, 4, 0] := by
  subst hn
  refine ⟨some ⟨w.heap.size, 0, none⟩, 4, rfl, ⟨by simp, fun h => by cases h⟩, by unfold maxLen; omega, fun j hj => ⟨w.heap.size, 0, rfl, by simp, ?_, ?_⟩⟩
  · match j, hj with
    | 0, _ => simp
    | 1, _ => simp
    | 2, _ => simp
    | 3, _ => simp
  · match j, hj with
    | 0, _ => show (_ : Nat) < 256; simp
    | 1, _ => show (_ : Nat) < 256; simp
    | 2, _ => show (_ : Nat) < 256; simp
    | 3, _ => show (_ : Nat) < 256; simp

theorem row_var {u : World} {n : Nat} {h : Hd} {vo vb : Value} (hb : u.heap[n]? = some (.cells (pkCells h vo vb) 29)) : (loadVar 29 ⟨n, 0, none⟩).run Try.prog u = .ok (.agg (pkCells h vo vb)) u := by
  obtain ⟨fs, hu⟩ := und29
  refine run_loadVar_mid u n 0 29 (pkCells h vo vb).toList (.struct fs) (fun j v hv => ?_) hu rfl (by rw [size29']; rfl)
  have hj : j < 11 := (List.getElem?_eq_some_iff.1 hv).1
  rw [Nat.zero_add, pk_at hb j hj]
  rw [Array.getElem?_toList, Array.getElem?_eq_getElem hj] at hv
  exact hv

theorem small_any (w : World) :
    Calls Try.prog 10 #[] w fun e w' => ∃ vo vb, e = .returned (.agg (pkCells smH vo vb)) ∧ SeesB w' vo smH.opts ∧ SeesB w' vb [1, 2, 3] ∧ Below w.heap.size w w' := by
  obtain ⟨wa, hwa⟩ : ∃ wa, wa = w.alloc (.cells (pkCells smH (.slice (some ⟨w.heap.size + 1, 0, none⟩) 4 4) (.slice (some ⟨w.heap.size + 1 + 1, 0, none⟩) 3 3)) 29) := ⟨_, rfl⟩
  obtain ⟨wb, hwb⟩ : ∃ wb, wb = wa.alloc (.cells #[.int .u8 131, .int .u8 3, .int .u8 4, .int .u8 0] 5) := ⟨_, rfl⟩
  obtain ⟨wc, hwc⟩ : ∃ wc, wc = wb.alloc (.cells #[.int .u8 1, .int .u8 2, .int .u8 3] 5) := ⟨_, rfl⟩
  have sa : wa.heap.size = w.heap.size + 1 := by rw [hwa]; simp
  have sb : wb.heap.size = w.heap.size + 1 + 1 := by rw [hwb, World.size_alloc, sa]
  have ba : Below w.heap.size w wa := by rw [hwa]; exact (Below.refl _ _).alloc (Nat.le_refl _) _
  have bb : Below wa.heap.size wa wb := by rw [hwb]; exact (Below.refl _ _).alloc (Nat.le_refl _) _
  have bc : Below wb.heap.size wb wc := by rw [hwc]; exact (Below.refl _ _).alloc (Nat.le_refl _) _
  have hrow : wc.heap[w.heap.size]? = some (.cells (pkCells smH (.slice (some ⟨w.heap.size + 1, 0, none⟩) 4 4) (.slice (some ⟨w.heap.size + 1 + 1, 0, none⟩) 3 3)) 29) := by
    rw [bc.block _ (by omega), bb.block _ (by omega), hwa]; exact heap_alloc_new w _
  have HLV := hid (row_var hrow)
  have HSO : Hid (SeesB wc (.slice (some ⟨w.heap.size + 1, 0, none⟩) 4 4) [131, 3, 4, 0]) := by
    have := sees_4 (w := wa) sa 5
    rw [← hwb] at this
    exact this.below bc
  have HSB : Hid (SeesB wc (.slice (some ⟨w.heap.size + 1 + 1, 0, none⟩) 3 3) [1, 2, 3]) := by
    have := sees_three (w := wb) 1 2 3 (by decide) (by decide) (by decide) 5
    rw [sb] at this
    rw [hwc]
    exact this
  have HB : Hid (Below w.heap.size w wc) := (ba.trans (bb.mono (by omega))).trans (bc.mono (by omega))
  have HWC : Hid (wc = ((w.alloc (.cells #[.int .u8 3, .int .u16 7216, .bool false, .bool false, .int .i64 0, .int .u8 9, .int .u8 17, .int .u32 167838211, .int .u32 167904004, .slice (some ⟨w.heap.size + 1, 0, none⟩) 4 4, .slice (some ⟨w.heap.size + 1 + 1, 0, none⟩) 3 3] 29)).alloc (.cells #[.int .u8 131, .int .u8 3, .int .u8 4, .int .u8 0] 5)).alloc (.cells #[.int .u8 1, .int .u8 2, .int .u8 3] 5)) := by unfold Hid; rw [hwc, hwb, hwa]; rfl
  clear hwa hwb hwc sa sb ba bb bc hrow
  go_enter Try.func10, Try.ntmps10
  go_wp2_with fail
  rw [← HWC.out]
  refine bodyPost_ret (v := .agg (pkCells smH (.slice (some ⟨w.heap.size + 1, 0, none⟩) 4 4) (.slice (some ⟨w.heap.size + 1 + 1, 0, none⟩) 3 3))) (by simp [results, Try.results10, asAddr, HLV.out]) rfl ?_
  exact ⟨_, _, rfl, HSO.out, HSB.out, HB.out⟩

theorem back_any (h : Hd) (vo vb vt : Value) (B T : List Nat) (w : World) (hok : h.Ok) (hvo : SeesB w vo h.opts) (hvb : SeesB w vb B) (hvt : SeesB w vt T) (hlo : h.opts.length ≤ 1099511627776) (hlb : B.length ≤ 1099511627776) (hlt : T.length ≤ 1099511627776) :
    Calls Try.prog 12 #[.agg (pkCells h vo vb), vt, .bool true] w fun e w' => e = .returned (.bool true) ∧ Below w.heap.size w w' := by
  by_cases he : refE h B.length = 0
  · exact back_good h vo vb vt B T true w hok hvo hvb hvt hlt he
  · exact back_bad h vo vb vt B w hok hvo hvb (by omega) (by omega) he

theorem buildsBack_walk (h : Hd) (vo vb vt : Value) (B T : List Nat) (w : World) (hok : h.Ok) (hvo : SeesB w vo h.opts) (hvb : SeesB w vb B) (hvt : SeesB w vt T) (hlo : h.opts.length ≤ 1099511627776) (hlb : B.length ≤ 1099511627776) (hlt : T.length ≤ 1099511627776) :
    Calls Try.prog 4 #[.agg (pkCells h vo vb), vt] w fun e w' => e = .returned (.bool true) ∧ Below w.heap.size w w' := by
  obtain ⟨w1, hw1⟩ : ∃ w1, w1 = w.alloc (.cells (pkCells h vo vb) 29) := ⟨_, rfl⟩
  have hb1 : Below w.heap.size w w1 := by rw [hw1]; exact (Below.refl _ _).alloc (Nat.le_refl _) _
  have hs1 : w1.heap.size = w.heap.size + 1 := by rw [hw1]; simp
  have HLK : Hid (∀ u, Below w1.heap.size w1 u → (Instr.loadAt 29 (.pointer (some ⟨w.heap.size, 0, none⟩))).run Try.prog u = .ok (.agg (pkCells h vo vb)) u) := fun u hu => pk_load (by rw [hu.block _ (by omega), hw1]; exact heap_alloc_new w _)
  have HSMALL := hid (small_any w1)
  have HBW : Hid (∀ u, Below w1.heap.size w1 u → Below w.heap.size w u) := fun u hu => hb1.trans (hu.mono hb1.size)
  have HBK : Hid (∀ u, Below w1.heap.size w1 u → Calls Try.prog 12 #[.agg (pkCells h vo vb), vt, .bool true] u fun e w' => e = .returned (.bool true) ∧ Below u.heap.size u w') := fun u hu =>
    back_any h vo vb vt B T u hok (hvo.below (HBW.out _ hu)) (hvb.below (HBW.out _ hu)) (hvt.below (HBW.out _ hu)) hlo hlb hlt
  have HBS : Hid (∀ (u : World) (va xa : Value), Below w1.heap.size w1 u → SeesB u va smH.opts → SeesB u xa [1, 2, 3] → Calls Try.prog 12 #[.agg (pkCells smH va xa), vt, .bool false] u fun e w' => e = .returned (.bool true) ∧ Below u.heap.size u w') := fun u va xa hu h1 h2 =>
    back_good smH va xa vt [1, 2, 3] T false u smH_ok h1 h2 (hvt.below (HBW.out _ hu)) hlt sm_ref
  obtain ⟨at', nt, capt, rfl, _, _, _⟩ := hvt.shape
  have HW1 := hid hw1
  generalize pkCells h vo vb = pk at *
  clear hw1 hb1 hs1 hvo hvb hvt
  go_enter Try.func4, Try.ntmps4
  go_upto_region 1 with fail
  rw [← HW1.out]
  go_wp2_with fail
  refine HSMALL.out.mono ?_
  rintro _ w2 ⟨va, xa, rfl, ha, ka, hb2⟩
  have HB2 := hid (HBS.out w2 va xa hb2 ha ka)
  generalize pkCells smH va xa = ps at *
  clear ha ka
  go_wp2_with fail
  refine HB2.out.mono ?_
  rintro _ w3 ⟨rfl, hb3⟩
  have hb13 := hb2.trans (hb3.mono hb2.size)
  have HL3 := hid (HLK.out _ hb13)
  have HB3 := hid (HBK.out _ hb13)
  go_wp2_with (first | (refine wpList_ld 29 ⟨w.heap.size, 0, none⟩ (.tmp 2) rfl rfl HL3.out rfl ?_) | fail)
  refine HB3.out.mono ?_
  rintro _ w4 ⟨rfl, hb4⟩
  go_wp2_with fail
  go_ret
  exact ⟨rfl, HBW.out _ (hb13.trans (hb4.mono hb13.size))⟩
end Go.Proofs.Ytjjmopmdiflffab
