/-
  weftlaw6.small, request.
-/
import Derived.Test.YtcboenmmkaochaaIE
import Derived.Test.YtcboenmmkaochaaNG
import Derived.Test.YtcboenmmkaochaaNK
namespace Go.Proofs.Ytcboenmmkaochaa.N
open Go.ChangeShapes Go.WideShapes Go.ChangeAt Go.RowKit
set_option maxHeartbeats 4000000
set_option maxRecDepth 100000

def small6 : Hd := ⟨0, 7, false, false, 0, 1, 17, 167838211, 167904004, [131, 3, 4, 0]⟩
def body6 : List Nat := [1, 2, 3, 4, 5, 6, 7, 8, 9, 10]

theorem small6_ok : small6.Ok := ⟨by decide, by decide, by decide, by decide, by decide, by decide, by decide⟩

theorem size_pk : (Try.prog.info? 34).map (·.size) = some 11 := by kernel_rfl

theorem pk_one (h : Hd) {w : World} {vo vb : Value} {L B : List Nat} (ho : SeesB w vo L) (hb : SeesB w vb B) : (pkCells h vo vb).all (·.oneCell') = true := by
  obtain ⟨a1, n1, c1, rfl, _, _, _⟩ := ho.shape
  obtain ⟨a2, n2, c2, rfl, _, _, _⟩ := hb.shape
  simp [pkCells, Value.oneCell']

def zeroP : Array Value := #[.int .u8 0, .int .u16 0, .bool false, .bool false, .int .i64 0, .int .u8 0, .int .u8 0, .int .u32 0, .int .u32 0, .slice none 0 0, .slice none 0 0]

theorem small_any (w : World) :
    Calls Try.prog 13 #[] w fun e w' => ∃ a1 n1 c1 a2 n2 c2, e = .returned (.agg (pkCells small6 (.slice a1 n1 c1) (.slice a2 n2 c2))) ∧ SeesB w' (.slice a1 n1 c1) small6.opts ∧ SeesB w' (.slice a2 n2 c2) body6 ∧ (∀ a, a1 = some a → w.heap.size ≤ a.block) ∧ Below w.heap.size w w' := by
  obtain ⟨w1, hw1⟩ : ∃ w1, w1 = w.alloc (.cells zeroP 34) := ⟨_, rfl⟩
  have hs1 : w1.heap.size = w.heap.size + 1 := by rw [hw1]; simp
  have hb1 : Below w.heap.size w w1 := by rw [hw1]; exact (Below.refl _ _).alloc (Nat.le_refl _) _
  obtain ⟨w2, hw2⟩ : ∃ w2, w2 = w1.alloc (.cells #[.int .u8 131, .int .u8 3, .int .u8 4, .int .u8 0] 5) := ⟨_, rfl⟩
  have hs2 : w2.heap.size = w1.heap.size + 1 := by rw [hw2]; simp
  have hb2 : Below w1.heap.size w1 w2 := by rw [hw2]; exact (Below.refl _ _).alloc (Nat.le_refl _) _
  obtain ⟨w3, hw3⟩ : ∃ w3, w3 = w2.alloc (.cells #[.int .u8 1, .int .u8 2, .int .u8 3, .int .u8 4, .int .u8 5, .int .u8 6, .int .u8 7, .int .u8 8, .int .u8 9, .int .u8 10] 5) := ⟨_, rfl⟩
  have hb3 : Below w2.heap.size w2 w3 := by rw [hw3]; exact (Below.refl _ _).alloc (Nat.le_refl _) _
  have ho2 : SeesB w3 (.slice (some ⟨w.heap.size + 1, 0, none⟩) 4 4) small6.opts := by
    refine SeesB.below (w := w2) (sees_blk (t := 5) ?_ rfl (by decide) (by decide)) hb3
    rw [← hs1, hw2]; exact heap_alloc_new w1 _
  have ho3 : SeesB w3 (.slice (some ⟨w.heap.size + 2, 0, none⟩) 10 10) body6 := by
    refine sees_blk (t := 5) ?_ rfl (by decide) (by decide)
    rw [show w.heap.size + 2 = w2.heap.size by omega, hw3]; exact heap_alloc_new w2 _
  have hth : w3.there w.heap.size 0 11 := there_blk (C := zeroP) (t := 34) (by
    rw [hb3.block _ (by omega), hb2.block _ (by omega), hw1]; exact heap_alloc_new w _) rfl
  have hbw : Below w.heap.size w w3 := hb1.trans ((hb2.trans (hb3.mono (by omega))).mono (by omega))
  obtain ⟨zz, hzz⟩ : ∃ zz : Array Value, zz = pkCells small6 (.slice (some ⟨w.heap.size + 1, 0, none⟩) 4 4) (.slice (some ⟨w.heap.size + 2, 0, none⟩) 10 10) := ⟨_, rfl⟩
  have HZ := hid hzz
  have HONE : Hid (zz.all (·.oneCell') = true) := by unfold Hid; rw [hzz]; exact pk_one _ ho2 ho3
  have HINF : Hid ((Try.prog.info? 34).map (·.size) = some zz.size) := by unfold Hid; rw [hzz]; exact size_pk
  have HTU : Hid (w3.there w.heap.size 0 zz.size) := by unfold Hid; rw [hzz]; exact hth
  have HLV := hid (load_cell HTU.out Try.underlying34 HINF.out)
  have HBF := hid (below_setCells (Nat.le_refl _) zz.toList 0 w3 hbw)
  have HS2 := hid (sees_setI (b := w.heap.size) (vs := zz.toList) ho2 (fun a ha => by cases ha; show w.heap.size + 1 ≠ w.heap.size; omega))
  have HS3 := hid (sees_setI (b := w.heap.size) (vs := zz.toList) ho3 (fun a ha => by cases ha; show w.heap.size + 2 ≠ w.heap.size; omega))
  have HW : Hid (w3 = ((w.alloc (.cells #[.int .u8 0, .int .u16 0, .bool false, .bool false, .int .i64 0, .int .u8 0, .int .u8 0, .int .u32 0, .int .u32 0, .slice none 0 0, .slice none 0 0] 34)).alloc (.cells #[.int .u8 131, .int .u8 3, .int .u8 4, .int .u8 0] 5)).alloc (.cells #[.int .u8 1, .int .u8 2, .int .u8 3, .int .u8 4, .int .u8 5, .int .u8 6, .int .u8 7, .int .u8 8, .int .u8 9, .int .u8 10] 5)) := by
    unfold Hid; rw [hw3, hw2, hw1]; rfl
  clear hw1 hw2 hw3 hs1 hs2 hb1 hb2 hb3 ho2 ho3 hth hbw hzz
  go_enter Try.func13, Try.ntmps13
  go_wp2_with (first
    | (rw [← HW.out]; refine wpList_store_mid rfl 34 (.tmp 0) (.tmp 4) rfl w.heap.size 0 zz rfl (by rw [HZ.out]; rfl) HTU.out HINF.out HONE.out ?_)
    | fail)
  generalize w3.setCells w.heap.size 0 zz.toList = wf at HLV HBF HS2 HS3 ⊢
  refine bodyPost_ret (v := .agg zz) (by simp [results, Try.results13, asAddr, Act.put, HLV.out]) rfl ?_
  exact ⟨_, _, _, _, _, _, by rw [HZ.out], HS2.out, HS3.out, (fun a ha => by cases ha; show w.heap.size ≤ w.heap.size + 1; omega), HBF.out⟩

/-- Cells written one behind the other. -/
def wr (C : Array Value) : Nat → List Value → Array Value
  | _, [] => C
  | o, v :: vs => wr (C.setIfInBounds o v) (o + 1) vs

theorem heap_setCell_row {w : World} {b o : Nat} {C : Array Value} {T : TypeId} {fz : Nat × Nat} (h : w.heap[b]? = some (.cells C T fz)) (v : Value) : (w.setCell ⟨b, o, none⟩ v).heap[b]? = some (.cells (C.setIfInBounds o v) T fz) := by
  simp only [World.setCell, Array.getElem?_modify, h]
  simp

theorem heap_setCells_row {b : Nat} {T : TypeId} {fz : Nat × Nat} : ∀ (vs : List Value) (o : Nat) (w : World) (C : Array Value), w.heap[b]? = some (.cells C T fz) → (w.setCells b o vs).heap[b]? = some (.cells (wr C o vs) T fz)
  | [], _, _, _, h => h
  | v :: vs, o, w, C, h => by
    rw [World.setCells]
    exact heap_setCells_row vs (o + 1) _ _ (heap_setCell_row h v)

theorem wr_pk (h : Hd) (vo vb : Value) : wr zeroP 0 (pkCells h vo vb).toList = pkCells h vo vb := by
  simp [wr, zeroP, pkCells]

def req6 : Hd := ⟨0, 7, false, false, 0, 1, 1, 167838211, 167904004, [131, 3, 4, 0]⟩
def reqB : List Nat := [8, 0, 51, 154, 0, 1, 0, 2, 97, 98, 99]
theorem req6_ok : req6.Ok := ⟨by decide, by decide, by decide, by decide, by decide, by decide, by decide⟩

theorem request_any (w : World) :
    Calls Try.prog 8 #[] w fun e w' => ∃ a1 n1 c1 a2 n2 c2, e = .returned (.agg (pkCells req6 (.slice a1 n1 c1) (.slice a2 n2 c2))) ∧ SeesB w' (.slice a1 n1 c1) req6.opts ∧ SeesB w' (.slice a2 n2 c2) reqB ∧ Below w.heap.size w w' := by
  obtain ⟨w1, hw1⟩ : ∃ w1, w1 = w.alloc (.cells zeroP 34) := ⟨_, rfl⟩
  have hs1 : w1.heap.size = w.heap.size + 1 := by rw [hw1]; simp
  have hb1 : Below w.heap.size w w1 := by rw [hw1]; exact (Below.refl _ _).alloc (Nat.le_refl _) _
  have HSM := hid (small_any w1)
  have HTH : Hid (∀ u, Below w1.heap.size w1 u → u.there w.heap.size 0 11) := fun u hu => there_blk (C := zeroP) (t := 34) (by
    rw [hu.block _ (by omega), hw1]; exact heap_alloc_new w _) rfl
  have HW1 : Hid (w1 = w.alloc (.cells #[.int .u8 0, .int .u16 0, .bool false, .bool false, .int .i64 0, .int .u8 0, .int .u8 0, .int .u32 0, .int .u32 0, .slice none 0 0, .slice none 0 0] 34)) := hw1
  have HB1 := hid hb1
  have HS1 := hid hs1
  clear hw1 hs1 hb1
  go_enter Try.func8, Try.ntmps8
  go_upto_region 1 with fail
  rw [← HW1.out]
  go_wp2_with fail
  refine HSM.out.mono ?_
  rintro _ w2 ⟨a1, n1, c1, a2, n2, c2, rfl, ho, hbd, hnew, hb2⟩
  obtain ⟨pa, hpa⟩ : ∃ pa : Array Value, pa = pkCells small6 (.slice a1 n1 c1) (.slice a2 n2 c2) := ⟨_, rfl⟩
  obtain ⟨w3, hw3⟩ : ∃ w3, w3 = (w2.alloc (.cells zeroP 34)).setCells w2.heap.size 0 pa.toList := ⟨_, rfl⟩
  have hr3 : w3.heap[w2.heap.size]? = some (.cells (pkCells small6 (.slice a1 n1 c1) (.slice a2 n2 c2)) 34 (0, 0)) := by
    rw [hw3, hpa]
    have := heap_setCells_row (b := w2.heap.size) (T := 34) (pkCells small6 (.slice a1 n1 c1) (.slice a2 n2 c2)).toList 0 _ zeroP (heap_alloc_new w2 (.cells zeroP 34))
    rwa [wr_pk] at this
  have hb23 : Below w2.heap.size w2 w3 := by rw [hw3]; exact below_setCells (Nat.le_refl _) _ _ _ ((Below.refl _ _).alloc (Nat.le_refl _) _)
  have HTA : Hid ((w2.alloc (.cells zeroP 34)).there w2.heap.size 0 pa.size) := by unfold Hid; rw [hpa]; exact there_blk (C := zeroP) (t := 34) (heap_alloc_new w2 _) rfl
  have HONA : Hid (pa.all (·.oneCell') = true) := by unfold Hid; rw [hpa]; exact pk_one _ ho hbd
  have HINA : Hid ((Try.prog.info? 34).map (·.size) = some pa.size) := by unfold Hid; rw [hpa]; exact size_pk
  have HW3 : Hid (w3 = (w2.alloc (.cells #[.int .u8 0, .int .u16 0, .bool false, .bool false, .int .i64 0, .int .u8 0, .int .u8 0, .int .u32 0, .int .u32 0, .slice none 0 0, .slice none 0 0] 34)).setCells w2.heap.size 0 pa.toList) := hw3
  have d6 : w3.cell? ⟨w2.heap.size, 6, none⟩ = some (.int .u8 17) := by rw [cell_of_row _ _ _ _ _ _ hr3]; rfl
  have f6 : w3.frozen? ⟨w2.heap.size, 6, none⟩ = false := frozen_of_row _ _ _ _ _ hr3
  obtain ⟨w4, hw4⟩ : ∃ w4, w4 = w3.setCell ⟨w2.heap.size, 6, none⟩ (.int .u8 1) := ⟨_, rfl⟩
  have hr4 : w4.heap[w2.heap.size]? = some (.cells (pkCells req6 (.slice a1 n1 c1) (.slice a2 n2 c2)) 34 (0, 0)) := by rw [hw4]; exact heap_setCell_row hr3 _
  obtain ⟨w5, hw5⟩ : ∃ w5, w5 = w4.alloc (.cells (bs reqB).toArray 5) := ⟨_, rfl⟩
  have hs4 : w4.heap.size = w3.heap.size := by rw [hw4]; simp [World.setCell]
  have hlt3 : w2.heap.size < w3.heap.size := (Array.getElem?_eq_some_iff.1 hr3).1
  have hr5 : w5.heap[w2.heap.size]? = some (.cells (pkCells req6 (.slice a1 n1 c1) (.slice a2 n2 c2)) 34 (0, 0)) := by
    rw [hw5, Below.heap_alloc _ _ _ (by omega)]; exact hr4
  have d10 : w5.cell? ⟨w2.heap.size, 10, none⟩ = some (.slice a2 n2 c2) := by rw [cell_of_row _ _ _ _ _ _ hr5]; rfl
  have f10 : w5.frozen? ⟨w2.heap.size, 10, none⟩ = false := frozen_of_row _ _ _ _ _ hr5
  obtain ⟨w6, hw6⟩ : ∃ w6, w6 = w5.setCell ⟨w2.heap.size, 10, none⟩ (.slice (some ⟨w4.heap.size, 0, none⟩) 11 11) := ⟨_, rfl⟩
  have hr6 : w6.heap[w2.heap.size]? = some (.cells (pkCells req6 (.slice a1 n1 c1) (.slice (some ⟨w4.heap.size, 0, none⟩) 11 11)) 34 (0, 0)) := by rw [hw6]; exact heap_setCell_row hr5 _
  have hb24 : Below w2.heap.size w2 w4 := by rw [hw4]; exact hb23.setCell (p := ⟨w2.heap.size, 6, none⟩) (Nat.le_refl _) _
  have hb25 : Below w2.heap.size w2 w5 := by rw [hw5]; exact hb24.alloc hb24.size _
  have hb26 : Below w2.heap.size w2 w6 := by rw [hw6]; exact hb25.setCell (p := ⟨w2.heap.size, 10, none⟩) (Nat.le_refl _) _
  have hb16 : Below w1.heap.size w1 w6 := hb2.trans (hb26.mono hb2.size)
  have hbk6 : w6.heap[w4.heap.size]? = some (.cells (bs reqB).toArray 5 (0, 0)) := by
    rw [hw6]
    have : w5.heap[w4.heap.size]? = some (.cells (bs reqB).toArray 5 (0, 0)) := by rw [hw5]; exact heap_alloc_new w4 _
    simp only [World.setCell, Array.getElem?_modify]
    rw [if_neg (by show ¬ w2.heap.size = w4.heap.size; omega)]
    exact this
  have hsb : SeesB w6 (.slice (some ⟨w4.heap.size, 0, none⟩) 11 11) reqB := sees_blk hbk6 rfl (by decide) (by decide)
  have HSO := hid (ho.below hb26)
  have HSB := hid hsb
  have HLD := hid (pk_load hr6)
  have HW4 := hid hw4
  have HW5 : Hid (w5 = w4.alloc (.cells #[.int .u8 8, .int .u8 0, .int .u8 51, .int .u8 154, .int .u8 0, .int .u8 1, .int .u8 0, .int .u8 2, .int .u8 97, .int .u8 98, .int .u8 99] 5)) := hw5
  have HW6 := hid hw6
  obtain ⟨zz, hzz⟩ : ∃ zz : Array Value, zz = pkCells req6 (.slice a1 n1 c1) (.slice (some ⟨w4.heap.size, 0, none⟩) 11 11) := ⟨_, rfl⟩
  have HZ := hid hzz
  have HONE : Hid (zz.all (·.oneCell') = true) := by unfold Hid; rw [hzz]; exact pk_one _ HSO.out hsb
  have HINF : Hid ((Try.prog.info? 34).map (·.size) = some zz.size) := by unfold Hid; rw [hzz]; exact size_pk
  have HTU : Hid (w6.there w.heap.size 0 zz.size) := by unfold Hid; rw [hzz]; exact HTH.out _ hb16
  have HLV := hid (load_cell HTU.out Try.underlying34 HINF.out)
  have HBF := hid (below_setCells (Nat.le_refl _) zz.toList 0 w6 (HB1.out.trans (hb16.mono HB1.out.size)))
  have hw12 := hb2.size
  have HS2 : Hid (SeesB (w6.setCells w.heap.size 0 zz.toList) (.slice a1 n1 c1) req6.opts) := sees_setI HSO.out (fun a ha => by have := hnew a ha; have := HS1.out; omega)
  have HS3 := hid (sees_setI (b := w.heap.size) (vs := zz.toList) hsb (fun a ha => by cases ha; show w4.heap.size ≠ w.heap.size; have := HS1.out; omega))
  rw [← hzz] at HLD
  rw [← hpa]
  clear hpa hw3 hw4 hw5 hw6 hzz hr3 hr4 hr5 hr6 hbk6 hsb hb23 hb24 hb25 hb26 hb16 hs4 hlt3 hw12 ho hbd hnew hb2 HSM HTH
  go_upto_region 2 with (first
    | (refine wpList_store_mid rfl 34 (.tmp 1) (.tmp 2) rfl w2.heap.size 0 pa rfl rfl HTA.out HINA.out HONA.out ?_)
    | fail)
  rw [← HW3.out]
  go_upto_region 3 with fail
  rw [← HW4.out]
  rw [HW5.out] at d10 f10
  go_upto_region 4 with fail
  rw [← HW5.out, ← HW6.out]
  go_wp2_with (first
    | (refine wpList_ld 34 ⟨w2.heap.size, 0, none⟩ _ rfl rfl HLD.out rfl ?_)
    | (refine wpList_store_mid rfl 34 (.tmp 0) (.tmp 7) rfl w.heap.size 0 zz rfl rfl HTU.out HINF.out HONE.out ?_)
    | fail)
  generalize w6.setCells w.heap.size 0 zz.toList = wf at HLV HBF HS2 HS3 ⊢
  refine bodyPost_ret (v := .agg zz) (by simp [results, Try.results8, asAddr, Act.put, HLV.out]) rfl ?_
  exact ⟨_, _, _, _, _, _, by rw [HZ.out], HS2.out, HS3.out, HBF.out⟩
end Go.Proofs.Ytcboenmmkaochaa.N
