import Derived.Test.YtdoeebbcieiimaaFF
namespace Go.Proofs.Ytdoeebbcieiimaa
open Go.ChangeShapes Go.WideShapes Go.ChangeAt Go.RowKit
set_option maxHeartbeats 4000000
set_option maxRecDepth 100000

theorem fits_any (v : Value) (L : List Nat) (m : Int) (w : World) (hv : SeesB w v L) (hl : L.length ≤ 40) (hm1 : 68 ≤ m) (hm2 : m ≤ 9223372036854775807) :
    Calls Try.prog 46 #[v, .int .i64 m] w fun e w' => e = .returned (.int .i64 (m - 20 - (L.length : Int))) ∧ w' = w := by
  obtain ⟨ao, n, cap, rfl, HN, hn1, hn2⟩ := hv.shape
  have hn : n ≤ 40 := by have := HN.out; omega
  rw [← HN.out]
  clear hv hl
  go_enter Try.func46, Try.ntmps46
  go_wp2_with fail
  go_ret
  exact ⟨rfl, rfl⟩

def partH (h : Hd) (a : Nat) (O : List Nat) (mf : Bool) : Hd := { h with off := h.off + (a : Int), mf := mf, opts := O }

theorem part_any (h : Hd) (vo vb vp : Value) (B O : List Nat) (a b : Nat) (mf : Bool) (w : World) (hvo : SeesB w vo h.opts) (hvb : SeesB w vb B) (hvp : SeesB w vp O) (ho0 : 0 ≤ h.off) (ho1 : h.off ≤ 65535) (hab : a ≤ b) (hb : b ≤ B.length) (hlb : B.length ≤ 65535) (hlo : O.length ≤ 40) :
    Calls Try.prog 47 #[.agg (pkCells h vo vb), .int .i64 (a : Int), .int .i64 (b : Int), vp, .bool mf] w fun e w' => ∃ vo' vb', e = .returned (.agg (pkCells (partH h a O mf) vo' vb')) ∧ OwnB w' (w.heap.size + 3) vo' O ∧ OwnB w' (w.heap.size + 3) vb' ((B.take b).drop a) ∧ Below w.heap.size w w' := by
  obtain ⟨w1, hw1⟩ : ∃ w1, w1 = (w.alloc (.cells (pkCells h vo vb) 29)).alloc (.cells Z29 29) := ⟨_, rfl⟩
  have hs1 : w1.heap.size = w.heap.size + 2 := by rw [hw1]; simp
  have hb1 : Below w.heap.size w w1 := by rw [hw1]; exact ((Below.refl _ _).alloc (Nat.le_refl _) _).alloc (by simp) _
  have hk0 : w1.heap[w.heap.size]? = some (.cells (pkCells h vo vb) 29) := by
    have h1 : Below (w.heap.size + 1) (w.alloc (.cells (pkCells h vo vb) 29)) w1 := by rw [hw1]; exact (Below.refl _ _).alloc (by simp) _
    rw [h1.block _ (by omega)]
    exact heap_alloc_new w _
  have hk1 : w1.heap[w.heap.size + 1]? = some (.cells Z29 29) := by
    have := heap_alloc_new (w.alloc (.cells (pkCells h vo vb) 29)) (.cells Z29 29)
    rw [World.size_alloc] at this
    rw [hw1]; exact this
  obtain ⟨ao, no, co, rfl, HNO, _, _⟩ := hvo.shape
  obtain ⟨ab, nb, capb, rfl, HNB, hnb1, hnb2⟩ := hvb.shape
  obtain ⟨ap, np, capp, rfl, HNP, _, _⟩ := hvp.shape
  have hnb : b ≤ nb := by have := HNB.out; omega
  have hnb64 : nb ≤ 65535 := by have := HNB.out; omega
  obtain ⟨aM, HSM, hcutM⟩ := hvb.mid a b (a : Int) (b : Int) rfl rfl hab hnb
  have HVP := hid hvp
  have HL0 := hid (pk_load hk0)
  have HALL0 : Hid ((pkCells h (.slice ao no co) (.slice ab nb capb)).all (·.oneCell') = true) := all_pk _ _ _ _ _ _ _
  have HSZ0 : Hid ((pkCells h (.slice ao no co) (.slice ab nb capb)).size = 11) := rfl
  have HW1 := hid hw1
  have HB1 := hid hb1
  have HK0 := hid hk0
  have HK1 := hid hk1
  have HS1 := hid hs1
  have HLO := hid hlo
  clear hw1 hb1 hk0 hk1 hvo hvb hvp hs1 hlb hlo
  obtain ⟨cs, hcs⟩ : ∃ cs, cs = pkCells h (.slice ao no co) (.slice ab nb capb) := ⟨_, rfl⟩
  have HCS := hid hcs
  rw [← hcs] at HW1 HL0 HALL0 HSZ0 ⊢
  clear hcs
  have HZ2 : Hid ((w1.alloc (.cells Z29 29)).heap[w1.heap.size]? = some (.cells Z29 29)) := heap_alloc_new w1 _
  have HBA : Hid (Below w1.heap.size w1 (w1.alloc (.cells Z29 29))) := (Below.refl _ _).alloc (Nat.le_refl _) _
  go_enter Try.func47, Try.ntmps47
  go_upto_region 1 with fail
  have e0 : (w.alloc (.cells cs 29)).alloc (.cells Z29 29) = w1 := HW1.out.symm
  unfold Z29 at e0
  rw [e0]
  clear e0
  go_wp2_with (first | (refine wpList_ld 29 ⟨w.heap.size, 0, none⟩ (.tmp 5) rfl rfl HL0.out rfl ?_) | (refine wpList_st rfl 29 (.tmp 11) (.tmp 12) rfl w1.heap.size cs rfl rfl 29 Z29 HZ2.out (by rw [HSZ0.out]; exact sz29) (by rw [HSZ0.out]; rfl) HALL0.out ?_) | fail)
  intro w2 hk2 hbut2
  have HB2 : Hid (Below w1.heap.size w1 w2) := hbut2.below HBA.out (by simp) (Nat.le_refl _)
  have HS2 : Hid (w.heap.size + 3 ≤ w2.heap.size) := by have := hbut2.size; have h2 := HS1.out; simp at this; unfold Hid; omega
  have HK2 := hid hk2
  rw [HCS.out] at HK2
  have hq : w1.heap.size = w.heap.size + 2 := HS1.out
  rw [hq] at HK2 ⊢
  have HC2 := hid (below_keeps HB2.out HK0.out (by omega))
  have c4 : w2.cell? ⟨w.heap.size, 4, none⟩ = some (.int .i64 h.off) := pk_at HC2.out 4 (by omega)
  clear hk2 hbut2 HL0 HZ2 HBA HALL0 HSZ0 hq
  go_wp2_with (first | (refine wpList_st1 rfl 3 (.tmp 19) (.tmp 17) rfl (w.heap.size + 2) 4 (.int .i64 (h.off + (a : Int))) rfl rfl rfl 29 _ (pkCells { h with off := h.off + (a : Int) } (.slice ao no co) (.slice ab nb capb)) HK2.out size3 (by show 4 < 11; decide) rfl ?_) | fail)
  intro w3 hk3 hbut3
  have HK3 := hid hk3
  have HU3 := hid hbut3
  clear hk3 hbut3 c4
  go_wp2_with (first | (refine wpList_st1 rfl 4 (.tmp 22) (.tmp 20) rfl (w.heap.size + 2) 3 (.bool mf) rfl rfl rfl 29 _ (pkCells (partH h a O mf) (.slice ao no co) (.slice ab nb capb)) HK3.out size4 (by show 3 < 11; decide) rfl ?_) | fail)
  intro w4 hk4 hbut4
  have HK4 := hid hk4
  have HU4 : Hid (But (w.heap.size + 2) w2 w4) := HU3.out.trans hbut4
  have HB4 : Hid (Below w1.heap.size w1 w4) := HU4.out.below HB2.out HB2.out.size (by have := HS1.out; omega)
  have HS4 : Hid (w.heap.size + 3 ≤ w4.heap.size) := by have h1 := HU4.out.size; have h2 := HS2.out; unfold Hid; omega
  have HBW4 : Hid (Below w.heap.size w w4) := HB1.out.trans (HB4.out.mono HB1.out.size)
  have HF := hid (rcopied_any _ O w4 (HVP.out.below HBW4.out) (by have := HLO.out; omega))
  clear hk4 hbut4
  go_wp2_with fail
  refine HF.out.mono ?_
  rintro _ w5 ⟨v5, rfl, ho5, hb5⟩
  obtain ⟨a5, c5, rfl⟩ := ho5.shape
  have HO5 := hid ho5
  have HB5 := hid hb5
  have HK5 := hid (below_keeps HB5.out HK4.out (by have := HS4.out; omega))
  clear ho5 hb5 HF
  go_wp2_with (first | (refine wpList_st1 rfl 22 (.tmp 26) (.tmp 24) rfl (w.heap.size + 2) 9 (.slice a5 O.length c5) rfl rfl rfl 29 _ (pkCells (partH h a O mf) (.slice a5 O.length c5) (.slice ab nb capb)) HK5.out size22 (by show 9 < 11; decide) rfl ?_) | fail)
  intro w6 hk6 hbut6
  have HK6 := hid hk6
  have HU6 := hid hbut6
  have HB6 : Hid (Below w1.heap.size w1 w6) := by
    have h1 : Below w1.heap.size w1 w5 := HB4.out.trans (HB5.out.mono HB4.out.size)
    exact hbut6.below h1 h1.size (by have := HS1.out; omega)
  have HS6 : Hid (w.heap.size + 3 ≤ w6.heap.size) := by have h1 := HB5.out.size; have h2 := HS4.out; have h3 := HU6.out.size; unfold Hid; omega
  have HBW6 : Hid (Below w.heap.size w w6) := HB1.out.trans (HB6.out.mono HB1.out.size)
  have c10 : w6.cell? ⟨w.heap.size, 10, none⟩ = some (.slice ab nb capb) := pk_at (below_keeps HB6.out HK0.out (by have := HS1.out; omega)) 10 (by omega)
  have HF := hid (rcopied_any _ ((B.take b).drop a) w6 (HSM.out.below HBW6.out) (by rw [List.length_drop, List.length_take]; omega))
  clear hk6 hbut6
  go_wp2_with fail
  refine HF.out.mono ?_
  rintro _ w7 ⟨v7, rfl, ho7, hb7⟩
  obtain ⟨n7, hn7⟩ : ∃ n7, n7 = ((B.take b).drop a).length := ⟨_, rfl⟩
  obtain ⟨a7, c7, rfl⟩ := ho7.shape
  have HO7 := hid ho7
  have HB7 := hid hb7
  have HK7 := hid (below_keeps HB7.out HK6.out (by have := HS6.out; omega))
  rw [← hn7] at HO7 ⊢
  clear ho7 hb7 HF c10 hn7
  go_wp2_with (first | (refine wpList_st1 rfl 22 (.tmp 33) (.tmp 32) rfl (w.heap.size + 2) 10 (.slice a7 n7 c7) rfl rfl rfl 29 _ (pkCells (partH h a O mf) (.slice a5 O.length c5) (.slice a7 n7 c7)) HK7.out size22 (by show 10 < 11; decide) rfl ?_) | fail)
  intro w8 hk8 hbut8
  have HL8 := hid (pk_load hk8)
  have HU8 := hid hbut8
  have HK9 : Hid (w8.heap[w.heap.size + 1]? = some (.cells Z29 29)) := HU8.out.keeps (below_keeps HB7.out (below_keeps HB6.out HK1.out (by have := HS1.out; omega)) (by have := HS6.out; omega)) (by omega)
  obtain ⟨cr, hcr⟩ : ∃ cr, cr = pkCells (partH h a O mf) (.slice a5 O.length c5) (.slice a7 n7 c7) := ⟨_, rfl⟩
  have HCR := hid hcr
  have HALL : Hid (cr.all (·.oneCell') = true) := by unfold Hid; rw [hcr]; exact all_pk _ _ _ _ _ _ _
  have HSZ : Hid (cr.size = 11) := by unfold Hid; rw [hcr]; rfl
  rw [← hcr] at HL8
  clear hcr hk8 hbut8
  go_wp2_with (first | (refine wpList_ld 29 ⟨w.heap.size + 2, 0, none⟩ (.tmp 11) rfl rfl HL8.out rfl ?_) | (refine wpList_st rfl 29 (.tmp 10) (.tmp 34) rfl (w.heap.size + 1) cr rfl rfl 29 Z29 HK9.out (by rw [HSZ.out]; exact sz29) (by rw [HSZ.out]; rfl) HALL.out ?_) | fail)
  intro w9 hk9 hbut9
  rw [HCR.out] at hk9
  have HL9 := hid (pk_var hk9)
  go_wp2_with fail
  refine bodyPost_ret (v := .agg (pkCells (partH h a O mf) (.slice a5 O.length c5) (.slice a7 n7 c7))) (by simp [results, Try.results47, asAddr, HL9.out]) rfl ?_
  have hB7 : Below w.heap.size w w7 := HBW6.out.trans (HB7.out.mono HBW6.out.size)
  have hB8 := HU8.out.below hB7 hB7.size (by omega)
  have hB9 := hbut9.below hB8 hB8.size (by omega)
  refine ⟨_, _, rfl, ?_, ?_, hB9⟩
  · exact OwnB.but (OwnB.but (OwnB.below (OwnB.but (OwnB.low (b' := w.heap.size + 3) HO5.out HS4.out) HU6.out (by omega)) HB7.out) HU8.out (by omega)) hbut9 (by omega)
  · exact OwnB.but (OwnB.but (OwnB.low (b' := w.heap.size + 3) HO7.out HS6.out) HU8.out (by omega)) hbut9 (by omega)
end Go.Proofs.Ytdoeebbcieiimaa
