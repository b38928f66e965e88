/-
  icmp.lay: a message is laid.
-/
import Derived.Test.YtcboenmmkaochaaIA
import Derived.Laws.CopyOwn
namespace Go.Proofs.Ytcboenmmkaochaa.N
open Go.ChangeShapes Go.WideShapes Go.ChangeAt Go.RowKit
set_option maxHeartbeats 2000000
set_option maxRecDepth 100000

def ctCells (m : Im.Ct) (vb : Value) : Array Value := #[.int .u8 (m.t : Int), .int .u8 (m.c : Int), .int .u32 (m.r : Int), vb]

theorem ct_at {u : World} {n : Nat} {m : Im.Ct} {vb : Value} {t : TypeId} (hb : u.heap[n]? = some (.cells (ctCells m vb) t)) :
    u.cell? ⟨n, 0, none⟩ = some (.int .u8 (m.t : Int)) ∧ u.cell? ⟨n, 1, none⟩ = some (.int .u8 (m.c : Int)) ∧ u.cell? ⟨n, 2, none⟩ = some (.int .u32 (m.r : Int)) ∧ u.cell? ⟨n, 3, none⟩ = some vb := by
  refine ⟨?_, ?_, ?_, ?_⟩ <;> (rw [cell_of_row u _ _ _ _ _ hb]; rfl)

theorem splice8 (a b c d e f g h : Nat) (R B : List Nat) (hl : B.length = R.length) : splice (a :: b :: c :: d :: e :: f :: g :: h :: R) 8 B = a :: b :: c :: d :: e :: f :: g :: h :: B := by
  unfold splice
  simp [hl]
  omega

theorem But.boxed {g n : Nat} {w w' : World} (h : But g w w') (hn : n < w.heap.size) (hne : n ≠ g) {o : Obj} (ho : w.heap[n]? = some o) : w'.heap[n]? = some o := (h.block n hn hne).trans ho

theorem But.alloc {g : Nat} {w w' : World} (h : But g w w') (o : Obj) : But g w (w'.alloc o) := by
  have hb := (Below.refl w'.heap.size w').alloc (Nat.le_refl _) o
  exact ⟨hb.os.trans h.os, hb.tape.trans h.tape, hb.output.trans h.output, Nat.le_trans h.size hb.size, fun i hi hn => (hb.block i (Nat.lt_of_lt_of_le hi h.size)).trans (h.block i hi hn)⟩

theorem lay_any (m : Im.Ct) (vb : Value) (w : World) (hok : m.Ok) (hvb : SeesB w vb m.B) (hl : m.B.length ≤ 65507) :
    Calls Try.prog 14 #[.agg (ctCells m vb)] w fun e w' => ∃ g k, e = .returned (.slice (some ⟨g, 0, none⟩) k k) ∧ SeesB w' (.slice (some ⟨g, 0, none⟩) k k) (Im.laid m) ∧ Blk w' g (Im.laid m) ∧ w.heap.size ≤ g ∧ Below w.heap.size w w' := by
  obtain ⟨w1, hw1⟩ : ∃ w1, w1 = w.alloc (.cells (ctCells m vb) 25) := ⟨_, rfl⟩
  have hb1 : Below w.heap.size w w1 := by rw [hw1]; exact (Below.refl _ _).alloc (Nat.le_refl _) _
  have hs1 : w1.heap.size = w.heap.size + 1 := by rw [hw1]; simp
  have hk1 : w1.heap[w.heap.size]? = some (.cells (ctCells m vb) 25) := by rw [hw1]; exact heap_alloc_new w _
  have HVB := hid hvb
  obtain ⟨ab, nb, capb, rfl, HNB, hnb1, hnb2⟩ := hvb.shape
  unfold maxLen at hnb2
  have hnb : nb ≤ 65507 := by have := HNB.out; omega
  obtain ⟨g, hg⟩ : ∃ g, g = w1.heap.size := ⟨_, rfl⟩
  obtain ⟨tot, ht⟩ : ∃ tot, tot = 8 + nb := ⟨_, rfl⟩
  have hmk : ∀ u : World, (Instr.makeSlice 23 (.int .i64 (8 + (nb : Int))) (.int .i64 (8 + (nb : Int)))).run Try.prog u = .ok (.slice (some ⟨u.heap.size, 0, none⟩) tot tot) (u.alloc (.cells (madeCells #[.int .u8 0] tot) 5)) := by
    rw [show (8 : Int) + (nb : Int) = (tot : Int) by omega]
    exact make_bytes tot (by omega)
  obtain ⟨w2, hw2⟩ : ∃ w2, w2 = w1.alloc (.cells (madeCells #[.int .u8 0] tot) 5) := ⟨_, rfl⟩
  obtain ⟨R, hR⟩ : ∃ R, R = List.replicate nb 0 := ⟨_, rfl⟩
  have hB2 : Blk w2 g (0 :: 0 :: 0 :: 0 :: 0 :: 0 :: 0 :: 0 :: R) := by
    have := made_blk w1 tot
    rw [← hw2, ← hg, ht, ← List.replicate_append_replicate, ← hR] at this
    exact this
  have hb2 : Below w1.heap.size w1 w2 := by rw [hw2]; exact (Below.refl _ _).alloc (Nat.le_refl _) _
  have hs2 : w2.heap.size = w1.heap.size + 1 := by rw [hw2]; simp
  have HK : Hid (∀ u, But g w2 u → u.heap[w.heap.size]? = some (.cells (ctCells m (.slice ab nb capb)) 25)) := fun u hu => hu.boxed (by omega) (by omega) ((hb2.block _ (by omega)).trans hk1)
  have HBW : Hid (∀ u, But g w2 u → Below w.heap.size w u) := fun u hu => by
    have h0 := hb1.trans (hb2.mono hb1.size)
    exact hu.below h0 h0.size (by omega)
  have hRl : R.length = nb := by rw [hR, List.length_replicate]
  have HRL := hid hRl
  have c0 := hB2.cell 0 (by simp)
  have c1 := hB2.cell 1 (by simp)
  have f0 := hB2.free 0
  have f1 := hB2.free 1
  obtain ⟨d0, d1, d2, d3⟩ := ct_at (HK.out _ (But.refl _ _))
  have e3 := (ct_at hk1).2.2.2
  obtain ⟨ht1, hc1, hr1⟩ := hok
  have hne : ¬ w.heap.size = g := by omega
  have hne' : ¬ g = w.heap.size := by omega
  have b0 : (0 : Int) < (tot : Int) := by omega
  have b1 : (1 : Int) < (tot : Int) := by omega
  have HT : Hid ((8 : Int) + (nb : Int) = (tot : Int)) := by unfold Hid; omega
  have hB3 : Blk ((w2.setCell ⟨g, 0, none⟩ (.int .u8 (m.t : Int))).setCell ⟨g, 1, none⟩ (.int .u8 (m.c : Int))) g (m.t :: m.c :: 0 :: 0 :: 0 :: 0 :: 0 :: 0 :: R) := (hB2.set 0 m.t).set 1 m.c
  have hu3 : But g w2 ((w2.setCell ⟨g, 0, none⟩ (.int .u8 (m.t : Int))).setCell ⟨g, 1, none⟩ (.int .u8 (m.c : Int))) := (But.set _ _ _ _).trans (But.set _ _ _ _)
  have HB3 := hid (And.intro hB3 hu3)
  have HW1 := hid hw1
  have HW2 := hid hw2
  have HG := hid hg
  have HTT := hid ht
  have hOK : m.Ok := ⟨ht1, hc1, hr1⟩
  have HOK := hid hOK
  have HB2X := hid (And.intro hb2 hb1)
  have HS := hid (And.intro hs1 hs2)
  have htl : tot ≤ 65515 := by omega
  have ht8 : 8 ≤ tot := by omega
  have HLEN : Hid (m.B.length = nb) := HNB.out.symm
  have k4 : ∀ u : World, (Instr.sliceAt 23 (.slice (some ⟨g, 0, none⟩) tot tot) (some (.int .i64 4)) none none).run Try.prog u = .ok (.slice (some ⟨g, 4, none⟩) (tot - 4) (tot - 4)) u := fun u => by
    have := cut_at g 0 tot tot 4 4 rfl (by omega) (by omega) u
    rwa [Nat.zero_add] at this
  have k2 : ∀ u : World, (Instr.sliceAt 23 (.slice (some ⟨g, 0, none⟩) tot tot) (some (.int .i64 2)) none none).run Try.prog u = .ok (.slice (some ⟨g, 2, none⟩) (tot - 2) (tot - 2)) u := fun u => by
    have := cut_at g 0 tot tot 2 2 rfl (by omega) (by omega) u
    rwa [Nat.zero_add] at this
  obtain ⟨a8, HA8, k8⟩ := cut_end g tot 8 8 rfl (by omega)
  clear hw1 hw2 hg ht hR hvb hk1 hb1 hb2 hB2 hB3 hu3 hRl hs1 hs2 hl hOK HNB
  obtain ⟨mt, mc, mr, mB⟩ := m
  simp only at *
  have HCT : Hid (ctCells ⟨mt, mc, mr, mB⟩ (.slice ab nb capb) = #[.int .u8 (mt : Int), .int .u8 (mc : Int), .int .u32 (mr : Int), .slice ab nb capb]) := rfl
  rw [HCT.out] at HW1 ⊢
  go_enter Try.func14, Try.ntmps14
  go_upto_region 1 with fail
  rw [← HW1.out]
  go_upto_region 2 with fail
  rw [← HG.out, ← HW2.out]
  go_cut [] from 17 (fun wx => Hid (Blk wx g (mt :: mc :: 0 :: 0 :: 0 :: 0 :: 0 :: 0 :: R)) ∧ But g w2 wx)
  case first =>
    go_region
    all_goals (
      go_wp2_with fail
      go_meet
      case rel => exact ⟨HB3.out.1, But.drew HB3.out.2⟩)
  case rest =>
  obtain ⟨hB3, hu3⟩ := hcut
  obtain ⟨w3, hw3⟩ : ∃ w3, w3 = wc := ⟨_, rfl⟩
  rw [← hw3] at hB3 hu3 ⊢
  clear hw3 HB3 c0 c1 f0 f1 d0 d1 d2 d3 e3
  have hg3 := hB3.out.lt
  obtain ⟨_, _, d2, _⟩ := ct_at (HK.out _ hu3)
  have HC3 := hid (iwrite32_any g 4 (tot - 4) (tot - 4) mr _ w3.drew hB3.out (by omega) (Nat.le_refl _) (by simp; have := HRL.out; have := HTT.out; omega) hr1)
  go_upto_region 3 with fail
  go_cut [] from 22 (fun wx => Hid (Blk wx g (mt :: mc :: 0 :: 0 :: mr / 65536 / 256 :: mr / 65536 % 256 :: mr % 65536 / 256 :: mr % 65536 % 256 :: R)) ∧ But g w2 wx)
  case first =>
    go_region_with (first | (go_at_call 19; refine HC3.out.mono ?_; rintro _ w4 ⟨rfl, hB4, hu4⟩) | fail)
    all_goals (
      go_wp2_with fail
      go_meet
      case rel => exact ⟨hB4, hu3.trans ((But.drew (But.refl _ _)).trans hu4)⟩)
  case rest =>
  obtain ⟨HB4, hu4⟩ := hcut
  obtain ⟨w4, hw4⟩ : ∃ w4, w4 = wc := ⟨_, rfl⟩
  rw [← hw4] at HB4 hu4 ⊢
  clear hw4 HC3 d2 hB3 hu3
  obtain ⟨_, _, _, d3⟩ := ct_at (HK.out _ hu4)
  have hb4 : Below g w1 w4 := hu4.below (by rw [HG.out]; exact HB2X.out.1) (by have := HS.out; have := HG.out; omega) (Nat.le_refl _)
  obtain ⟨X4, hX4⟩ : ∃ X4, X4 = bs (mt :: mc :: 0 :: 0 :: mr / 65536 / 256 :: mr / 65536 % 256 :: mr % 65536 / 256 :: mr % 65536 % 256 :: R) := ⟨_, rfl⟩
  obtain ⟨O4, hO4⟩ : ∃ O4, O4 = bs mB := ⟨_, rfl⟩
  have HG4 : Hid (w4.heap[g]? = some (.cells X4.toArray 5 (0, 0))) := by unfold Hid; rw [hX4]; exact HB4.out
  have HX4 := hid hX4
  have HO4 := hid hO4
  have HLO4 : Hid (O4.length = nb) := by unfold Hid; rw [hO4, bs, List.length_map, HLEN.out]
  have HLX4 : Hid (X4.length = tot) := by unfold Hid; rw [hX4, bs, List.length_map]; simp; have := HRL.out; have := HTT.out; omega
  have HMN : Hid (O4.length = Nat.min nb (tot - 8)) := by unfold Hid; rw [HLO4.out]; have := HTT.out; show nb = min nb (tot - 8); omega
  have HPS : Hid (0 < O4.length → a8 = some ⟨g, 8, none⟩ ∧ ∃ ad, ab = some ad ∧ ∀ j v, O4[j]? = some v → w4.drew.cell? (ad.add j) = some v) := fun hp => by
    refine ⟨HA8.out (by have := HLO4.out; have := HTT.out; omega), ?_⟩
    rw [HO4.out] at hp ⊢
    exact (HVB.out.below (HBW.out _ (But.drew hu4))).src hp
  have HFT : Hid (8 + O4.length ≤ X4.length) := by unfold Hid; rw [HLO4.out, HLX4.out]; have := HTT.out; omega
  have HO1 : Hid (∀ v ∈ O4, v.oneCell' = true) := fun v hv => by
    rw [HO4.out] at hv
    obtain ⟨y, _, rfl⟩ := List.mem_map.1 hv
    rfl
  have HBD4 := hid (below_drew hb4)
  clear hX4 hO4 HB4
  go_upto_region 4 with fail
  go_cut [] from 27 (fun wx => Hid (wx.heap[g]? = some (.cells (splice X4 8 O4).toArray 5 (0, 0))) ∧ Below g w1 wx)
  case first =>
    go_region_law (first
      | (refine step_copy_splice rfl (.tmp 23) (.tmp 25) 23 23 rfl 5 Try.underlying23 size5 a8 ab (tot - 8) (tot - 8) nb capb rfl rfl g 8 X4 5 HG4.out O4 HMN.out HPS.out HFT.out HO1.out g w1 HBD4.out (Nat.le_refl _) ?_; intro w5 hg5 hb5)
      | fail)
    all_goals (
      go_wp2_with fail
      go_meet
      case rel => exact ⟨hg5, hb5⟩)
  case rest =>
  obtain ⟨HG5, hb5⟩ := hcut
  obtain ⟨w5, hw5⟩ : ∃ w5, w5 = wc := ⟨_, rfl⟩
  rw [← hw5] at HG5 hb5 ⊢
  clear hw5 d3 HG4 HMN HPS HFT HO1 HBD4 hb4 hu4
  have HB5 : Hid (Blk w5 g (Im.msg ⟨mt, mc, mr, mB⟩ 0)) := by
    unfold Hid
    have e : splice X4 8 O4 = bs (Im.msg ⟨mt, mc, mr, mB⟩ 0) := by
      rw [HX4.out, HO4.out, bs_splice, splice8 _ _ _ _ _ _ _ _ _ _ (by rw [HRL.out, HLEN.out])]
      rfl
    have := HG5.out
    rw [e] at this
    exact this
  have hlen : (Im.msg ⟨mt, mc, mr, mB⟩ 0).length = tot := by
    rw [Im.msg_len]
    have := HTT.out; have := HLEN.out
    simp only at *
    omega
  have hbytes : ∀ x ∈ Im.msg ⟨mt, mc, mr, mB⟩ 0, x < 256 := Im.msg_bytes HOK.out HVB.out.bytes (by decide)
  have s1 : SeesB w5.drew (.slice (some ⟨g, 0, none⟩) tot tot) (Im.msg ⟨mt, mc, mr, mB⟩ 0) := sees_blk (show w5.drew.heap[g]? = _ from HB5.out) hlen (by omega) hbytes
  have HSM0 := sum_code _ _ _ (seesBB_one (w := w5.drew) rfl _ _ s1 23) (by simp; omega)
  rw [show [Im.msg ⟨mt, mc, mr, mB⟩ 0].flatten = Im.msg ⟨mt, mc, mr, mB⟩ 0 by simp] at HSM0
  have HLD : Hid (Im.laid ⟨mt, mc, mr, mB⟩ = ((Im.msg ⟨mt, mc, mr, mB⟩ 0).set 2 (M.csum (Im.msg ⟨mt, mc, mr, mB⟩ 0) / 256)).set (2 + 1) (M.csum (Im.msg ⟨mt, mc, mr, mB⟩ 0) % 256)) := rfl
  have HLB : Hid (∀ x ∈ Im.laid ⟨mt, mc, mr, mB⟩, x < 256) := Im.laid_bytes HOK.out HVB.out.bytes
  have HLL : Hid ((Im.laid ⟨mt, mc, mr, mB⟩).length = tot) := by
    unfold Hid; rw [Im.laid_len]
    have := HTT.out; have := HLEN.out
    simp only at *
    omega
  generalize hLDE : Im.laid ⟨mt, mc, mr, mB⟩ = LD at *
  have HLDE := hid hLDE
  clear hLDE
  have hlt := M.csum_lt (Im.msg ⟨mt, mc, mr, mB⟩ 0)
  generalize M.csum (Im.msg ⟨mt, mc, mr, mB⟩ 0) = s at *
  generalize Im.msg ⟨mt, mc, mr, mB⟩ 0 = X5 at *
  have hg5 := HB5.out.lt
  have HC : Hid (∀ u, Below w5.heap.size w5 u → Calls Try.prog 20 #[.slice (some ⟨g, 2, none⟩) (tot - 2) (tot - 2), .int .u16 (s : Int)] u fun e w' => e = .returned (.tuple #[]) ∧ Blk w' g LD ∧ But g u w') := fun u hu => by
    rw [HLD.out]
    exact iwrite16_any g 2 (tot - 2) (tot - 2) s X5 u ((hu.block g hg5).trans HB5.out) (by omega) (by omega) hlt
  have HSM : Hid (Calls Try.prog 11 #[.slice (some ⟨w5.heap.size, 0, none⟩) 1 1] (w5.drew.alloc (.cells #[.slice (some ⟨g, 0, none⟩) tot tot] 23)) fun e w' => e = .returned (.int .u16 (s : Int)) ∧ Below w5.heap.size w5 w') := by
    refine HSM0.mono ?_
    rintro e w' ⟨rfl, hb⟩
    have hbA : Below w5.heap.size w5 (w5.drew.alloc (.cells #[.slice (some ⟨g, 0, none⟩) tot tot] 23)) := (below_drew (Below.refl w5.heap.size w5)).alloc (Nat.le_refl _) _
    exact ⟨rfl, hbA.trans (hb.mono hbA.size)⟩
  have HB5 := hid hb5
  clear s1 HSM0 hlen hbytes HG5 hb5 k4 k8 HX4 HO4 HLX4 HLO4
  go_upto_region 5 with fail
  go_region_with (first | (go_at_call 11; refine HSM.out.mono ?_; rintro _ w6 ⟨rfl, hb6⟩) | (go_at_call 20; refine (HC.out _ hb6).mono ?_; rintro _ w7 ⟨rfl, hB7, hu7⟩) | fail)
  all_goals (
    go_wp2_with fail
    go_ret
    have hb7 : Below g w1 w7 := hu7.below (HB5.out.trans (hb6.mono (by omega))) (by have := hb6.size; omega) (Nat.le_refl _)
    rw [HLDE.out]
    exact ⟨g, tot, rfl, sees_blk hB7 HLL.out (by omega) HLB.out, hB7, by have := HG.out; have := HS.out; omega, HB2X.out.2.trans (hb7.mono (by have := HG.out; have := HS.out; omega))⟩)
end Go.Proofs.Ytcboenmmkaochaa.N
