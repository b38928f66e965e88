/-
  weftref7: BuildUDP.
-/
import Derived.Test.YtcelcnafcfefhaaTB
import Derived.Test.YtcelcnafcfefhaaNG
import Derived.Test.YtcelcnafcfefhaaNH
namespace Go.Proofs.Ytcelcnafcfefhaa.N
open Go.ChangeShapes Go.WideShapes Go.ChangeAt Go.RowKit
set_option maxHeartbeats 8000000
set_option maxRecDepth 100000

/-- A byte of a list of the call's own is written. -/
theorem OwnB.put {w : World} {base g n cap : Nat} {C : List Nat} (h : OwnB w base (.slice (some ⟨g, 0, none⟩) n cap) C) (i x : Nat) :
    OwnB (w.setCell ⟨g, i, none⟩ (.int .u8 (x : Int))) base (.slice (some ⟨g, 0, none⟩) n cap) (C.set i x) ∧ Below base w (w.setCell ⟨g, i, none⟩ (.int .u8 (x : Int))) := by
  rcases h.2 with ⟨h1, _⟩ | ⟨g', cap', cur, h1, hb, hg, hnc, hcm, hcs, ht⟩
  · cases h1
  · simp at h1
    obtain ⟨rfl, hn, rfl⟩ := h1
    have h2 := heap_setCell_same w g i cur 5 (.int .u8 (x : Int)) hg
    refine ⟨⟨by simp [bs], .inr ⟨g, cap, _, by rw [List.length_set, hn], hb, h2, by rw [List.length_set]; exact hnc, hcm, by simpa using hcs, ?_⟩⟩, (Below.refl _ _).setCell (p := ⟨g, i, none⟩) hb _⟩
    rw [List.length_set]
    simp only [Array.toList_setIfInBounds, List.take_set]
    rw [ht]
    simp [bs, List.map_set]

theorem OwnB.grip {w : World} {base : Nat} {v : Value} {C : List Nat} (h : OwnB w base v C) (hne : C ≠ []) : ∃ g n cap, v = .slice (some ⟨g, 0, none⟩) n cap ∧ Hid (n = C.length) ∧ base ≤ g ∧ n ≤ cap ∧ cap ≤ maxLen ∧ (∀ j, w.frozen? ⟨g, j, none⟩ = false) := by
  rcases h.2 with ⟨rfl, hn⟩ | ⟨g, cap, cur, rfl, hb, hg, hnc, hcm, hcs, ht⟩
  · exact absurd (List.eq_nil_of_length_eq_zero hn) hne
  · exact ⟨g, _, cap, rfl, rfl, hb, hnc, hcm, fun j => frozen_of_row _ _ _ _ _ hg⟩

def dgCells (x : Tn.Dg) (vb : Value) : Array Value := #[.int .u16 (x.s : Int), .int .u16 (x.d : Int), vb]

theorem dg_at {u : World} {n : Nat} {x : Tn.Dg} {vb : Value} {t : TypeId} (hb : u.heap[n]? = some (.cells (dgCells x vb) t)) :
    u.cell? ⟨n, 0, none⟩ = some (.int .u16 (x.s : Int)) ∧ u.cell? ⟨n, 1, none⟩ = some (.int .u16 (x.d : Int)) ∧ u.cell? ⟨n, 2, none⟩ = some vb :=
  ⟨by rw [cell_of_row _ _ _ _ _ _ hb]; rfl, by rw [cell_of_row _ _ _ _ _ _ hb]; rfl, by rw [cell_of_row _ _ _ _ _ _ hb]; rfl⟩

theorem udp_laid (x : Tn.Dg) (n : Nat) : Tn.udp x n 0 = [] ++ laidL x.s 2 ++ laidL x.d 2 ++ laidL n 2 ++ laidL 0 2 ++ x.B := by
  rw [laidL_two, laidL_two, laidL_two, laidL_two]
  rfl

theorem udp_set (x : Tn.Dg) (n s : Nat) : ((Tn.udp x n 0).set 6 (s / 256)).set 7 (s % 256) = Tn.udp x n s := by
  simp only [Tn.udp, List.set_cons_succ, List.set_cons_zero]

theorem built_true (src dst : Nat) (x : Tn.Dg) (n s : Nat) (hn : n = 8 + x.B.length) (hs : s = Tn.usum src dst x) : Tn.builtU src dst x true = Tn.udp x n s := by
  rw [Tn.built_sum, hn, hs]

theorem built_false (src dst : Nat) (x : Tn.Dg) (n : Nat) (hn : n = 8 + x.B.length) : Tn.builtU src dst x false = Tn.udp x n 0 := by
  unfold Tn.builtU
  rw [if_neg (by simp), hn]

theorem buildUR_any (x : Tn.Dg) (vb : Value) (src dst : Nat) (sum : Bool) (w : World) (hx : x.Ok) (hvb : SeesB w vb x.B) (hs : src < 4294967296) (hd : dst < 4294967296) :
    Calls Try.prog 35 #[.int .u32 (src : Int), .int .u32 (dst : Int), .agg (dgCells x vb), .bool sum] w fun e w' => ∃ v, e = .returned (.tuple #[v, .int .i64 (Tn.buE x)]) ∧ OwnB w' w.heap.size v (Tn.buL src dst x sum) ∧ Below w.heap.size w w' := by
  obtain ⟨ab, nb, capb, rfl, HNB, hnb1, hnb2⟩ := hvb.shape
  unfold maxLen at hnb2
  obtain ⟨w1, hw1⟩ : ∃ w1, w1 = w.alloc (.cells (dgCells x (.slice ab nb capb)) 27) := ⟨_, rfl⟩
  have hs1 : w1.heap.size = w.heap.size + 1 := by rw [hw1]; simp
  have hb1 : Below w.heap.size w w1 := by rw [hw1]; exact (Below.refl _ _).alloc (Nat.le_refl _) _
  have HC : Hid (∀ u, Below w1.heap.size w1 u → u.cell? ⟨w.heap.size, 0, none⟩ = some (.int .u16 (x.s : Int)) ∧ u.cell? ⟨w.heap.size, 1, none⟩ = some (.int .u16 (x.d : Int)) ∧ u.cell? ⟨w.heap.size, 2, none⟩ = some (.slice ab nb capb)) := fun u hu =>
    dg_at (t := 27) (by rw [hu.block _ (by omega), hw1]; exact heap_alloc_new w _)
  have HW1 := hid hw1
  have HB1 := hid hb1
  have HBY := hid hvb.bytes
  have HV1 := hid (hvb.below hb1)
  have HS1 := hid hs1
  obtain ⟨c0, c1, c2⟩ := HC.out _ (Below.refl _ _)
  have hxs := hx.s
  have hxd := hx.d
  by_cases hbig : 65527 < nb
  · have hbig' : 65527 < x.B.length := by rw [← HNB.out]; exact hbig
    have he : Tn.buE x = 2 := by unfold Tn.buE; rw [if_pos hbig']
    have hL : Tn.buL src dst x sum = [] := by unfold Tn.buL; rw [if_pos hbig']
    rw [he, hL]
    generalize dgCells x (.slice ab nb capb) = dg at *
    clear hw1 hs1 hb1 hvb he hL hbig'
    go_enter Try.func35, Try.ntmps35
    go_upto_region 1 with fail
    rw [← HW1.out]
    go_wp2_with fail
    refine bodyPost_ret (results_tmp2 Try.results35 _ _ _) rfl ?_
    exact ⟨.slice none 0 0, rfl, ownB_nil _ _, HB1.out⟩
  · have hbig' : x.B.length ≤ 65527 := by rw [← HNB.out]; omega
    have he : Tn.buE x = 0 := by unfold Tn.buE; rw [if_neg (by omega)]
    have hL : Tn.buL src dst x sum = Tn.builtU src dst x sum := by unfold Tn.buL; rw [if_neg (by omega)]
    rw [he, hL]
    have HLA : Hid (∀ (l : Value) (M : List Nat) (y n : Nat) (u : World), Below w1.heap.size w1 u → OwnB u w1.heap.size l M → n ≤ 8 → y ≤ 4294967296 → M.length ≤ 100 → Calls Try.prog 59 #[l, .int .i64 (y : Int), .int .i64 (n : Int)] u fun e w' => ∃ l', e = .returned l' ∧ OwnB w' w1.heap.size l' (M ++ laidL y n) ∧ Below w1.heap.size w1 w') := fun l M y n u hu hO hn hy hM =>
      laidR_any l M y n w1 u hu hO hn (by omega) (by omega)
    have HJO : Hid (∀ (l : Value) (M : List Nat) (u : World), Below w1.heap.size w1 u → OwnB u w1.heap.size l M → M.length ≤ 100 → Calls Try.prog 58 #[l, .slice ab nb capb, .int .i64 0, .int .i64 (nb : Int)] u fun e w' => ∃ l', e = .returned l' ∧ OwnB w' w1.heap.size l' (M ++ x.B) ∧ Below w1.heap.size w1 w') := fun l M u hu hO hM => by
      have := joinedR_any l (.slice ab nb capb) M x.B 0 nb w1 u hu hO HV1.out (by omega) (by rw [HNB.out]; exact Nat.le_refl _) (by omega)
      rw [List.drop_zero, List.take_of_length_le (by rw [HNB.out]; exact Nat.le_refl _)] at this
      exact this
    obtain ⟨n, hn⟩ : ∃ n, n = 8 + nb := ⟨_, rfl⟩
    have hn2 : (8 : Int) + (nb : Int) = (n : Int) := by omega
    have hnx : n = 8 + x.B.length := by rw [hn, HNB.out]
    have hn16 : n ≤ 65535 := by omega
    have hn8 : 8 ≤ n := by omega
    have HNX := hid hnx
    have HUD : Hid (Tn.udp x n 0 = [] ++ laidL x.s 2 ++ laidL x.d 2 ++ laidL n 2 ++ laidL 0 2 ++ x.B) := udp_laid x n
    have X1 := hid (HLA.out (.slice none 0 0) [] x.s 2 w1 (Below.refl _ _) (ownB_nil _ _) (by omega) (by omega) (by simp))
    have HNL : Hid (n = 8 + nb) := hn
    generalize dgCells x (.slice ab nb capb) = dg at *
    clear hw1 hs1 hb1 hvb he hL hbig' hnx hn
    go_enter Try.func35, Try.ntmps35
    go_upto_region 1 with fail
    rw [← HW1.out]
    go_wp2_with fail
    refine X1.out.mono ?_
    rintro _ w2 ⟨l2, rfl, ho2, hb2⟩
    have X2 := hid (HLA.out l2 _ x.d 2 w2 hb2 ho2 (by omega) (by omega) (by simp [laidL_len]))
    obtain ⟨d0, d1, d2⟩ := HC.out _ hb2
    clear ho2 hb2 X1 c0 c1 c2
    go_wp2_with fail
    refine X2.out.mono ?_
    rintro _ w3 ⟨l3, rfl, ho3, hb3⟩
    have X3 := hid (HLA.out l3 _ n 2 w3 hb3 ho3 (by omega) (by omega) (by simp [laidL_len]))
    clear ho3 hb3 X2 d0 d1 d2
    go_wp2_with fail
    refine X3.out.mono ?_
    rintro _ w4 ⟨l4, rfl, ho4, hb4⟩
    have X4 := hid (HLA.out l4 _ 0 2 w4 hb4 ho4 (by omega) (by omega) (by simp [laidL_len]))
    clear ho4 hb4 X3
    go_wp2_with fail
    refine X4.out.mono ?_
    rintro _ w5 ⟨l5, rfl, ho5, hb5⟩
    have X5 := hid (HJO.out l5 _ w5 hb5 ho5 (by simp [laidL_len]))
    obtain ⟨d0, d1, d2⟩ := HC.out _ hb5
    clear ho5 hb5 X4
    go_wp2_with fail
    refine X5.out.mono ?_
    rintro _ w6 ⟨l6, rfl, ho6, hb6⟩
    have ho6' : OwnB w6 w1.heap.size l6 (Tn.udp x n 0) := by rw [HUD.out]; simpa using ho6
    have HO6 := hid ho6'
    have HB6 := hid hb6
    have HBU : Hid (∀ y ∈ Tn.udp x n 0, y < 256) := fun y hy => by
      simp only [Tn.udp, List.mem_cons] at hy
      rcases hy with rfl | rfl | rfl | rfl | rfl | rfl | rfl | rfl | hy
      · omega
      · omega
      · omega
      · omega
      · omega
      · omega
      · omega
      · omega
      · exact HBY.out y hy
    clear ho6 ho6' hb6 X5 d0 d1 d2 HLA HJO HUD
    cases sum with
    | false =>
      go_wp2_with fail
      refine bodyPost_ret (results_tmp2 Try.results35 _ _ _) rfl ?_
      refine ⟨l6, rfl, ?_, HB1.out.trans (HB6.out.mono HB1.out.size)⟩
      rw [built_false src dst x n HNX.out]
      exact HO6.out.mono HB1.out.size
    | true =>
      have HS6 := hid (HO6.out.sees HBU.out)
      have XC := hid (coveredR_any src dst n l6 (Tn.udp x n 0) w6 hs hd HS6.out (by rw [Tn.udp_len, HNX.out]; exact Nat.le_refl _) (by omega))
      obtain ⟨g, n6, c6, rfl, HN6, hg6, hnc6, hcm6, hfz6⟩ := HO6.out.grip (by simp [Tn.udp])
      unfold maxLen at hcm6
      have hn6 : n6 = n := by rw [HN6.out, Tn.udp_len, HNX.out]
      subst hn6
      have HFZ := hid hfz6
      clear hfz6
      go_wp2_with fail
      refine XC.out.mono ?_
      rintro _ w7 ⟨l7, rfl, ho7, hb7⟩
      have hcb : ∀ y ∈ Tn.cov src dst (Tn.udp x n6 0) n6, y < 256 := fun y hy => by
        simp only [Tn.cov, Tn.be4, Tn.be2, List.mem_append, List.mem_cons, List.not_mem_nil, or_false] at hy
        rcases hy with (((h | h) | h) | h) | h
        · omega
        · omega
        · omega
        · omega
        · exact HBU.out y (List.mem_of_mem_take h)
      have hs7 := ho7.sees hcb
      obtain ⟨a7, n7, c7, rfl, _, _, _⟩ := hs7.shape
      have hbb := seesBB_one (w := w7) rfl _ _ hs7 25
      have HSM0 := sum_ref _ _ _ hbb (by simp [Tn.cov_len]; omega)
      rw [show [Tn.cov src dst (Tn.udp x n6 0) n6].flatten = Tn.cov src dst (Tn.udp x n6 0) n6 by simp] at HSM0
      have HSM : Hid (Calls Try.prog 61 #[.slice (some ⟨w7.heap.size, 0, none⟩) 1 1] (w7.alloc (.cells #[.slice a7 n7 c7] 25)) fun e w' => e = .returned (.int .u16 ((M.csum (Tn.cov src dst (Tn.udp x n6 0) n6) : Nat) : Int)) ∧ Below w7.heap.size w7 w') := by
        refine HSM0.mono ?_
        rintro e w' ⟨rfl, hb⟩
        have hbA : Below w7.heap.size w7 (w7.alloc (.cells #[.slice a7 n7 c7] 25)) := (Below.refl w7.heap.size w7).alloc (Nat.le_refl _) _
        exact ⟨rfl, hbA.trans (hb.mono hbA.size)⟩
      have HCS : Hid (Tn.usum src dst x = if M.csum (Tn.cov src dst (Tn.udp x n6 0) n6) = 0 then 65535 else M.csum (Tn.cov src dst (Tn.udp x n6 0) n6)) := by unfold Hid Tn.usum; rw [HNX.out]
      have hcl := M.csum_lt (Tn.cov src dst (Tn.udp x n6 0) n6)
      have HB7 := hid hb7
      clear ho7 hb7 hs7 hbb HSM0 hcb XC
      generalize M.csum (Tn.cov src dst (Tn.udp x n6 0) n6) = cs at *
      go_wp2_with fail
      refine HSM.out.mono ?_
      rintro _ w8 ⟨rfl, hb8⟩
      have hb68 := HB7.out.trans (hb8.mono HB7.out.size)
      have ho8 := HO6.out.below hb68
      obtain ⟨s, hsv⟩ : ∃ s, s = Tn.usum src dst x := ⟨_, rfl⟩
      have hs16 : s < 65536 := by rw [hsv]; exact (Tn.usum_lt src dst x).1
      obtain ⟨ho9, hb9⟩ := ho8.put 6 (s / 256)
      obtain ⟨hoa, hba⟩ := ho9.put 7 (s % 256)
      obtain ⟨wa, hwa⟩ : ∃ wa, wa = (w8.setCell ⟨g, 6, none⟩ (.int .u8 ((s / 256 : Nat) : Int))).setCell ⟨g, 7, none⟩ (.int .u8 ((s % 256 : Nat) : Int)) := ⟨_, rfl⟩
      rw [← hwa] at hoa hba
      rw [udp_set] at hoa
      have hs8 := ho8.sees HBU.out
      obtain ⟨g', off', hgo, _, q6⟩ := hs8.atB 6 (by omega)
      simp at hgo
      obtain ⟨rfl, rfl⟩ := hgo
      obtain ⟨g', off', hgo, _, q7⟩ := hs8.atB 7 (by omega)
      simp at hgo
      obtain ⟨rfl, rfl⟩ := hgo
      rw [Nat.zero_add] at q6 q7
      obtain ⟨g2, n2, c2', hge, _, _, _, _, fz⟩ := ho8.grip (by simp [Tn.udp])
      have hg2 : g2 = g := by simp at hge; exact hge.1.symm
      rw [hg2] at fz
      clear hge hg2
      have f6 := fz 6
      have f7 := fz 7
      have hb6a : Below w1.heap.size w1 wa := by
        have h1 := HB6.out.trans (hb68.mono HB6.out.size)
        exact h1.trans (hb9.trans hba)
      have HBA := hid hb6a
      have HOB : Hid (OwnB wa w.heap.size (.slice (some ⟨g, 0, none⟩) n6 c6) (Tn.builtU src dst x true)) := by
        unfold Hid
        rw [built_true src dst x n6 s HNX.out hsv]
        exact hoa.mono HB1.out.size
      have HSV := hid hsv
      have HWA : Hid (wa = (w8.setCell ⟨g, 6, none⟩ (.int .u8 ((s / 256 : Nat) : Int))).setCell ⟨g, 7, none⟩ (.int .u8 ((s % 256 : Nat) : Int))) := hwa
      have b6 : (6 : Int) < (n6 : Int) := by omega
      have b7 : (7 : Int) < (n6 : Int) := by omega
      clear fz hwa hoa hba ho9 hb9 hs8 ho8 hb68 hb8 HSM hsv hb6a HS6
      by_cases hz : cs = 0
      · have hse : s = 65535 := by rw [HSV.out, HCS.out, if_pos hz]
        subst hse
        subst hz
        go_upto_region 17 with fail
        rw [show (255 : Int) = ((65535 / 256 : Nat) : Int) from rfl, show ((65535 / 256 : Nat) : Int) = ((65535 % 256 : Nat) : Int) from rfl] at *
        rw [← HWA.out]
        go_wp2_with fail
        refine bodyPost_ret (results_tmp2 Try.results35 _ _ _) rfl ?_
        refine ⟨_, rfl, ?_, HB1.out.trans (HBA.out.mono HB1.out.size)⟩
        exact HOB.out
      · have hse : cs = s := by rw [HSV.out, HCS.out, if_neg hz]
        subst hse
        have hq : ((cs : Int) == 0) = false := by simp; omega
        have e1 : (cs : Int) / 256 = ((cs / 256 : Nat) : Int) := by omega
        have e2 : (cs : Int) % 256 = ((cs % 256 : Nat) : Int) := by omega
        have e1' : (cs : Int).tdiv 256 = ((cs / 256 : Nat) : Int) := rfl
        have e2' : (cs : Int).tmod 256 = ((cs % 256 : Nat) : Int) := rfl
        have y1 : cs / 256 < 256 := by omega
        have y2 : cs % 256 < 256 := by omega
        generalize cs / 256 = Y1 at *
        generalize cs % 256 = Y2 at *
        clear hz
        go_upto_region 17 with fail
        rw [← HWA.out]
        go_wp2_with fail
        refine bodyPost_ret (results_tmp2 Try.results35 _ _ _) rfl ?_
        refine ⟨_, rfl, ?_, HB1.out.trans (HBA.out.mono HB1.out.size)⟩
        exact HOB.out
end Go.Proofs.Ytcelcnafcfefhaa.N
