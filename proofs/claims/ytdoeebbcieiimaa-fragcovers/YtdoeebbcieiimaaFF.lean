import Derived.Test.YtdoeebbcieiimaaFE
namespace Go.Proofs.Ytdoeebbcieiimaa
open Go.ChangeShapes Go.WideShapes Go.ChangeAt Go.RowKit
set_option maxHeartbeats 4000000
set_option maxRecDepth 100000

theorem splitL_mtu {h : Hd} {B : List Nat} {m : Int} (hm : m < 68) : splitL h B m = ([], 50) := by unfold splitL; rw [if_pos hm]
theorem splitL_bad {h : Hd} {B : List Nat} {m : Int} (hm : ¬ m < 68) (he : refE h B.length ≠ 0) : splitL h B m = ([], refE h B.length) := by unfold splitL; rw [if_neg hm, if_pos he]
theorem splitL_one {h : Hd} {B : List Nat} {m : Int} (hm : ¬ m < 68) (he : refE h B.length = 0) (hf : 20 + h.opts.length + B.length ≤ m.toNat) : splitL h B m = ([(h, B)], 0) := by
  unfold splitL; rw [if_neg hm, if_neg (by simp [he]), if_pos hf]
theorem splitL_df {h : Hd} {B : List Nat} {m : Int} (hm : ¬ m < 68) (he : refE h B.length = 0) (hf : ¬ 20 + h.opts.length + B.length ≤ m.toNat) (hd : h.df = true) : splitL h B m = ([], 51) := by
  unfold splitL; rw [if_neg hm, if_neg (by simp [he]), if_neg hf, if_pos hd]
theorem splitL_cut {h : Hd} {B : List Nat} {m : Int} (hm : ¬ m < 68) (he : refE h B.length = 0) (hf : ¬ 20 + h.opts.length + B.length ≤ m.toNat) (hd : h.df = false) : splitL h B m = (cutL (M.copied h.opts).1 m.toNat B.length h B, 0) := by
  unfold splitL; rw [if_neg hm, if_neg (by simp [he]), if_neg hf, if_neg (by simp [hd])]

theorem split_code (h : Hd) (vo vb : Value) (B : List Nat) (m : Int) (w : World) (hok : h.Ok) (hvo : SeesB w vo h.opts) (hvb : SeesB w vb B) (hlo : h.opts.length ≤ 140737488355328) (hlb : B.length ≤ 140737488355328) (hm1 : -9223372036854775808 ≤ m) (hm2 : m ≤ 9223372036854775807) :
    Calls Try.prog 10 #[.agg (pkCells h vo vb), .int .i64 m] w fun e w' => ∃ v', e = .returned (.tuple #[v', .int .i64 (splitL h B m).2]) ∧ PkRow w' w.heap.size v' (splitL h B m).1 ∧ Below w.heap.size w w' := by
  obtain ⟨w1, hw1⟩ : ∃ w1, w1 = w.alloc (.cells (pkCells h vo vb) 29) := ⟨_, rfl⟩
  have hb1 : Below w.heap.size w w1 := by rw [hw1]; exact (Below.refl _ _).alloc (Nat.le_refl _) _
  have hs1 : w1.heap.size = w.heap.size + 1 := by rw [hw1]; simp
  have hk1 : w1.heap[w.heap.size]? = some (.cells (pkCells h vo vb) 29) := by rw [hw1]; exact heap_alloc_new w _
  have HKP : Hid (∀ u, Below w1.heap.size w1 u → u.heap[w.heap.size]? = some (.cells (pkCells h vo vb) 29)) := fun u hu => below_keeps hu hk1 (by omega)
  have HLD : Hid (∀ u, Below w1.heap.size w1 u → (Instr.loadAt 29 (.pointer (some ⟨w.heap.size, 0, none⟩))).run Try.prog u = .ok (.agg (pkCells h vo vb)) u) := fun u hu => pk_load (HKP.out u hu)
  have HC2 : Hid (∀ u, Below w1.heap.size w1 u → u.cell? ⟨w.heap.size, 2, none⟩ = some (.bool h.df)) := fun u hu => pk_at (HKP.out u hu) 2 (by omega)
  have HFT := hid (fault_any h vo vb B w1 hok (hvo.below hb1) (hvb.below hb1) hlo hlb)
  have HSE : Hid (∀ u, Below w1.heap.size w1 u → Calls Try.prog 26 #[.agg (pkCells h vo vb)] u fun e w' => e = .returned (.int .i64 ((20 + h.opts.length + B.length : Nat) : Int)) ∧ Below u.heap.size u w') := fun u hu => by
    have hbu := hb1.trans (hu.mono hb1.size)
    exact size_any h vo vb B u (hvo.below hbu) (hvb.below hbu) hlo hlb
  have HCU : Hid (∀ u, Below w1.heap.size w1 u → ¬ m < 68 → refE h B.length = 0 → Calls Try.prog 27 #[.agg (pkCells h vo vb), .int .i64 m] u fun e w' => ∃ v', e = .returned v' ∧ PkRow w' u.heap.size v' (cutL (M.copied h.opts).1 m.toNat B.length h B) ∧ Below u.heap.size u w') := fun u hu h1 h2 => by
    have hbu := hb1.trans (hu.mono hb1.size)
    have := cut_any h vo vb B m.toNat u hok (hvo.below hbu) (hvb.below hbu) (by omega) (by omega) h2
    rw [show ((m.toNat : Nat) : Int) = m by omega] at this
    exact this
  have HW1 := hid hw1
  have HB1 := hid hb1
  obtain ⟨S, hS⟩ : ∃ S, S = 20 + h.opts.length + B.length := ⟨_, rfl⟩
  rw [← hS] at HSE
  have HSS := hid hS
  have hSl : S ≤ 281474976710700 := by omega
  obtain ⟨E, hE⟩ : ∃ E, E = refE h B.length := ⟨_, rfl⟩
  rw [← hE] at HFT HCU
  have HE := hid hE
  obtain ⟨R, hR⟩ : ∃ R, R = splitL h B m := ⟨_, rfl⟩
  rw [← hR]
  have HR := hid hR
  obtain ⟨d, hd⟩ : ∃ d, d = h.df := ⟨_, rfl⟩
  rw [← hd] at HC2
  have HD := hid hd
  clear hw1 hb1 hs1 hk1 hvo hvb hok hS hE hR hd HKP hlo hlb
  obtain ⟨cs, hcs⟩ : ∃ cs, cs = pkCells h vo vb := ⟨_, rfl⟩
  rw [← hcs] at HW1 HLD HFT HSE HCU ⊢
  clear hcs
  have HL1 := hid (HLD.out _ (Below.refl _ _))
  by_cases hm : m < 68
  · have HRE : Hid (R = ([], 50)) := by unfold Hid; rw [HR.out, splitL_mtu hm]
    go_enter Try.func10, Try.ntmps10
    go_upto_region 1 with fail
    rw [← HW1.out]
    go_wp2_with fail
    refine bodyPost_ret (results_tmp2 Try.results10 _ _ _) rfl ?_
    exact ⟨.slice none 0 0, by rw [HRE.out]; rfl, by rw [HRE.out]; exact pkRow_nil _ _, HB1.out⟩
  · by_cases he : E = 0
    · subst he
      by_cases hf : S ≤ m.toNat
      · have hq : (m < (S : Int)) = False := by simp; omega
        have HRE : Hid (R = ([(h, B)], 0)) := by unfold Hid; rw [HR.out, splitL_one hm HE.out.symm (by rw [← HSS.out]; exact hf)]
        have HCE : Hid (cutL (M.copied h.opts).1 m.toNat B.length h B = [(h, B)]) := cutL_fits (by rw [← HSS.out]; exact hf)
        go_enter Try.func10, Try.ntmps10
        go_upto_region 1 with fail
        rw [← HW1.out]
        go_wp2_with (first | (refine wpList_ld 29 ⟨w.heap.size, 0, none⟩ (.tmp 2) rfl rfl HL1.out rfl ?_) | fail)
        refine HFT.out.mono ?_
        rintro _ w2 ⟨rfl, hb2⟩
        have HB2 := hid hb2
        have HL2 := hid (HLD.out _ hb2)
        have HSE2 := hid (HSE.out _ hb2)
        clear hb2
        go_wp2_with (first | (refine wpList_ld 29 ⟨w.heap.size, 0, none⟩ (.tmp 2) rfl rfl HL2.out rfl ?_) | fail)
        refine HSE2.out.mono ?_
        rintro _ w3 ⟨rfl, hb3⟩
        have HB3 : Hid (Below w1.heap.size w1 w3) := HB2.out.trans (hb3.mono HB2.out.size)
        have c2 := HC2.out _ HB3.out
        have HL3 := hid (HLD.out _ HB3.out)
        have HCU3 := hid (HCU.out _ HB3.out hm (by simp))
        rw [HCE.out] at HCU3
        clear hb3
        go_wp2_with (first | (refine wpList_ld 29 ⟨w.heap.size, 0, none⟩ (.tmp 2) rfl rfl HL3.out rfl ?_) | fail)
        refine HCU3.out.mono ?_
        rintro _ w4 ⟨v4, rfl, hp4, hb4⟩
        have HP4 := hid hp4
        obtain ⟨a4, c4, rfl, _, _⟩ := hp4.shape
        have HB4 : Hid (Below w.heap.size w w4) := HB1.out.trans ((HB3.out.trans (hb4.mono HB3.out.size)).mono HB1.out.size)
        have HLE : Hid (w.heap.size ≤ w3.heap.size) := Nat.le_trans HB1.out.size HB3.out.size
        clear hp4 hb4 c2
        go_wp2_with fail
        refine bodyPost_ret (results_tmp2 Try.results10 _ _ _) rfl ?_
        exact ⟨_, by rw [HRE.out]; rfl, by rw [HRE.out]; exact HP4.out.low HLE.out, HB4.out⟩
      · have hq : (m < (S : Int)) = True := by simp; omega
        cases d with
        | true =>
          have HRE : Hid (R = ([], 51)) := by unfold Hid; rw [HR.out, splitL_df hm HE.out.symm (by rw [← HSS.out]; exact hf) HD.out.symm]
          go_enter Try.func10, Try.ntmps10
          go_upto_region 1 with fail
          rw [← HW1.out]
          go_wp2_with (first | (refine wpList_ld 29 ⟨w.heap.size, 0, none⟩ (.tmp 2) rfl rfl HL1.out rfl ?_) | fail)
          refine HFT.out.mono ?_
          rintro _ w2 ⟨rfl, hb2⟩
          have HB2 := hid hb2
          have HL2 := hid (HLD.out _ hb2)
          have HSE2 := hid (HSE.out _ hb2)
          clear hb2
          go_wp2_with (first | (refine wpList_ld 29 ⟨w.heap.size, 0, none⟩ (.tmp 2) rfl rfl HL2.out rfl ?_) | fail)
          refine HSE2.out.mono ?_
          rintro _ w3 ⟨rfl, hb3⟩
          have HB3 : Hid (Below w1.heap.size w1 w3) := HB2.out.trans (hb3.mono HB2.out.size)
          have c2 := HC2.out _ HB3.out
          clear hb3
          go_wp2_with fail
          refine bodyPost_ret (results_tmp2 Try.results10 _ _ _) rfl ?_
          exact ⟨.slice none 0 0, by rw [HRE.out]; rfl, by rw [HRE.out]; exact pkRow_nil _ _, HB1.out.trans (HB3.out.mono HB1.out.size)⟩
        | false =>
          have HRE : Hid (R = (cutL (M.copied h.opts).1 m.toNat B.length h B, 0)) := by unfold Hid; rw [HR.out, splitL_cut hm HE.out.symm (by rw [← HSS.out]; exact hf) HD.out.symm]
          generalize cutL (M.copied h.opts).1 m.toNat B.length h B = T at *
          go_enter Try.func10, Try.ntmps10
          go_upto_region 1 with fail
          rw [← HW1.out]
          go_wp2_with (first | (refine wpList_ld 29 ⟨w.heap.size, 0, none⟩ (.tmp 2) rfl rfl HL1.out rfl ?_) | fail)
          refine HFT.out.mono ?_
          rintro _ w2 ⟨rfl, hb2⟩
          have HB2 := hid hb2
          have HL2 := hid (HLD.out _ hb2)
          have HSE2 := hid (HSE.out _ hb2)
          clear hb2
          go_wp2_with (first | (refine wpList_ld 29 ⟨w.heap.size, 0, none⟩ (.tmp 2) rfl rfl HL2.out rfl ?_) | fail)
          refine HSE2.out.mono ?_
          rintro _ w3 ⟨rfl, hb3⟩
          have HB3 : Hid (Below w1.heap.size w1 w3) := HB2.out.trans (hb3.mono HB2.out.size)
          have c2 := HC2.out _ HB3.out
          have HL3 := hid (HLD.out _ HB3.out)
          have HCU3 := hid (HCU.out _ HB3.out hm (by simp))
          clear hb3
          go_wp2_with (first | (refine wpList_ld 29 ⟨w.heap.size, 0, none⟩ (.tmp 2) rfl rfl HL3.out rfl ?_) | fail)
          refine HCU3.out.mono ?_
          rintro _ w4 ⟨v4, rfl, hp4, hb4⟩
          have HP4 := hid hp4
          obtain ⟨a4, c4, rfl, _, _⟩ := hp4.shape
          have HB4 : Hid (Below w.heap.size w w4) := HB1.out.trans ((HB3.out.trans (hb4.mono HB3.out.size)).mono HB1.out.size)
          have HLE : Hid (w.heap.size ≤ w3.heap.size) := Nat.le_trans HB1.out.size HB3.out.size
          clear hp4 hb4 c2
          go_wp2_with fail
          refine bodyPost_ret (results_tmp2 Try.results10 _ _ _) rfl ?_
          exact ⟨_, by rw [HRE.out]; rfl, by rw [HRE.out]; exact HP4.out.low HLE.out, HB4.out⟩
    · have hq : (E != 0) = true := by simp [he]
      have HRE : Hid (R = ([], E)) := by unfold Hid; rw [HR.out, splitL_bad hm (by rw [← HE.out]; exact he), ← HE.out]
      go_enter Try.func10, Try.ntmps10
      go_upto_region 1 with fail
      rw [← HW1.out]
      go_wp2_with (first | (refine wpList_ld 29 ⟨w.heap.size, 0, none⟩ (.tmp 2) rfl rfl HL1.out rfl ?_) | fail)
      refine HFT.out.mono ?_
      rintro _ w2 ⟨rfl, hb2⟩
      go_wp2_with fail
      refine bodyPost_ret (results_tmp2 Try.results10 _ _ _) rfl ?_
      exact ⟨.slice none 0 0, by rw [HRE.out]; rfl, by rw [HRE.out]; exact pkRow_nil _ _, HB1.out.trans (hb2.mono HB1.out.size)⟩
end Go.Proofs.Ytdoeebbcieiimaa
