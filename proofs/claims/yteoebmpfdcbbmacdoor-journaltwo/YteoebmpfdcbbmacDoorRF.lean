/-
  The reference: Frame.
-/
import Derived.Test.YteoebmpfdcbbmacDoorRC
namespace Go.Proofs.YteoebmpfdcbbmacDoor
open Go.ChangeShapes Go.WideShapes Go.ChangeAt Go.RowKit Jn N
set_option maxHeartbeats 4000000
set_option maxRecDepth 100000

theorem four_s (n : Nat) (u : World) (hn : n < 4294967296) : Calls Tryd.prog 66 #[.int .i64 (n : Int)] u fun e w' => ∃ a m c, e = .returned (.slice a m c) ∧ SeesB w' (.slice a m c) (w4 n) ∧ Below u.heap.size u w' :=
  (four_any n u hn).mono fun _ _ ⟨h1, h2, h3⟩ => ⟨_, _, _, h1, h2.sees (n := 4) rfl (by rw [w4_len]; omega) (w4_lt n), h3⟩
theorem join_s (x y : Value) (A B : List Nat) (u : World) (hx : SeesB u x A) (hy : SeesB u y B) (hl : A.length + B.length ≤ 140737488355328) : Calls Tryd.prog 58 #[x, y] u fun e w' => ∃ a m c, e = .returned (.slice a m c) ∧ SeesB w' (.slice a m c) (A ++ B) ∧ OwnB w' u.heap.size (.slice a m c) (A ++ B) ∧ Below u.heap.size u w' :=
  (join_any x y A B u hx hy hl).mono fun _ _ ⟨v, h1, h2, h3⟩ => by
    have hs := h2.sees (fun z hz => (List.mem_append.1 hz).elim (hx.bytes z) (hy.bytes z))
    obtain ⟨a, m, c, rfl, -, -, -⟩ := hs.shape
    exact ⟨a, m, c, h1, hs, h2, h3⟩

theorem frameR_any (g k : Nat) (v : Value) (r : List Nat) (w : World) (hv : SeesB w v r) (hg : g < 4294967296) (hk : k < 4294967296) (hr : r.length ≤ 1099511627) :
    Calls Tryd.prog 54 #[.int .i64 (g : Int), .int .i64 (k : Int), v] w fun e w' => ∃ v', e = .returned v' ∧ OwnB w' w.heap.size v' (frame g k r) ∧ Below w.heap.size w w' := by
  have HSr := hid hv
  have HC0 := hid (crcR_any v r w hv)
  obtain ⟨ar, nr, cr, rfl, HNR, -, -⟩ := hv.shape
  obtain ⟨s, HSC⟩ : ∃ s, Hid (s = crc r) := ⟨_, rfl⟩
  have hs : s < 4294967296 := by rw [HSC.out]; exact crc_lt r
  rw [← HSC.out] at HC0
  have hnr : nr ≤ 1099511627 := by have := HNR.out; omega
  have HBw := hid (Below.refl w.heap.size w)
  clear hv hr
  go_enter Tryd.func54, Tryd.ntmps54
  go_wp2_with fail
  refine HC0.out.mono ?_
  rintro _ w0 ⟨rfl, rfl⟩
  have HF := hid (four_s g w0 hg)
  go_wp2_with fail
  refine HF.out.mono ?_
  rintro _ y1 ⟨ap, mp, cp, rfl, hs', hb⟩
  have HSr := hid (HSr.out.below hb)
  have HSp := hid hs'
  have HBw := hid (HBw.out.trans (hb.mono HBw.out.size))
  clear hs' hb HF
  have HF := hid (four_s k y1 hk)
  go_wp2_with fail
  refine HF.out.mono ?_
  rintro _ y2 ⟨aq, mq, cq, rfl, hs', hb⟩
  have HSr := hid (HSr.out.below hb)
  have HSp := hid (HSp.out.below hb)
  have HSq := hid hs'
  have HBw := hid (HBw.out.trans (hb.mono HBw.out.size))
  clear hs' hb HF
  have HF := hid (join_s _ _ _ _ y2 HSp.out HSq.out (by simp only [w4_len]; have := HNR.out; omega))
  go_wp2_with fail
  refine HF.out.mono ?_
  rintro _ y3 ⟨apq, mpq, cpq, rfl, hs', ho', hb⟩
  have HSr := hid (HSr.out.below hb)
  have HSp := hid (HSp.out.below hb)
  have HSq := hid (HSq.out.below hb)
  have HSpq := hid hs'
  have HBw := hid (HBw.out.trans (hb.mono HBw.out.size))
  clear hs' ho' hb HF
  clear HSp
  clear HSq
  have HF := hid (four_s nr y3 (by omega))
  go_wp2_with fail
  refine HF.out.mono ?_
  rintro _ y4 ⟨ale, mle, cle, rfl, hs', hb⟩
  have HSr := hid (HSr.out.below hb)
  have HSpq := hid (HSpq.out.below hb)
  have HSle := hid hs'
  have HBw := hid (HBw.out.trans (hb.mono HBw.out.size))
  clear hs' hb HF
  have HF := hid (four_s s y4 hs)
  go_wp2_with fail
  refine HF.out.mono ?_
  rintro _ y5 ⟨asu, msu, csu, rfl, hs', hb⟩
  have HSr := hid (HSr.out.below hb)
  have HSpq := hid (HSpq.out.below hb)
  have HSle := hid (HSle.out.below hb)
  have HSsu := hid hs'
  have HBw := hid (HBw.out.trans (hb.mono HBw.out.size))
  clear hs' hb HF
  have HF := hid (join_s _ _ _ _ y5 HSle.out HSsu.out (by simp only [w4_len]; have := HNR.out; omega))
  go_wp2_with fail
  refine HF.out.mono ?_
  rintro _ y6 ⟨atu, mtu, ctu, rfl, hs', ho', hb⟩
  have HSr := hid (HSr.out.below hb)
  have HSpq := hid (HSpq.out.below hb)
  have HSle := hid (HSle.out.below hb)
  have HSsu := hid (HSsu.out.below hb)
  have HStu := hid hs'
  have HBw := hid (HBw.out.trans (hb.mono HBw.out.size))
  clear hs' ho' hb HF
  clear HSle
  clear HSsu
  have HF := hid (join_s _ _ _ _ y6 HSpq.out HStu.out (by simp only [List.length_append, w4_len]; have := HNR.out; omega))
  go_wp2_with fail
  refine HF.out.mono ?_
  rintro _ y7 ⟨amx, mmx, cmx, rfl, hs', ho', hb⟩
  have HSr := hid (HSr.out.below hb)
  have HSpq := hid (HSpq.out.below hb)
  have HStu := hid (HStu.out.below hb)
  have HSmx := hid hs'
  have HBw := hid (HBw.out.trans (hb.mono HBw.out.size))
  clear hs' ho' hb HF
  clear HSpq
  clear HStu
  have HF := hid (four_s nr y7 (by omega))
  go_wp2_with fail
  refine HF.out.mono ?_
  rintro _ y8 ⟨ale, mle, cle, rfl, hs', hb⟩
  have HSr := hid (HSr.out.below hb)
  have HSmx := hid (HSmx.out.below hb)
  have HSle := hid hs'
  have HBw := hid (HBw.out.trans (hb.mono HBw.out.size))
  clear hs' hb HF
  have HF := hid (four_s s y8 hs)
  go_wp2_with fail
  refine HF.out.mono ?_
  rintro _ y9 ⟨asu, msu, csu, rfl, hs', hb⟩
  have HSr := hid (HSr.out.below hb)
  have HSmx := hid (HSmx.out.below hb)
  have HSle := hid (HSle.out.below hb)
  have HSsu := hid hs'
  have HBw := hid (HBw.out.trans (hb.mono HBw.out.size))
  clear hs' hb HF
  have HF := hid (join_s _ _ _ _ y9 HSle.out HSsu.out (by simp only [w4_len]; have := HNR.out; omega))
  go_wp2_with fail
  refine HF.out.mono ?_
  rintro _ y10 ⟨atu, mtu, ctu, rfl, hs', ho', hb⟩
  have HSr := hid (HSr.out.below hb)
  have HSmx := hid (HSmx.out.below hb)
  have HSle := hid (HSle.out.below hb)
  have HSsu := hid (HSsu.out.below hb)
  have HStu := hid hs'
  have HBw := hid (HBw.out.trans (hb.mono HBw.out.size))
  clear hs' ho' hb HF
  clear HSle
  clear HSsu
  have HCM := hid (crcR_any _ _ y10 HSmx.out)
  obtain ⟨se, HSE⟩ : ∃ se, Hid (se = sel g k nr s) := ⟨_, rfl⟩
  have hse : se < 4294967296 := by rw [HSE.out]; exact crc_lt _
  rw [show w4 g ++ w4 k ++ (w4 nr ++ w4 s) = w4 g ++ w4 k ++ w4 nr ++ w4 s by simp [List.append_assoc], show crc (w4 g ++ w4 k ++ w4 nr ++ w4 s) = se from HSE.out.symm] at HCM
  go_wp2_with fail
  refine HCM.out.mono ?_
  rintro _ wx ⟨rfl, rfl⟩
  clear HSmx HCM
  have HF := hid (four_s se wx hse)
  go_wp2_with fail
  refine HF.out.mono ?_
  rintro _ y11 ⟨ae, me, ce, rfl, hs', hb⟩
  have HSr := hid (HSr.out.below hb)
  have HStu := hid (HStu.out.below hb)
  have HSe := hid hs'
  have HBw := hid (HBw.out.trans (hb.mono HBw.out.size))
  clear hs' hb HF
  have HF := hid (join_s _ _ _ _ y11 HStu.out HSe.out (by simp only [List.length_append, w4_len]; have := HNR.out; omega))
  go_wp2_with fail
  refine HF.out.mono ?_
  rintro _ y12 ⟨ate, mte, cte, rfl, hs', ho', hb⟩
  have HSr := hid (HSr.out.below hb)
  have HStu := hid (HStu.out.below hb)
  have HSe := hid (HSe.out.below hb)
  have HSte := hid hs'
  have HBw := hid (HBw.out.trans (hb.mono HBw.out.size))
  clear hs' ho' hb HF
  clear HStu
  clear HSe
  have HF := hid (join_s _ _ _ _ y12 HSte.out HSr.out (by simp only [List.length_append, w4_len]; have := HNR.out; omega))
  go_wp2_with fail
  refine HF.out.mono ?_
  rintro _ y13 ⟨az, mz, cz, rfl, hs', ho', hb⟩
  have HO : Hid (OwnB y13 w0.heap.size (.slice az mz cz) (frame g k r)) := by
    have := ho'.mono HBw.out.size
    rw [HSE.out, HNR.out, HSC.out] at this
    exact this
  have HBw := hid (HBw.out.trans (hb.mono HBw.out.size))
  clear hs' ho' hb HF
  go_wp2_with fail
  go_ret
  exact ⟨_, rfl, HO.out, HBw.out⟩
end Go.Proofs.YteoebmpfdcbbmacDoor
