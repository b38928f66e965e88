/-
  The law's first.
-/
import Derived.Test.YteoebmpfdcbbmacDoorRAE
namespace Go.Proofs.YteoebmpfdcbbmacDoor
open Go.ChangeShapes Go.WideShapes Go.ChangeAt Go.RowKit Jn N
set_option maxHeartbeats 4000000
set_option maxRecDepth 100000

def fl0 : Lg := (⟨[], [], [], 0, 0, 0, 0⟩ : Lg).beg 0 1 []
def fl1 : Lg := fl0.app [97, 98]
def fl2 : Lg := fl1.app []
theorem rdA_nil : rdA [] = ⟨0, 0, [], 0⟩ := by rw [rdA, if_pos (by simp)]
theorem opn_nil : opnE [] [] = false ∧ opnL [] [] = fl0 ∧ opnR [] [] = [] := by
  refine ⟨?_, ?_, ?_⟩
  · unfold opnE; rw [rdA_nil]; rfl
  · unfold opnL; rw [rdA_nil]; rfl
  · unfold opnR; rw [rdA_nil]; rfl
theorem app_one : appE fl0 [97, 98] = 0 ∧ appL fl0 [97, 98] = fl1 := by
  have h : appE fl0 [97, 98] = 0 := by decide +kernel
  exact ⟨h, by unfold appL; rw [if_pos h]; rfl⟩
theorem app_two : appE fl1 [] = 0 ∧ appL fl1 [] = fl2 := by
  have h : appE fl1 [] = 0 := by decide +kernel
  exact ⟨h, by unfold appL; rw [if_pos h]; rfl⟩
theorem fl2_nums : fl2.size = 42 ∧ dirt fl2.ws = 42 ∧ fl2.ws.length = 3 ∧ fl1.ws.length = 2 ∧ fl0.ws.length = 1 := by decide +kernel
theorem fl2_crash : crash (fl2.a, fl2.b) 99 fl2.ws = (exL, []) := by decide +kernel
theorem opn_ex : opnE exL [] = false ∧ opnR exL [] = [[97, 98], []] := by
  have h : rdA exL = ⟨3, 1, [[97, 98], []], 42⟩ := by
    rw [exL_is]
    have := rdA_whole (g := 1) (rs := []) (more := [[97, 98], []]) (by decide) (by simp) (by simp) (by decide)
    exact this
  refine ⟨?_, ?_⟩
  · unfold opnE; rw [rdA_nil, h]; rfl
  · unfold opnR; rw [rdA_nil, h]; rfl

theorem first_any (w : World) (ht : TabN w) : Calls Tryd.prog 7 #[] w fun e w' => e = .returned (.bool true) ∧ Below w.heap.size w w' := by
  have hz := ht.2
  have HT := hid ht
  have H1 : Hid (Calls Tryd.prog 12 #[.agg #[.slice none 0 0, .slice none 0 0]] w fun e w' => ∃ p v S Bd, e = .returned (.tuple #[.pointer (some ⟨p, 0, none⟩), v, .int .i64 0]) ∧ Opened w w' S Bd p v fl0 []) := by
    refine (open_any _ _ [] [] w (sees_nil _) (sees_nil _) ht).mono ?_
    rintro e w' ⟨-, h⟩
    obtain ⟨q1, q2, q3⟩ := opn_nil
    have := h q1
    rw [q2, q3] at this
    exact this
  clear ht
  go_enter Tryd.func7, Tryd.ntmps7
  go_wp2_with fail
  refine H1.out.mono ?_
  rintro _ w1 ⟨p, v, S, Bd, rfl, hO⟩
  have HO := hid hO
  obtain ⟨av, nv, cv, rfl, HNV, -⟩ : ∃ a n c, v = .slice a n c ∧ Hid (n = 0) ∧ True := by
    obtain ⟨a, n, c, e, HN, -, -⟩ := hO.recs.sees.shape
    exact ⟨a, n, c, e, HN.out, trivial⟩
  obtain rfl : nv = 0 := HNV.out
  obtain ⟨w2, HW2⟩ : ∃ w2, Hid (w2 = w1.alloc (.cells #[.int .u8 97, .int .u8 98] 5)) := ⟨_, rfl⟩
  have hb2 : Below w1.heap.size w1 w2 := by rw [HW2.out]; exact (Below.refl _ _).alloc (Nat.le_refl _) _
  have q2 : Blk w2 w1.heap.size 5 [97, 98] := by rw [HW2.out]; exact heap_alloc_new w1 _
  have hb02 : Below w.heap.size w w2 := hO.be.trans (hb2.mono hO.be.size)
  have hS2 : SeesB w2 (.slice (some ⟨w1.heap.size, 0, none⟩) 2 2) [97, 98] := q2.sees rfl (by decide) (by decide)
  have HA1 := hid (append_any S p fl0 _ [97, 98] w2 (hO.log.below hb2) hO.ok hS2 (by rw [fl2_nums.2.2.2.2]; decide) (HT.out.below hb02 hz) (fun k hk => by have := hO.lo k hk; omega))
  rw [app_one.1, app_one.2] at HA1
  have HLO : Hid (∀ k, S k → w.heap.size ≤ k) := hO.lo
  have HB02 := hid hb02
  clear hO hb2 q2 hS2 hb02
  go_wp2_with fail
  rw [← HW2.out]
  refine HA1.out.mono ?_
  rintro _ w3 ⟨rfl, hL3⟩
  have hB3 : Below w.heap.size w w3 := hL3.kp.below HB02.out HB02.out.size (fun k hk e => by have := HLO.out k e; omega)
  have hsz2 := HB02.out.size
  have hsz3 := hL3.kp.size
  have HA2 := hid (append_any _ p fl1 (.slice none 0 0) [] w3 hL3.log hL3.ok (sees_nil _) (by rw [fl2_nums.2.2.2.1]; decide) (HT.out.below hB3 hz) (fun k hk => by
    rcases hk with hk | ⟨hk, -⟩
    · have := HLO.out k hk; omega
    · omega))
  rw [app_two.1, app_two.2] at HA2
  have HB3 := hid hB3
  clear hL3 hB3
  go_wp2_with fail
  refine HA2.out.mono ?_
  rintro _ w4 ⟨rfl, hL4⟩
  have hB4 : Below w.heap.size w w4 := hL4.kp.below HB3.out HB3.out.size (fun k hk e => by
    rcases e with e | ⟨e, -⟩
    · have := HLO.out k e; omega
    · omega)
  have HSZ := hid (size_any _ p fl2 w4 hL4.log)
  have HDT := hid (dirty_any _ p fl2 w4 hL4.log)
  rw [fl2_nums.1] at HSZ
  rw [fl2_nums.2.1] at HDT
  have HCR := hid (crash_any _ p fl2 99 w4 hL4.log hL4.ok (by rw [fl2_nums.2.2.1]; decide) (by decide))
  rw [show ((99 : Int)).toNat = 99 from rfl, fl2_crash] at HCR
  have HB4 := hid hB4
  clear hL4 hB4
  go_wp2_with fail
  refine HSZ.out.mono ?_
  rintro _ wx ⟨rfl, rfl⟩
  go_wp2_with fail
  refine HDT.out.mono ?_
  rintro _ wy ⟨rfl, rfl⟩
  go_wp2_with fail
  refine HCR.out.mono ?_
  rintro _ w5 ⟨ga, na, ca, gb, nb, cb, rfl, hD⟩
  have HD := hid hD
  have hna : na = 42 := hD.a.lenB.1
  have hnb : nb = 0 := hD.b.lenB.1
  subst hna hnb
  obtain ⟨w6, HW6⟩ : ∃ w6, Hid (w6 = w5.alloc (.cells #[.slice (some ⟨ga, 0, none⟩) 42 ca, .slice (some ⟨gb, 0, none⟩) 0 cb] 24)) := ⟨_, rfl⟩
  have hb6 : Below w5.heap.size w5 w6 := by rw [HW6.out]; exact (Below.refl _ _).alloc (Nat.le_refl _) _
  have hr6 : w6.heap[w5.heap.size]? = some (.cells #[.slice (some ⟨ga, 0, none⟩) 42 ca, .slice (some ⟨gb, 0, none⟩) 0 cb] 24 (0, 0)) := by rw [HW6.out]; exact heap_alloc_new w5 _
  have hs6 : w6.heap.size = w5.heap.size + 1 := by rw [HW6.out]; simp
  have hB6 : Below w.heap.size w w6 := (HB4.out.trans (hD.be.mono HB4.out.size)).trans (hb6.mono (by have := HB4.out.size; have := hD.be.size; omega))
  have hSA : SeesB w6 (.slice (some ⟨ga, 0, none⟩) 42 ca) exL := (hD.a.sees (by decide)).below hb6
  have hSB : SeesB w6 (.slice (some ⟨gb, 0, none⟩) 0 cb) [] := (hD.b.sees (by decide)).below hb6
  have HSA := hid hSA
  have HSB := hid hSB
  have HB6 := hid hB6
  obtain ⟨db, HDB⟩ : ∃ db, Hid (db = w5.heap.size) := ⟨_, rfl⟩
  have HR6 : Hid (∀ u, Below w6.heap.size w6 u → u.heap[db]? = some (.cells #[.slice (some ⟨ga, 0, none⟩) 42 ca, .slice (some ⟨gb, 0, none⟩) 0 cb] 24 (0, 0))) := fun u hu => below_keeps hu (by rw [HDB.out]; exact hr6) (by rw [HDB.out]; omega)
  have HEX : Hid (∀ u : World, Calls Tryd.prog 26 #[] u fun e w' => ∃ v, e = .returned v ∧ SeesB w' v exL ∧ Below u.heap.size u w') := example_any
  have HSM : Hid (∀ (u : World) (x : Value), Below w6.heap.size w6 u → SeesB u x exL → Calls Tryd.prog 15 #[.slice (some ⟨ga, 0, none⟩) 42 ca, x] u fun e w' => e = .returned (.bool true) ∧ Below u.heap.size u w') := fun u x hu hx => same_eq _ _ exL u (HSA.out.below hu) hx
  obtain ⟨z0, z1, -, -⟩ := ar_cells (HR6.out w6 (Below.refl _ _))
  clear hD hb6 hr6 hB6 hSA hSB
  go_upto_region 7 with fail
  rw [← HW6.out, ← HDB.out]
  go_cut [56] from 46 (fun z wx => z = .bool false ∧ Hid (Below w6.heap.size w6 wx))
  case first =>
    go_region_with (first
      | (go_at_call 26; refine (HEX.out _).mono ?_; rintro _ w7 ⟨xv, rfl, hsx, hb7⟩; have hb7' : Below w6.heap.size w6 w7 := ⟨hb7.os, hb7.tape, hb7.output, hb7.size, hb7.block⟩; obtain ⟨y0, y1, -, -⟩ := ar_cells (HR6.out w7 hb7'); obtain ⟨ae, ne, ce, rfl, -, -, -⟩ := hsx.shape)
      | (go_at_call 15; refine (HSM.out _ _ hb7' hsx).mono ?_; rintro _ w8 ⟨rfl, hb8⟩; have hb8' := hb7'.trans (hb8.mono hb7'.size); obtain ⟨x0, x1, -, -⟩ := ar_cells (HR6.out w8 hb8'))
      | fail)
    all_goals (
      go_wp2_with fail
      go_meet
      case rel => exact ⟨rfl, hb8'⟩)
  case rest =>
  obtain ⟨rfl, HB7⟩ := hcut
  obtain ⟨w9, HW9⟩ : ∃ w9, Hid (w9 = wc) := ⟨_, rfl⟩
  rw [← HW9.out] at HB7 ⊢
  have hB9 : Below w.heap.size w w9 := HB6.out.trans (HB7.out.mono HB6.out.size)
  have H2 : Hid (Calls Tryd.prog 12 #[.agg #[.slice (some ⟨ga, 0, none⟩) 42 ca, .slice (some ⟨gb, 0, none⟩) 0 cb]] w9 fun e w' => ∃ p v S Bd l, e = .returned (.tuple #[.pointer (some ⟨p, 0, none⟩), v, .int .i64 0]) ∧ Opened w9 w' S Bd p v l [[97, 98], []]) := by
    refine (open_any _ _ exL [] w9 (HSA.out.below HB7.out) (HSB.out.below HB7.out) (HT.out.below hB9 hz)).mono ?_
    rintro e w' ⟨-, h⟩
    obtain ⟨q1, q2⟩ := opn_ex
    obtain ⟨p, v, S, Bd, he, ho⟩ := h q1
    rw [q2] at ho
    exact ⟨p, v, S, Bd, _, he, ho⟩
  obtain ⟨z0, z1, -, -⟩ := ar_cells (HR6.out w9 HB7.out)
  have HB9 := hid hB9
  clear hB9 HSM HEX
  go_wp2_with fail
  refine H2.out.mono ?_
  rintro _ w10 ⟨p', v', S', Bd', l', rfl, hO'⟩
  have hB10 : Below w.heap.size w w10 := HB9.out.trans (hO'.be.mono HB9.out.size)
  have hSv := hO'.recs.sees
  obtain ⟨a', n', c', rfl, HN', -, -⟩ := hSv.shape
  obtain ⟨w11, HW11⟩ : ∃ w11, Hid (w11 = w10.alloc (.cells #[.int .u8 97, .int .u8 98] 5)) := ⟨_, rfl⟩
  obtain ⟨w12, HW12⟩ : ∃ w12, Hid (w12 = w11.alloc (.cells #[.slice (some ⟨w10.heap.size, 0, none⟩) 2 2, .slice none 0 0] 22)) := ⟨_, rfl⟩
  have hb11 : Below w10.heap.size w10 w11 := by rw [HW11.out]; exact (Below.refl _ _).alloc (Nat.le_refl _) _
  have hb12 : Below w11.heap.size w11 w12 := by rw [HW12.out]; exact (Below.refl _ _).alloc (Nat.le_refl _) _
  have hs11 : w11.heap.size = w10.heap.size + 1 := by rw [HW11.out]; simp
  have q11 : Blk w11 w10.heap.size 5 [97, 98] := by rw [HW11.out]; exact heap_alloc_new w10 _
  have r12 : w12.heap[w10.heap.size + 1]? = some (.cells #[.slice (some ⟨w10.heap.size, 0, none⟩) 2 2, .slice none 0 0] 22 (0, 0)) := by rw [HW12.out, ← hs11]; exact heap_alloc_new w11 _
  have hb1012 : Below w10.heap.size w10 w12 := hb11.trans (hb12.mono (by omega))
  have hS12 : SeesBB w12 (.slice (some ⟨w10.heap.size + 1, 0, none⟩) 2 2) [[97, 98], []] := by
    refine ⟨_, 2, rfl, Nat.le_refl _, by unfold maxLen; omega, fun j hj => ?_⟩
    rcases j with _ | _ | j
    · exact ⟨_, 0, _, rfl, (Array.getElem?_eq_some_iff.1 r12).1, by rw [cell_of_row _ _ _ _ _ _ r12]; rfl, (q11.below hb12 (by omega)).sees rfl (by decide) (by decide)⟩
    · exact ⟨_, 0, _, rfl, (Array.getElem?_eq_some_iff.1 r12).1, by rw [cell_of_row _ _ _ _ _ _ r12]; rfl, sees_nil _⟩
    · simp at hj; omega
  have HLS := hid (lists_eq _ _ _ w12 (hSv.below hb1012) hS12)
  have HB12 : Hid (Below w.heap.size w w12) := hB10.trans (hb1012.mono hB10.size)
  clear hO' hB10 hSv hb11 hb12 q11 r12 hb1012 hS12 z0 z1 HN'
  go_wp2_with fail
  rw [← HW11.out, ← HW12.out]
  refine HLS.out.mono ?_
  rintro _ w13 ⟨rfl, hb13⟩
  have HB13 : Hid (Below w.heap.size w w13) := HB12.out.trans (hb13.mono HB12.out.size)
  clear hb13
  go_wp2_with fail
  go_ret
  exact ⟨rfl, HB13.out⟩
end Go.Proofs.YteoebmpfdcbbmacDoor
