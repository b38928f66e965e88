/-
  IpamFresh: the walk.
-/
import Derived.Test.YtjilahbkolcekabGM1
namespace Go.Proofs.Ytjilahbkolcekab
open Go.ChangeShapes Go.WideShapes Go.ChangeAt Go.RowKit Go.Maps Tri
set_option maxHeartbeats 8000000
set_option maxRecDepth 100000

theorem fresh_walk (x : Nat) (y : Int) (v : Value) (S : List Stp) (w : World) (hx : x < 4294967296) (hs : SeesO w v S) (hok : OkO S) (hb : S.length ≤ 1048576) :
    Calls Try.prog 7 #[.agg #[.int .u32 (x : Int), .int .i64 y], v] w fun e w' => e = .returned (.bool true) ∧ Below w.heap.size w w' := by
  have HUN : Hid (∀ u : World, Below w.heap.size w u → Calls Try.prog 23 #[.agg #[.int .u32 (x : Int), .int .i64 y], v] u fun e w' => e = .returned (.bool true) ∧ Below u.heap.size u w') := fun u hu => untouched_any x y v S u hx (hs.below hu) hok hb
  obtain ⟨ao, nv, cap, rfl, HN, hnc, hcap⟩ := hs.shape
  have hnb : nv ≤ 1048576 := by rw [HN.out]; exact hb
  obtain ⟨wa, HWA⟩ : ∃ wa, Hid (wa = w.alloc (.cells #[.int .u32 (x : Int), .int .i64 y] 25)) := ⟨_, rfl⟩
  have HB0 : Hid (Below w.heap.size w wa) := by unfold Hid; rw [HWA.out]; exact (Below.refl _ _).alloc (Nat.le_refl _) _
  have R1 : Hid (wa.heap[w.heap.size]? = some (.cells #[.int .u32 (x : Int), .int .i64 y] 25)) := by unfold Hid; rw [HWA.out]; exact heap_alloc_new w _
  obtain ⟨q0, q1⟩ := Beh.two R1.out
  have c0 := q0 ⟨wa, Below.refl _ _⟩
  have c1 := q1 ⟨wa, Below.refl _ _⟩
  simp only at c0 c1
  have HCX : Hid (∀ u : World, Below wa.heap.size wa u → u.cell? ⟨w.heap.size, 0, none⟩ = some (.int .u32 (x : Int)) ∧ u.cell? ⟨w.heap.size, 1, none⟩ = some (.int .i64 y)) := fun u hu => ⟨q0 ⟨u, hu⟩, q1 ⟨u, hu⟩⟩
  have HBT := hid (both_any x y wa hx)
  have HAT : ∀ j, j < nv → ∃ (g off : Nat) (o : Stp), ao = some ⟨g, off, none⟩ ∧ Hid (S[j]? = some o) ∧ Hid (∀ u : World, Below w.heap.size w u → u.cell? ⟨g, off + j * 3, none⟩ = some (.int .i64 o.k) ∧ u.cell? ⟨g, off + j * 3 + 1, none⟩ = some (.string o.n) ∧ u.cell? ⟨g, off + j * 3 + 2, none⟩ = some (.int .u32 (o.a : Int))) := fun j hj => hs.at j hj
  have HOK := hid hok
  have HBW : Hid (∀ u : World, Below wa.heap.size wa u → Below w.heap.size w u) := fun u hu => HB0.out.trans (hu.mono HB0.out.size)
  clear hs q0 q1 hcap hb hok
  go_enter Try.func7, Try.ntmps7
  go_upto_region 1 with fail
  rw [← HWA.out]
  go_wp2_with fail
  refine HBT.out.mono ?_
  rintro _ w1 (⟨hb, rfl, hb1⟩ | ⟨hb, pb, bn, ba, rb, rfl, hp1, hk1, hb1⟩)
  · have HF := hid (first_any w1)
    have HB1 := hid (HB0.out.trans (hb1.mono HB0.out.size))
    clear c0 c1 HBT hb1 hb
    go_wp2_with fail
    refine HF.out.mono ?_
    rintro _ w2 ⟨rfl, hb2⟩
    have HB2 := hid (HB1.out.trans (hb2.mono HB1.out.size))
    clear HF hb2
    go_wp2_with fail
    go_ret
    exact ⟨rfl, HB2.out⟩
  · have HF := hid (first_any w1)
    have HS1 : Hid (Sd wa w1 pb bn ba rb (fun _ => False) (.slice none 0 0) (Ist.new x y)) := ⟨hp1, hk1, fun k e => e.elim, hb1⟩
    clear c0 c1 HBT hb1 hb hp1 hk1
    go_wp2_with fail
    refine HF.out.mono ?_
    rintro _ w2 ⟨rfl, hb2⟩
    obtain ⟨w3, HW3⟩ : ∃ w3, Hid (w3 = w2.alloc (.cells #[.slice none 0 0, .slice none 0 0] 54)) := ⟨_, rfl⟩
    obtain ⟨bb, HBB⟩ : ∃ bb, Hid (bb = w2.heap.size) := ⟨_, rfl⟩
    have HS3 : Hid (FS wa w3 pb bn ba rb bb 0) := by
      unfold Hid
      rw [HW3.out, HBB.out]
      exact FS.start (HS1.out.below hb2)
    clear HF hb2 HS1
    go_upto_region 7 with fail
    rw [← HW3.out, ← HBB.out]
    go_upto_region 8 with fail
    go_loopw [9] (fun i wr => ∃ j : Nat, i = .int .i64 (j : Int) ∧ j ≤ nv ∧ Hid (FS wa wr pb bn ba rb bb (4 * j))) (fun i _ => nv - (intOf i).toNat)
    case atStart => exact ⟨0, rfl, Nat.zero_le _, HS3⟩
    case round =>
      obtain ⟨j, rfl, hj, HL⟩ := hrel
      by_cases hlt : j < nv
      · have hlt' : (j : Int) < (nv : Int) := int_lt hlt
        obtain ⟨g, off, o, rfl, HO, HCL⟩ := HAT j hlt
        obtain ⟨d0, d1, d2⟩ := HCL.out wr (HBW.out wr HL.out.be)
        have hoo := HOK.out o (List.mem_of_getElem? HO.out)
        have HPL := hid (HL.out.plays o hoo.1 hoo.2)
        clear hoo
        go_wp2_with fail
        refine HPL.out.mono ?_
        rintro _ w4 ⟨rfl, hl4⟩
        obtain ⟨m0, m1, m2⟩ := HCL.out w4 (HBW.out w4 hl4.be)
        have HL4 := hid hl4
        clear d0 d1 d2 hl4 HPL
        by_cases k5 : o.k = 5
        · have q5 : (o.k == 5) = true := by simp [k5]
          have HLS := hid (HL4.out.list (by omega))
          go_wp2_with fail
          refine HLS.out.mono ?_
          rintro _ w5 ⟨a1, n1, c1, rfl, HKP⟩
          clear m0 m1 m2 HLS
          go_wp2_with fail
          refine HKP.out.mono ?_
          rintro _ w6 ⟨rfl, hf6⟩
          have HF6 := hid hf6
          clear HKP hf6 HL4
          by_cases h63 : j % 64 = 63
          · have HWH := hid HF6.out.whole
            have t1 : (j : Int) % 64 = 63 := by omega
            have t2 : Int.tmod (j : Int) 64 = 63 := by rw [Int.tmod_eq_emod_of_nonneg (by omega)]; exact t1
            go_wp2_with fail
            refine HWH.out.mono ?_
            rintro _ w7 ⟨rfl, hf7⟩
            have HF7 := hid hf7
            clear HWH hf7
            go_wp2_with fail
            go_roundw
            case rel => exact ⟨j + 1, by go_num, hlt, HF7⟩
            case measure => simp [intOf]; omega
          · have t1 : ¬ (j : Int) % 64 = 63 := by omega
            have t2 : ¬ Int.tmod (j : Int) 64 = 63 := by rw [Int.tmod_eq_emod_of_nonneg (by omega)]; exact t1
            go_wp2_with fail
            go_roundw
            case rel => exact ⟨j + 1, by go_num, hlt, HF6⟩
            case measure => simp [intOf]; omega
        · have q5 : (o.k == 5) = false := by simp [k5]
          have HL6 := hid (HL4.out.mono (m' := 4 * (j + 1)) (by omega))
          clear HL4
          go_upto_region 14 with fail
          clear m0 m1 m2
          by_cases h63 : j % 64 = 63
          · have HWH := hid HL6.out.whole
            have t1 : (j : Int) % 64 = 63 := by omega
            have t2 : Int.tmod (j : Int) 64 = 63 := by rw [Int.tmod_eq_emod_of_nonneg (by omega)]; exact t1
            go_wp2_with fail
            refine HWH.out.mono ?_
            rintro _ w7 ⟨rfl, hf7⟩
            have HF7 := hid hf7
            clear HWH hf7
            go_wp2_with fail
            go_roundw
            case rel => exact ⟨j + 1, by go_num, hlt, HF7⟩
            case measure => simp [intOf]; omega
          · have t1 : ¬ (j : Int) % 64 = 63 := by omega
            have t2 : ¬ Int.tmod (j : Int) 64 = 63 := by rw [Int.tmod_eq_emod_of_nonneg (by omega)]; exact t1
            go_wp2_with fail
            go_roundw
            case rel => exact ⟨j + 1, by go_num, hlt, HL6⟩
            case measure => simp [intOf]; omega
      · have hlt' : ¬ (j : Int) < (nv : Int) := int_nlt hlt
        have HWH := hid HL.out.whole
        go_wp2_with fail
        refine HWH.out.mono ?_
        rintro _ w3 ⟨rfl, hf3⟩
        have HPL := hid (hf3.plays ⟨5, ⟨#[]⟩, 0⟩ (by decide) (by decide))
        simp only [Int.natCast_zero] at HPL
        clear hf3 HWH
        go_wp2_with fail
        refine HPL.out.mono ?_
        rintro _ w4 ⟨rfl, hf4⟩
        obtain ⟨l0, l1⟩ := HCX.out w4 hf4.be
        have HB4 := hid (HBW.out w4 hf4.be)
        have HU4 := hid (HUN.out w4 HB4.out)
        clear hf4 HPL HUN
        go_wp2_with fail
        refine HU4.out.mono ?_
        rintro _ w5 ⟨rfl, hb5⟩
        have HB5 := hid (HB4.out.trans (hb5.mono HB4.out.size))
        clear HU4 hb5 l0 l1
        go_wp2_with fail
        go_ret
        exact ⟨rfl, HB5.out⟩
end Go.Proofs.Ytjilahbkolcekab
