/-
  IpamTwo: the walk.
-/
import Derived.Test.YtjilahbkolcekabEV
namespace Go.Proofs.Ytjilahbkolcekab
open Go.ChangeShapes Go.WideShapes Go.ChangeAt Go.RowKit Go.Maps Tri
set_option maxHeartbeats 8000000
set_option maxRecDepth 100000

theorem two_walk (x : Nat) (y : Int) (x' : Nat) (y' : Int) (v : Value) (S : List Stp) (vt : Value) (nt : Nat) (w : World) (hx : x < 4294967296) (hx' : x' < 4294967296) (hs : SeesO w v S) (hok : OkO S) (hb : S.length * 32 ≤ 140737488355328) (ht : SeesT w vt nt) :
    Calls Try.prog 4 #[.agg #[.int .u32 (x : Int), .int .i64 y], .agg #[.int .u32 (x' : Int), .int .i64 y'], v, vt] w fun e w' => e = .returned (.bool true) ∧ Below w.heap.size w w' := by
  obtain ⟨ao, nv, cap, rfl, HN, hnc, hcap⟩ := hs.shape
  have hnb : nv * 32 ≤ 140737488355328 := by rw [HN.out]; exact hb
  obtain ⟨at_, capt, rfl, htc, htm, -⟩ := id ht
  have htcap : capt ≤ 9223372036854775807 := by unfold maxLen at htm; omega
  obtain ⟨wa, HWA⟩ : ∃ wa, Hid (wa = (w.alloc (.cells #[.int .u32 (x : Int), .int .i64 y] 25)).alloc (.cells #[.int .u32 (x' : Int), .int .i64 y'] 25)) := ⟨_, rfl⟩
  have HB0 : Hid (Below w.heap.size w wa) := by unfold Hid; rw [HWA.out]; exact ((Below.refl _ _).alloc (Nat.le_refl _) _).alloc (by simp) _
  obtain ⟨bx, HBX⟩ : ∃ bx, Hid (bx = w.heap.size + 1) := ⟨_, rfl⟩
  have RX : Hid (wa.heap[bx]? = some (.cells #[.int .u32 (x' : Int), .int .i64 y'] 25 (0, 0))) := by
    have := heap_alloc_new (w.alloc (.cells #[.int .u32 (x : Int), .int .i64 y] 25)) (.cells #[.int .u32 (x' : Int), .int .i64 y'] 25)
    rw [World.size_alloc] at this
    unfold Hid; rw [HWA.out, HBX.out]; exact this
  have R0 : wa.heap[w.heap.size]? = some (.cells #[.int .u32 (x : Int), .int .i64 y] 25 (0, 0)) := by
    rw [HWA.out, heap_alloc_old _ _ (by simp)]; exact heap_alloc_new w _
  obtain ⟨q0, q1⟩ := Beh.two R0
  have c0 := q0 ⟨wa, Below.refl _ _⟩
  have c1 := q1 ⟨wa, Below.refl _ _⟩
  simp only at c0 c1
  have HCX : Hid (∀ u : World, u.heap[bx]? = some (.cells #[.int .u32 (x' : Int), .int .i64 y'] 25 (0, 0)) → u.cell? ⟨bx, 0, none⟩ = some (.int .u32 (x' : Int)) ∧ u.cell? ⟨bx, 1, none⟩ = some (.int .i64 y')) := fun u hu => by
    refine ⟨?_, ?_⟩ <;> (rw [cell_of_row _ _ _ _ _ _ hu]; rfl)
  have HT25 : Hid (okT 25) := ⟨by decide, by decide, by decide⟩
  have HBT := hid (both_any x y wa hx)
  have HB2A : ∀ u : World, Hid (Calls Try.prog 10 #[.agg #[.int .u32 (x' : Int), .int .i64 y']] u (Bth x' y' u)) := fun u => both_any x' y' u hx'
  have HAT : ∀ j, j < nv → ∃ (g off : Nat) (o : Stp), ao = some ⟨g, off, none⟩ ∧ Hid (S[j]? = some o) ∧ Hid (∀ u : World, Below w.heap.size w u → u.cell? ⟨g, off + j * 3, none⟩ = some (.int .i64 o.k) ∧ u.cell? ⟨g, off + j * 3 + 1, none⟩ = some (.string o.n) ∧ u.cell? ⟨g, off + j * 3 + 2, none⟩ = some (.int .u32 (o.a : Int))) := fun j hj => hs.at j hj
  have HTT : ∀ j, j < nt → ∃ (g off : Nat) (b : Bool), at_ = some ⟨g, off, none⟩ ∧ Hid (∀ u : World, Below w.heap.size w u → u.cell? ⟨g, off + j, none⟩ = some (.bool b)) := fun j hj => ht.at j hj
  have HTS : Hid (SeesT w (.slice at_ nt capt) nt) := ht
  have HBG : ∀ u : World, Below w.heap.size w u → Hid (Calls Try.prog 12 #[.slice at_ nt capt] u fun e w' => (∃ k : Nat, k ≤ nt ∧ e = .returned (.int .i64 (k : Int))) ∧ w' = u) := fun u hu => by
    refine begins_any _ nt u ?_
    obtain ⟨ao2, cap2, hv, h1, h2, h3⟩ := HTS.out
    refine ⟨ao2, cap2, hv, h1, h2, fun j hj => ?_⟩
    obtain ⟨g, off, b, ha, hg, c⟩ := h3 j hj
    exact ⟨g, off, b, ha, Nat.lt_of_lt_of_le hg hu.size, (hu.cell (p := ⟨g, _, none⟩) hg).trans c⟩
  have HOK := hid hok
  clear hs q0 q1 hcap hb hok R0 ht htm
  go_enter Try.func4, Try.ntmps4
  go_upto_region 1 with fail
  rw [← HWA.out, ← HBX.out]
  go_wp2_with fail
  refine HBT.out.mono ?_
  rintro _ w1 (⟨hb, rfl, hb1⟩ | ⟨hb, pb, bn, ba, rb, rfl, hp1, hk1, hb1⟩)
  · have HF := hid (first_any w1)
    have HB1 := hid (HB0.out.trans (hb1.mono HB0.out.size))
    clear c0 c1 HBT hb1 hb
    go_wp2_with fail
    refine HF.out.mono ?_
    rintro _ w2 ⟨rfl, hb2⟩
    have HB2 := hid (HB1.out.trans (hb2.mono HB1.out.size))
    clear HF hb2
    go_wp2_with fail
    go_ret
    exact ⟨rfl, HB2.out⟩
  · obtain ⟨f, HFF⟩ : ∃ f : Fp, Hid (f = ⟨pb, bn, ba, rb⟩) := ⟨_, rfl⟩
    have HF := hid (first_any w1)
    have HL1 : Hid (Live w w1 pb bn ba rb) := ⟨_, _, hp1, fun k hk => Nat.le_trans HB0.out.size (hk1 k hk), HB0.out.trans (hb1.mono HB0.out.size)⟩
    have RX1 : Hid (w1.heap[bx]? = some (.cells #[.int .u32 (x' : Int), .int .i64 y'] 25 (0, 0))) := below_keeps hb1 RX.out (Array.getElem?_eq_some_iff.1 RX.out).1
    clear c0 c1 HBT hb1 hb hp1 hk1 RX
    go_wp2_with fail
    refine HF.out.mono ?_
    rintro _ w2 ⟨rfl, hb2⟩
    have HL2 := hid (HL1.out.below hb2)
    have RX2 : Hid (w2.heap[bx]? = some (.cells #[.int .u32 (x' : Int), .int .i64 y'] 25 (0, 0))) := below_keeps hb2 RX1.out (Array.getElem?_eq_some_iff.1 RX1.out).1
    have HBG2 := HBG w2 HL2.out.be
    clear HF hb2 HL1 RX1 HBG
    go_upto_region 6 with fail
    go_wp2_with fail
    refine HBG2.out.mono ?_
    rintro _ _ ⟨⟨na, hna, rfl⟩, ew⟩
    obtain rfl := ew.symm
    clear ew HBG2
    go_upto_region 8 with fail
    go_loopw [13] (fun i wr => ∃ j : Nat, i = .int .i64 (j : Int) ∧ j ≤ nv ∧ Hid (Live w wr pb bn ba rb) ∧ Hid (wr.heap[bx]? = some (.cells #[.int .u32 (x' : Int), .int .i64 y'] 25 (0, 0)))) (fun i _ => nv - (intOf i).toNat)
    case atStart => exact ⟨0, rfl, Nat.zero_le _, HL2, RX2⟩
    case round =>
      obtain ⟨j, rfl, hj, HL, HRX⟩ := hrel
      obtain ⟨B, HBV⟩ : ∃ B, Hid (B = decide (j < nv ∧ j < na)) := ⟨_, rfl⟩
      go_upto_region 8 with fail
      go_cut [50] from 42 to 50 (fun c wx => c = .bool B ∧ wx = wr)
      case first =>
        by_cases g1 : j < nv
        · have g1' : (j : Int) < (nv : Int) := int_lt g1
          by_cases g2 : j < na
          · have g2' : (j : Int) < (na : Int) := int_lt g2
            have HE : Hid (B = true) := by unfold Hid; rw [HBV.out, decide_eq_true_eq]; exact ⟨g1, g2⟩
            clear HBV
            go_wp2_with fail
            go_meet
            exact ⟨by rw [HE.out], rfl⟩
          · have g2' : ¬ (j : Int) < (na : Int) := int_nlt g2
            have HE : Hid (B = false) := by unfold Hid; rw [HBV.out, decide_eq_false_iff_not]; exact fun h => g2 h.2
            clear HBV
            go_wp2_with fail
            go_meet
            exact ⟨by rw [HE.out], rfl⟩
        · have g1' : ¬ (j : Int) < (nv : Int) := int_nlt g1
          have HE : Hid (B = false) := by unfold Hid; rw [HBV.out, decide_eq_false_iff_not]; exact fun h => g1 h.1
          clear HBV
          go_wp2_with fail
          go_meet
          exact ⟨by rw [HE.out], rfl⟩
      case rest =>
        obtain ⟨rfl, ew⟩ := hcut
        obtain rfl := ew.symm
        clear ew
        cases B with
        | true =>
          have hlt : j < nv ∧ j < na := of_decide_eq_true HBV.out.symm
          obtain ⟨g, off, o, rfl, HO, HCL⟩ := HAT j hlt.1
          obtain ⟨d0, d1, d2⟩ := HCL.out wr HL.out.be
          have hoo := HOK.out o (List.mem_of_getElem? HO.out)
          have HPL : Hid (Calls Try.prog 13 #[.pointer (some ⟨pb, 0, none⟩), .pointer (some ⟨rb, 0, none⟩), .agg #[.int .i64 o.k, .string o.n, .int .u32 (o.a : Int)]] wr fun e W => e = .returned (.bool true) ∧ Live w W pb bn ba rb ∧ ∀ (k : Nat) (cs : Array Value) (t : TypeId), wr.heap[k]? = some (Obj.cells cs t (0, 0)) → okT t → W.heap[k]? = some (Obj.cells cs t (0, 0))) := HL.out.plays o hoo.1 hoo.2
          have hjn := hlt.1
          have hlt' : (j : Int) < (nv : Int) := int_lt hjn
          clear hoo hlt
          go_wp2_with fail
          refine HPL.out.mono ?_
          rintro _ w4 ⟨rfl, hl4, hk4⟩
          have HL4 := hid hl4
          have HRX4 := hid (hk4 bx _ _ HRX.out HT25.out)
          clear d0 d1 d2 hl4 HPL hk4
          go_wp2_with fail
          go_roundw
          case rel => exact ⟨j + 1, by go_num, hjn, HL4, HRX4⟩
          case measure => simp [intOf]; omega
        | false =>
          clear HBV
          obtain ⟨d0, d1⟩ := HCX.out wr HRX.out
          have HB2 := HB2A wr
          go_wp2_with fail
          refine HB2.out.mono ?_
          rintro _ w3 (⟨hb, rfl, hb3⟩ | ⟨hb, pb', bn', ba', rb', rfl, hp3, hk3, hb3⟩)
          · have HL3 := hid (HL.out.below hb3)
            have HPL : Hid (Calls Try.prog 13 #[.pointer (some ⟨pb, 0, none⟩), .pointer (some ⟨rb, 0, none⟩), .agg #[.int .i64 5, .string ⟨#[]⟩, .int .u32 0]] w3 fun e W => e = .returned (.bool true) ∧ Live w W pb bn ba rb ∧ ∀ (k : Nat) (cs : Array Value) (t : TypeId), w3.heap[k]? = some (Obj.cells cs t (0, 0)) → okT t → W.heap[k]? = some (Obj.cells cs t (0, 0))) := HL3.out.plays ⟨5, ⟨#[]⟩, 0⟩ (by decide) (by decide)
            clear d0 d1 hb hb3 HB2
            go_wp2_with fail
            refine HPL.out.mono ?_
            rintro _ w4 ⟨rfl, hl4, -⟩
            have HB4 := hid hl4.be
            clear hl4 HPL
            go_wp2_with fail
            go_ret
            exact ⟨rfl, HB4.out⟩
          · have HNB := hid hb
            obtain ⟨g2, HGG⟩ : ∃ g2 : Fp, Hid (g2 = ⟨pb', bn', ba', rb'⟩) := ⟨_, rfl⟩
            have HT3 : Hid (TwP w w3 ⟨pb, bn, ba, rb⟩ ⟨pb', bn', ba', rb'⟩) := Live.two HL.out hp3 hk3 hb3
            have HRX3 : Hid (w3.heap[bx]? = some (.cells #[.int .u32 (x' : Int), .int .i64 y'] 25 (0, 0))) := below_keeps hb3 HRX.out (Array.getElem?_eq_some_iff.1 HRX.out).1
            have HPL := hid (HT3.out.play1 ⟨5, ⟨#[]⟩, 0⟩ (by decide) (by decide))
            unfold PlaysC at HPL
            simp only [Int.natCast_zero] at HPL
            clear d0 d1 hb hb3 HB2 hp3 hk3 HL HRX
            go_wp2_with fail
            refine HPL.out.mono ?_
            rintro _ w4 ⟨rfl, ht4, hk4⟩
            have HT4 := hid ht4
            have HRX4 := hid (hk4 bx _ _ HRX3.out HT25.out)
            clear ht4 hk4 HPL HT3 HRX3
            go_upto_region 18 with fail
            go_loopw [17] (fun i wr => ∃ j : Nat, i = .int .i64 (j : Int) ∧ na ≤ j ∧ j ≤ max na nv ∧ Hid (TwP w wr ⟨pb, bn, ba, rb⟩ ⟨pb', bn', ba', rb'⟩) ∧ Hid (wr.heap[bx]? = some (.cells #[.int .u32 (x' : Int), .int .i64 y'] 25 (0, 0)))) (fun i _ => nv - (intOf i).toNat)
            case atStart => exact ⟨na, rfl, Nat.le_refl _, Nat.le_max_left .., HT4, HRX4⟩
            case round =>
              obtain ⟨j, rfl, hj0, hj, HT, HRX⟩ := hrel
              by_cases hlt : j < nv
              · have hlt' : (j : Int) < (nv : Int) := int_lt hlt
                obtain ⟨g, off, o, rfl, HO, HCL⟩ := HAT j hlt
                obtain ⟨d0, d1, d2⟩ := HCL.out wr HT.out.be
                have HOO := hid (HOK.out o (List.mem_of_getElem? HO.out))
                have hjm : j + 1 ≤ max na nv := by have := Nat.le_max_right na nv; omega
                obtain ⟨C, HCV⟩ : ∃ C : Bool, Hid ((j < nt → ∃ (g off : Nat), at_ = some ⟨g, off, none⟩ ∧ wr.cell? ⟨g, off + j, none⟩ = some (.bool C)) ∧ (¬ j < nt → C = false)) := by
                  by_cases h1 : j < nt
                  · obtain ⟨g, off, b, e, hc⟩ := HTT j h1
                    exact ⟨b, fun _ => ⟨g, off, e, hc.out wr HT.out.be⟩, fun h => absurd h1 h⟩
                  · exact ⟨false, fun h => absurd h h1, fun _ => rfl⟩
                go_upto_region 20 with fail
                go_cut [18] from 89 to 98 (fun c wx => c = .bool C ∧ wx = wr)
                case first =>
                  by_cases h1 : j < nt
                  · have h1' : (j : Int) < (nt : Int) := int_lt h1
                    obtain ⟨gt, ot, e, hc⟩ := HCV.out.1 h1
                    subst e
                    go_wp2_with fail
                    go_meet
                    exact ⟨rfl, rfl⟩
                  · have h1' : ¬ (j : Int) < (nt : Int) := int_nlt h1
                    have HE := hid (HCV.out.2 h1)
                    go_wp2_with fail
                    go_meet
                    exact ⟨by rw [HE.out], rfl⟩
                case rest =>
                  obtain ⟨rfl, ew⟩ := hcut
                  obtain rfl := ew.symm
                  clear ew HCV
                  cases C with
                  | true =>
                    have HPL := hid (HT.out.play2 o HOO.out.1 HOO.out.2)
                    unfold PlaysC at HPL
                    go_wp2_with fail
                    refine HPL.out.mono ?_
                    rintro _ w4 ⟨rfl, ht4, hk4⟩
                    have HT4 := hid ht4
                    have HRX4 := hid (hk4 bx _ _ HRX.out HT25.out)
                    obtain ⟨m0, m1⟩ := HCX.out w4 HRX4.out
                    have HB2 := HB2A w4
                    clear ht4 hk4 HPL d0 d1 d2
                    go_wp2_with fail
                    refine HB2.out.mono ?_
                    rintro _ w5 (⟨hb, rfl, hb5⟩ | ⟨hb, pb3, bn3, ba3, rb3, rfl, hp5, hk5, hb5⟩)
                    · rw [HNB.out] at hb; cases hb
                    · have HT5 := hid (HT4.out.below hb5)
                      obtain ⟨d0, d1, d2⟩ := HCL.out w5 HT5.out.be
                      have HP5 := hid (plays_any o w5 pb3 bn3 ba3 rb3 _ _ hp5 HOO.out.1 HOO.out.2)
                      unfold Stp.cells at HP5
                      have HRX5 : Hid (w5.heap[bx]? = some (.cells #[.int .u32 (x' : Int), .int .i64 y'] 25 (0, 0))) := below_keeps hb5 HRX4.out (Array.getElem?_eq_some_iff.1 HRX4.out).1
                      have HK5 := hid hk5
                      have HB5 := hid hb5
                      have HPR5 := hid hp5
                      clear m0 m1 hb hp5 hk5 hb5 HB2
                      go_wp2_with fail
                      refine HP5.out.mono ?_
                      rintro _ w6 ⟨rfl, vp6, hp6, hn6, hk6⟩
                      have HT6 := hid (HT4.out.fresh HB5.out hk6 HK5.out)
                      have HRX6 := hid ((hk6.block bx (Array.getElem?_eq_some_iff.1 HRX5.out).1 (HPR5.out.other HRX5.out HT25.out)).trans HRX5.out)
                      clear hp6 hn6 hk6 HP5 d0 d1 d2
                      go_wp2_with fail
                      go_roundw
                      case rel => exact ⟨j + 1, by go_num, by omega, hjm, HT6, HRX6⟩
                      case measure => simp [intOf]; omega
                  | false =>
                    have HPL := hid (HT.out.play1 o HOO.out.1 HOO.out.2)
                    unfold PlaysC at HPL
                    go_wp2_with fail
                    refine HPL.out.mono ?_
                    rintro _ w4 ⟨rfl, ht4, hk4⟩
                    have HT4 := hid ht4
                    have HRX4 := hid (hk4 bx _ _ HRX.out HT25.out)
                    clear ht4 hk4 HPL d0 d1 d2
                    go_wp2_with fail
                    go_roundw
                    case rel => exact ⟨j + 1, by go_num, by omega, hjm, HT4, HRX4⟩
                    case measure => simp [intOf]; omega
              · have hlt' : ¬ (j : Int) < (nv : Int) := int_nlt hlt
                have HPL := hid (HT.out.play1 ⟨5, ⟨#[]⟩, 0⟩ (by decide) (by decide))
                unfold PlaysC at HPL
                simp only [Int.natCast_zero] at HPL
                go_wp2_with fail
                refine HPL.out.mono ?_
                rintro _ w4 ⟨rfl, ht4, -⟩
                have HPL2 := hid (ht4.play2 ⟨5, ⟨#[]⟩, 0⟩ (by decide) (by decide))
                unfold PlaysC at HPL2
                simp only [Int.natCast_zero] at HPL2
                clear ht4 HPL
                go_wp2_with fail
                refine HPL2.out.mono ?_
                rintro _ w5 ⟨rfl, ht5, -⟩
                have HB5 := hid ht5.be
                clear ht5 HPL2
                go_wp2_with fail
                go_ret
                exact ⟨rfl, HB5.out⟩
end Go.Proofs.Ytjilahbkolcekab
