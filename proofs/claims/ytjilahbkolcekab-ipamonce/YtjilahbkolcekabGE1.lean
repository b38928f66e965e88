/-
  IpamOnce: the walk.
-/
import Derived.Test.YtjilahbkolcekabGC1
import Derived.Test.YtjilahbkolcekabGD1
namespace Go.Proofs.Ytjilahbkolcekab
open Go.ChangeShapes Go.WideShapes Go.ChangeAt Go.RowKit Go.Maps Tri
set_option maxHeartbeats 8000000
set_option maxRecDepth 100000

/-- Both hold the same, all of it new since wa. -/
def OnS (wa wr : World) (pb bn ba gb x z : Nat) : Prop :=
  ∃ vp s, IpAt wr pb bn ba s ∧ GvAt wr gb vp s ∧ NmS s ∧ s.b = x ∧ s.z = z ∧ (∀ k, fpI pb bn ba k → wa.heap.size ≤ k) ∧ (∀ k, fpR gb vp k → wa.heap.size ≤ k) ∧ Below wa.heap.size wa wr

theorem OnS.below {wa wr w' : World} {pb bn ba gb x z : Nat} (h : OnS wa wr pb bn ba gb x z) (hb : Below wr.heap.size wr w') : OnS wa w' pb bn ba gb x z := by
  obtain ⟨vp, s, h1, h2, h3, h4, h5, h6, h7, h8⟩ := h
  exact ⟨vp, s, h1.below hb, h2.below hb, h3, h4, h5, h6, h7, h8.trans (hb.mono h8.size)⟩

/-- Both are turned. -/
theorem OnS.turn {wa wr u w' : World} {pb bn ba gb x z : Nat} {vp vp' : Value} {s s' : Ist} (h2 : GvAt wr gb vp s) (h1 : IpAt wr pb bn ba s) (h6 : ∀ k, fpI pb bn ba k → wa.heap.size ≤ k) (h7 : ∀ k, fpR gb vp k → wa.heap.size ≤ k) (h8 : Below wa.heap.size wa wr)
    (hi : IpAt u pb bn ba s') (hk : Keeps (fpI pb bn ba) wr u) (hg : GTurn u w' gb vp s' vp') (hn : NmS s') (hb : s'.b = x) (hz : s'.z = z) : OnS wa w' pb bn ba gb x z := by
  have hgu : GvAt u gb vp s := h2.keeps hk fun k a b => sepIG h1 h2 k b a
  have hbu : Below wa.heap.size wa u := h8.trans (hk.below h8.size h6)
  refine ⟨vp', s', hi.keeps hg.keeps fun k a b => sepIG hi hgu k a b, hg.ref, hn, hb, hz, h6, fun k hk2 => ?_, hbu.trans (hg.keeps.below hbu.size h7)⟩
  rcases hk2 with rfl | hk2
  · exact h7 _ (.inl rfl)
  · rcases hg.new k hk2 with h | h
    · exact h7 k (.inr h)
    · exact Nat.le_trans hbu.size h

theorem once_walk (x : Nat) (y : Int) (v : Value) (S : List Stp) (w : World) (hx : x < 4294967296) (hs : SeesO w v S) (hok : OkO S) (hb : S.length * 32 ≤ 140737488355328) :
    Calls Try.prog 8 #[.agg #[.int .u32 (x : Int), .int .i64 y], v] w fun e w' => e = .returned (.bool true) ∧ Below w.heap.size w w' := by
  obtain ⟨ao, nv, cap, rfl, HN, hnc, hcap⟩ := hs.shape
  have hnb : nv * 32 ≤ 140737488355328 := by rw [HN.out]; exact hb
  obtain ⟨wa, HWA⟩ : ∃ wa, Hid (wa = w.alloc (.cells #[.int .u32 (x : Int), .int .i64 y] 25)) := ⟨_, rfl⟩
  have HB0 : Hid (Below w.heap.size w wa) := by unfold Hid; rw [HWA.out]; exact (Below.refl _ _).alloc (Nat.le_refl _) _
  have R1 : Hid (wa.heap[w.heap.size]? = some (.cells #[.int .u32 (x : Int), .int .i64 y] 25)) := by unfold Hid; rw [HWA.out]; exact heap_alloc_new w _
  obtain ⟨q0, q1⟩ := Beh.two R1.out
  have c0 := q0 ⟨wa, Below.refl _ _⟩
  have c1 := q1 ⟨wa, Below.refl _ _⟩
  simp only at c0 c1
  have HCX : Hid (∀ u : World, Below wa.heap.size wa u → u.cell? ⟨w.heap.size, 0, none⟩ = some (.int .u32 (x : Int)) ∧ u.cell? ⟨w.heap.size, 1, none⟩ = some (.int .i64 y)) := fun u hu => ⟨q0 ⟨u, hu⟩, q1 ⟨u, hu⟩⟩
  have HBW : Hid (∀ u : World, Below wa.heap.size wa u → Below w.heap.size w u) := fun u hu => HB0.out.trans (hu.mono HB0.out.size)
  have HN0 := hid (new_any x y wa hx)
  have HMY : ∀ u : World, Hid (Calls Try.prog 14 #[.agg #[.int .u32 (x : Int), .int .i64 y]] u fun e w' => e = .returned (.bool (nwB x y)) ∧ Below u.heap.size u w') := fun u => may_any x y u hx
  have HAT : ∀ j, j < nv → ∃ (g off : Nat) (o : Stp), ao = some ⟨g, off, none⟩ ∧ Hid (S[j]? = some o) ∧ Hid (∀ u : World, Below w.heap.size w u → u.cell? ⟨g, off + j * 3, none⟩ = some (.int .i64 o.k) ∧ u.cell? ⟨g, off + j * 3 + 1, none⟩ = some (.string o.n) ∧ u.cell? ⟨g, off + j * 3 + 2, none⟩ = some (.int .u32 (o.a : Int))) := fun j hj => hs.at j hj
  have HOK := hid hok
  clear hs q0 q1 hcap hb hok
  go_enter Try.func8, Try.ntmps8
  go_upto_region 1 with fail
  rw [← HWA.out]
  go_wp2_with fail
  refine HN0.out.mono ?_
  rintro _ w1 (⟨hb, rfl, hb1⟩ | ⟨hb, pb, bn, ba, rfl, hi1, hk1, hb1⟩)
  · have HF := hid (first_any w1)
    have HB1 := hid hb1
    have HNB := hid hb
    clear c0 c1 HN0 hb1 hb
    go_wp2_with fail
    refine HF.out.mono ?_
    rintro _ w2 ⟨rfl, hb2⟩
    have HB2 := hid (HB1.out.trans (hb2.mono HB1.out.size))
    obtain ⟨d0, d1⟩ := HCX.out w2 HB2.out
    have HM := HMY w2
    rw [HNB.out] at HM
    clear HF hb2 HMY
    go_wp2_with fail
    refine HM.out.mono ?_
    rintro _ w3 ⟨rfl, hb3⟩
    have HB3 := hid (HBW.out w3 (HB2.out.trans (hb3.mono HB2.out.size)))
    clear HM hb3 d0 d1
    go_wp2_with fail
    go_ret
    exact ⟨rfl, HB3.out⟩
  · have HF := hid (first_any w1)
    have HB1 := hid hb1
    have HNB := hid hb
    have HI1 := hid hi1
    have HK1 := hid hk1
    obtain ⟨n, rfl, hn1, hn30⟩ : ∃ n : Nat, y = (n : Int) ∧ 1 ≤ n ∧ n ≤ 30 := by
      unfold nwB at hb
      rw [decide_eq_true_eq] at hb
      exact ⟨y.toNat, by omega, by omega, by omega⟩
    obtain ⟨z, HZ⟩ : ∃ z, Hid (z = 2 ^ (32 - n)) := ⟨2 ^ (32 - n), hid rfl⟩
    clear c0 c1 HN0 hb1 hb hi1 hk1
    go_wp2_with fail
    refine HF.out.mono ?_
    rintro _ w2 ⟨rfl, hb2⟩
    have HB2 := hid (HB1.out.trans (hb2.mono HB1.out.size))
    have HI2 := hid (HI1.out.below hb2)
    obtain ⟨d0, d1⟩ := HCX.out w2 HB2.out
    have HM := HMY w2
    rw [HNB.out] at HM
    clear HF hb2 HMY HI1
    go_wp2_with fail
    refine HM.out.mono ?_
    rintro _ w3 ⟨rfl, hb3⟩
    have HB3 := hid (HB2.out.trans (hb3.mono HB2.out.size))
    have HI3 := hid (HI2.out.below hb3)
    clear HM hb3 d0 d1 HI2
    obtain ⟨gb, HGB⟩ : ∃ gb, Hid (gb = w3.heap.size) := ⟨_, rfl⟩
    obtain ⟨w4, HW4⟩ : ∃ w4, Hid (w4 = w3.alloc (.cells #[.slice none 0 0] 58)) := ⟨_, rfl⟩
    have HS4 : Hid (OnS wa w4 pb bn ba gb x z) := by
      have hb4 : Below w3.heap.size w3 w4 := by rw [HW4.out]; exact (Below.refl _ _).alloc (Nat.le_refl _) _
      have r4 : w4.heap[gb]? = some (.cells #[.slice none 0 0] 58 (0, 0)) := by rw [HW4.out, HGB.out]; exact heap_alloc_new w3 _
      refine ⟨.slice none 0 0, Ist.new x (n : Int), HI3.out.below hb4, ⟨r4, OwnD.nil _ _, HI3.out.ok⟩, fun p hp => absurd hp (by simp [Ist.new]), rfl, by unfold Ist.new; simp only [Int.toNat_natCast]; exact HZ.out.symm, HK1.out, ?_, HB3.out.trans (hb4.mono HB3.out.size)⟩
      rintro k (rfl | hk)
      · rw [HGB.out]; exact HB3.out.size
      · cases hk
    go_upto_region 7 with fail
    rw [← HW4.out, ← HGB.out]
    clear HB3 HI3
    go_upto_region 8 with fail
    go_loopw [8] (fun i wr => ∃ j : Nat, i = .int .i64 (j : Int) ∧ j ≤ nv ∧ Hid (OnS wa wr pb bn ba gb x z)) (fun i _ => nv - (intOf i).toNat)
    case atStart => exact ⟨0, rfl, Nat.zero_le _, HS4⟩
    case round =>
      obtain ⟨j, rfl, hj, HS⟩ := hrel
      by_cases hlt : j < nv
      · have hlt' : (j : Int) < (nv : Int) := int_lt hlt
        obtain ⟨g, off, o, rfl, HO, HCL⟩ := HAT j hlt
        have HBR : Hid (Below wa.heap.size wa wr) := by obtain ⟨vp, s, -, -, -, -, -, -, -, h⟩ := HS.out; exact h
        obtain ⟨d0, d1, d2⟩ := HCL.out wr (HBW.out wr HBR.out)
        have HOO := hid (HOK.out o (List.mem_of_getElem? HO.out))
        obtain ⟨w5, HW5⟩ : ∃ w5, Hid (w5 = wr.alloc (.cells #[.int .i64 o.k, .string o.n, .int .u32 (o.a : Int)] 38)) := ⟨_, rfl⟩
        obtain ⟨ob, HOB⟩ : ∃ ob, Hid (ob = wr.heap.size) := ⟨_, rfl⟩
        have hb5 : Below wr.heap.size wr w5 := by rw [HW5.out]; exact (Below.refl _ _).alloc (Nat.le_refl _) _
        have R5 : Hid (w5.heap[ob]? = some (.cells #[.int .i64 o.k, .string o.n, .int .u32 (o.a : Int)] 38 (0, 0))) := by unfold Hid; rw [HW5.out, HOB.out]; exact heap_alloc_new wr _
        have HCO : Hid (∀ u : World, u.heap[ob]? = some (.cells #[.int .i64 o.k, .string o.n, .int .u32 (o.a : Int)] 38 (0, 0)) → u.cell? ⟨ob, 0, none⟩ = some (.int .i64 o.k) ∧ u.cell? ⟨ob, 1, none⟩ = some (.string o.n)) := fun u hu => by
          refine ⟨?_, ?_⟩ <;> (rw [cell_of_row _ _ _ _ _ _ hu]; rfl)
        obtain ⟨vp, s, h1, h2, h3, h4, h5, h6, h7, h8⟩ := HS.out
        have HOBF : Hid (∀ k, fpI pb bn ba k → k ≠ ob) := fun k hk e => by
          have := h1.lt
          have hob := HOB.out
          rcases hk with rfl | rfl | rfl <;> omega
        have HI5 := hid (h1.below hb5)
        have HG5 := hid (h2.below hb5)
        have HB5 := hid (HBR.out.trans (hb5.mono HBR.out.size))
        have HST := hid (And.intro h3 (And.intro h4 (And.intro h5 (And.intro h6 h7))))
        have HS5 := hid (HS.out.below hb5)
        obtain ⟨e0, e1⟩ := HCO.out w5 R5.out
        clear hb5 h1 h2 h3 h4 h5 h6 h7 h8
        go_upto_region 11 with fail
        rw [← HW5.out, ← HOB.out]
        clear d0 d1 d2
        by_cases k1 : o.k = 1
        · have q1 : (o.k == 1) = true := by simp [k1]
          have HA := hid (add_any w5 pb bn ba s o.n HI5.out HOO.out.1)
          go_wp2_with fail
          refine HA.out.mono ?_
          rintro _ w6 ⟨rfl, hi6, hk6⟩
          have R6 := (hk6.block ob (Array.getElem?_eq_some_iff.1 R5.out).1 (fun e => HOBF.out ob e rfl)).trans R5.out
          obtain ⟨m0, m1⟩ := HCO.out w6 R6
          have hg6 : GvAt w6 gb vp s := HG5.out.keeps hk6 fun k a b => sepIG HI5.out HG5.out k b a
          have hb6 : Below wa.heap.size wa w6 := HB5.out.trans (hk6.below HB5.out.size HST.out.2.2.2.1)
          obtain ⟨l0, l1⟩ := HCX.out w6 hb6
          have HAD := hid (added_any w6 gb vp s n o.n hg6 HST.out.1 hn1 hn30 (by rw [HST.out.2.2.1]; exact HZ.out))
          rw [HST.out.2.1] at HAD
          have HFIN : Hid (∀ w', (∃ vp', GTurn w6 w' gb vp (s.addR o.n).2.2 vp') → NmS (s.addR o.n).2.2 → OnS wa w' pb bn ba gb x z) := fun w' ⟨vp', hg⟩ hn => by
            refine OnS.turn HG5.out HI5.out HST.out.2.2.2.1 HST.out.2.2.2.2 HB5.out hi6 hk6 hg hn ?_ ?_
            · rw [← HST.out.2.1]
              rcases addR_facts HI5.out.ok HST.out.1 o.n with ⟨r, hA, -⟩ | ⟨hA, -⟩ | ⟨hA, -⟩ | ⟨hA, -⟩ <;> (rw [hA]; try rfl)
            · rw [← HST.out.2.2.1]
              rcases addR_facts HI5.out.ok HST.out.1 o.n with ⟨r, hA, -⟩ | ⟨hA, -⟩ | ⟨hA, -⟩ | ⟨hA, -⟩ <;> (rw [hA]; try rfl)
          clear hi6 hk6 hg6 hb6 HA e0 e1 R6
          generalize s.addR o.n = A at *
          obtain ⟨A1, A2, A3⟩ := A
          simp only at HAD HFIN ⊢
          go_wp2_with fail
          refine HAD.out.mono ?_
          rintro _ w7 ⟨rfl, hg7, hn7⟩
          have HS7 := hid (HFIN.out w7 hg7 hn7)
          clear m0 m1 l0 l1 HAD hg7 hn7
          go_wp2_with fail
          go_roundw
          case rel => exact ⟨j + 1, by go_num, hlt, HS7⟩
          case measure => simp [intOf]; omega
        · have q1 : (o.k == 1) = false := by simp [k1]
          by_cases k2 : o.k = 2
          · have q2 : (o.k == 2) = true := by simp [k2]
            have HA := hid (del_any w5 pb bn ba s o.n HI5.out HOO.out.1)
            go_wp2_with fail
            refine HA.out.mono ?_
            rintro _ w6 ⟨rfl, hi6, hk6⟩
            have R6 := (hk6.block ob (Array.getElem?_eq_some_iff.1 R5.out).1 (fun e => HOBF.out ob e rfl)).trans R5.out
            obtain ⟨m0, m1⟩ := HCO.out w6 R6
            have hg6 : GvAt w6 gb vp s := HG5.out.keeps hk6 fun k a b => sepIG HI5.out HG5.out k b a
            have HAD := hid (deleted_any w6 gb vp s o.n hg6)
            have HFIN : Hid (∀ w', (∃ vp', GTurn w6 w' gb vp (s.delR o.n).2.2 vp') → OnS wa w' pb bn ba gb x z) := fun w' ⟨vp', hg⟩ => by
              have hd : (s.delR o.n).2.2 = s ∨ (s.delR o.n).2.2 = s.del o.n := by
                unfold Ist.delR
                cases s.byN o.n with
                | none => exact .inl rfl
                | some p => exact .inr rfl
              refine OnS.turn HG5.out HI5.out HST.out.2.2.2.1 HST.out.2.2.2.2 HB5.out hi6 hk6 hg ?_ ?_ ?_
              · rcases hd with e | e
                · rw [e]; exact HST.out.1
                · rw [e]; exact HST.out.1.del _
              · rw [← HST.out.2.1]; rcases hd with e | e <;> (rw [e]; try rfl)
              · rw [← HST.out.2.2.1]; rcases hd with e | e <;> (rw [e]; try rfl)
            clear hi6 hk6 hg6 HA e0 e1 R6
            generalize s.delR o.n = A at *
            obtain ⟨A1, A2, A3⟩ := A
            simp only at HAD HFIN ⊢
            go_wp2_with fail
            refine HAD.out.mono ?_
            rintro _ w7 ⟨rfl, hg7⟩
            have HS7 := hid (HFIN.out w7 hg7)
            clear m0 m1 HAD hg7
            go_wp2_with fail
            go_roundw
            case rel => exact ⟨j + 1, by go_num, hlt, HS7⟩
            case measure => simp [intOf]; omega
          · have q2 : (o.k == 2) = false := by simp [k2]
            by_cases k3 : o.k = 3 ∨ o.k = 4 ∨ o.k = 5
            · have HTD := hid (told_any w5 pb bn ba s gb vp HI5.out HG5.out)
              have HED : ∀ u : World, Below w5.heap.size w5 u → Hid (Calls Try.prog 27 #[.pointer (some ⟨pb, 0, none⟩), .agg #[.int .u32 (x : Int), .int .i64 (n : Int)]] u fun e w' => e = .returned (.bool true) ∧ Below u.heap.size u w') := fun u hu => by
                have := edges_any u pb bn ba s n (HI5.out.below hu) hn1 hn30 (by rw [HST.out.2.2.1]; exact HZ.out)
                rw [HST.out.2.1] at this
                exact this
              have HCX5 : Hid (∀ u : World, Below w5.heap.size w5 u → u.cell? ⟨w.heap.size, 0, none⟩ = some (.int .u32 (x : Int)) ∧ u.cell? ⟨w.heap.size, 1, none⟩ = some (.int .i64 (n : Int))) := fun u hu => HCX.out u (HB5.out.trans (hu.mono HB5.out.size))
              rcases k3 with k3 | k3 | k3
              · have q3 : (o.k == 3) = true := by simp [k3]
                go_wp2_with fail
                refine HTD.out.mono ?_
                rintro _ w6 ⟨rfl, hb6⟩
                obtain ⟨l0, l1⟩ := HCX5.out w6 hb6
                have HE6 := HED w6 hb6
                have HB6 := hid hb6
                clear HTD hb6 HED e0 e1
                go_wp2_with fail
                refine HE6.out.mono ?_
                rintro _ w7 ⟨rfl, hb7⟩
                have HS7 := hid (HS5.out.below (HB6.out.trans (hb7.mono HB6.out.size)))
                clear l0 l1 HE6 hb7
                go_wp2_with fail
                go_roundw
                case rel => exact ⟨j + 1, by go_num, hlt, HS7⟩
                case measure => simp [intOf]; omega
              · have q3 : (o.k == 3) = false := by simp [k3]
                have n3 : ¬ o.k = 3 := by omega
                have q4 : (o.k == 4) = true := by simp [k3]
                go_wp2_with fail
                refine HTD.out.mono ?_
                rintro _ w6 ⟨rfl, hb6⟩
                obtain ⟨l0, l1⟩ := HCX5.out w6 hb6
                have HE6 := HED w6 hb6
                have HB6 := hid hb6
                clear HTD hb6 HED e0 e1
                go_wp2_with fail
                refine HE6.out.mono ?_
                rintro _ w7 ⟨rfl, hb7⟩
                have HS7 := hid (HS5.out.below (HB6.out.trans (hb7.mono HB6.out.size)))
                clear l0 l1 HE6 hb7
                go_wp2_with fail
                go_roundw
                case rel => exact ⟨j + 1, by go_num, hlt, HS7⟩
                case measure => simp [intOf]; omega
              · have q3 : (o.k == 3) = false := by simp [k3]
                have n3 : ¬ o.k = 3 := by omega
                have q4 : (o.k == 4) = false := by simp [k3]
                have n4 : ¬ o.k = 4 := by omega
                have q5 : (o.k == 5) = true := by simp [k3]
                go_wp2_with fail
                refine HTD.out.mono ?_
                rintro _ w6 ⟨rfl, hb6⟩
                obtain ⟨l0, l1⟩ := HCX5.out w6 hb6
                have HE6 := HED w6 hb6
                have HB6 := hid hb6
                clear HTD hb6 HED e0 e1
                go_wp2_with fail
                refine HE6.out.mono ?_
                rintro _ w7 ⟨rfl, hb7⟩
                have HS7 := hid (HS5.out.below (HB6.out.trans (hb7.mono HB6.out.size)))
                clear l0 l1 HE6 hb7
                go_wp2_with fail
                go_roundw
                case rel => exact ⟨j + 1, by go_num, hlt, HS7⟩
                case measure => simp [intOf]; omega
            · have q3 : (o.k == 3) = false := by simp; omega
              have q4 : (o.k == 4) = false := by simp; omega
              have q5 : (o.k == 5) = false := by simp; omega
              have n3 : ¬ o.k = 3 := by omega
              have n4 : ¬ o.k = 4 := by omega
              have n5 : ¬ o.k = 5 := by omega
              go_wp2_with fail
              go_roundw
              case rel => exact ⟨j + 1, by go_num, hlt, HS5⟩
              case measure => simp [intOf]; omega
      · have hlt' : ¬ (j : Int) < (nv : Int) := int_nlt hlt
        obtain ⟨vp, s, h1, h2, h3, h4, h5, h6, h7, h8⟩ := HS.out
        have HTD := hid (told_any wr pb bn ba s gb vp h1 h2)
        have HED : ∀ u : World, Below wr.heap.size wr u → Hid (Calls Try.prog 27 #[.pointer (some ⟨pb, 0, none⟩), .agg #[.int .u32 (x : Int), .int .i64 (n : Int)]] u fun e w' => e = .returned (.bool true) ∧ Below u.heap.size u w') := fun u hu => by
          have := edges_any u pb bn ba s n (h1.below hu) hn1 hn30 (by rw [h5]; exact HZ.out)
          rw [h4] at this
          exact this
        have HB8 := hid h8
        clear h1 h2 h3 h4 h5 h6 h7 h8
        go_wp2_with fail
        refine HTD.out.mono ?_
        rintro _ w6 ⟨rfl, hb6⟩
        obtain ⟨l0, l1⟩ := HCX.out w6 (HB8.out.trans (hb6.mono HB8.out.size))
        have HE6 := HED w6 hb6
        have HB6 := hid hb6
        clear HTD hb6 HED
        go_wp2_with fail
        refine HE6.out.mono ?_
        rintro _ w7 ⟨rfl, hb7⟩
        have HB7 := hid (HBW.out w7 (HB8.out.trans ((HB6.out.trans (hb7.mono HB6.out.size)).mono HB8.out.size)))
        clear l0 l1 HE6 hb7
        go_wp2_with fail
        go_ret
        exact ⟨rfl, HB7.out⟩
end Go.Proofs.Ytjilahbkolcekab
