/-
  The law's untouched; IpamFresh: the walks.
-/
import Derived.Test.YtjilahbkolcekabGL1
namespace Go.Proofs.Ytjilahbkolcekab
open Go.ChangeShapes Go.WideShapes Go.ChangeAt Go.RowKit Go.Maps Tri
set_option maxHeartbeats 8000000
set_option maxRecDepth 100000

theorem untouched_any (x : Nat) (y : Int) (v : Value) (S : List Stp) (w : World) (hx : x < 4294967296) (hs : SeesO w v S) (hok : OkO S) (hb : S.length ≤ 1048576) :
    Calls Try.prog 23 #[.agg #[.int .u32 (x : Int), .int .i64 y], v] w fun e w' => e = .returned (.bool true) ∧ Below w.heap.size w w' := by
  obtain ⟨ao, nv, cap, rfl, HN, hnc, hcap⟩ := hs.shape
  have hnb : nv ≤ 1048576 := by rw [HN.out]; exact hb
  obtain ⟨wa, HWA⟩ : ∃ wa, Hid (wa = w.alloc (.cells #[.int .u32 (x : Int), .int .i64 y] 25)) := ⟨_, rfl⟩
  have HB0 : Hid (Below w.heap.size w wa) := by unfold Hid; rw [HWA.out]; exact (Below.refl _ _).alloc (Nat.le_refl _) _
  have R1 : Hid (wa.heap[w.heap.size]? = some (.cells #[.int .u32 (x : Int), .int .i64 y] 25)) := by unfold Hid; rw [HWA.out]; exact heap_alloc_new w _
  obtain ⟨q0, q1⟩ := Beh.two R1.out
  have c0 := q0 ⟨wa, Below.refl _ _⟩
  have c1 := q1 ⟨wa, Below.refl _ _⟩
  simp only at c0 c1
  have HBT := hid (both_any x y wa hx)
  have HAT : ∀ j, j < nv → ∃ (g off : Nat) (o : Stp), ao = some ⟨g, off, none⟩ ∧ Hid (S[j]? = some o) ∧ Hid (∀ u : World, Below w.heap.size w u → u.cell? ⟨g, off + j * 3, none⟩ = some (.int .i64 o.k) ∧ u.cell? ⟨g, off + j * 3 + 1, none⟩ = some (.string o.n) ∧ u.cell? ⟨g, off + j * 3 + 2, none⟩ = some (.int .u32 (o.a : Int))) := fun j hj => hs.at j hj
  have HOK := hid hok
  have HBW : Hid (∀ u : World, Below wa.heap.size wa u → Below w.heap.size w u) := fun u hu => HB0.out.trans (hu.mono HB0.out.size)
  clear hs q0 q1 hcap hb hok
  go_enter Try.func23, Try.ntmps23
  go_upto_region 1 with fail
  rw [← HWA.out]
  go_wp2_with fail
  refine HBT.out.mono ?_
  rintro _ w1 (⟨hb, rfl, hb1⟩ | ⟨hb, pb, bn, ba, rb, rfl, hp1, hk1, hb1⟩)
  · have HB1 := hid (HB0.out.trans (hb1.mono HB0.out.size))
    clear c0 c1 HBT hb1 hb
    go_wp2_with fail
    go_ret
    exact ⟨rfl, HB1.out⟩
  · have HS1 : Hid (US wa w1 pb bn ba rb (.slice none 0 0) 0) := US.start (vp := .slice none 0 0) (s := Ist.new x y) ⟨hp1, hk1, fun k e => e.elim, hb1⟩
    clear c0 c1 HBT hb1 hb hp1 hk1
    go_upto_region 6 with fail
    go_loopw [8, 9] (fun va i wr => ∃ (j : Nat) (aa : Option Addr) (na ca : Nat), i = .int .i64 (j : Int) ∧ j ≤ nv ∧ va = .slice aa na ca ∧ Hid (US wa wr pb bn ba rb (.slice aa na ca) (2 * j))) (fun _ i _ => nv - (intOf i).toNat)
    case atStart => exact ⟨0, none, 0, 0, rfl, Nat.zero_le _, rfl, HS1⟩
    case round =>
      obtain ⟨j, aa, na, ca, rfl, hj, rfl, HL⟩ := hrel
      by_cases hlt : j < nv
      · have hlt' : (j : Int) < (nv : Int) := int_lt hlt
        obtain ⟨g, off, o, rfl, HO, HCL⟩ := HAT j hlt
        obtain ⟨d0, d1, d2⟩ := HCL.out wr (HBW.out wr HL.out.be)
        have hoo := HOK.out o (List.mem_of_getElem? HO.out)
        have HPL := hid (HL.out.plays o hoo.1 hoo.2)
        clear hoo
        go_wp2_with fail
        refine HPL.out.mono ?_
        rintro _ w2 ⟨rfl, hl2⟩
        obtain ⟨m0, m1, m2⟩ := HCL.out w2 (HBW.out w2 hl2.be)
        have HL2 := hid hl2
        clear d0 d1 d2 hl2 HPL
        by_cases k5 : o.k = 5
        · have q5 : (o.k == 5) = true := by simp [k5]
          have HLS := hid (HL2.out.lists (by omega))
          go_wp2_with fail
          refine HLS.out.mono ?_
          rintro _ w3 ⟨a1, n1, c1, rfl, HL3⟩
          clear m0 m1 m2 HLS
          go_wp2_with fail
          refine HL3.out.mono ?_
          rintro _ w4 ⟨a2, n2, c2, rfl, HL4⟩
          obtain ⟨a3, n3, c3, w5, HAP, HU5⟩ := HL4.out
          clear HL3 HL4
          go_wp2_with (first | (at_builtin; refine wpList_append_run _ rfl _ _ 52 52 rfl _ _ rfl rfl HAP.out ?_) | fail)
          go_roundw
          case rel => exact ⟨j + 1, a3, n3, c3, by go_num, hlt, rfl, HU5⟩
          case measure => simp [intOf]; omega
        · have q5 : (o.k == 5) = false := by simp [k5]
          have HL6 := hid (HL2.out.mono (m' := 2 * (j + 1)) (by omega))
          go_wp2_with fail
          go_roundw
          case rel => exact ⟨j + 1, aa, na, ca, by go_num, hlt, rfl, HL6⟩
          case measure => simp [intOf]; omega
      · have hlt' : ¬ (j : Int) < (nv : Int) := int_nlt hlt
        obtain ⟨Vs, hVs, hK⟩ := HL.out.book
        obtain ⟨w2, HW2⟩ : ∃ w2, Hid (w2 = wr.alloc (.cells #[.slice none 0 0, .slice none 0 0] 54)) := ⟨_, rfl⟩
        obtain ⟨bb, HBB⟩ : ∃ bb, Hid (bb = wr.heap.size) := ⟨_, rfl⟩
        rw [← HW2.out, ← HBB.out] at hK
        have HK := hid hK
        obtain ⟨a', c', e', hc1, hc2⟩ := hK.shape
        simp only [Value.slice.injEq] at e'
        obtain ⟨rfl, e', rfl⟩ := e'
        obtain ⟨n, HNN⟩ : ∃ n, Hid (n = Vs.length) := ⟨_, rfl⟩
        rw [← HNN.out] at e' hVs
        subst e'
        have hn2 : na ≤ 2097152 := by omega
        clear hK hc1 hc2
        go_upto_region 13 with fail
        rw [← HW2.out, ← HBB.out]
        go_upto_region 14 with fail
        go_loopw [11] (fun i wr => ∃ l : Nat, i = .int .i64 (l : Int) ∧ l ≤ na ∧ Hid (KSx wa wr pb bn ba rb (.slice aa na ca) Vs bb l)) (fun i _ => na - (intOf i).toNat)
        case atStart => exact ⟨0, rfl, Nat.zero_le _, HK⟩
        case round =>
          obtain ⟨l, rfl, hl, HKl⟩ := hrel
          by_cases hltl : l < na
          · have hltl' : (l : Int) < (na : Int) := int_lt hltl
            obtain ⟨a, n', c, g, ca', e1, HC1, HKP⟩ := HKl.out.keep (by rw [← HNN.out]; exact hltl) (by omega)
            simp only [Value.slice.injEq] at e1
            obtain ⟨rfl, -, rfl⟩ := e1
            have d0 := HC1.out
            go_wp2_with fail
            refine HKP.out.mono ?_
            rintro _ w3 ⟨rfl, hk3⟩
            have HK3 := hid hk3
            clear d0 HKP hk3
            go_wp2_with fail
            go_roundw
            case rel => exact ⟨l + 1, by go_num, hltl, HK3⟩
            case measure => simp [intOf]; omega
          · have hltl' : ¬ (l : Int) < (na : Int) := int_nlt hltl
            have HFS := hid HKl.out.all
            have HWH := hid HFS.out.whole
            clear HFS
            go_wp2_with fail
            refine HWH.out.mono ?_
            rintro _ w3 ⟨rfl, hf3⟩
            have HPL := hid (hf3.plays ⟨5, ⟨#[]⟩, 0⟩ (by decide) (by decide))
            simp only [Int.natCast_zero] at HPL
            clear hf3 HWH
            go_wp2_with fail
            refine HPL.out.mono ?_
            rintro _ w4 ⟨rfl, hf4⟩
            have HB4 := hid (HBW.out w4 hf4.be)
            clear hf4 HPL
            go_wp2_with fail
            go_ret
            exact ⟨rfl, HB4.out⟩
end Go.Proofs.Ytjilahbkolcekab
