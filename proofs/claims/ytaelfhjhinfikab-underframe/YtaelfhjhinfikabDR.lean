/-
  The law's holds; the laws of one pair.
-/
import Derived.Test.YtaelfhjhinfikabDQ
namespace Go.Proofs.Ytaelfhjhinfikab
open Go.ChangeShapes Go.WideShapes Go.ChangeAt Go.RowKit Me
set_option maxHeartbeats 4000000
set_option maxRecDepth 100000

theorem Bth.pl {w w1 : World} {pb rb m : Nat} {H : Nat → Prop} (h1 : Lv w1 pb rb m [] H) (h2 : ∀ k, H k → w.heap.size ≤ k) (h3 : Below w.heap.size w w1) : Pl w (fun k => k < w.heap.size) w1 pb rb m :=
  ⟨⟨[], H, h1, fun k hk => ⟨h2 k hk, by have := h2 k hk; omega⟩⟩, h3⟩

theorem holds_any (l lo hi : Int) (v : Value) (S : List Stp) (w : World) (hv : SeesO (fun k => k < w.heap.size) w v S) :
    Calls Try.prog 9 #[.int .i64 l, v, .int .i64 lo, .int .i64 hi] w fun e w' => e = .returned (.bool true) ∧ Below w.heap.size w w' := by
  have HBT := hid (both_any l w)
  have HV := hid hv
  obtain ⟨ao, n, cap, rfl, HN, hn1, hn2⟩ := hv.shape
  unfold maxLen at hn2
  clear hv
  go_enter Try.func9, Try.ntmps9
  go_wp2_with fail
  refine HBT.out.mono ?_
  rintro _ w1 (⟨hb, rfl, hb1⟩ | ⟨hb, pb, rb, m, H, hm, rfl, hl1, hn1', hb1⟩)
  · have HFI := hid (first_any w1)
    have HB1 := hid hb1
    clear HBT hb hb1
    go_wp2_with fail
    refine HFI.out.mono ?_
    rintro _ w2 ⟨rfl, hb2⟩
    have HE := hid (HB1.out.trans (hb2.mono HB1.out.size))
    clear HFI hb2
    go_wp2_with fail
    go_ret
    exact ⟨rfl, HE.out⟩
  · have HFI := hid (first_any w1)
    have HP1 := hid (Bth.pl hl1 hn1' hb1)
    clear HBT hb hb1 hl1 hn1' hm
    go_wp2_with fail
    refine HFI.out.mono ?_
    rintro _ w2 ⟨rfl, hb2⟩
    have HP2 := hid (HP1.out.below hb2)
    clear HFI hb2 HP1
    go_upto_region 7 with fail
    obtain ⟨K, HKE⟩ : ∃ K : Nat → Prop, Hid (K = fun k => k < w.heap.size) := ⟨_, rfl⟩
    rw [← HKE.out] at HV HP2
    go_loopw [12] (fun i wr => ∃ j : Nat, i = .int .i64 (j : Int) ∧ j ≤ n ∧ Hid (Pl w K wr pb rb m) ∧ Hid (SeesO K wr (.slice ao n cap) S)) (fun i _ => n - (intOf i).toNat)
    case atStart => exact ⟨0, rfl, by omega, HP2, HV.out.below HP2.out.be⟩
    case round =>
      obtain ⟨j, rfl, hj, HP, HS⟩ := hrel
      by_cases hlt : j < n
      · have hlt' : (j : Int) < (n : Int) := int_lt hlt
        have h2 : (0 : Int) ≤ (j : Int) := by omega
        obtain ⟨g, off, vs, o, rfl, ⟨c0, c1, c2, c3, c4⟩, hss, hx, HX, hg⟩ := HS.out.at j hlt
        obtain ⟨va, vn, vc, rfl, -⟩ := hss.shape
        generalize o.k = ok at *
        generalize o.i = oi at *
        generalize o.a = oa at *
        generalize o.x = ox at *
        obtain ⟨w3, HW3⟩ : ∃ w3, Hid (w3 = wr.alloc (.cells #[.int .i64 ok, .slice va vn vc, .int .i64 oi, .int .i64 oa, .int .u8 (ox : Int)] 35)) := ⟨_, rfl⟩
        have hb3 : Below wr.heap.size wr w3 := by rw [HW3.out]; exact (Below.refl _ _).alloc (Nat.le_refl _) _
        obtain ⟨b3, HB3⟩ : ∃ b, Hid (b = wr.heap.size) := ⟨_, rfl⟩
        have r3 : w3.heap[b3]? = some (.cells #[.int .i64 ok, .slice va vn vc, .int .i64 oi, .int .i64 oa, .int .u8 (ox : Int)] 35 (0, 0)) := by rw [HW3.out, HB3.out]; exact heap_alloc_new wr _
        have d0 : w3.cell? ⟨b3, 0, none⟩ = some (.int .i64 ok) := by rw [cell_of_row _ _ _ _ _ _ r3]; rfl
        have d1 : w3.cell? ⟨b3, 1, none⟩ = some (.slice va vn vc) := by rw [cell_of_row _ _ _ _ _ _ r3]; rfl
        have d2 : w3.cell? ⟨b3, 2, none⟩ = some (.int .i64 oi) := by rw [cell_of_row _ _ _ _ _ _ r3]; rfl
        have d3 : w3.cell? ⟨b3, 3, none⟩ = some (.int .i64 oa) := by rw [cell_of_row _ _ _ _ _ _ r3]; rfl
        have d4 : w3.cell? ⟨b3, 4, none⟩ = some (.int .u8 (ox : Int)) := by rw [cell_of_row _ _ _ _ _ _ r3]; rfl
        have HPY := hid ((HP.out.below hb3).plays (kk := ok) (i := oi) (a := oa) (fun k e => by rw [HKE.out] at e; have := HP.out.be.size; have := hb3.size; omega) (hss.below hb3) hx)
        have HS2 := hid (HS.out.below hb3)
        clear hss HX hx hb3 r3 hg
        go_upto_region 10 with fail
        rw [← HW3.out, ← HB3.out]
        clear c0 c1 c2 c3 c4
        go_wp2_with fail
        refine HPY.out.mono ?_
        rintro _ w4 ⟨rfl, hp4, hk4⟩
        have HP4 := hid hp4
        have HS4 := hid (HS2.out.keeps hk4 fun k h1 h2 => h2 h1)
        clear d0 d1 d2 d3 d4 hp4 hk4 HPY
        go_wp2_with fail
        go_roundw
        case rel => exact ⟨j + 1, by go_num, hlt, HP4, HS4⟩
        case measure => simp [intOf]; omega
      · have hlt' : ¬ (j : Int) < (n : Int) := int_nlt hlt
        go_wp2_with fail
        go_ret
        exact ⟨rfl, HP.out.be⟩

theorem chances_walk (l : Int) (v : Value) (S : List Stp) (w : World) (hv : SeesO (fun k => k < w.heap.size) w v S) : Calls Try.prog 3 #[.int .i64 l, v] w fun e w' => e = .returned (.bool true) ∧ Below w.heap.size w w' := by
  have HH := hid (holds_any l 3 5 v S w hv)
  clear hv
  go_enter Try.func3, Try.ntmps3
  go_wp2_with fail
  refine HH.out.mono ?_
  rintro _ w1 ⟨rfl, hb⟩
  have HB := hid hb
  clear HH hb
  go_wp2_with fail
  go_ret
  exact ⟨rfl, HB.out⟩
theorem lists_walk (l : Int) (v : Value) (S : List Stp) (w : World) (hv : SeesO (fun k => k < w.heap.size) w v S) : Calls Try.prog 4 #[.int .i64 l, v] w fun e w' => e = .returned (.bool true) ∧ Below w.heap.size w w' := by
  have HH := hid (holds_any l 6 6 v S w hv)
  clear hv
  go_enter Try.func4, Try.ntmps4
  go_wp2_with fail
  refine HH.out.mono ?_
  rintro _ w1 ⟨rfl, hb⟩
  have HB := hid hb
  clear HH hb
  go_wp2_with fail
  go_ret
  exact ⟨rfl, HB.out⟩
theorem all_walk (l : Int) (v : Value) (S : List Stp) (w : World) (hv : SeesO (fun k => k < w.heap.size) w v S) : Calls Try.prog 5 #[.int .i64 l, v] w fun e w' => e = .returned (.bool true) ∧ Below w.heap.size w w' := by
  have HH := hid (holds_any l 1 6 v S w hv)
  clear hv
  go_enter Try.func5, Try.ntmps5
  go_wp2_with fail
  refine HH.out.mono ?_
  rintro _ w1 ⟨rfl, hb⟩
  have HB := hid hb
  clear HH hb
  go_wp2_with fail
  go_ret
  exact ⟨rfl, HB.out⟩
end Go.Proofs.Ytaelfhjhinfikab
