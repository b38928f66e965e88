/-
  weftref7: BuildFrame, ParseFrame.
-/
import Derived.Test.YtcelcnafcfefhaaTL
import Derived.Test.YtcelcnafcfefhaaTH
namespace Go.Proofs.Ytcelcnafcfefhaa.N
open Go.ChangeShapes Go.WideShapes Go.ChangeAt Go.RowKit
set_option maxHeartbeats 8000000
set_option maxRecDepth 100000

theorem buildFR_any (f : Tn.Fr) (vb : Value) (w : World) (hf : FrB f) (hvb : SeesB w vb f.B) :
    Calls Try.prog 34 #[.agg (frCells f vb)] w fun e w' => ∃ v, e = .returned (.tuple #[v, .int .i64 (Tn.bfE f)]) ∧ OwnB w' w.heap.size v (Tn.bfL f) ∧ Below w.heap.size w w' := by
  obtain ⟨ab, nb, capb, rfl, HNB, hnb1, hnb2⟩ := hvb.shape
  unfold maxLen at hnb2
  obtain ⟨w1, hw1⟩ : ∃ w1, w1 = w.alloc (.cells (frCells f (.slice ab nb capb)) 41) := ⟨_, rfl⟩
  have hs1 : w1.heap.size = w.heap.size + 1 := by rw [hw1]; simp
  have hb1 : Below w.heap.size w w1 := by rw [hw1]; exact (Below.refl _ _).alloc (Nat.le_refl _) _
  have hr1 : w1.heap[w.heap.size]? = some (.cells (frCells f (.slice ab nb capb)) 41 (0, 0)) := by rw [hw1]; exact heap_alloc_new w _
  have HRW : Hid (∀ u, Below w1.heap.size w1 u → u.heap[w.heap.size]? = some (.cells (frCells f (.slice ab nb capb)) 41 (0, 0))) := fun u hu => (hu.block _ (by omega)).trans hr1
  have HCE : Hid (∀ u, Below w1.heap.size w1 u → u.cell? ⟨w.heap.size, 12, none⟩ = some (.int .u16 (f.ty : Int)) ∧ u.cell? ⟨w.heap.size, 13, none⟩ = some (.slice ab nb capb)) := fun u hu => fr_at hf.ok (HRW.out u hu)
  obtain ⟨c12, c13⟩ := HCE.out _ (Below.refl _ _)
  have HW1 := hid hw1
  have HB1 := hid hb1
  have HBY := hid hvb.bytes
  have hty := hf.ok.ty
  have HTY := hid (fun u => typedR_any f.ty u hty)
  by_cases hbig : 65485 < nb
  · have HE := hid (bf_bad (f := f) (e := 2) (by unfold Tn.bfE; rw [if_pos (by rw [← HNB.out]; exact hbig)]) (by decide))
    have hbig2 : (65485 : Int) < (nb : Int) := by omega
    generalize frCells f (.slice ab nb capb) = fr at *
    clear hw1 hs1 hb1 hvb hr1
    go_enter Try.func34, Try.ntmps34
    go_upto_region 1 with fail
    rw [← HW1.out]
    go_wp2_with fail
    refine bodyPost_ret (results_tmp2 Try.results34 _ _ _) rfl ?_
    rw [HE.out.1, HE.out.2]
    exact ⟨.slice none 0 0, rfl, ownB_nil _ _, HB1.out⟩
  have hbig' : f.B.length ≤ 65485 := by rw [← HNB.out]; omega
  have hbig2 : ¬ (65485 : Int) < (nb : Int) := by omega
  have hbe : Tn.bfE f = Tn.tyE f.ty := by unfold Tn.bfE; rw [if_neg (by omega)]
  by_cases ht : Tn.tyE f.ty = 0
  · have hL : Tn.bfL f = f.dst ++ f.src ++ laidL f.ty 2 ++ f.B := by unfold Tn.bfL; rw [if_pos (by rw [hbe, ht]), laidL_two]; rfl
    rw [hbe, hL]
    rw [ht] at HTY ⊢
    have HD : Hid (∀ (k : Nat) (u : World), k < 6 → Below w1.heap.size w1 u → ∃ x : Nat, x < 256 ∧ u.cell? ⟨w.heap.size, k, none⟩ = some (.int .u8 (x : Int)) ∧ Hid (f.dst.take k ++ [x] = f.dst.take (k + 1))) := fun k u hk hu => by
      have hkl : k < f.dst.length := by rw [hf.ok.dst]; exact hk
      refine ⟨f.dst[k], hf.dst _ (List.getElem_mem _), ?_, ?_⟩
      · rw [cell_fr (HRW.out u hu) k, frc_dst hf.ok.dst f.ty _ k hk, bs_get hkl]
      · unfold Hid; rw [List.take_succ_eq_append_getElem hkl]
    have HS : Hid (∀ (k : Nat) (u : World), k < 6 → Below w1.heap.size w1 u → ∃ x : Nat, x < 256 ∧ u.cell? ⟨w.heap.size, 6 + k, none⟩ = some (.int .u8 (x : Int)) ∧ Hid (f.dst ++ (f.src.take k ++ [x]) = f.dst ++ f.src.take (k + 1))) := fun k u hk hu => by
      have hkl : k < f.src.length := by rw [hf.ok.src]; exact hk
      refine ⟨f.src[k], hf.src _ (List.getElem_mem _), ?_, ?_⟩
      · rw [cell_fr (HRW.out u hu) (6 + k), frc_src hf.ok.dst hf.ok.src f.ty _ k hk, bs_get hkl]
      · unfold Hid; rw [List.take_succ_eq_append_getElem hkl]
    have HLA : Hid (∀ (l : Value) (u : World), Below w1.heap.size w1 u → OwnB u w1.heap.size l (f.dst ++ f.src) → Calls Try.prog 59 #[l, .int .i64 (f.ty : Int), .int .i64 2] u fun e w' => ∃ l', e = .returned l' ∧ OwnB w' w1.heap.size l' (f.dst ++ f.src ++ laidL f.ty 2) ∧ Below w1.heap.size w1 w') := fun l u hu hO =>
      laidR_any l _ f.ty 2 w1 u hu hO (by omega) (by omega) (by rw [List.length_append, hf.ok.dst, hf.ok.src]; omega)
    have HJO : Hid (∀ (l : Value) (u : World), Below w1.heap.size w1 u → OwnB u w1.heap.size l (f.dst ++ f.src ++ laidL f.ty 2) → Calls Try.prog 58 #[l, .slice ab nb capb, .int .i64 0, .int .i64 (nb : Int)] u fun e w' => ∃ l', e = .returned l' ∧ OwnB w' w1.heap.size l' (f.dst ++ f.src ++ laidL f.ty 2 ++ f.B) ∧ Below w1.heap.size w1 w') := fun l u hu hO => by
      have := joinedR_any l (.slice ab nb capb) _ f.B 0 nb w1 u hu hO (hvb.below hb1) (by omega) (by rw [HNB.out]; exact Nat.le_refl _) (by rw [List.length_append, List.length_append, hf.ok.dst, hf.ok.src, laidL_len]; omega)
      rw [List.drop_zero, List.take_of_length_le (by rw [HNB.out]; exact Nat.le_refl _)] at this
      exact this
    have HDL : Hid (f.dst.take 6 = f.dst) := by unfold Hid; rw [List.take_of_length_le (by rw [hf.ok.dst]; omega)]
    have HSL : Hid (f.src.take 6 = f.src) := by unfold Hid; rw [List.take_of_length_le (by rw [hf.ok.src]; omega)]
    have HD6 := hid hf.ok.dst
    generalize frCells f (.slice ab nb capb) = fr at *
    clear hw1 hs1 hb1 hvb hr1 hL hbe ht hbig'
    go_enter Try.func34, Try.ntmps34
    go_upto_region 1 with fail
    rw [← HW1.out]
    go_wp2_with fail
    refine (HTY.out _).mono ?_
    rintro _ wy ⟨rfl, hwy⟩
    subst hwy
    go_wp2_with fail
    go_loopw [5, 6] (fun t i wv => ∃ (k : Nat) (wr : World), i = .int .i64 (k : Int) ∧ k ≤ 6 ∧ wr = wv ∧ Hid (OwnB wr wy.heap.size t (f.dst.take k)) ∧ Below wy.heap.size wy wr) (fun _ i _ => 6 - (intOf i).toNat)
    case atStart => exact ⟨0, _, rfl, by omega, rfl, ownB_nil _ _, Below.refl _ _⟩
    case round =>
      clear c12 c13
      obtain ⟨k, wr, rfl, hk, rfl, HOK, hb⟩ := hrel
      by_cases hlt : k < 6
      · obtain ⟨x, hx, hc, HX⟩ := HD.out k wr hlt hb
        have b0 : (k : Int) < 6 := by omega
        have b1 : (0 : Int) ≤ (k : Int) := by omega
        have HLE : Hid ((f.dst.take k).length + [x].length ≤ 140737488355328) := by unfold Hid; rw [List.length_take]; simp only [List.length_cons, List.length_nil]; omega
        go_wp2_with (at_builtin; refine wpList_append_bytes rfl _ _ rfl wy.heap.size _ _ rfl (HOK.out.alloc _) _ [x] rfl (sees_one rfl x hx _) ?c1 ?c2 ?_)
        case c1 => exact HLE.out
        case c2 => have := hb.size; simp; omega
        intro v' w2 ho hb2
        rw [HX.out] at ho
        have HO2 := hid ho
        have hb3 : Below wy.heap.size wy w2 := (hb.alloc hb.size _).trans hb2
        clear ho hb2 hc
        go_wp2_with fail
        go_roundw
        case rel => exact ⟨k + 1, _, by go_num, by omega, rfl, HO2, hb3⟩
        case measure => simp [intOf]; omega
      · have hk6 : k = 6 := by omega
        rw [hk6, HDL.out] at HOK
        have hge : ¬ (k : Int) < 6 := by omega
        clear hk6
        go_wp2_with fail
        go_loopw [5, 7] (fun t i wv => ∃ (k : Nat) (wr : World), i = .int .i64 (k : Int) ∧ k ≤ 6 ∧ wr = wv ∧ Hid (OwnB wr wy.heap.size t (f.dst ++ f.src.take k)) ∧ Below wy.heap.size wy wr) (fun _ i _ => 6 - (intOf i).toNat)
        case atStart => exact ⟨0, _, rfl, by omega, rfl, by unfold Hid; rw [List.take_zero, List.append_nil]; exact HOK.out, hb⟩
        case round =>
          clear hb HOK
          obtain ⟨k, wr, rfl, hk, rfl, HOK, hb⟩ := hrel
          by_cases hlt : k < 6
          · obtain ⟨x, hx, hc, HX⟩ := HS.out k wr hlt hb
            have b0 : (k : Int) < 6 := by omega
            have b1 : (0 : Int) ≤ (k : Int) := by omega
            have HLE : Hid ((f.dst ++ f.src.take k).length + [x].length ≤ 140737488355328) := by unfold Hid; rw [List.length_append, HD6.out, List.length_take]; simp only [List.length_cons, List.length_nil]; omega
            go_wp2_with (at_builtin; refine wpList_append_bytes rfl _ _ rfl wy.heap.size _ _ rfl (HOK.out.alloc _) _ [x] rfl (sees_one rfl x hx _) ?c1 ?c2 ?_)
            case c1 => exact HLE.out
            case c2 => have := hb.size; simp; omega
            intro v' w2 ho hb2
            rw [HX.out] at ho
            have HO2 := hid ho
            have hb3 : Below wy.heap.size wy w2 := (hb.alloc hb.size _).trans hb2
            clear ho hb2 hc
            go_wp2_with fail
            go_roundw
            case rel => exact ⟨k + 1, _, by go_num, by omega, rfl, HO2, hb3⟩
            case measure => simp [intOf]; omega
          · have hk6 : k = 6 := by omega
            rw [hk6, HSL.out] at HOK
            have hge : ¬ (k : Int) < 6 := by omega
            clear hk6
            obtain ⟨d12, d13⟩ := HCE.out _ hb
            have X1 := hid (HLA.out _ _ hb HOK.out)
            clear hb HOK
            go_wp2_with fail
            refine X1.out.mono ?_
            rintro _ w3 ⟨l3, rfl, ho3, hb3⟩
            obtain ⟨d12, d13⟩ := HCE.out _ hb3
            have X2 := hid (HJO.out _ _ hb3 ho3)
            clear ho3 hb3 X1
            go_wp2_with fail
            refine X2.out.mono ?_
            rintro _ w4 ⟨l4, rfl, ho4, hb4⟩
            have HO4 := hid ho4
            have HB4 := hid hb4
            clear ho4 hb4 X2
            go_wp2_with fail
            refine bodyPost_ret (results_tmp2 Try.results34 _ _ _) rfl ?_
            exact ⟨_, rfl, HO4.out.mono HB1.out.size, HB1.out.trans (HB4.out.mono HB1.out.size)⟩
  · have HE := hid (bf_bad (f := f) (e := Tn.tyE f.ty) hbe ht)
    generalize frCells f (.slice ab nb capb) = fr at *
    generalize Tn.tyE f.ty = E at *
    have q1 : (E == 0) = false := by simp [ht]
    have q2 : (E != 0) = true := by simp [ht]
    clear hw1 hs1 hb1 hvb hr1 hbe
    go_enter Try.func34, Try.ntmps34
    go_upto_region 1 with fail
    rw [← HW1.out]
    go_wp2_with fail
    refine (HTY.out _).mono ?_
    rintro _ wy ⟨rfl, hwy⟩
    subst hwy
    go_wp2_with fail
    refine bodyPost_ret (results_tmp2 Try.results34 _ _ _) rfl ?_
    rw [HE.out.1, HE.out.2]
    exact ⟨.slice none 0 0, rfl, ownB_nil _ _, HB1.out⟩

end Go.Proofs.Ytcelcnafcfefhaa.N
