import Derived.Test.YtcelcnafcfefhabTU
import Derived.Test.YtcelcnafcfefhabTJ
import Derived.Test.YtcelcnafcfefhabTL
import Derived.Test.YtcelcnafcfefhabTH
import Derived.Test.YtcelcnafcfefhabTI
import Derived.OpenShut
import Derived.Test.YtcelcnafcfefhabNWF
import Derived.Test.YtcelcnafcfefhabTA
import Derived.Deep.CutRange
/-
  TunnelDatagrams: items that came in, opened; the walk.
-/
namespace Go.Proofs.Ytcelcnafcfefhab.N
open Go.ChangeShapes Go.WideShapes Go.ChangeAt Go.RowKit
set_option maxHeartbeats 4000000
set_option maxRecDepth 100000

/-- The slice value v shows rows of k cells. -/
def SeesR (w : World) (v : Value) (k : Nat) (L : List (List Value)) : Prop :=
  ∃ ao cap, v = .slice ao L.length cap ∧ L.length ≤ cap ∧ cap ≤ maxLen ∧
    ∀ j (h : j < L.length), L[j].length = k ∧ ∃ g off, ao = some ⟨g, off, none⟩ ∧ g < w.heap.size ∧ w.rangeAt g (off + j * k) L[j]

structure ItD where
  src : Nat
  dst : Nat
  x : Tn.Dg
  vb : Value
  sum : Bool
  vr : Value
  R : List Nat

def ItD.cells (o : ItD) : List Value := (itCells o.src o.dst o.x o.vb o.sum o.vr).toList

structure ItD.Ok (o : ItD) (W : World) : Prop where
  src : o.src < 4294967296
  dst : o.dst < 4294967296
  x : o.x.Ok
  vb : SeesB W o.vb o.x.B
  vr : SeesB W o.vr o.R
  lb : o.x.B.length ≤ reachBytes
  lr : o.R.length ≤ reachBytes

theorem cells_it : Try.prog.cellsOf 65 = 7 := by kernel_rfl
theorem und_it : ∃ f0 f1 f2 f3 f4, Try.prog.underlying 65 = some (.struct #[f0, f1, f2, f3, f4]) ∧ f0.type = 23 ∧ f0.offset = 0 ∧ f1.type = 23 ∧ f1.offset = 1 ∧ f2.type = 33 ∧ f2.offset = 2 ∧ f3.type = 4 ∧ f3.offset = 5 ∧ f4.type = 29 ∧ f4.offset = 6 := ⟨_, _, _, _, _, Try.underlying65, rfl, rfl, rfl, rfl, rfl, rfl, rfl, rfl, rfl, rfl⟩

section
variable {H : Type} {enc : TypeId × Value → H} {W : World}

theorem open_it {fuel : Nat} {cs : List Value} {x : DataW H × List MemPlace} (h : DataW.trod enc Try.prog W 0 (fun _ => true) true fuel 65 cs = some x) (hw : ∀ k ∈ x.1.weights Try.prog 65, k ≤ reachBytes) :
    ∃ o : ItD, cs = o.cells ∧ o.Ok W := by
  obtain ⟨f0, f1, f2, f3, f4, hu, t0, o0, t1, o1, t2, o2, t3, o3, t4, o4⟩ := und_it
  obtain ⟨xs, n, _, rfl, hl, hxl, hf⟩ := DataW.trod_struct hu h
  match xs, hxl with
  | [y0, y1, y2, y3, y4], _ =>
    have g0 := hf 0 f0 rfl
    have g1 := hf 1 f1 rfl
    have g2 := hf 2 f2 rfl
    have g3 := hf 3 f3 rfl
    have g4 := hf 4 f4 rfl
    rw [t0, o0, cell1_ad] at g0
    rw [t1, o1, cell1_ad] at g1
    rw [t2, o2, cells_dg] at g2
    rw [t3, o3, cell1_4] at g3
    rw [t4, o4, cell1_25] at g4
    rw [cells_it] at hl
    obtain ⟨z0, e0, _, w0⟩ := DataW.trod_int und_ad g0
    obtain ⟨src, rfl, hsrc⟩ := wf_u32 w0
    obtain ⟨z1, e1, _, w1⟩ := DataW.trod_int und_ad g1
    obtain ⟨dst, rfl, hdst⟩ := wf_u32 w1
    obtain ⟨m, vm, e2, hm, hsm, fm, _⟩ := open_dg g2
    obtain ⟨sum, e3, _⟩ := DataW.trod_bool u4 g3
    obtain ⟨vr, R, e4, hsr, fr, _⟩ := open_bytes g4
    have w2 : m.B.length ≤ reachBytes := fm.room fun k hk => hw k (by
      simp only [DataW.weights, hu]
      exact DataW.weights_mem_each (j := 2) (t := 33) (d := y2.1) (by simp [t2]) rfl _ hk)
    have w4 : R.length ≤ reachBytes := fr.room fun k hk => hw k (by
      simp only [DataW.weights, hu]
      exact DataW.weights_mem_each (j := 4) (t := 29) (d := y4.1) (by simp [t4]) rfl _ hk)
    refine ⟨⟨src, dst, m, vm, sum, vr, R⟩, ?_, ⟨hsrc, hdst, hm, hsm, hsr, w2, w4⟩⟩
    match cs, hl with
    | [c0, c1, c2, c3, c4, c5, c6], _ =>
      simp [dgCells] at e0 e1 e2 e3 e4
      simp [ItD.cells, itCells, e0, e1, e2, e3, e4]

end

theorem range_belowR {w w' : World} {b o : Nat} {cs : List Value} (h : w.rangeAt b o cs) (hb : Below w.heap.size w w') : w'.rangeAt b o cs := fun j v hv => by
  have := h j v hv
  exact (hb.cell (p := ⟨b, o + j, none⟩) (World.block_lt_of_cell? w _ this)).trans this

end Go.Proofs.Ytcelcnafcfefhab.N

/-
  weftref7: BuildFrame, ParseFrame.
-/
namespace Go.Proofs.Ytcelcnafcfefhab.N
open Go.ChangeShapes Go.WideShapes Go.ChangeAt Go.RowKit
set_option maxHeartbeats 8000000
set_option maxRecDepth 100000

theorem buildFR_any (f : Tn.Fr) (vb : Value) (w : World) (hf : FrB f) (hvb : SeesB w vb f.B) :
    Calls Try.prog 42 #[.agg (frCells f vb)] w fun e w' => ∃ v, e = .returned (.tuple #[v, .int .i64 (Tn.bfE f)]) ∧ OwnB w' w.heap.size v (Tn.bfL f) ∧ Below w.heap.size w w' := by
  obtain ⟨ab, nb, capb, rfl, HNB, hnb1, hnb2⟩ := hvb.shape
  unfold maxLen at hnb2
  obtain ⟨w1, hw1⟩ : ∃ w1, w1 = w.alloc (.cells (frCells f (.slice ab nb capb)) 31) := ⟨_, rfl⟩
  have hs1 : w1.heap.size = w.heap.size + 1 := by rw [hw1]; simp
  have hb1 : Below w.heap.size w w1 := by rw [hw1]; exact (Below.refl _ _).alloc (Nat.le_refl _) _
  have hr1 : w1.heap[w.heap.size]? = some (.cells (frCells f (.slice ab nb capb)) 31 (0, 0)) := by rw [hw1]; exact heap_alloc_new w _
  have HRW : Hid (∀ u, Below w1.heap.size w1 u → u.heap[w.heap.size]? = some (.cells (frCells f (.slice ab nb capb)) 31 (0, 0))) := fun u hu => (hu.block _ (by omega)).trans hr1
  have HCE : Hid (∀ u, Below w1.heap.size w1 u → u.cell? ⟨w.heap.size, 12, none⟩ = some (.int .u16 (f.ty : Int)) ∧ u.cell? ⟨w.heap.size, 13, none⟩ = some (.slice ab nb capb)) := fun u hu => fr_at hf.ok (HRW.out u hu)
  obtain ⟨c12, c13⟩ := HCE.out _ (Below.refl _ _)
  have HW1 := hid hw1
  have HB1 := hid hb1
  have HBY := hid hvb.bytes
  have hty := hf.ok.ty
  have HTY := hid (fun u => typedR_any f.ty u hty)
  by_cases hbig : 65485 < nb
  · have HE := hid (bf_bad (f := f) (e := 2) (by unfold Tn.bfE; rw [if_pos (by rw [← HNB.out]; exact hbig)]) (by decide))
    have hbig2 : (65485 : Int) < (nb : Int) := by omega
    generalize frCells f (.slice ab nb capb) = fr at *
    clear hw1 hs1 hb1 hvb hr1
    go_enter Try.func42, Try.ntmps42
    go_upto_region 1 with fail
    rw [← HW1.out]
    go_wp2_with fail
    refine bodyPost_ret (results_tmp2 Try.results42 _ _ _) rfl ?_
    rw [HE.out.1, HE.out.2]
    exact ⟨.slice none 0 0, rfl, ownB_nil _ _, HB1.out⟩
  have hbig' : f.B.length ≤ 65485 := by rw [← HNB.out]; omega
  have hbig2 : ¬ (65485 : Int) < (nb : Int) := by omega
  have hbe : Tn.bfE f = Tn.tyE f.ty := by unfold Tn.bfE; rw [if_neg (by omega)]
  by_cases ht : Tn.tyE f.ty = 0
  · have hL : Tn.bfL f = f.dst ++ f.src ++ laidL f.ty 2 ++ f.B := by unfold Tn.bfL; rw [if_pos (by rw [hbe, ht]), laidL_two]; rfl
    rw [hbe, hL]
    rw [ht] at HTY ⊢
    have HD : Hid (∀ (k : Nat) (u : World), k < 6 → Below w1.heap.size w1 u → ∃ x : Nat, x < 256 ∧ u.cell? ⟨w.heap.size, k, none⟩ = some (.int .u8 (x : Int)) ∧ Hid (f.dst.take k ++ [x] = f.dst.take (k + 1))) := fun k u hk hu => by
      have hkl : k < f.dst.length := by rw [hf.ok.dst]; exact hk
      refine ⟨f.dst[k], hf.dst _ (List.getElem_mem _), ?_, ?_⟩
      · rw [cell_fr (HRW.out u hu) k, frc_dst hf.ok.dst f.ty _ k hk, bs_get hkl]
      · unfold Hid; rw [List.take_succ_eq_append_getElem hkl]
    have HS : Hid (∀ (k : Nat) (u : World), k < 6 → Below w1.heap.size w1 u → ∃ x : Nat, x < 256 ∧ u.cell? ⟨w.heap.size, 6 + k, none⟩ = some (.int .u8 (x : Int)) ∧ Hid (f.dst ++ (f.src.take k ++ [x]) = f.dst ++ f.src.take (k + 1))) := fun k u hk hu => by
      have hkl : k < f.src.length := by rw [hf.ok.src]; exact hk
      refine ⟨f.src[k], hf.src _ (List.getElem_mem _), ?_, ?_⟩
      · rw [cell_fr (HRW.out u hu) (6 + k), frc_src hf.ok.dst hf.ok.src f.ty _ k hk, bs_get hkl]
      · unfold Hid; rw [List.take_succ_eq_append_getElem hkl]
    have HLA : Hid (∀ (l : Value) (u : World), Below w1.heap.size w1 u → OwnB u w1.heap.size l (f.dst ++ f.src) → Calls Try.prog 43 #[l, .int .i64 (f.ty : Int), .int .i64 2] u fun e w' => ∃ l', e = .returned l' ∧ OwnB w' w1.heap.size l' (f.dst ++ f.src ++ laidL f.ty 2) ∧ Below w1.heap.size w1 w') := fun l u hu hO =>
      laidR_any l _ f.ty 2 w1 u hu hO (by omega) (by omega) (by rw [List.length_append, hf.ok.dst, hf.ok.src]; omega)
    have HJO : Hid (∀ (l : Value) (u : World), Below w1.heap.size w1 u → OwnB u w1.heap.size l (f.dst ++ f.src ++ laidL f.ty 2) → Calls Try.prog 44 #[l, .slice ab nb capb, .int .i64 0, .int .i64 (nb : Int)] u fun e w' => ∃ l', e = .returned l' ∧ OwnB w' w1.heap.size l' (f.dst ++ f.src ++ laidL f.ty 2 ++ f.B) ∧ Below w1.heap.size w1 w') := fun l u hu hO => by
      have := joinedR_any l (.slice ab nb capb) _ f.B 0 nb w1 u hu hO (hvb.below hb1) (by omega) (by rw [HNB.out]; exact Nat.le_refl _) (by rw [List.length_append, List.length_append, hf.ok.dst, hf.ok.src, laidL_len]; omega)
      rw [List.drop_zero, List.take_of_length_le (by rw [HNB.out]; exact Nat.le_refl _)] at this
      exact this
    have HDL : Hid (f.dst.take 6 = f.dst) := by unfold Hid; rw [List.take_of_length_le (by rw [hf.ok.dst]; omega)]
    have HSL : Hid (f.src.take 6 = f.src) := by unfold Hid; rw [List.take_of_length_le (by rw [hf.ok.src]; omega)]
    have HD6 := hid hf.ok.dst
    generalize frCells f (.slice ab nb capb) = fr at *
    clear hw1 hs1 hb1 hvb hr1 hL hbe ht hbig'
    go_enter Try.func42, Try.ntmps42
    go_upto_region 1 with fail
    rw [← HW1.out]
    go_wp2_with fail
    refine (HTY.out _).mono ?_
    rintro _ wy ⟨rfl, hwy⟩
    subst hwy
    go_wp2_with fail
    go_loopw [5, 6] (fun t i wv => ∃ (k : Nat) (wr : World), i = .int .i64 (k : Int) ∧ k ≤ 6 ∧ wr = wv ∧ Hid (OwnB wr wy.heap.size t (f.dst.take k)) ∧ Below wy.heap.size wy wr) (fun _ i _ => 6 - (intOf i).toNat)
    case atStart => exact ⟨0, _, rfl, by omega, rfl, ownB_nil _ _, Below.refl _ _⟩
    case round =>
      clear c12 c13
      obtain ⟨k, wr, rfl, hk, rfl, HOK, hb⟩ := hrel
      by_cases hlt : k < 6
      · obtain ⟨x, hx, hc, HX⟩ := HD.out k wr hlt hb
        have b0 : (k : Int) < 6 := by omega
        have b1 : (0 : Int) ≤ (k : Int) := by omega
        have HLE : Hid ((f.dst.take k).length + [x].length ≤ 140737488355328) := by unfold Hid; rw [List.length_take]; simp only [List.length_cons, List.length_nil]; omega
        go_wp2_with (at_builtin; refine wpList_append_bytes rfl _ _ rfl wy.heap.size _ _ rfl (HOK.out.alloc _) _ [x] rfl (sees_one rfl x hx _) ?c1 ?c2 ?_)
        case c1 => exact HLE.out
        case c2 => have := hb.size; simp; omega
        intro v' w2 ho hb2
        rw [HX.out] at ho
        have HO2 := hid ho
        have hb3 : Below wy.heap.size wy w2 := (hb.alloc hb.size _).trans hb2
        clear ho hb2 hc
        go_wp2_with fail
        go_roundw
        case rel => exact ⟨k + 1, _, by go_num, by omega, rfl, HO2, hb3⟩
        case measure => simp [intOf]; omega
      · have hk6 : k = 6 := by omega
        rw [hk6, HDL.out] at HOK
        have hge : ¬ (k : Int) < 6 := by omega
        clear hk6
        go_wp2_with fail
        go_loopw [5, 7] (fun t i wv => ∃ (k : Nat) (wr : World), i = .int .i64 (k : Int) ∧ k ≤ 6 ∧ wr = wv ∧ Hid (OwnB wr wy.heap.size t (f.dst ++ f.src.take k)) ∧ Below wy.heap.size wy wr) (fun _ i _ => 6 - (intOf i).toNat)
        case atStart => exact ⟨0, _, rfl, by omega, rfl, by unfold Hid; rw [List.take_zero, List.append_nil]; exact HOK.out, hb⟩
        case round =>
          clear hb HOK
          obtain ⟨k, wr, rfl, hk, rfl, HOK, hb⟩ := hrel
          by_cases hlt : k < 6
          · obtain ⟨x, hx, hc, HX⟩ := HS.out k wr hlt hb
            have b0 : (k : Int) < 6 := by omega
            have b1 : (0 : Int) ≤ (k : Int) := by omega
            have HLE : Hid ((f.dst ++ f.src.take k).length + [x].length ≤ 140737488355328) := by unfold Hid; rw [List.length_append, HD6.out, List.length_take]; simp only [List.length_cons, List.length_nil]; omega
            go_wp2_with (at_builtin; refine wpList_append_bytes rfl _ _ rfl wy.heap.size _ _ rfl (HOK.out.alloc _) _ [x] rfl (sees_one rfl x hx _) ?c1 ?c2 ?_)
            case c1 => exact HLE.out
            case c2 => have := hb.size; simp; omega
            intro v' w2 ho hb2
            rw [HX.out] at ho
            have HO2 := hid ho
            have hb3 : Below wy.heap.size wy w2 := (hb.alloc hb.size _).trans hb2
            clear ho hb2 hc
            go_wp2_with fail
            go_roundw
            case rel => exact ⟨k + 1, _, by go_num, by omega, rfl, HO2, hb3⟩
            case measure => simp [intOf]; omega
          · have hk6 : k = 6 := by omega
            rw [hk6, HSL.out] at HOK
            have hge : ¬ (k : Int) < 6 := by omega
            clear hk6
            obtain ⟨d12, d13⟩ := HCE.out _ hb
            have X1 := hid (HLA.out _ _ hb HOK.out)
            clear hb HOK
            go_wp2_with fail
            refine X1.out.mono ?_
            rintro _ w3 ⟨l3, rfl, ho3, hb3⟩
            obtain ⟨d12, d13⟩ := HCE.out _ hb3
            have X2 := hid (HJO.out _ _ hb3 ho3)
            clear ho3 hb3 X1
            go_wp2_with fail
            refine X2.out.mono ?_
            rintro _ w4 ⟨l4, rfl, ho4, hb4⟩
            have HO4 := hid ho4
            have HB4 := hid hb4
            clear ho4 hb4 X2
            go_wp2_with fail
            refine bodyPost_ret (results_tmp2 Try.results42 _ _ _) rfl ?_
            exact ⟨_, rfl, HO4.out.mono HB1.out.size, HB1.out.trans (HB4.out.mono HB1.out.size)⟩
  · have HE := hid (bf_bad (f := f) (e := Tn.tyE f.ty) hbe ht)
    generalize frCells f (.slice ab nb capb) = fr at *
    generalize Tn.tyE f.ty = E at *
    have q1 : (E == 0) = false := by simp [ht]
    have q2 : (E != 0) = true := by simp [ht]
    clear hw1 hs1 hb1 hvb hr1 hbe
    go_enter Try.func42, Try.ntmps42
    go_upto_region 1 with fail
    rw [← HW1.out]
    go_wp2_with fail
    refine (HTY.out _).mono ?_
    rintro _ wy ⟨rfl, hwy⟩
    subst hwy
    go_wp2_with fail
    refine bodyPost_ret (results_tmp2 Try.results42 _ _ _) rfl ?_
    rw [HE.out.1, HE.out.2]
    exact ⟨.slice none 0 0, rfl, ownB_nil _ _, HB1.out⟩

end Go.Proofs.Ytcelcnafcfefhab.N

/-
  weftref7: BuildFrame, ParseFrame.
-/
namespace Go.Proofs.Ytcelcnafcfefhab.N
open Go.ChangeShapes Go.WideShapes Go.ChangeAt Go.RowKit
set_option maxHeartbeats 8000000
set_option maxRecDepth 100000

/-- The first k bytes of a list, and zeros behind. -/
def mixk (A : List Nat) (k : Nat) : List Nat := A.take k ++ List.replicate (6 - k) 0
theorem mixk_len {A : List Nat} (hA : A.length = 6) {k : Nat} (hk : k ≤ 6) : (mixk A k).length = 6 := by
  unfold mixk
  rw [List.length_append, List.length_take, List.length_replicate]
  omega
theorem mixk_set {A : List Nat} (hA : A.length = 6) {k : Nat} (hk : k < 6) : (mixk A k).set k (A.getD k 0) = mixk A (k + 1) := by
  unfold mixk
  have hk' : k < A.length := by omega
  have hl : (A.take k).length = k := by rw [List.length_take]; omega
  rw [List.set_append_right _ _ (by omega), hl, Nat.sub_self, show 6 - k = (6 - (k + 1)) + 1 by omega, List.replicate_succ, List.set_cons_zero, List.take_succ_eq_append_getElem hk', List.append_assoc]
  simp [hk']
theorem mixk_six {A : List Nat} (hA : A.length = 6) : mixk A 6 = A := by
  unfold mixk
  rw [List.take_of_length_le (by omega)]
  simp

theorem frc_setD {D S : List Nat} (hD : D.length = 6) (ty : Nat) (v : Value) (k x : Nat) (hk : k < 6) : (frc D S ty v).toArray.setIfInBounds k (.int .u8 (x : Int)) = (frc (D.set k x) S ty v).toArray := by
  unfold frc
  apply Array.toList_inj.1
  rw [Array.toList_setIfInBounds]
  show (bs D ++ _).set k _ = bs (D.set k x) ++ _
  rw [List.set_append_left _ _ (by rw [bs_len, hD]; exact hk)]
  simp [bs, List.map_set]
theorem frc_setS {D S : List Nat} (hD : D.length = 6) (hS : S.length = 6) (ty : Nat) (v : Value) (k x : Nat) (hk : k < 6) : (frc D S ty v).toArray.setIfInBounds (6 + k) (.int .u8 (x : Int)) = (frc D (S.set k x) ty v).toArray := by
  unfold frc
  apply Array.toList_inj.1
  rw [Array.toList_setIfInBounds]
  show (bs D ++ (bs S ++ _)).set (6 + k) _ = bs D ++ (bs (S.set k x) ++ _)
  rw [List.set_append_right _ _ (by rw [bs_len, hD]; omega), bs_len, hD, Nat.add_sub_cancel_left, List.set_append_left _ _ (by rw [bs_len, hS]; exact hk)]
  simp [bs, List.map_set]

theorem parseFR_any (v : Value) (L : List Nat) (w : World) (hv : SeesB w v L) :
    Calls Try.prog 54 #[v] w fun e w' => ∃ ao n cap, e = .returned (.tuple #[.agg (frCells (Tn.pfF L) (.slice ao n cap)), .int .i64 (Tn.pfE L)]) ∧ SeesB w' (.slice ao n cap) (Tn.pfF L).B ∧ (∀ a, ao = some a → w.heap.size ≤ a.block) ∧ Below w.heap.size w w' := by
  obtain ⟨w1, hw1⟩ : ∃ w1, w1 = w.alloc (.cells zeroF 31) := ⟨_, rfl⟩
  have hs1 : w1.heap.size = w.heap.size + 1 := by rw [hw1]; simp
  have hb1 : Below w.heap.size w w1 := by rw [hw1]; exact (Below.refl _ _).alloc (Nat.le_refl _) _
  have hr1 : w1.heap[w.heap.size]? = some (.cells zeroF 31 (0, 0)) := by rw [hw1]; exact heap_alloc_new w _
  obtain ⟨ao, n, cap, rfl, HN, hn1, hn2⟩ := hv.shape
  unfold maxLen at hn2
  have HV1 := hid (hv.below hb1)
  have HBY := hid hv.bytes
  have HI : Hid (∀ zz : Array Value, zz.size = 14 → (Try.prog.info? 31).map (·.size) = some zz.size) := fun zz hz => by rw [hz]; kernel_rfl
  have HCE : Hid (∀ (zz : Array Value) (u : World), zz.size = 14 → Below w1.heap.size w1 u → u.there w.heap.size 0 zz.size ∧ (loadVar 31 ⟨w.heap.size, 0, none⟩).run Try.prog (u.setCells w.heap.size 0 zz.toList) = .ok (.agg zz) (u.setCells w.heap.size 0 zz.toList)) := fun zz u hz hb =>
    cell_end hr1 hb (by rw [hz]; rfl) Try.underlying31 rfl (HI.out zz hz)
  have HBW : Hid (∀ u, Below w1.heap.size w1 u → Below w.heap.size w u) := fun u hu => hb1.trans (hu.mono hb1.size)
  have HBF0 : Hid (∀ (zz : Array Value) (u : World), Below w1.heap.size w1 u → Below w.heap.size w (u.setCells w.heap.size 0 zz.toList)) := fun zz u hu => below_setCells' (Nat.le_refl _) _ _ _ (HBW.out u hu)
  have HW1 : Hid (w1 = w.alloc (.cells zeroF 31)) := hw1
  unfold zeroF at HW1
  obtain ⟨zz, hzz⟩ : ∃ zz : Array Value, zz = zeroF := ⟨_, rfl⟩
  have HZ := hid hzz
  unfold zeroF at HZ
  have HZS : Hid (zz.size = 14) := by unfold Hid; rw [hzz]; rfl
  have HONE : Hid (zz.all (·.oneCell') = true) := by unfold Hid; rw [hzz]; simp [zeroF, Value.oneCell']
  have HZC : Hid (zz = frCells Tn.noneF (.slice none 0 0)) := hzz
  have HINF := hid (HI.out zz HZS.out)
  have HS1 := hid hs1
  clear hzz hw1 hs1 hb1 hr1 hv
  by_cases hA : 65499 < n
  · have HE := hid (pf_bad (L := L) (e := 2) (by unfold Tn.pfE; rw [if_pos (by have := HN.out; omega)]) (by decide))
    have hA' : (65499 : Int) < (n : Int) := by omega
    go_enter Try.func54, Try.ntmps54
    go_upto_region 1 with fail
    rw [← HW1.out]
    obtain ⟨q1, q2⟩ := HCE.out zz w1 HZS.out (Below.refl _ _)
    have HTU := hid q1
    have HLV := hid q2
    have HBF := hid (HBF0.out zz w1 (Below.refl _ _))
    clear q1 q2
    go_wp2_with (first
      | (refine wpList_store_mid rfl 31 (.tmp 2) (.tmp 11) rfl w.heap.size 0 zz rfl (by rw [HZ.out]; rfl) HTU.out HINF.out HONE.out ?_)
      | fail)
    generalize w1.setCells w.heap.size 0 zz.toList = wf at HLV HBF ⊢
    refine bodyPost_ret (v := .tuple #[.agg zz, .int .i64 2]) (by simp [results, Try.results54, asAddr, HLV.out]) rfl ?_
    rw [HE.out.1, HE.out.2]
    exact ⟨none, 0, 0, by rw [HZC.out], sees_nil _, (fun a ha => by cases ha), HBF.out⟩
  have hA' : ¬ (65499 : Int) < (n : Int) := by omega
  by_cases hB : n < 14
  · have HE := hid (pf_bad (L := L) (e := 70) (by unfold Tn.pfE; rw [if_neg (by have := HN.out; omega), if_pos (by have := HN.out; omega)]) (by decide))
    have hB' : (n : Int) < 14 := by omega
    go_enter Try.func54, Try.ntmps54
    go_upto_region 1 with fail
    rw [← HW1.out]
    obtain ⟨q1, q2⟩ := HCE.out zz w1 HZS.out (Below.refl _ _)
    have HTU := hid q1
    have HLV := hid q2
    have HBF := hid (HBF0.out zz w1 (Below.refl _ _))
    clear q1 q2
    go_wp2_with (first
      | (refine wpList_store_mid rfl 31 (.tmp 2) (.tmp 15) rfl w.heap.size 0 zz rfl (by rw [HZ.out]; rfl) HTU.out HINF.out HONE.out ?_)
      | fail)
    generalize w1.setCells w.heap.size 0 zz.toList = wf at HLV HBF ⊢
    refine bodyPost_ret (v := .tuple #[.agg zz, .int .i64 70]) (by simp [results, Try.results54, asAddr, HLV.out]) rfl ?_
    rw [HE.out.1, HE.out.2]
    exact ⟨none, 0, 0, by rw [HZC.out], sees_nil _, (fun a ha => by cases ha), HBF.out⟩
  have hB' : ¬ (n : Int) < 14 := by omega
  have XR : Hid (Calls Try.prog 55 #[.slice ao n cap, .int .i64 12, .int .i64 2] w1 fun e w' => e = .returned (.int .i64 ((Tn.num2 L 12 : Nat) : Int)) ∧ Below w1.heap.size w1 w') := by
    have := numberR_any _ L 12 2 w1 HV1.out (by omega) (by have := HN.out; omega)
    rw [numN_two] at this
    exact this
  have hpe : Tn.pfE L = Tn.tyE (Tn.num2 L 12) := by
    unfold Tn.pfE
    rw [if_neg (by have := HN.out; omega), if_neg (by have := HN.out; omega)]
  have hty16 : Tn.num2 L 12 < 65536 := by
    rw [num2_byt]
    have h1 := byt_lt HBY.out 12
    have h2 := byt_lt HBY.out (12 + 1)
    omega
  have HPD : Hid (Tn.pfE L = 0 → Tn.pfF L = ⟨L.take 6, (L.drop 6).take 6, Tn.num2 L 12, L.drop 14⟩) := fun h => by unfold Tn.pfF; rw [if_pos h]
  obtain ⟨ty, hty⟩ : ∃ ty, ty = Tn.num2 L 12 := ⟨_, rfl⟩
  rw [← hty] at XR hpe hty16 HPD
  have HCT := hid (fun u => typedR_any ty u hty16)
  by_cases ht : Tn.tyE ty = 0
  · rw [ht] at HCT hpe
    have HPE2 := hid hpe
    have HD := hid (HPD.out hpe)
    have HJO : Hid (∀ u, Below w1.heap.size w1 u → Calls Try.prog 44 #[.slice none 0 0, .slice ao n cap, .int .i64 14, .int .i64 (n : Int)] u fun e w' => ∃ a2 n2 c2, e = .returned (.slice a2 n2 c2) ∧ SeesB w' (.slice a2 n2 c2) (L.drop 14) ∧ (∀ a, a2 = some a → u.heap.size ≤ a.block) ∧ Below u.heap.size u w') := fun u hu => by
      have := joinedR_any (.slice none 0 0) _ [] L 14 n u u (Below.refl _ _) (ownB_nil _ _) (HV1.out.below hu) (by omega) (by have := HN.out; omega) (by simp; omega)
      rw [List.take_of_length_le (by have := HN.out; omega), List.nil_append] at this
      refine this.mono ?_
      rintro e w' ⟨l', rfl, ho, hb⟩
      have hsee := ho.sees (fun x hx => HBY.out x (List.mem_of_mem_drop hx))
      obtain ⟨a2, n2, c2, rfl, _, _, _⟩ := hsee.shape
      exact ⟨a2, n2, c2, rfl, hsee, ho.new, hb⟩
    have hl6 : (L.take 6).length = 6 := by rw [List.length_take, ← HN.out]; omega
    have hl12 : ((L.drop 6).take 6).length = 6 := by rw [List.length_take, List.length_drop, ← HN.out]; omega
    have hgd : ∀ k, k < 6 → (L.take 6).getD k 0 = byt L k ∧ ((L.drop 6).take 6).getD k 0 = byt L (6 + k) := fun k hk => by
      unfold byt
      refine ⟨?_, ?_⟩
      · rw [List.getD_eq_getElem?_getD, List.getD_eq_getElem?_getD, List.getElem?_take_of_lt hk]
      · rw [List.getD_eq_getElem?_getD, List.getD_eq_getElem?_getD, List.getElem?_take_of_lt hk, List.getElem?_drop]
    have HGD := hid hgd
    have HL := hid (And.intro hl6 hl12)
    generalize L.take 6 = DD at *
    generalize (L.drop 6).take 6 = SS at *
    clear hpe hl6 hl12 hgd hty HPD
    go_enter Try.func54, Try.ntmps54
    go_upto_region 1 with fail
    rw [← HW1.out]
    go_wp2_with fail
    refine XR.out.mono ?_
    rintro _ w2 ⟨rfl, hb2⟩
    have HB2 := hid hb2
    clear hb2 XR
    go_wp2_with fail
    refine (HCT.out _).mono ?_
    rintro _ wz ⟨rfl, hwz⟩
    subst hwz
    have XJ := hid (HJO.out _ HB2.out)
    clear HJO
    go_wp2_with fail
    refine XJ.out.mono ?_
    rintro _ w3 ⟨a3, n3, c3, rfl, hs3, hn3, hb3⟩
    have hb13 := HB2.out.trans (hb3.mono HB2.out.size)
    obtain ⟨p, hp⟩ : ∃ p, p = w3.heap.size := ⟨_, rfl⟩
    obtain ⟨pa, hpa⟩ : ∃ pa : Array Value, pa = (frc (mixk DD 0) (mixk SS 0) ty (.slice a3 n3 c3)).toArray := ⟨_, rfl⟩
    have HPA : Hid (pa = #[.int .u8 0, .int .u8 0, .int .u8 0, .int .u8 0, .int .u8 0, .int .u8 0, .int .u8 0, .int .u8 0, .int .u8 0, .int .u8 0, .int .u8 0, .int .u8 0, .int .u16 (ty : Int), .slice a3 n3 c3]) := hpa
    have hps : pa.size = 14 := by rw [hpa]; rfl
    have HPI := hid (HI.out pa hps)
    have HPO : Hid (pa.all (·.oneCell') = true) := by unfold Hid; rw [hpa]; exact frc_one
    have hrp : (w3.alloc (.cells zeroF 31)).heap[p]? = some (.cells zeroF 31 (0, 0)) := by rw [hp]; exact heap_alloc_new w3 _
    have HTP : Hid ((w3.alloc (.cells zeroF 31)).there p 0 pa.size) := there_blk hrp (by rw [hps]; rfl)
    obtain ⟨w4, hw4⟩ : ∃ w4, w4 = (w3.alloc (.cells zeroF 31)).setCells p 0 pa.toList := ⟨_, rfl⟩
    have hr4 : w4.heap[p]? = some (.cells (frc (mixk DD 0) (mixk SS 0) ty (.slice a3 n3 c3)).toArray 31 (0, 0)) := by rw [hw4, ← hpa]; exact row_put hrp (by rw [hps]; rfl)
    have hb34 : Below w3.heap.size w3 w4 := by rw [hw4]; exact below_setCells' (by omega) _ _ _ ((Below.refl _ _).alloc (Nat.le_refl _) _)
    have HW4 := hid hw4
    unfold zeroF at HW4 HTP
    have HP := hid hp
    have HB34 : Hid (Below p w3 w4) := by unfold Hid; rw [hp]; exact hb34
    have HR4 := hid hr4
    have HS3 := hid hs3
    have HB13 := hid hb13
    have HPW : Hid (w1.heap.size ≤ p) := by unfold Hid; rw [hp]; exact hb13.size
    have HN3 : Hid (∀ a, a3 = some a → w.heap.size < a.block) := fun a ha => by have h1 := hn3 a ha; have h2 := HB2.out.size; have h3 := HS1.out; omega
    have HVK : Hid (∀ (j : Nat) (u : World), j < n → Below p w3 u → ∃ g off, ao = some ⟨g, off, none⟩ ∧ byt L j < 256 ∧ u.cell? ⟨g, off + j, none⟩ = some (.int .u8 ((byt L j : Nat) : Int)) ∧ g < p) := fun j u hj hu => by
      obtain ⟨g, off, h1, h2, h3⟩ := (HV1.out.below hb13).atB j hj
      have hg : g < p := by rw [hp]; exact h2
      exact ⟨g, off, h1, byt_lt HBY.out j, (hu.cell (p := ⟨g, off + j, none⟩) hg).trans h3, hg⟩
    clear hw4 hpa hps hrp hb34 hr4 hp hs3 hn3 hb3 hb13 XJ
    go_upto_region 10 with (first
      | (rw [← HP.out]; refine wpList_store_mid rfl 31 (.tmp 6) (.tmp 30) rfl p 0 pa rfl (by rw [HPA.out]; rfl) HTP.out HPI.out HPO.out ?_; rw [← HW4.out])
      | fail)
    simp only [Act.put]
    go_wp2_with fail
    go_loopw [7] (fun i wv => ∃ (k : Nat) (wr : World), i = .int .i64 (k : Int) ∧ k ≤ 6 ∧ wr = wv ∧ Hid (wr.heap[p]? = some (.cells (frc (mixk DD k) (mixk SS k) ty (.slice a3 n3 c3)).toArray 31 (0, 0)) ∧ Below p w3 wr)) (fun i _ => 6 - (intOf i).toNat)
    case atStart => exact ⟨0, _, rfl, by omega, rfl, HR4.out, HB34.out⟩
    case round =>
      obtain ⟨k, wr, rfl, hk, rfl, HRK⟩ := hrel
      obtain ⟨hrk, hbk⟩ := HRK.out
      by_cases hlt : k < 6
      · obtain ⟨g, off, rfl, hx, hcx, hg⟩ := HVK.out k wr (by omega) hbk
        have hmD := mixk_len HL.out.1 hk
        have hmS := mixk_len HL.out.2 hk
        have c0 := cell_fr hrk k
        rw [frc_dst hmD ty _ k hlt, bs_get (by rw [hmD]; exact hlt)] at c0
        have z0 : wr.frozen? ⟨p, k, none⟩ = false := frozen_of_row _ _ _ _ _ hrk
        obtain ⟨wa, hwa⟩ : ∃ wa, wa = wr.setCell ⟨p, k, none⟩ (.int .u8 ((byt L k : Nat) : Int)) := ⟨_, rfl⟩
        obtain ⟨wn, hwn⟩ : ∃ wn, wn = wa.setCell ⟨p, 6 + k, none⟩ (.int .u8 ((byt L (6 + k) : Nat) : Int)) := ⟨_, rfl⟩
        have hra : wa.heap[p]? = some (.cells (frc (mixk DD (k + 1)) (mixk SS k) ty (.slice a3 n3 c3)).toArray 31 (0, 0)) := by
          rw [hwa]
          have h1 := heap_setCell_row (o := k) hrk (.int .u8 ((byt L k : Nat) : Int))
          rw [frc_setD hmD ty _ k _ hlt, ← (HGD.out k hlt).1, mixk_set HL.out.1 hlt] at h1
          rw [(HGD.out k hlt).1] at h1
          exact h1
        have hmD1 := mixk_len HL.out.1 (show k + 1 ≤ 6 by omega)
        have hrn : wn.heap[p]? = some (.cells (frc (mixk DD (k + 1)) (mixk SS (k + 1)) ty (.slice a3 n3 c3)).toArray 31 (0, 0)) := by
          rw [hwn]
          have h2 := heap_setCell_row (o := 6 + k) hra (.int .u8 ((byt L (6 + k) : Nat) : Int))
          rw [frc_setS hmD1 hmS ty _ k _ hlt, ← (HGD.out k hlt).2, mixk_set HL.out.2 hlt] at h2
          rw [(HGD.out k hlt).2] at h2
          exact h2
        have hba : Below p w3 wa := by rw [hwa]; exact hbk.setCell (p := ⟨p, k, none⟩) (Nat.le_refl _) _
        have hbn : Below p w3 wn := by rw [hwn]; exact hba.setCell (p := ⟨p, 6 + k, none⟩) (Nat.le_refl _) _
        obtain ⟨g2, off2, he, _, hcy, _⟩ := HVK.out (6 + k) wa (by omega) hba
        simp at he
        obtain ⟨rfl, rfl⟩ := he
        have c6 := cell_fr hra (6 + k)
        rw [frc_src hmD1 hmS ty _ k hlt, bs_get (by rw [hmS]; exact hlt)] at c6
        have z6 : wa.frozen? ⟨p, 6 + k, none⟩ = false := frozen_of_row _ _ _ _ _ hra
        obtain ⟨m, hm⟩ : ∃ m, m = 6 + k := ⟨_, rfl⟩
        have hcm : wa.cell? ⟨g, off + m, none⟩ = some (.int .u8 ((byt L (6 + k) : Nat) : Int)) := by rw [hm]; exact hcy
        clear hcy
        have HNX := hid (And.intro hrn hbn)
        have HWN := hid hwn
        have HWA := hid hwa
        have hy256 := byt_lt HBY.out (6 + k)
        generalize byt L k = xk at *
        generalize byt L (6 + k) = yk at *
        generalize ((mixk DD k)[k]'_ : Nat) = ok at c0
        generalize ((mixk SS k)[k]'_ : Nat) = sk at c6
        have b0 : (k : Int) < 6 := by omega
        have b1 : (0 : Int) ≤ (k : Int) := by omega
        have b2 : (k : Int) < (n : Int) := by omega
        have b3 : (m : Int) < (n : Int) := by omega
        have b4 : (0 : Int) ≤ (m : Int) := by omega
        have e6 : (6 : Int) + (k : Int) = (m : Int) := by omega
        have HM := hid hm
        clear hrn hbn hwn hrk hbk hmD hmS hm hra hba hwa hmD1
        go_upto_region 14 with fail
        rw [← HWA.out]
        go_wp2_with fail
        go_roundw
        case rel => exact ⟨k + 1, wn, by go_num, by omega, by rw [HWN.out], HNX⟩
        case measure => simp [intOf]; omega
      · have hk6 : k = 6 := by omega
        rw [hk6, mixk_six HL.out.1, mixk_six HL.out.2] at hrk
        have hge : ¬ (k : Int) < 6 := by omega
        clear hk6
        obtain ⟨yy, hyy⟩ : ∃ yy : Array Value, yy = (frc DD SS ty (.slice a3 n3 c3)).toArray := ⟨_, rfl⟩
        rw [← hyy] at hrk
        have HYS : Hid (yy.size = 14) := by unfold Hid; rw [hyy]; simp only [List.size_toArray]; exact frc_len HL.out.1 HL.out.2 _ _
        have HYI := hid (HI.out yy HYS.out)
        have HYO : Hid (yy.all (·.oneCell') = true) := by unfold Hid; rw [hyy]; exact frc_one
        have HL6 : Hid ((Instr.loadAt 31 (.pointer (some ⟨p, 0, none⟩))).run Try.prog wr = .ok (.agg yy) wr) := load_rowAt hrk Try.underlying31 rfl HYI.out
        have hb1r : Below w1.heap.size w1 wr := HB13.out.trans (hbk.mono HPW.out)
        obtain ⟨q1, q2⟩ := HCE.out yy wr HYS.out hb1r
        have HTU := hid q1
        have HLV := hid q2
        have HBF := hid (HBF0.out yy wr hb1r)
        have hsr : SeesB wr (.slice a3 n3 c3) (L.drop 14) := HS3.out.below (by rw [← HP.out]; exact hbk)
        have HSF := hid (sees_set' (b := w.heap.size) (vs := yy.toList) hsr (fun a ha => by have := HN3.out a ha; omega))
        have HYY := hid hyy
        clear hyy hrk hbk q1 q2 hsr hb1r HRK
        go_wp2_with (first
          | (refine wpList_ld 31 ⟨p, 0, none⟩ _ rfl rfl HL6.out rfl ?_)
          | (refine wpList_store_mid rfl 31 (.tmp 2) (.tmp 50) rfl w.heap.size 0 yy rfl rfl HTU.out HYI.out HYO.out ?_)
          | fail)
        generalize wr.setCells w.heap.size 0 yy.toList = wf at HLV HBF HSF ⊢
        refine bodyPost_ret (v := .tuple #[.agg yy, .int .i64 0]) (by simp [results, Try.results54, asAddr, HLV.out]) rfl ?_
        rw [HPE2.out, HD.out]
        exact ⟨_, _, _, by rw [HYY.out]; rfl, HSF.out, (fun a ha => Nat.le_of_lt (HN3.out a ha)), HBF.out⟩
  · have HE := hid (pf_bad hpe ht)
    generalize Tn.tyE ty = E at *
    have r1 : (E == 0) = false := by simp [ht]
    have r2 : (E != 0) = true := by simp [ht]
    clear hpe hty HPD
    go_enter Try.func54, Try.ntmps54
    go_upto_region 1 with fail
    rw [← HW1.out]
    go_wp2_with fail
    refine XR.out.mono ?_
    rintro _ w2 ⟨rfl, hb2⟩
    have HB2 := hid hb2
    clear hb2
    go_wp2_with fail
    refine (HCT.out _).mono ?_
    rintro _ wz ⟨rfl, hwz⟩
    subst hwz
    obtain ⟨q1, q2⟩ := HCE.out zz wz HZS.out HB2.out
    have HTU := hid q1
    have HLV := hid q2
    have HBF := hid (HBF0.out zz wz HB2.out)
    clear q1 q2
    go_wp2_with (first
      | (refine wpList_store_mid rfl 31 (.tmp 2) (.tmp 22) rfl w.heap.size 0 zz rfl (by rw [HZ.out]; rfl) HTU.out HINF.out HONE.out ?_)
      | fail)
    generalize wz.setCells w.heap.size 0 zz.toList = wf at HLV HBF ⊢
    refine bodyPost_ret (v := .tuple #[.agg zz, .int .i64 E]) (by simp [results, Try.results54, asAddr, HLV.out]) rfl ?_
    rw [HE.out.1, HE.out.2]
    exact ⟨none, 0, 0, by rw [HZC.out], sees_nil _, (fun a ha => by cases ha), HBF.out⟩
end Go.Proofs.Ytcelcnafcfefhab.N

/-
  weftlaw7.sameFrame: frames that are the same.
-/
namespace Go.Proofs.Ytcelcnafcfefhab.N
open Go.ChangeShapes Go.WideShapes Go.ChangeAt Go.RowKit
set_option maxHeartbeats 8000000
set_option maxRecDepth 100000

theorem six {D : List Nat} (h : D.length = 6) : ∃ a b c d e f, D = [a, b, c, d, e, f] := by
  match D, h with
  | [a, b, c, d, e, f], _ => exact ⟨a, b, c, d, e, f, rfl⟩

theorem fr_loads {u : World} {n : Nat} {f : Tn.Fr} {vb : Value} {t : TypeId} (hok : f.Ok) (hb : u.heap[n]? = some (.cells (frCells f vb) t (0, 0))) :
    (Instr.loadAt 28 (.pointer (some ⟨n, 0, none⟩))).run Try.prog u = .ok (.agg (bs f.dst).toArray) u ∧ (Instr.loadAt 28 (.pointer (some ⟨n, 6, none⟩))).run Try.prog u = .ok (.agg (bs f.src).toArray) u := by
  have h6 : (Try.prog.info? 28).map (·.size) = some 6 := by kernel_rfl
  refine ⟨?_, ?_⟩
  · refine run_loadAt_mid u n 0 28 (bs f.dst) (.array 6 5) (fun j v hv => ?_) Try.underlying28 rfl (by rw [bs_len, hok.dst]; exact h6)
    have hj : j < 6 := by have := (List.getElem?_eq_some_iff.1 hv).1; rw [bs_len, hok.dst] at this; exact this
    rw [Nat.zero_add, cell_fr hb j, frc_dst hok.dst f.ty vb j hj, hv]
  · refine run_loadAt_mid u n 6 28 (bs f.src) (.array 6 5) (fun j v hv => ?_) Try.underlying28 rfl (by rw [bs_len, hok.src]; exact h6)
    have hj : j < 6 := by have := (List.getElem?_eq_some_iff.1 hv).1; rw [bs_len, hok.src] at this; exact this
    rw [cell_fr hb (6 + j), frc_src hok.dst hok.src f.ty vb j hj, hv]

theorem eq6 (x0 x1 x2 x3 x4 x5 : Int) (u : World) : (Op.equalIn 10000 28 (.agg #[.int .u8 x0, .int .u8 x1, .int .u8 x2, .int .u8 x3, .int .u8 x4, .int .u8 x5]) (.agg #[.int .u8 x0, .int .u8 x1, .int .u8 x2, .int .u8 x3, .int .u8 x4, .int .u8 x5])).run Try.prog u = .ok true u := by
  have hu : Try.prog.underlying 28 = some (.array 6 5) := Try.underlying28
  have h5 : Try.prog.underlying 5 = some (.int .u8) := by kernel_rfl
  have hsz : (sizeOf 5).run Try.prog u = .ok 1 u := by kernel_rfl
  have hi : ∀ (x : Int) (w : World), (Op.equalIn 9999 5 (.int .u8 x) (.int .u8 x)).run Try.prog w = .ok true w := fun x w => by
    have := run_equalIn_int (P := Try.prog) w 9998 5 .u8 .u8 x x h5
    simpa using this
  rw [show (10000 : Nat) = 9999 + 1 from rfl, Op.equalIn]
  simp [run_underlying hu, hsz, part, hi, Std.Legacy.Range.forIn_eq_forIn_range', List.range', Result.andThen]

theorem sameFrame_self (f : Tn.Fr) (va vb : Value) (w : World) (hok : f.Ok) (hva : SeesB w va f.B) (hvb : SeesB w vb f.B) :
    Calls Try.prog 27 #[.agg (frCells f va), .agg (frCells f vb)] w fun e w' => e = .returned (.bool true) ∧ Below w.heap.size w w' := by
  obtain ⟨ao, n, cap, rfl, _, _, _⟩ := hva.shape
  obtain ⟨bo, m, bcap, rfl, _, _, _⟩ := hvb.shape
  obtain ⟨w1, hw1⟩ : ∃ w1, w1 = w.alloc (.cells (frCells f (.slice ao n cap)) 31) := ⟨_, rfl⟩
  obtain ⟨w2, hw2⟩ : ∃ w2, w2 = w1.alloc (.cells (frCells f (.slice bo m bcap)) 31) := ⟨_, rfl⟩
  have hs1 : w1.heap.size = w.heap.size + 1 := by rw [hw1]; simp
  have hb1 : Below w.heap.size w w1 := by rw [hw1]; exact (Below.refl _ _).alloc (Nat.le_refl _) _
  have hb2 : Below w.heap.size w w2 := by rw [hw2]; exact hb1.alloc (by omega) _
  have hr1 : w2.heap[w.heap.size]? = some (.cells (frCells f (.slice ao n cap)) 31 (0, 0)) := by rw [hw2, heap_alloc_old _ _ (by omega), hw1]; exact heap_alloc_new w _
  have hr2 : w2.heap[w.heap.size + 1]? = some (.cells (frCells f (.slice bo m bcap)) 31 (0, 0)) := by rw [hw2, ← hs1]; exact heap_alloc_new w1 _
  obtain ⟨c12, c13⟩ := fr_at hok hr1
  obtain ⟨d12, d13⟩ := fr_at hok hr2
  obtain ⟨l0, l6⟩ := fr_loads hok hr1
  obtain ⟨m0, m6⟩ := fr_loads hok hr2
  obtain ⟨x0, x1, x2, x3, x4, x5, hD⟩ := six hok.dst
  obtain ⟨y0, y1, y2, y3, y4, y5, hS⟩ := six hok.src
  rw [hD] at l0 m0
  rw [hS] at l6 m6
  have HL0 := hid (show (Instr.loadAt 28 (.pointer (some ⟨w.heap.size, 0, none⟩))).run Try.prog w2 = .ok (.agg #[.int .u8 (x0 : Int), .int .u8 (x1 : Int), .int .u8 (x2 : Int), .int .u8 (x3 : Int), .int .u8 (x4 : Int), .int .u8 (x5 : Int)]) w2 from l0)
  have HM0 := hid (show (Instr.loadAt 28 (.pointer (some ⟨w.heap.size + 1, 0, none⟩))).run Try.prog w2 = .ok (.agg #[.int .u8 (x0 : Int), .int .u8 (x1 : Int), .int .u8 (x2 : Int), .int .u8 (x3 : Int), .int .u8 (x4 : Int), .int .u8 (x5 : Int)]) w2 from m0)
  have HL6 := hid (show (Instr.loadAt 28 (.pointer (some ⟨w.heap.size, 6, none⟩))).run Try.prog w2 = .ok (.agg #[.int .u8 (y0 : Int), .int .u8 (y1 : Int), .int .u8 (y2 : Int), .int .u8 (y3 : Int), .int .u8 (y4 : Int), .int .u8 (y5 : Int)]) w2 from l6)
  have HM6 := hid (show (Instr.loadAt 28 (.pointer (some ⟨w.heap.size + 1, 6, none⟩))).run Try.prog w2 = .ok (.agg #[.int .u8 (y0 : Int), .int .u8 (y1 : Int), .int .u8 (y2 : Int), .int .u8 (y3 : Int), .int .u8 (y4 : Int), .int .u8 (y5 : Int)]) w2 from m6)
  have HSA := hid (same_self _ _ _ w2 (hva.below hb2) (hvb.below hb2))
  have HB2 := hid hb2
  have HW2 : Hid (w2 = (w.alloc (.cells (frCells f (.slice ao n cap)) 31)).alloc (.cells (frCells f (.slice bo m bcap)) 31)) := by unfold Hid; rw [hw2, hw1]
  clear hw1 hw2 hs1 hb1 hb2 hr1 hr2 l0 l6 m0 m6 hD hS hva hvb
  have hq0 := eq6 (x0 : Int) (x1 : Int) (x2 : Int) (x3 : Int) (x4 : Int) (x5 : Int)
  have hq6 := eq6 (y0 : Int) (y1 : Int) (y2 : Int) (y3 : Int) (y4 : Int) (y5 : Int)
  generalize frCells f (.slice ao n cap) = fa at *
  generalize frCells f (.slice bo m bcap) = fb at *
  go_enter Try.func27, Try.ntmps27
  go_upto_region 1 with fail
  rw [← HW2.out]
  go_wp2_with (first
    | (refine wpList_ld 28 ⟨w.heap.size, 0, none⟩ (.tmp 5) rfl rfl HL0.out rfl ?_)
    | (refine wpList_ld 28 ⟨w.heap.size + 1, 0, none⟩ (.tmp 7) rfl rfl HM0.out rfl ?_)
    | (refine wpList_ld 28 ⟨w.heap.size, 6, none⟩ (.tmp 11) rfl rfl HL6.out rfl ?_)
    | (refine wpList_ld 28 ⟨w.heap.size + 1, 6, none⟩ (.tmp 13) rfl rfl HM6.out rfl ?_)
    | fail)
  refine HSA.out.mono ?_
  rintro _ w3 ⟨rfl, hb3⟩
  have HB3 := hid (HB2.out.trans (hb3.mono HB2.out.size))
  clear hb3
  go_wp2_with fail
  go_ret
  exact ⟨rfl, HB3.out⟩
end Go.Proofs.Ytcelcnafcfefhab.N

/-
  weftlaw7.frames.
-/
namespace Go.Proofs.Ytcelcnafcfefhab.N
open Go.ChangeShapes Go.WideShapes Go.ChangeAt Go.RowKit
set_option maxHeartbeats 8000000
set_option maxRecDepth 100000

theorem pfF_ok {L : List Nat} (hb : ∀ x ∈ L, x < 256) : (Tn.pfF L).Ok := by
  unfold Tn.pfF
  split
  · rename_i h
    have h14 : 14 ≤ L.length := by
      unfold Tn.pfE at h
      split at h
      · cases h
      · split at h
        · cases h
        · omega
    refine ⟨by rw [List.length_take]; omega, by rw [List.length_take, List.length_drop]; omega, ?_⟩
    show Tn.num2 L 12 < 65536
    rw [num2_byt]
    have h1 := byt_lt hb 12
    have h2 := byt_lt hb (12 + 1)
    omega
  · exact ⟨rfl, rfl, by decide⟩

theorem frCells_size {f : Tn.Fr} (h : f.Ok) (v : Value) : (frCells f v).size = 14 := by
  unfold frCells
  simp only [List.size_toArray]
  exact frc_len h.dst h.src _ _

theorem frames_any (vr : Value) (L : List Nat) (f : Tn.Fr) (vb : Value) (w : World) (hvr : SeesB w vr L) (hf : FrB f) (hvb : SeesB w vb f.B) (hlr : L.length ≤ 140737488351232) (hlb : f.B.length ≤ 140737488351232) :
    Calls Try.prog 56 #[vr, .agg (frCells f vb)] w fun e w' => e = .returned (.bool true) ∧ Below w.heap.size w w' := by
  obtain ⟨ar, nr, capr, rfl, HNR, hnr1, hnr2⟩ := hvr.shape
  obtain ⟨ab, nb, capb, rfl, HNB, hnb1, hnb2⟩ := hvb.shape
  unfold maxLen at hnr2 hnb2
  obtain ⟨fr, hfr⟩ : ∃ fr, fr = frCells f (.slice ab nb capb) := ⟨_, rfl⟩
  obtain ⟨w1, hw1⟩ : ∃ w1, w1 = w.alloc (.cells fr 31) := ⟨_, rfl⟩
  have hs1 : w1.heap.size = w.heap.size + 1 := by rw [hw1]; simp
  have hb1 : Below w.heap.size w w1 := by rw [hw1]; exact (Below.refl _ _).alloc (Nat.le_refl _) _
  have hr1 : w1.heap[w.heap.size]? = some (.cells fr 31 (0, 0)) := by rw [hw1]; exact heap_alloc_new w _
  have HI : Hid (∀ zz : Array Value, zz.size = 14 → (Try.prog.info? 31).map (·.size) = some zz.size) := fun zz hz => by rw [hz]; kernel_rfl
  have HfrS : Hid (fr.size = 14) := by unfold Hid; rw [hfr]; exact frCells_size hf.ok _
  have HfrO : Hid (fr.all (·.oneCell') = true) := by unfold Hid; rw [hfr]; exact frc_one
  have HLD : Hid (∀ u, Below w1.heap.size w1 u → (Instr.loadAt 31 (.pointer (some ⟨w.heap.size, 0, none⟩))).run Try.prog u = .ok (.agg fr) u) := fun u hu => load_rowAt ((hu.block _ (by omega)).trans hr1) Try.underlying31 rfl (HI.out fr HfrS.out)
  have HC13 : Hid (∀ u, Below w1.heap.size w1 u → u.cell? ⟨w.heap.size, 13, none⟩ = some (.slice ab nb capb)) := fun u hu => (fr_at hf.ok (by rw [← hfr]; exact (hu.block _ (by omega)).trans hr1)).2
  have HVR := hid (hvr.below hb1)
  have HVB := hid (hvb.below hb1)
  have HBR := hid hvr.bytes
  have HBY := hid hvb.bytes
  have HLR := hid hlr
  have HLB := hid hlb
  have HF := hid hf
  have HFR := hid hfr
  have HW1 := hid hw1
  have HB1 := hid hb1
  have HRO := hid (roomy_any _ L w1 HVR.out hlr)
  have HPO := hid (pfF_ok HBR.out)
  rw [← hfr]
  clear hw1 hb1 hr1 hs1 hfr hvr hvb hlr hlb hf
  go_enter Try.func56, Try.ntmps56
  go_upto_region 1 with fail
  rw [← HW1.out]
  go_wp2_with fail
  refine HRO.out.mono ?_
  rintro _ w2 ⟨l2, rfl, ho2, hb2⟩
  have hbm : ∀ y ∈ L ++ mkN 70, y < 256 := fun y hy => (List.mem_append.1 hy).elim (HBR.out y) (mkN_bytes y)
  obtain ⟨ao, no, co, rfl, hsr, hsc, kcut⟩ := room_cut ho2 hbm
  rw [← HNR.out] at hsc kcut
  have HB2 := hid hb2
  have X2 := hid (parseF_any _ L w2 hsc)
  have HSR2 := hid hsr
  clear hb2 hsc hsr ho2 hbm HRO
  go_wp2_with fail
  refine X2.out.mono ?_
  rintro _ w3 ⟨a3, n3, c3, rfl, hs3, _, hb3⟩
  obtain ⟨xx, hxx⟩ : ∃ xx, xx = frCells (Tn.pfF L) (.slice a3 n3 c3) := ⟨_, rfl⟩
  have HxxS : Hid (xx.size = 14) := by unfold Hid; rw [hxx]; exact frCells_size HPO.out _
  have HxxO : Hid (xx.all (·.oneCell') = true) := by unfold Hid; rw [hxx]; exact frc_one
  obtain ⟨p1, hp1⟩ : ∃ p1, p1 = w3.heap.size := ⟨_, rfl⟩
  obtain ⟨w4, hw4⟩ : ∃ w4, w4 = (w3.alloc (.cells zeroF 31)).setCells p1 0 xx.toList := ⟨_, rfl⟩
  have HI4 := hid (HI.out xx HxxS.out)
  have hrp4 : (w3.alloc (.cells zeroF 31)).heap[p1]? = some (.cells zeroF 31 (0, 0)) := by rw [hp1]; exact heap_alloc_new w3 _
  have HT4 : Hid ((w3.alloc (.cells zeroF 31)).there p1 0 xx.size) := there_blk hrp4 (by rw [HxxS.out]; rfl)
  have hr4 : w4.heap[p1]? = some (.cells xx 31 (0, 0)) := by rw [hw4]; exact row_put hrp4 (by rw [HxxS.out]; rfl)
  have hbn4 : Below w3.heap.size w3 w4 := by rw [hw4]; exact below_setCells' (by omega) _ _ _ ((Below.refl _ _).alloc (Nat.le_refl _) _)
  have Hw4 := hid hw4
  have HPp1 := hid hp1
  unfold zeroF at Hw4 HT4
  have hb24 : Below w2.heap.size w2 w4 := hb3.trans (hbn4.mono hb3.size)
  have HB24 := hid hb24
  have HB14 := hid (HB2.out.trans (hb24.mono HB2.out.size))
  have HS4 := hid (hs3.below hbn4)
  have HR4 := hid hr4
  have X4 := hid (parseFR_any _ L w4 (HVR.out.below HB14.out))
  rw [← hxx]
  have HXX := hid hxx
  clear hxx hp1 hw4 hrp4 hr4 hbn4 hb3 hb24 hs3 X2
  go_upto_region 3 with (first
    | (rw [← HPp1.out]; refine wpList_store_mid rfl 31 (.tmp 6) (.tmp 23) rfl p1 0 xx rfl rfl HT4.out HI4.out HxxO.out ?_; rw [← Hw4.out])
    | fail)
  go_wp2_with fail
  refine X4.out.mono ?_
  rintro _ w5 ⟨a5, n5, c5, rfl, hs5, _, hb5⟩
  obtain ⟨yy, hyy⟩ : ∃ yy, yy = frCells (Tn.pfF L) (.slice a5 n5 c5) := ⟨_, rfl⟩
  have HyyS : Hid (yy.size = 14) := by unfold Hid; rw [hyy]; exact frCells_size HPO.out _
  have HyyO : Hid (yy.all (·.oneCell') = true) := by unfold Hid; rw [hyy]; exact frc_one
  obtain ⟨p2, hp2⟩ : ∃ p2, p2 = w5.heap.size := ⟨_, rfl⟩
  obtain ⟨w6, hw6⟩ : ∃ w6, w6 = (w5.alloc (.cells zeroF 31)).setCells p2 0 yy.toList := ⟨_, rfl⟩
  have HI6 := hid (HI.out yy HyyS.out)
  have hrp6 : (w5.alloc (.cells zeroF 31)).heap[p2]? = some (.cells zeroF 31 (0, 0)) := by rw [hp2]; exact heap_alloc_new w5 _
  have HT6 : Hid ((w5.alloc (.cells zeroF 31)).there p2 0 yy.size) := there_blk hrp6 (by rw [HyyS.out]; rfl)
  have hr6 : w6.heap[p2]? = some (.cells yy 31 (0, 0)) := by rw [hw6]; exact row_put hrp6 (by rw [HyyS.out]; rfl)
  have hbn6 : Below w5.heap.size w5 w6 := by rw [hw6]; exact below_setCells' (by omega) _ _ _ ((Below.refl _ _).alloc (Nat.le_refl _) _)
  have Hw6 := hid hw6
  have HPp2 := hid hp2
  unfold zeroF at Hw6 HT6
  have hb46 : Below w4.heap.size w4 w6 := hb5.trans (hbn6.mono hb5.size)
  have HB26 := hid (HB24.out.trans (hb46.mono HB24.out.size))
  have HB16 := hid (HB2.out.trans (HB26.out.mono HB2.out.size))
  have HLX := hid (load_rowAt (T := 31) ((hb46.block p1 (Array.getElem?_eq_some_iff.1 HR4.out).1).trans HR4.out) Try.underlying31 rfl (HI.out xx HxxS.out))
  have HLY := hid (load_rowAt (T := 31) hr6 Try.underlying31 rfl (HI.out yy HyyS.out))
  have XS : Hid (Calls Try.prog 27 #[.agg xx, .agg yy] w6 fun e w' => e = .returned (.bool true) ∧ Below w6.heap.size w6 w') := by
    unfold Hid
    rw [HXX.out, hyy]
    exact sameFrame_self _ _ _ w6 HPO.out (HS4.out.below hb46) (hs5.below hbn6)
  have HKP : Hid (∀ u, Below w6.heap.size w6 u → Calls Try.prog 23 #[.slice ao no co, .slice ar nr capr] u fun e w' => e = .returned (.bool true) ∧ Below u.heap.size u w') := fun u hu => kept_any _ _ L u (HSR2.out.below (HB26.out.trans (hu.mono HB26.out.size))) (HVR.out.below (HB16.out.trans (hu.mono HB16.out.size))) HLR.out
  rw [← hyy]
  generalize Tn.pfE L = E at *
  clear hyy hp2 hw6 hrp6 hr6 hbn6 hb5 hb46 hs5 X4 kcut
  go_upto_region 4 with (first
    | (rw [← HPp2.out]; refine wpList_store_mid rfl 31 (.tmp 8) (.tmp 28) rfl p2 0 yy rfl rfl HT6.out HI6.out HyyO.out ?_; rw [← Hw6.out])
    | fail)
  go_wp2_with (first
    | (refine wpList_ld 31 ⟨p1, 0, none⟩ (.tmp 6) rfl rfl HLX.out rfl ?_)
    | (refine wpList_ld 31 ⟨p2, 0, none⟩ (.tmp 8) rfl rfl HLY.out rfl ?_)
    | fail)
  refine XS.out.mono ?_
  rintro _ w7 ⟨rfl, hb7⟩
  have X7 := hid (HKP.out w7 hb7)
  have HB67 := hid hb7
  clear hb7 XS HKP HLX HLY
  go_wp2_with fail
  refine X7.out.mono ?_
  rintro _ w8 ⟨rfl, hb8⟩
  have HB68 := hid (HB67.out.trans (hb8.mono HB67.out.size))
  have HB18 := hid (HB16.out.trans (HB68.out.mono HB16.out.size))
  have d13 := HC13.out w8 HB18.out
  have X8 := hid (roomy_any _ f.B w8 (HVB.out.below HB18.out) HLB.out)
  clear hb8 X7 HB67 HB68 HR4 HS4 HB24 HB26 HB14 HB16 HSR2
  as_aux_lemma =>
  go_wp2_with fail
  refine X8.out.mono ?_
  rintro _ w9 ⟨l9, rfl, ho9, hb9⟩
  have hbm : ∀ y ∈ f.B ++ mkN 70, y < 256 := fun y hy => (List.mem_append.1 hy).elim (HBY.out y) (mkN_bytes y)
  obtain ⟨ap, np, cp, rfl, hsr, hsc, kcut⟩ := room_cut ho9 hbm
  rw [← HNB.out] at hsc kcut
  have HB19 := hid (HB18.out.trans (hb9.mono HB18.out.size))
  have HL9 := hid (HLD.out w9 HB19.out)
  obtain ⟨p3, hp3⟩ : ∃ p3, p3 = w9.heap.size := ⟨_, rfl⟩
  obtain ⟨w10, hw10⟩ : ∃ w10, w10 = (w9.alloc (.cells zeroF 31)).setCells p3 0 fr.toList := ⟨_, rfl⟩
  have HI10 := hid (HI.out fr HfrS.out)
  have hrp10 : (w9.alloc (.cells zeroF 31)).heap[p3]? = some (.cells zeroF 31 (0, 0)) := by rw [hp3]; exact heap_alloc_new w9 _
  have HT10 : Hid ((w9.alloc (.cells zeroF 31)).there p3 0 fr.size) := there_blk hrp10 (by rw [HfrS.out]; rfl)
  have hr10 : w10.heap[p3]? = some (.cells fr 31 (0, 0)) := by rw [hw10]; exact row_put hrp10 (by rw [HfrS.out]; rfl)
  have hbn10 : Below w9.heap.size w9 w10 := by rw [hw10]; exact below_setCells' (by omega) _ _ _ ((Below.refl _ _).alloc (Nat.le_refl _) _)
  have Hw10 := hid hw10
  have HPp3 := hid hp3
  unfold zeroF at Hw10 HT10
  obtain ⟨w11, hw11⟩ : ∃ w11, w11 = w10.setCell ⟨p3, 13, none⟩ (.slice ap nb np) := ⟨_, rfl⟩
  obtain ⟨gg, hgg⟩ : ∃ gg, gg = frCells f (.slice ap nb np) := ⟨_, rfl⟩
  have hr11 : w11.heap[p3]? = some (.cells gg 31 (0, 0)) := by
    rw [hw11, hgg]
    unfold frCells
    rw [← frc_set HF.out.ok.dst HF.out.ok.src f.ty (.slice ab nb capb)]
    have h0 : w10.heap[p3]? = some (.cells (frc f.dst f.src f.ty (.slice ab nb capb)).toArray 31 (0, 0)) := by rw [hr10, HFR.out]; rfl
    exact heap_setCell_row h0 _
  have hggS : gg.size = 14 := by rw [hgg]; exact frCells_size HF.out.ok _
  have e13 : w10.cell? ⟨p3, 13, none⟩ = some (.slice ab nb capb) := (fr_at HF.out.ok (by rw [← HFR.out]; exact hr10)).2
  have z13 : w10.frozen? ⟨p3, 13, none⟩ = false := frozen_of_row _ _ _ _ _ hr10
  have hb911 : Below w9.heap.size w9 w11 := by rw [hw11]; exact hbn10.setCell (p := ⟨p3, 13, none⟩) (by show w9.heap.size ≤ p3; omega) _
  have HB110 := hid (HB19.out.trans (hbn10.mono HB19.out.size))
  have HB111 := hid (HB19.out.trans (hb911.mono HB19.out.size))
  have i13 := HC13.out w10 HB110.out
  have HL11 := hid (load_rowAt (T := 31) hr11 Try.underlying31 rfl (HI.out gg hggS))
  have X11 := hid (buildF_any f (.slice ap nb np) w11 HF.out (hsc.below hb911))
  rw [← hgg] at X11
  have HSR11 := hid (hsr.below hb911)
  have HW11 := hid hw11
  have hnp : nb ≤ np := by obtain ⟨_, _, hv, h1, _⟩ := hsc; simp at hv; omega
  clear hgg hw11 hr11 hggS hb911 hp3 hw10 hrp10 hr10 hbn10 hb9 hsc hsr ho9 hbm X8
  go_upto_region 8 with (first
    | (refine wpList_ld 31 ⟨w.heap.size, 0, none⟩ (.tmp 3) rfl rfl HL9.out rfl ?_)
    | (rw [← HPp3.out]; refine wpList_store_mid rfl 31 (.tmp 10) (.tmp 48) rfl p3 0 fr rfl rfl HT10.out HI10.out HfrO.out ?_; rw [← Hw10.out])
    | fail)
  simp only [Act.put]
  go_upto_region 9 with fail
  rw [← HW11.out]
  go_wp2_with (first
    | (refine wpList_ld 31 ⟨p3, 0, none⟩ (.tmp 10) rfl rfl HL11.out rfl ?_)
    | fail)
  refine X11.out.mono ?_
  rintro _ w12 ⟨s12, n12, t12, rfl, hs12, _, hb12⟩
  have HB112 := hid (HB111.out.trans (hb12.mono HB111.out.size))
  have HS12 := hid hs12
  have HSR12 := hid (HSR11.out.below hb12)
  have X12 := hid (buildFR_any f (.slice ab nb capb) w12 HF.out (HVB.out.below HB112.out))
  rw [← HFR.out] at X12
  have HL12 := hid (HLD.out w12 HB112.out)
  generalize Tn.bfE f = E2 at *
  generalize Tn.bfL f = BL at *
  clear hs12 hb12 X11 HL11 HL9 kcut e13 z13 i13 d13
  go_wp2_with (first
    | (refine wpList_ld 31 ⟨w.heap.size, 0, none⟩ (.tmp 3) rfl rfl HL12.out rfl ?_)
    | fail)
  refine X12.out.mono ?_
  rintro _ w13 ⟨v13, rfl, ho13, hb13⟩
  have hs13 := ho13.sees HS12.out.bytes
  obtain ⟨s13, n13, t13, rfl, _, _, _⟩ := hs13.shape
  have XS := hid (same_self _ _ _ w13 (HS12.out.below hb13) hs13)
  have HB1213 := hid hb13
  clear ho13 hs13 hb13 X12 HL12
  go_wp2_with fail
  refine XS.out.mono ?_
  rintro _ w14 ⟨rfl, hb14⟩
  have hb1214 := HB1213.out.trans (hb14.mono HB1213.out.size)
  have HB114 := hid (HB112.out.trans (hb1214.mono HB112.out.size))
  have j13 := HC13.out w14 HB114.out
  have X14 := hid (kept_any _ _ f.B w14 (HSR12.out.below hb1214) (HVB.out.below HB114.out) HLB.out)
  clear hb14 hb1214 XS
  go_wp2_with fail
  refine X14.out.mono ?_
  rintro _ w15 ⟨rfl, hb15⟩
  have HB115 := hid (HB114.out.trans (hb15.mono HB114.out.size))
  clear hb15 X14
  go_wp2_with fail
  go_ret
  exact ⟨rfl, HB1.out.trans (HB115.out.mono HB1.out.size)⟩
end Go.Proofs.Ytcelcnafcfefhab.N

/-
  TunnelFrames: frames that came in, opened; the walk.
-/
namespace Go.Proofs.Ytcelcnafcfefhab.N
open Go.ChangeShapes Go.WideShapes Go.ChangeAt Go.RowKit
set_option maxHeartbeats 4000000
set_option maxRecDepth 100000

theorem cells_mac : Try.prog.cellsOf 28 = 6 := by kernel_rfl
theorem und_mac : Try.prog.underlying 28 = some (.array 6 5) := by kernel_rfl
theorem cells_fr : Try.prog.cellsOf 31 = 14 := by kernel_rfl
theorem und_frs : Try.prog.underlying 53 = some (.slice 31) := by kernel_rfl
theorem und_raws : Try.prog.underlying 56 = some (.slice 29) := by kernel_rfl
theorem und_fr : ∃ f0 f1 f2 f3, Try.prog.underlying 31 = some (.struct #[f0, f1, f2, f3]) ∧ f0.type = 28 ∧ f0.offset = 0 ∧ f1.type = 28 ∧ f1.offset = 6 ∧ f2.type = 24 ∧ f2.offset = 12 ∧ f3.type = 29 ∧ f3.offset = 13 := ⟨_, _, _, _, Try.underlying31, rfl, rfl, rfl, rfl, rfl, rfl, rfl, rfl⟩

structure FrD where
  f : Tn.Fr
  vb : Value

def FrD.cells (o : FrD) : List Value := (frCells o.f o.vb).toList

structure FrD.Ok (o : FrD) (W : World) : Prop where
  f : FrB o.f
  vb : SeesB W o.vb o.f.B
  lb : o.f.B.length ≤ reachBytes

section
variable {H : Type} {enc : TypeId × Value → H} {W : World}

theorem open_mac {fuel : Nat} {cs : List Value} {x : DataW H × List MemPlace} (h : DataW.trod enc Try.prog W 0 (fun _ => true) true fuel 28 cs = some x) :
    ∃ D : List Nat, cs = bs D ∧ D.length = 6 ∧ ∀ y ∈ D, y < 256 := by
  obtain ⟨xs, m, _, _, hl, hxl, hf⟩ := DataW.trod_array und_mac h
  rw [cells_mac] at hl
  match xs, hxl with
  | [y0, y1, y2, y3, y4, y5], _ =>
    match cs, hl with
    | [c0, c1, c2, c3, c4, c5], _ =>
      have g0 := hf 0 (by omega)
      have g1 := hf 1 (by omega)
      have g2 := hf 2 (by omega)
      have g3 := hf 3 (by omega)
      have g4 := hf 4 (by omega)
      have g5 := hf 5 (by omega)
      rw [cell1_5] at g0 g1 g2 g3 g4 g5
      obtain ⟨z0, e0, _, w0⟩ := DataW.trod_int u5 g0
      obtain ⟨z1, e1, _, w1⟩ := DataW.trod_int u5 g1
      obtain ⟨z2, e2, _, w2⟩ := DataW.trod_int u5 g2
      obtain ⟨z3, e3, _, w3⟩ := DataW.trod_int u5 g3
      obtain ⟨z4, e4, _, w4⟩ := DataW.trod_int u5 g4
      obtain ⟨z5, e5, _, w5⟩ := DataW.trod_int u5 g5
      obtain ⟨a0, rfl, h0⟩ := wf_u8 w0
      obtain ⟨a1, rfl, h1⟩ := wf_u8 w1
      obtain ⟨a2, rfl, h2⟩ := wf_u8 w2
      obtain ⟨a3, rfl, h3⟩ := wf_u8 w3
      obtain ⟨a4, rfl, h4⟩ := wf_u8 w4
      obtain ⟨a5, rfl, h5⟩ := wf_u8 w5
      simp at e0 e1 e2 e3 e4 e5
      refine ⟨[a0, a1, a2, a3, a4, a5], by simp [bs, e0, e1, e2, e3, e4, e5], rfl, fun y hy => ?_⟩
      simp at hy
      omega

theorem open_fr {fuel : Nat} {cs : List Value} {x : DataW H × List MemPlace} (h : DataW.trod enc Try.prog W 0 (fun _ => true) true fuel 31 cs = some x) (hw : ∀ k ∈ x.1.weights Try.prog 31, k ≤ reachBytes) :
    ∃ o : FrD, cs = o.cells ∧ o.Ok W := by
  obtain ⟨f0, f1, f2, f3, hu, t0, o0, t1, o1, t2, o2, t3, o3⟩ := und_fr
  obtain ⟨xs, n, _, rfl, hl, hxl, hf⟩ := DataW.trod_struct hu h
  match xs, hxl with
  | [y0, y1, y2, y3], _ =>
    have g0 := hf 0 f0 rfl
    have g1 := hf 1 f1 rfl
    have g2 := hf 2 f2 rfl
    have g3 := hf 3 f3 rfl
    rw [t0, o0, cells_mac] at g0
    rw [t1, o1, cells_mac] at g1
    rw [t2, o2, cell1_u16] at g2
    rw [t3, o3, cell1_25] at g3
    rw [cells_fr] at hl
    obtain ⟨D, e0, hD, hDb⟩ := open_mac g0
    obtain ⟨S, e1, hS, hSb⟩ := open_mac g1
    obtain ⟨z2, e2, _, w2⟩ := DataW.trod_int und_u16 g2
    obtain ⟨ty, rfl, hty⟩ := wf_u16 w2
    obtain ⟨vm, B, e3, hs, hfit, _⟩ := open_bytes g3
    have w3 : B.length ≤ reachBytes := hfit.room fun k hk => hw k (by
      simp only [DataW.weights, hu]
      exact DataW.weights_mem_each (j := 3) (t := 29) (d := y3.1) (by simp [t3]) rfl _ hk)
    refine ⟨⟨⟨D, S, ty, B⟩, vm⟩, ?_, ⟨⟨⟨hD, hS, hty⟩, hDb, hSb⟩, hs, w3⟩⟩
    show cs = frc D S ty vm
    unfold frc
    rw [← e0, ← e1]
    match cs, hl with
    | [c0, c1, c2, c3, c4, c5, c6, c7, c8, c9, c10, c11, c12, c13], _ =>
      simp at e2 e3
      simp [e2, e3]

theorem open_frs {base : Nat} {v : Value} {d : DataW H} {ps : List MemPlace} (hval : Value.okWide Try.prog W .any base 53 v) (h : DataW.Trod enc Try.prog W 0 (fun _ => true) true 53 v d ps) (hw : ∀ x ∈ d.weights Try.prog 53, x ≤ reachBytes) :
    ∃ Os : List FrD, SeesR W v 14 (Os.map FrD.cells) ∧ ∀ o ∈ Os, o.Ok W := by
  obtain ⟨a0, len, cap, rfl⟩ := okWide_slice und_frs hval
  obtain ⟨fuel, hf⟩ := h
  rcases Go.Deep.open_slice und_frs hf with ⟨h1, _⟩ | ⟨a, len', cap', m, n, D, Pl, h1, _, hlc, hcm, hm, hxx, hx⟩
  · simp [Value.cells] at h1
    obtain ⟨rfl, rfl, rfl⟩ := h1
    exact ⟨[], ⟨none, 0, rfl, by simp, by unfold maxLen; omega, fun j hj => absurd hj (by simp)⟩, fun o ho => by cases ho⟩
  · simp [Value.cells] at h1
    obtain ⟨rfl, rfl, rfl⟩ := h1
    simp at hm
    subst hm
    simp only [Prod.mk.injEq] at hxx
    obtain ⟨rfl, _⟩ := hxx
    have key : ∀ i, i < len → ∃ o : FrD, o.Ok W ∧ ∀ j (hj : j < 14), W.cell? ((a.add (i * 14)).add j) = o.cells[j]? := by
      intro i hi
      obtain ⟨cs', k1, k2⟩ := hx i (by omega)
      rw [cells_fr] at k1
      obtain ⟨_, _, hc⟩ := World.cells?_some k1
      obtain ⟨o, ho, hok⟩ := open_fr k2 fun x hx' => hw x (by
        simp only [DataW.weights, und_frs, List.mem_cons, List.mem_append]
        exact .inr (.inl (weights_all (d := D i) (List.mem_map.2 ⟨i, by simpa using hi, rfl⟩) x hx')))
      refine ⟨o, hok, fun j hj => ?_⟩
      rw [hc j hj, ho]
    by_cases h0 : len = 0
    · subst h0
      exact ⟨[], ⟨some a, m, rfl, by simp, hcm, fun j hj => absurd hj (by simp)⟩, fun o ho => by cases ho⟩
    obtain ⟨c0, hc0, _⟩ := key 0 (by omega)
    obtain ⟨F, hF⟩ : ∃ F : Nat → FrD, ∀ i, i < len → (F i).Ok W ∧ ∀ j (hj : j < 14), W.cell? ((a.add (i * 14)).add j) = (F i).cells[j]? := by
      refine ⟨fun i => if h : i < len then (key i h).choose else c0, fun i hi => ?_⟩
      simp only [dif_pos hi]
      exact (key i hi).choose_spec
    have hsz : ∀ i, i < len → (F i).cells.length = 14 := fun i hi => by
      have := frCells_size (hF i hi).1.f.ok (F i).vb
      simpa [FrD.cells] using this
    obtain ⟨g, off, rfl, hg⟩ : ∃ g off, a = ⟨g, off, none⟩ ∧ g < W.heap.size := by
      have z0 := (hF 0 (by omega)).2 0 (by omega)
      have e : (a.add (0 * 14)).add 0 = a := by simp [Addr.add]
      rw [e, List.getElem?_eq_getElem (by rw [hsz 0 (by omega)]; omega)] at z0
      exact spot_none z0
    refine ⟨(List.range len).map F, ⟨some ⟨g, off, none⟩, m, by simp, by simpa using hlc, hcm, fun j hj => ?_⟩, fun o ho => ?_⟩
    · have hj' : j < len := by simpa using hj
      simp only [List.getElem_map, List.getElem_range]
      refine ⟨hsz j hj', g, off, rfl, hg, fun i v hv => ?_⟩
      have hi : i < 14 := by rw [← hsz j hj']; exact (List.getElem?_eq_some_iff.1 hv).1
      have hh := (hF j hj').2 i hi
      rw [Addr.add_mid, Addr.add_mid] at hh
      rw [hh, hv]
    · obtain ⟨i, hi, rfl⟩ := List.mem_map.1 ho
      exact (hF i (by simpa using hi)).1

theorem open_raws {base : Nat} {v : Value} {d : DataW H} {ps : List MemPlace} (hval : Value.okWide Try.prog W .any base 56 v) (h : DataW.Trod enc Try.prog W 0 (fun _ => true) true 56 v d ps) (hw : ∀ x ∈ d.weights Try.prog 56, x ≤ reachBytes) :
    ∃ Ls, SeesBB W v Ls ∧ ∀ l ∈ Ls, l.length ≤ reachBytes := by
  obtain ⟨a0, len, cap, rfl⟩ := okWide_slice und_raws hval
  obtain ⟨fuel, hf⟩ := h
  rcases Go.Deep.open_slice und_raws hf with ⟨h1, _⟩ | ⟨a, len', cap', m, n, D, Pl, h1, _, hlc, hcm, hm, hxx, hx⟩
  · simp [Value.cells] at h1
    obtain ⟨rfl, rfl, rfl⟩ := h1
    exact ⟨[], ⟨none, 0, rfl, by simp, by unfold maxLen; omega, fun j h => absurd h (by simp)⟩, fun l hl => by cases hl⟩
  · simp [Value.cells] at h1
    obtain ⟨rfl, rfl, rfl⟩ := h1
    simp at hm
    subst hm
    simp only [Prod.mk.injEq] at hxx
    obtain ⟨rfl, _⟩ := hxx
    have key : ∀ i, i < len → ∃ vl : Value × List Nat, vl.2.length ≤ reachBytes ∧ SeesB W vl.1 vl.2 ∧ W.cell? (a.add i) = some vl.1 := by
      intro i hi
      obtain ⟨cs', k1, k2⟩ := hx i (by omega)
      rw [cell1_25, Nat.mul_one] at k1
      obtain ⟨_, _, hc⟩ := World.cells?_some k1
      obtain ⟨v, L, e1, hs, hfit, _⟩ := open_bytes k2
      refine ⟨(v, L), hfit.room fun x hx' => hw x (by
        simp only [DataW.weights, und_raws, List.mem_cons, List.mem_append]
        exact .inr (.inl (weights_all (d := D i) (List.mem_map.2 ⟨i, by simpa using hi, rfl⟩) x hx'))), hs, ?_⟩
      have := hc 0 (by omega)
      rw [e1] at this
      simpa [Addr.add] using this
    obtain ⟨F, hF⟩ : ∃ F : Nat → Value × List Nat, ∀ i, i < len → (F i).2.length ≤ reachBytes ∧ SeesB W (F i).1 (F i).2 ∧ W.cell? (a.add i) = some (F i).1 := by
      refine ⟨fun i => if h : i < len then (key i h).choose else (undef, []), fun i hi => ?_⟩
      simp only [dif_pos hi]
      exact (key i hi).choose_spec
    refine ⟨(List.range len).map (fun i => (F i).2), ⟨some a, m, by simp, by simpa using hlc, hcm, fun j hj => ?_⟩, fun l hl => ?_⟩
    · have hj' : j < len := by simpa using hj
      obtain ⟨g, off, rfl, hg⟩ : ∃ g off, a = ⟨g, off, none⟩ ∧ g < W.heap.size := by
        have z0 := (hF 0 (by omega)).2.2
        have e : a.add 0 = a := by simp [Addr.add]
        rw [e] at z0
        exact spot_none z0
      have y0 := (hF j hj').2.2
      rw [Addr.add_mid] at y0
      exact ⟨g, off, (F j).1, rfl, hg, y0, by simpa using (hF j hj').2.1⟩
    · obtain ⟨i, hi, rfl⟩ := List.mem_map.1 hl
      exact (hF i (by simpa using hi)).1
end
end Go.Proofs.Ytcelcnafcfefhab.N

/-
  tunnel: mix, portOf, packetKey, frameKey, Flow.
-/
namespace Go.Proofs.Ytcelcnafcfefhab.N
open Go.ChangeShapes Go.WideShapes Go.ChangeAt Go.RowKit
set_option maxHeartbeats 8000000
set_option maxRecDepth 100000

theorem mix_lt (L : List Nat) : ∀ h, h < 65521 → Tn.mix h L < 65521 := by
  induction L with
  | nil => intro h hh; exact hh
  | cons x L ih => intro h _; exact ih _ (Nat.mod_lt _ (by omega))

theorem mix_any (v : Value) (L : List Nat) (w : World) (hv : SeesB w v L) :
    Calls Try.prog 78 #[v] w fun e w' => e = .returned (.int .u32 ((Tn.mix 1 L : Nat) : Int)) ∧ w' = w := by
  obtain ⟨ao, n, cap, rfl, HN, hn1, hn2⟩ := hv.shape
  unfold maxLen at hn2
  have HV := hid hv
  have HBY := hid hv.bytes
  obtain ⟨M0, hM0⟩ : ∃ M0, M0 = Tn.mix 1 L := ⟨_, rfl⟩
  have HM := hid hM0
  rw [← hM0]
  clear hv hM0
  go_enter Try.func78, Try.ntmps78
  go_wp2_with fail
  go_loopw [3, 5, 8] (fun t _ i wv => ∃ (k h : Nat) (wr : World), i = .int .i64 (k : Int) ∧ t = .int .u32 (h : Int) ∧ k ≤ n ∧ h < 65521 ∧ Hid (Tn.mix h (L.drop k) = M0) ∧ wr = wv ∧ wr = w) (fun _ _ i _ => n - (intOf i).toNat)
  case atStart => exact ⟨0, 1, _, rfl, rfl, by omega, by omega, HM.out.symm, rfl, rfl⟩
  case round =>
    obtain ⟨k, h, wr, rfl, rfl, hk, hh, HK, rfl, rfl⟩ := hrel
    by_cases hlt : k < n
    · obtain ⟨g, off, rfl, _, hc⟩ := HV.out.atB k hlt
      have hx := byt_lt HBY.out k
      have HNX : Hid (Tn.mix ((h * 251 + byt L k + 1) % 65521) (L.drop (k + 1)) = M0) := by
        unfold Hid
        rw [← HK.out]
        have hkl : k < L.length := by rw [← HN.out]; exact hlt
        rw [List.drop_eq_getElem_cons hkl, Tn.mix]
        simp [byt, hkl]
      generalize byt L k = x at *
      have b0 : (k : Int) < (n : Int) := by omega
      have b1 : (0 : Int) ≤ (k : Int) := by omega
      have hml : (h * 251 + x + 1) % 65521 < 65521 := Nat.mod_lt _ (by omega)
      go_wp2_with fail
      go_roundw
      case rel => exact ⟨k + 1, (h * 251 + x + 1) % 65521, _, by go_num, by go_num, by omega, hml, HNX, rfl, rfl⟩
      case measure => simp [intOf]; omega
    · obtain rfl : k = n := by omega
      have hM : h = M0 := by
        have := HK.out
        rwa [List.drop_eq_nil_of_le (by rw [← HN.out]; exact Nat.le_refl _)] at this
      subst hM
      go_wp2_with fail
      go_ret
      exact ⟨rfl, rfl⟩

theorem portOf_any (v : Value) (L : List Nat) (w : World) (hv : SeesB w v L) :
    Calls Try.prog 48 #[v] w fun e w' => e = .returned (.int .u16 ((Tn.port L : Nat) : Int)) ∧ w' = w := by
  have HX := hid (mix_any v L w hv)
  have hm := mix_lt L 1 (by omega)
  have hp : Tn.port L = 49152 + Tn.mix 1 L % 16384 := by unfold Tn.port; rw [Nat.mod_eq_of_lt hm]
  rw [hp]
  obtain ⟨ao, n, cap, rfl, _, _, _⟩ := hv.shape
  generalize Tn.mix 1 L = m at *
  have e1 : ((49152 + m % 16384 : Nat) : Int) = 49152 + (m : Int) % 16384 := by omega
  rw [e1]
  clear hv hp e1
  go_enter Try.func48, Try.ntmps48
  go_wp2_with fail
  refine HX.out.mono ?_
  rintro _ w2 ⟨rfl, rfl⟩
  go_wp2_with fail
  go_ret
  exact ⟨ret_int (by omega), rfl⟩

def Z9 : Array Value := #[.int .u8 0, .int .u8 0, .int .u8 0, .int .u8 0, .int .u8 0, .int .u8 0, .int .u8 0, .int .u8 0, .int .u8 0]

theorem packetKey_any (h : Hd) (vo : Value) (w : World) (hok : h.Ok) :
    Calls Try.prog 49 #[.agg (hdCells h vo)] w fun e w' => ∃ g, e = .returned (.slice (some ⟨g, 0, none⟩) 9 9) ∧ SeesB w' (.slice (some ⟨g, 0, none⟩) 9 9) (Tn.be4 h.src ++ Tn.be4 h.dst ++ [h.proto]) ∧ Below w.heap.size w w' := by
  obtain ⟨hc, hhc⟩ : ∃ hc, hc = hdCells h vo := ⟨_, rfl⟩
  obtain ⟨w1, hw1⟩ : ∃ w1, w1 = w.alloc (.cells hc 74) := ⟨_, rfl⟩
  obtain ⟨w2, hw2⟩ : ∃ w2, w2 = w1.alloc (.cells Z9 119) := ⟨_, rfl⟩
  obtain ⟨g, hg⟩ : ∃ g, g = w1.heap.size := ⟨_, rfl⟩
  have hs1 : w1.heap.size = w.heap.size + 1 := by rw [hw1]; simp
  have hb1 : Below w.heap.size w w1 := by rw [hw1]; exact (Below.refl _ _).alloc (Nat.le_refl _) _
  have hb2 : Below g w1 w2 := by rw [hw2, hg]; exact (Below.refl _ _).alloc (Nat.le_refl _) _
  have hr1 : w1.heap[w.heap.size]? = some (.cells (hdCells h vo) 74 (0, 0)) := by rw [hw1, ← hhc]; exact heap_alloc_new w _
  have hB2 : BlkT 119 w2 g [0, 0, 0, 0, 0, 0, 0, 0, 0] := by rw [hw2, hg]; exact heap_alloc_new w1 _
  have hs2 : w2.heap.size = g + 1 := by rw [hw2, hg]; simp
  have HC : Hid (∀ u, Below g w1 u → u.cell? ⟨w.heap.size, 6, none⟩ = some (.int .u8 (h.proto : Int)) ∧ u.cell? ⟨w.heap.size, 7, none⟩ = some (.int .u32 (h.src : Int)) ∧ u.cell? ⟨w.heap.size, 8, none⟩ = some (.int .u32 (h.dst : Int))) := fun u hu => by
    have hr := (hu.block w.heap.size (by omega)).trans hr1
    obtain ⟨_, _, _, _, _, _, h6, h7, h8, _⟩ := hd_at hr
    exact ⟨h6, h7, h8⟩
  have HBW : Hid (∀ u, Below g w1 u → Below w.heap.size w u) := fun u hu => hb1.trans (hu.mono (by omega))
  have HBT : Hid (∀ u u', Below g w1 u → g < u.heap.size → But g u u' → Below g w1 u' ∧ g < u'.heap.size) := fun u u' hu hs hb => ⟨hb.below hu (Nat.le_of_lt hs) (Nat.le_refl _), Nat.lt_of_lt_of_le hs hb.size⟩
  have HC1 := hid (twrite32_any 119 g 0 9 h.src _ w2.drew (show BlkT 119 w2.drew g _ from hB2) (by simp) hok.src)
  have HC2 : Hid (∀ u, BlkT 119 u g (Tn.be4 h.src ++ [0, 0, 0, 0, 0]) → Calls Try.prog 68 #[.slice (some ⟨g, 4, none⟩) 4 5, .int .u32 (h.dst : Int)] u fun e w' => e = .returned (.tuple #[]) ∧ BlkT 119 w' g (Tn.be4 h.src ++ Tn.be4 h.dst ++ [0]) ∧ But g u w') := fun u hB => twrite32_any 119 g 4 5 h.dst _ u hB (by simp [Tn.be4]) hok.dst
  have HB2 := hid hb2
  have HS2 : Hid (g < w2.heap.size) := by unfold Hid; omega
  have HW1 := hid hw1
  have HW2 := hid hw2
  unfold Z9 at HW2
  have HG := hid hg
  have HBYT : Hid (∀ y ∈ Tn.be4 h.src ++ Tn.be4 h.dst ++ [h.proto], y < 256) := fun y hy => by
    simp only [Tn.be4, List.mem_append, List.mem_cons, List.not_mem_nil, or_false] at hy
    have := hok.proto
    omega
  have hpr := hok.proto
  rw [← hhc]
  clear hw1 hw2 hg hs1 hb1 hb2 hr1 hB2 hs2 hhc
  go_enter Try.func49, Try.ntmps49
  go_upto_region 1 with fail
  rw [← HW1.out]
  go_upto_region 2 with fail
  rw [← HW2.out, ← HG.out]
  obtain ⟨d6, d7, d8⟩ := HC.out _ HB2.out
  go_cut [] from 4 (fun wx => Hid (BlkT 119 wx g (Tn.be4 h.src ++ [0, 0, 0, 0, 0])) ∧ Hid (Below g w1 wx ∧ g < wx.heap.size))
  case first =>
    go_region_with (first | (go_at_call 68; refine HC1.out.mono ?_; rintro _ w4 ⟨rfl, hB4, hu4⟩) | fail)
    all_goals (
      go_wp2_with fail
      go_meet
      case rel => exact ⟨hB4, HBT.out _ _ (below_drew HB2.out) HS2.out hu4⟩)
  case rest =>
  obtain ⟨HB3, HW3⟩ := hcut
  obtain ⟨w3, hw3⟩ : ∃ w3, w3 = wc := ⟨_, rfl⟩
  rw [← hw3] at HB3 HW3 ⊢
  clear hw3 HC1 d6 d7 d8
  obtain ⟨d6, d7, d8⟩ := HC.out _ HW3.out.1
  have X2 := hid (HC2.out w3.drew (show BlkT 119 w3.drew g _ from HB3.out))
  clear HC2 HB3
  go_upto_region 3 with fail
  go_cut [] from 4 (fun wx => Hid (BlkT 119 wx g (Tn.be4 h.src ++ Tn.be4 h.dst ++ [0])) ∧ Hid (Below g w1 wx ∧ g < wx.heap.size))
  case first =>
    go_region_with (first | (go_at_call 68; refine X2.out.mono ?_; rintro _ w4 ⟨rfl, hB4, hu4⟩) | fail)
    all_goals (
      go_wp2_with fail
      go_meet
      case rel => exact ⟨hB4, HBT.out _ _ (below_drew HW3.out.1) HW3.out.2 hu4⟩)
  case rest =>
  obtain ⟨HB4, HW4⟩ := hcut
  obtain ⟨w4, hw4⟩ : ∃ w4, w4 = wc := ⟨_, rfl⟩
  rw [← hw4] at HB4 HW4 ⊢
  clear hw4 X2 d6 d7 d8
  obtain ⟨d6, d7, d8⟩ := HC.out _ HW4.out.1
  have hlen4 : (Tn.be4 h.src ++ Tn.be4 h.dst ++ [0]).length = 9 := rfl
  have c8 := HB4.out.cell 8 (by rw [hlen4]; omega)
  have f8 := HB4.out.free 8
  have hB5 := HB4.out.set 8 h.proto
  have hu5 := But.set g 8 w4 (.int .u8 (h.proto : Int))
  have eL : (Tn.be4 h.src ++ Tn.be4 h.dst ++ [0]).set 8 h.proto = Tn.be4 h.src ++ Tn.be4 h.dst ++ [h.proto] := rfl
  rw [eL] at hB5
  obtain ⟨w5, hw5⟩ : ∃ w5, w5 = w4.setCell ⟨g, 8, none⟩ (.int .u8 (h.proto : Int)) := ⟨_, rfl⟩
  rw [← hw5] at hB5 hu5
  have HSE : Hid (SeesB w5 (.slice (some ⟨g, 0, none⟩) 9 9) (Tn.be4 h.src ++ Tn.be4 h.dst ++ [h.proto])) := hB5.sees HBYT.out 0 9 9 (Nat.le_refl 9) (Nat.le_refl _) (by unfold maxLen; omega)
  have HBE := hid (HBW.out _ (HBT.out _ _ HW4.out.1 HW4.out.2 hu5).1)
  have HW5 := hid hw5
  generalize byt _ 8 = y8 at c8
  clear hB5 hu5 hw5 eL hlen4
  go_upto_region 5 with fail
  rw [← HW5.out]
  go_wp2_with fail
  go_ret
  exact ⟨g, rfl, HSE.out, HBE.out⟩

theorem frameKey_any (f : Tn.Fr) (vb : Value) (w : World) (hf : FrB f) :
    Calls Try.prog 50 #[.agg (frCells f vb)] w fun e w' => ∃ g, e = .returned (.slice (some ⟨g, 0, none⟩) 12 12) ∧ SeesB w' (.slice (some ⟨g, 0, none⟩) 12 12) (f.src ++ f.dst) ∧ Below w.heap.size w w' := by
  obtain ⟨fr, hfr⟩ : ∃ fr, fr = frCells f vb := ⟨_, rfl⟩
  obtain ⟨w1, hw1⟩ : ∃ w1, w1 = w.alloc (.cells fr 31) := ⟨_, rfl⟩
  obtain ⟨w2, hw2⟩ : ∃ w2, w2 = w1.alloc (.cells Z12 86) := ⟨_, rfl⟩
  obtain ⟨h, hh⟩ : ∃ h, h = w1.heap.size := ⟨_, rfl⟩
  have hs1 : w1.heap.size = w.heap.size + 1 := by rw [hw1]; simp
  have hb1 : Below w.heap.size w w1 := by rw [hw1]; exact (Below.refl _ _).alloc (Nat.le_refl _) _
  have hb2 : Below h w1 w2 := by rw [hw2, hh]; exact (Below.refl _ _).alloc (Nat.le_refl _) _
  have hr1 : w1.heap[w.heap.size]? = some (.cells (frCells f vb) 31 (0, 0)) := by rw [hw1, ← hfr]; exact heap_alloc_new w _
  have hB2 : BlkT 86 w2 h [0, 0, 0, 0, 0, 0, 0, 0, 0, 0, 0, 0] := by rw [hw2, hh]; exact heap_alloc_new w1 _
  have HRW : Hid (∀ u, Below h w1 u → u.heap[w.heap.size]? = some (.cells (frCells f vb) 31 (0, 0))) := fun u hu => (hu.block _ (by omega)).trans hr1
  have HBW : Hid (∀ u, Below h w1 u → Below w.heap.size w u) := fun u hu => hb1.trans (hu.mono (by omega))
  have HW1 := hid hw1
  have HW2 := hid hw2
  unfold Z12 at HW2
  have HH := hid hh
  have HB2 := hid hb2
  have HF := hid hf
  obtain ⟨X0, hX0⟩ : ∃ X0, X0 = bs [0, 0, 0, 0, 0, 0, 0, 0, 0, 0, 0, 0] := ⟨_, rfl⟩
  have HG2 : Hid (w2.heap[h]? = some (.cells X0.toArray 86 (0, 0))) := by unfold Hid; rw [hX0]; exact hB2
  have HX0 := hid hX0
  have HX0L : Hid (X0.length = 12) := by unfold Hid; rw [hX0]; rfl
  obtain ⟨O1, hO1⟩ : ∃ O1, O1 = bs f.src := ⟨_, rfl⟩
  have HO1 := hid hO1
  have HO1L : Hid (O1.length = 6) := by unfold Hid; rw [hO1, bs_len, hf.ok.src]
  have HO11 : Hid (∀ v ∈ O1, v.oneCell' = true) := by unfold Hid; rw [hO1]; exact one_bs
  obtain ⟨O2, hO2⟩ : ∃ O2, O2 = bs f.dst := ⟨_, rfl⟩
  have HO2 := hid hO2
  have HO2L : Hid (O2.length = 6) := by unfold Hid; rw [hO2, bs_len, hf.ok.dst]
  have HO21 : Hid (∀ v ∈ O2, v.oneCell' = true) := by unfold Hid; rw [hO2]; exact one_bs
  have HP1 : Hid (∀ u, Below h w1 u → ∀ j v, O1[j]? = some v → u.cell? ((⟨w.heap.size, 6, none⟩ : Addr).add j) = some v) := fun u hu j v hv => by
    rw [HO1.out] at hv
    obtain ⟨ad, ha, hc⟩ := (fr_src HF.out (HRW.out u hu)).src (by rw [bs_len, HF.out.ok.src]; omega)
    cases ha
    exact hc j v hv
  have HP2 : Hid (∀ u, Below h w1 u → ∀ j v, O2[j]? = some v → u.cell? ((⟨w.heap.size, 0, none⟩ : Addr).add j) = some v) := fun u hu j v hv => by
    rw [HO2.out] at hv
    obtain ⟨ad, ha, hc⟩ := (fr_dst HF.out (HRW.out u hu)).src (by rw [bs_len, HF.out.ok.dst]; omega)
    cases ha
    exact hc j v hv
  rw [← hfr]
  clear hw1 hw2 hh hs1 hb1 hb2 hr1 hB2 hX0 hO1 hO2 hfr
  go_enter Try.func50, Try.ntmps50
  go_upto_region 1 with fail
  rw [← HW1.out]
  go_upto_region 2 with fail
  rw [← HW2.out, ← HH.out]
  go_cut [] from 4 (fun wx => Hid (wx.heap[h]? = some (.cells (splice X0 0 O1).toArray 86 (0, 0))) ∧ Below h w1 wx)
  case first =>
    have HBD := hid (below_drew HB2.out)
    have HPS : Hid (0 < O1.length → ∃ ad, some (⟨w.heap.size, 6, none⟩ : Addr) = some ad ∧ ∀ j v, O1[j]? = some v → w2.drew.cell? (ad.add j) = some v) := fun _ => ⟨_, rfl, HP1.out _ HBD.out⟩
    have HMN : Hid (O1.length = Nat.min 6 6) := HO1L.out
    have HFT : Hid (0 + O1.length ≤ X0.length) := by unfold Hid; rw [HO1L.out, HX0L.out]; omega
    go_region_law (first
      | (refine step_copy_splice rfl (.tmp 4) (.tmp 6) 29 29 rfl 5 Try.underlying29 size5 (some ⟨h, 0, none⟩) (some ⟨w.heap.size, 6, none⟩) 6 12 6 6 rfl rfl h 0 X0 86 HG2.out O1 HMN.out (fun hp => ⟨rfl, HPS.out hp⟩) HFT.out HO11.out h w1 HBD.out (Nat.le_refl _) ?_; intro w5 hg5 hb5)
      | fail)
    all_goals (
      go_wp2_with fail
      go_meet
      case rel => exact ⟨hg5, hb5⟩)
  case rest =>
  obtain ⟨HG3, hb3⟩ := hcut
  obtain ⟨w3, hw3⟩ : ∃ w3, w3 = wc := ⟨_, rfl⟩
  rw [← hw3] at HG3 hb3 ⊢
  clear hw3
  obtain ⟨X1, hX1⟩ : ∃ X1, X1 = splice X0 0 O1 := ⟨_, rfl⟩
  rw [← hX1] at HG3
  have HX1L : Hid (X1.length = 12) := by unfold Hid; rw [hX1, length_splice _ _ _ (by rw [HO1L.out, HX0L.out]; omega), HX0L.out]
  have HX1 := hid hX1
  have HB3 := hid hb3
  clear hX1 hb3
  go_upto_region 3 with fail
  go_cut [] from 4 (fun wx => Hid (wx.heap[h]? = some (.cells (splice X1 6 O2).toArray 86 (0, 0))) ∧ Below h w1 wx)
  case first =>
    have HBD := hid (below_drew HB3.out)
    have HPS : Hid (0 < O2.length → ∃ ad, some (⟨w.heap.size, 0, none⟩ : Addr) = some ad ∧ ∀ j v, O2[j]? = some v → w3.drew.cell? (ad.add j) = some v) := fun _ => ⟨_, rfl, HP2.out _ HBD.out⟩
    have HMN : Hid (O2.length = Nat.min 6 6) := HO2L.out
    have HFT : Hid (6 + O2.length ≤ X1.length) := by unfold Hid; rw [HO2L.out, HX1L.out]; omega
    go_region_law (first
      | (refine step_copy_splice rfl (.tmp 8) (.tmp 10) 29 29 rfl 5 Try.underlying29 size5 (some ⟨h, 6, none⟩) (some ⟨w.heap.size, 0, none⟩) 6 6 6 6 rfl rfl h 6 X1 86 HG3.out O2 HMN.out (fun hp => ⟨rfl, HPS.out hp⟩) HFT.out HO21.out h w1 HBD.out (Nat.le_refl _) ?_; intro w5 hg5 hb5)
      | fail)
    all_goals (
      go_wp2_with fail
      go_meet
      case rel => exact ⟨hg5, hb5⟩)
  case rest =>
  obtain ⟨HG4, hb4⟩ := hcut
  obtain ⟨w4, hw4⟩ : ∃ w4, w4 = wc := ⟨_, rfl⟩
  rw [← hw4] at HG4 hb4 ⊢
  clear hw4
  have hX2 : splice X1 6 O2 = bs (f.src ++ f.dst) := by
    have e1 : X1 = O1 ++ (bs [0, 0, 0, 0, 0, 0] ++ []) := by
      rw [HX1.out, HX0.out]
      show splice ([] ++ (bs [0, 0, 0, 0, 0, 0] ++ bs [0, 0, 0, 0, 0, 0])) ([] : List Value).length O1 = _
      rw [splice_mid (by rw [HO1L.out]; rfl)]
      rfl
    have e2 : splice X1 6 O2 = O1 ++ (O2 ++ []) := by
      rw [e1, ← HO1L.out, splice_mid (by rw [HO2L.out]; rfl)]
    rw [e2, HO1.out, HO2.out]
    simp [bs]
  have hB4 : BlkT 86 w4 h (f.src ++ f.dst) := by unfold BlkT; rw [← hX2]; exact HG4.out
  have hlen4 : (f.src ++ f.dst).length = 12 := by rw [List.length_append, HF.out.ok.dst, HF.out.ok.src]
  have hsee : SeesB w4 (.slice (some ⟨h, 0, none⟩) 12 12) (f.src ++ f.dst) := by
    have := hB4.sees (fun y hy => (List.mem_append.1 hy).elim (HF.out.src y) (HF.out.dst y)) 0 12 12 (by rw [hlen4]; omega) (Nat.le_refl _) (by unfold maxLen; omega)
    rwa [List.drop_zero, List.take_of_length_le (Nat.le_of_eq hlen4)] at this
  have HSE := hid hsee
  have HBE := hid (HBW.out _ hb4)
  clear hX2 hB4 hlen4 hsee hb4
  go_wp2_with fail
  go_ret
  exact ⟨h, rfl, HSE.out, HBE.out⟩

/-- What a frame's flow hangs on. -/
def keyL (f : Tn.Fr) : List Nat := if f.ty = 2048 ∧ (parsed f.B).2.2 = 0 then Tn.be4 (parsed f.B).1.src ++ Tn.be4 (parsed f.B).1.dst ++ [(parsed f.B).1.proto] else f.src ++ f.dst

def zeroPk : Array Value := #[.int .u8 0, .int .u16 0, .bool false, .bool false, .int .i64 0, .int .u8 0, .int .u8 0, .int .u32 0, .int .u32 0, .slice none 0 0, .slice none 0 0]

theorem parsed_ok {L : List Nat} (hb : ∀ x ∈ L, x < 256) (he : (parsed L).2.2 = 0) : (parsed L).1.Ok := by
  have hp : parsed L = (rdH (L.take (exam L true).2.1) (exam L true).1, (L.take (exam L true).2.1).drop (exam L true).1, 0) := by
    unfold parsed at he ⊢
    split at he
    · rename_i h; rw [if_pos h]
    · rename_i h; exact absurd he h
  rw [hp]
  have hx : ∀ x ∈ L.take (exam L true).2.1, x < 256 := fun x hx => hb x (List.mem_of_mem_take hx)
  generalize L.take (exam L true).2.1 = X at *
  generalize (exam L true).1 = k at *
  have b := fun i => byt_lt hx i
  have w := fun i => w16_lt hx i
  refine ⟨b 1, w 4, ?_, b 8, b 9, ?_, ?_⟩
  · show -9223372036854775808 ≤ ((w16 X 6 % 8192 * 8 : Nat) : Int) ∧ ((w16 X 6 % 8192 * 8 : Nat) : Int) ≤ 9223372036854775807
    omega
  · show w32 X 12 < 4294967296
    unfold w32
    have h1 := w 12
    have h2 := w (12 + 2)
    omega
  · show w32 X 16 < 4294967296
    unfold w32
    have h1 := w 16
    have h2 := w (16 + 2)
    omega


theorem flow_any (f : Tn.Fr) (vb : Value) (w : World) (hf : FrB f) (hvb : SeesB w vb f.B) (hl : f.B.length ≤ 140737488355328) :
    Calls Try.prog 24 #[.agg (frCells f vb)] w fun e w' => e = .returned (.int .u16 ((Tn.port (keyL f) : Nat) : Int)) ∧ Below w.heap.size w w' := by
  obtain ⟨ab, nb, capb, rfl, HNB, hnb1, hnb2⟩ := hvb.shape
  obtain ⟨fr, hfr⟩ : ∃ fr, fr = frCells f (.slice ab nb capb) := ⟨_, rfl⟩
  obtain ⟨w1, hw1⟩ : ∃ w1, w1 = w.alloc (.cells fr 31) := ⟨_, rfl⟩
  have hs1 : w1.heap.size = w.heap.size + 1 := by rw [hw1]; simp
  have hb1 : Below w.heap.size w w1 := by rw [hw1]; exact (Below.refl _ _).alloc (Nat.le_refl _) _
  have hr1 : w1.heap[w.heap.size]? = some (.cells (frCells f (.slice ab nb capb)) 31 (0, 0)) := by rw [hw1, ← hfr]; exact heap_alloc_new w _
  obtain ⟨c12, c13⟩ := fr_at hf.ok hr1
  have hty := hf.ok.ty
  have HLD : Hid (∀ u, Below w1.heap.size w1 u → (Instr.loadAt 31 (.pointer (some ⟨w.heap.size, 0, none⟩))).run Try.prog u = .ok (.agg fr) u) := fun u hu => by
    rw [hfr]
    exact load_rowAt ((hu.block _ (by omega)).trans hr1) Try.underlying31 rfl (by
      have : (frCells f (.slice ab nb capb)).size = 14 := by unfold frCells; simp only [List.size_toArray]; exact frc_len hf.ok.dst hf.ok.src _ _
      rw [this]; exact (show (Try.prog.info? 31).map (·.size) = some 14 from by kernel_rfl))
  have HFK : Hid (∀ u, Below w1.heap.size w1 u → Calls Try.prog 50 #[.agg fr] u fun e w' => ∃ g, e = .returned (.slice (some ⟨g, 0, none⟩) 12 12) ∧ SeesB w' (.slice (some ⟨g, 0, none⟩) 12 12) (f.src ++ f.dst) ∧ Below u.heap.size u w') := fun u _ => by rw [hfr]; exact frameKey_any f _ u hf
  have HPO := hid (fun (v : Value) (L : List Nat) (u : World) (h : SeesB u v L) => portOf_any v L u h)
  have HPA := hid (parse_code _ f.B w1 (hvb.below hb1) hl)
  have HBY := hid hvb.bytes
  have HB1 := hid hb1
  have HW1 := hid hw1
  rw [← hfr]
  clear hw1 hs1 hb1 hr1 hfr hvb
  have HTAIL : Hid (keyL f = f.src ++ f.dst → ∀ u, Below w1.heap.size w1 u → True) := fun _ _ _ => trivial
  by_cases h1 : f.ty = 2048
  · have HK : Hid (keyL f = if (parsed f.B).2.2 = 0 then Tn.be4 (parsed f.B).1.src ++ Tn.be4 (parsed f.B).1.dst ++ [(parsed f.B).1.proto] else f.src ++ f.dst) := by unfold Hid keyL; simp [h1]
    have HPK := hid (fun (he : (parsed f.B).2.2 = 0) (vo : Value) (u : World) => packetKey_any (parsed f.B).1 vo u (parsed_ok HBY.out he))
    rw [h1] at c12
    obtain ⟨KL, hKL⟩ : ∃ KL, KL = keyL f := ⟨_, rfl⟩
    rw [← hKL] at HK ⊢
    generalize parsed f.B = P at *
    obtain ⟨hd, B, E⟩ := P
    simp only at *
    clear hKL h1
    go_enter Try.func24, Try.ntmps24
    go_upto_region 1 with fail
    rw [← HW1.out]
    go_wp2_with fail
    refine HPA.out.mono ?_
    rintro _ w2 ⟨vo, v2, rfl, hso, hs2, hb2⟩
    obtain ⟨ao, no, co, rfl, _, _, _⟩ := hso.shape
    obtain ⟨a2, n2, c2, rfl, _, _, _⟩ := hs2.shape
    obtain ⟨pa, hpa⟩ : ∃ pa, pa = pkCells hd (.slice ao no co) (.slice a2 n2 c2) := ⟨_, rfl⟩
    obtain ⟨p, hp⟩ : ∃ p, p = w2.heap.size := ⟨_, rfl⟩
    obtain ⟨w3, hw3⟩ : ∃ w3, w3 = (w2.alloc (.cells zeroPk 77)).setCells p 0 pa.toList := ⟨_, rfl⟩
    have hps : pa.size = 11 := by rw [hpa]; rfl
    have HIP : Hid ((Try.prog.info? 77).map (·.size) = some pa.size) := by unfold Hid; rw [hps]; kernel_rfl
    have hrp : (w2.alloc (.cells zeroPk 77)).heap[p]? = some (.cells zeroPk 77 (0, 0)) := by rw [hp]; exact heap_alloc_new w2 _
    have HTP : Hid ((w2.alloc (.cells zeroPk 77)).there p 0 pa.size) := there_blk hrp (by rw [hps]; rfl)
    have HOP : Hid (pa.all (·.oneCell') = true) := by unfold Hid; rw [hpa]; simp [pkCells, Value.oneCell']
    have hr3 : w3.heap[p]? = some (.cells (pkCells hd (.slice ao no co) (.slice a2 n2 c2)) 77 (0, 0)) := by rw [hw3, ← hpa]; exact row_put hrp (by rw [hps]; rfl)
    have hb23 : Below w2.heap.size w2 w3 := by rw [hw3]; exact below_setCells' (by omega) _ _ _ ((Below.refl _ _).alloc (Nat.le_refl _) _)
    have hb13 := hb2.trans (hb23.mono hb2.size)
    have HLH := hid (pk_loadH hr3)
    have HB13 := hid hb13
    have HL3 := hid (HLD.out w3 hb13)
    have HW3 := hid hw3
    have HP := hid hp
    unfold zeroPk at HW3 HTP
    obtain ⟨hc, hhc⟩ : ∃ hc, hc = hdCells hd (.slice ao no co) := ⟨_, rfl⟩
    rw [← hhc] at HLH
    have HHC := hid hhc
    rw [← hpa]
    clear hpa hp hw3 hps hrp hr3 hb23 hb2 hb13 hso hs2 HPA hhc
    go_upto_region 3 with (first
      | (rw [← HP.out]; refine wpList_store_mid rfl 77 (.tmp 3) (.tmp 12) rfl p 0 pa rfl rfl HTP.out HIP.out HOP.out ?_; rw [← HW3.out])
      | fail)
    by_cases hE : E = 0
    · subst hE
      have hKL : KL = Tn.be4 hd.src ++ Tn.be4 hd.dst ++ [hd.proto] := by rw [HK.out, if_pos rfl]
      have X3 := hid (HPK.out rfl (.slice ao no co) w3)
      rw [← HHC.out, ← hKL] at X3
      clear hKL
      go_wp2_with (first
        | (refine wpList_ld 74 ⟨p, 0, none⟩ _ rfl rfl HLH.out rfl ?_)
        | fail)
      refine X3.out.mono ?_
      rintro _ w4 ⟨g, rfl, hs4, hb4⟩
      have X4 := hid (HPO.out _ KL w4 hs4)
      have HB4 := hid (HB13.out.trans (hb4.mono HB13.out.size))
      clear hs4 hb4 X3
      go_wp2_with fail
      refine X4.out.mono ?_
      rintro _ w5 ⟨rfl, rfl⟩
      go_wp2_with fail
      go_ret
      exact ⟨rfl, HB1.out.trans (HB4.out.mono HB1.out.size)⟩
    · have hKL : KL = f.src ++ f.dst := by rw [HK.out, if_neg hE]
      have q1 : (E == 0) = false := by simp [hE]
      have X3 := hid (HFK.out w3 HB13.out)
      rw [← hKL] at X3
      clear hKL
      go_wp2_with (first
        | (refine wpList_ld 31 ⟨w.heap.size, 0, none⟩ _ rfl rfl HL3.out rfl ?_)
        | fail)
      refine X3.out.mono ?_
      rintro _ w4 ⟨g, rfl, hs4, hb4⟩
      have X4 := hid (HPO.out _ KL w4 hs4)
      have HB4 := hid (HB13.out.trans (hb4.mono HB13.out.size))
      clear hs4 hb4 X3
      go_wp2_with fail
      refine X4.out.mono ?_
      rintro _ w5 ⟨rfl, rfl⟩
      go_wp2_with fail
      go_ret
      exact ⟨rfl, HB1.out.trans (HB4.out.mono HB1.out.size)⟩
  · have HK : Hid (keyL f = f.src ++ f.dst) := by unfold Hid keyL; simp [h1]
    obtain ⟨KL, hKL⟩ : ∃ KL, KL = keyL f := ⟨_, rfl⟩
    rw [← hKL] at HK ⊢
    have q1 : ((f.ty : Int) == 2048) = false := by simp; omega
    have X3 := hid (HFK.out w1 (Below.refl _ _))
    rw [← HK.out] at X3
    have HL1 := hid (HLD.out w1 (Below.refl _ _))
    clear hKL
    go_enter Try.func24, Try.ntmps24
    go_upto_region 1 with fail
    rw [← HW1.out]
    go_wp2_with (first
      | (refine wpList_ld 31 ⟨w.heap.size, 0, none⟩ _ rfl rfl HL1.out rfl ?_)
      | fail)
    refine X3.out.mono ?_
    rintro _ w4 ⟨g, rfl, hs4, hb4⟩
    have X4 := hid (HPO.out _ KL w4 hs4)
    have HB4 := hid hb4
    clear hs4 hb4 X3
    go_wp2_with fail
    refine X4.out.mono ?_
    rintro _ w5 ⟨rfl, rfl⟩
    go_wp2_with fail
    go_ret
    exact ⟨rfl, HB1.out.trans (HB4.out.mono HB1.out.size)⟩
end Go.Proofs.Ytcelcnafcfefhab.N

/-
  weftref7: key, Flow.
-/
namespace Go.Proofs.Ytcelcnafcfefhab.N
open Go.ChangeShapes Go.WideShapes Go.ChangeAt Go.RowKit
set_option maxHeartbeats 8000000
set_option maxRecDepth 100000

theorem keyR_any (f : Tn.Fr) (vb : Value) (w : World) (hf : FrB f) (hvb : SeesB w vb f.B) (hl : f.B.length ≤ 140737488355328) :
    Calls Try.prog 51 #[.agg (frCells f vb)] w fun e w' => ∃ l, e = .returned l ∧ OwnB w' w.heap.size l (keyL f) ∧ Below w.heap.size w w' := by
  obtain ⟨ab, nb, capb, rfl, HNB, hnb1, hnb2⟩ := hvb.shape
  obtain ⟨fr, hfr⟩ : ∃ fr, fr = frCells f (.slice ab nb capb) := ⟨_, rfl⟩
  obtain ⟨w1, hw1⟩ : ∃ w1, w1 = w.alloc (.cells fr 31) := ⟨_, rfl⟩
  have hs1 : w1.heap.size = w.heap.size + 1 := by rw [hw1]; simp
  have hb1 : Below w.heap.size w w1 := by rw [hw1]; exact (Below.refl _ _).alloc (Nat.le_refl _) _
  have hr1 : w1.heap[w.heap.size]? = some (.cells (frCells f (.slice ab nb capb)) 31 (0, 0)) := by rw [hw1, ← hfr]; exact heap_alloc_new w _
  have HRW : Hid (∀ u, Below w1.heap.size w1 u → u.heap[w.heap.size]? = some (.cells (frCells f (.slice ab nb capb)) 31 (0, 0))) := fun u hu => (hu.block _ (by omega)).trans hr1
  obtain ⟨c12, c13⟩ := fr_at hf.ok hr1
  have hty := hf.ok.ty
  have HDD : Hid (∀ (k : Nat) (u : World), k < 6 → Below w1.heap.size w1 u → ∃ x : Nat, x < 256 ∧ u.cell? ⟨w.heap.size, k, none⟩ = some (.int .u8 (x : Int)) ∧ Hid (f.src ++ (f.dst.take k ++ [x]) = f.src ++ f.dst.take (k + 1))) := fun k u hk hu => by
    have hkl : k < f.dst.length := by rw [hf.ok.dst]; exact hk
    refine ⟨f.dst[k], hf.dst _ (List.getElem_mem _), ?_, ?_⟩
    · rw [cell_fr (HRW.out u hu) k, frc_dst hf.ok.dst f.ty _ k hk, bs_get hkl]
    · unfold Hid; rw [List.take_succ_eq_append_getElem hkl]
  have HSS : Hid (∀ (k : Nat) (u : World), k < 6 → Below w1.heap.size w1 u → ∃ x : Nat, x < 256 ∧ u.cell? ⟨w.heap.size, 6 + k, none⟩ = some (.int .u8 (x : Int)) ∧ Hid (f.src.take k ++ [x] = f.src.take (k + 1))) := fun k u hk hu => by
    have hkl : k < f.src.length := by rw [hf.ok.src]; exact hk
    refine ⟨f.src[k], hf.src _ (List.getElem_mem _), ?_, ?_⟩
    · rw [cell_fr (HRW.out u hu) (6 + k), frc_src hf.ok.dst hf.ok.src f.ty _ k hk, bs_get hkl]
    · unfold Hid; rw [List.take_succ_eq_append_getElem hkl]
  have HDL : Hid (f.dst.take 6 = f.dst) := by unfold Hid; rw [List.take_of_length_le (by rw [hf.ok.dst]; omega)]
  have HSL : Hid (f.src.take 6 = f.src) := by unfold Hid; rw [List.take_of_length_le (by rw [hf.ok.src]; omega)]
  have HD6 := hid hf.ok.src
  have HPA := hid (parse_ref _ f.B w1 (hvb.below hb1) hl)
  have HBY := hid hvb.bytes
  have HB1 := hid hb1
  have HW1 := hid hw1
  rw [← hfr]
  clear hw1 hs1 hb1 hr1 hfr hvb
  by_cases h1 : f.ty = 2048
  · have HK : Hid (keyL f = if (parsed f.B).2.2 = 0 then Tn.be4 (parsed f.B).1.src ++ Tn.be4 (parsed f.B).1.dst ++ [(parsed f.B).1.proto] else f.src ++ f.dst) := by unfold Hid keyL; simp [h1]
    have HOK := hid (fun (he : (parsed f.B).2.2 = 0) => parsed_ok HBY.out he)
    rw [h1] at c12
    obtain ⟨KL, hKL⟩ : ∃ KL, KL = keyL f := ⟨_, rfl⟩
    rw [← hKL] at HK ⊢
    generalize parsed f.B = P at *
    obtain ⟨hd, B, E⟩ := P
    simp only at *
    clear hKL h1
    go_enter Try.func51, Try.ntmps51
    go_upto_region 1 with fail
    rw [← HW1.out]
    go_wp2_with fail
    refine HPA.out.mono ?_
    rintro _ w2 ⟨vo, v2, rfl, hso, hs2, hb2⟩
    obtain ⟨ao, no, co, rfl, _, _, _⟩ := hso.shape
    obtain ⟨a2, n2, c2, rfl, _, _, _⟩ := hs2.shape
    obtain ⟨pa, hpa⟩ : ∃ pa, pa = pkCells hd (.slice ao no co) (.slice a2 n2 c2) := ⟨_, rfl⟩
    obtain ⟨p, hp⟩ : ∃ p, p = w2.heap.size := ⟨_, rfl⟩
    obtain ⟨w3, hw3⟩ : ∃ w3, w3 = (w2.alloc (.cells zeroPk 77)).setCells p 0 pa.toList := ⟨_, rfl⟩
    have hps : pa.size = 11 := by rw [hpa]; rfl
    have HIP : Hid ((Try.prog.info? 77).map (·.size) = some pa.size) := by unfold Hid; rw [hps]; kernel_rfl
    have hrp : (w2.alloc (.cells zeroPk 77)).heap[p]? = some (.cells zeroPk 77 (0, 0)) := by rw [hp]; exact heap_alloc_new w2 _
    have HTP : Hid ((w2.alloc (.cells zeroPk 77)).there p 0 pa.size) := there_blk hrp (by rw [hps]; rfl)
    have HOP : Hid (pa.all (·.oneCell') = true) := by unfold Hid; rw [hpa]; simp [pkCells, Value.oneCell']
    have hr3 : w3.heap[p]? = some (.cells (pkCells hd (.slice ao no co) (.slice a2 n2 c2)) 77 (0, 0)) := by rw [hw3, ← hpa]; exact row_put hrp (by rw [hps]; rfl)
    have hb23 : Below w2.heap.size w2 w3 := by rw [hw3]; exact below_setCells' (by omega) _ _ _ ((Below.refl _ _).alloc (Nat.le_refl _) _)
    have hb13 := hb2.trans (hb23.mono hb2.size)
    have HB13 := hid hb13
    have HPK : Hid (∀ u, Below w3.heap.size w3 u → u.cell? ⟨p, 6, none⟩ = some (.int .u8 (hd.proto : Int)) ∧ u.cell? ⟨p, 7, none⟩ = some (.int .u32 (hd.src : Int)) ∧ u.cell? ⟨p, 8, none⟩ = some (.int .u32 (hd.dst : Int))) := fun u hu => by
      have hr := (hu.block p (Array.getElem?_eq_some_iff.1 hr3).1).trans hr3
      exact ⟨pk_at hr 6 (by omega), pk_at hr 7 (by omega), pk_at hr 8 (by omega)⟩
    have HW3 := hid hw3
    have HP := hid hp
    unfold zeroPk at HW3 HTP
    rw [← hpa]
    clear hpa hp hw3 hps hrp hr3 hb23 hb2 hb13 hso hs2 HPA
    go_upto_region 4 with (first
      | (rw [← HP.out]; refine wpList_store_mid rfl 77 (.tmp 4) (.tmp 15) rfl p 0 pa rfl rfl HTP.out HIP.out HOP.out ?_; rw [← HW3.out])
      | fail)
    by_cases hE : E = 0
    · subst hE
      obtain ⟨d6, d7, d8⟩ := HPK.out w3 (Below.refl _ _)
      have hok := HOK.out rfl
      have hsrc := hok.src
      have hdst := hok.dst
      have hpr := hok.proto
      have hKL : KL = [] ++ laidL hd.src 4 ++ laidL hd.dst 4 ++ [hd.proto] := by rw [HK.out, if_pos rfl, laidL_four, laidL_four]; rfl
      have HKL := hid hKL
      have X1 := hid (laidR_any (.slice none 0 0) [] hd.src 4 w3 w3 (Below.refl _ _) (ownB_nil _ _) (by omega) (by omega) (by simp))
      clear hKL hok
      go_wp2_with fail
      refine X1.out.mono ?_
      rintro _ w4 ⟨l4, rfl, ho4, hb4⟩
      obtain ⟨d6, d7, d8⟩ := HPK.out w4 hb4
      have X2 := hid (laidR_any l4 _ hd.dst 4 w3 w4 hb4 ho4 (by omega) (by omega) (by simp [laidL_len]))
      clear ho4 hb4 X1
      go_wp2_with fail
      refine X2.out.mono ?_
      rintro _ w5 ⟨l5, rfl, ho5, hb5⟩
      obtain ⟨d6, d7, d8⟩ := HPK.out w5 hb5
      have HO5 := hid ho5
      have hbz := hb5
      have HLE : Hid (([] ++ laidL hd.src 4 ++ laidL hd.dst 4).length + [hd.proto].length ≤ 140737488355328) := by unfold Hid; simp [laidL_len]
      clear ho5 X2
      go_wp2_with (at_builtin; refine wpList_append_bytes rfl _ _ rfl w3.heap.size _ _ rfl (HO5.out.alloc _) _ [hd.proto] rfl (sees_one rfl hd.proto hpr _) ?c1 ?c2 ?_)
      case c1 => exact HLE.out
      case c2 => have := hbz.size; simp; omega
      intro v6 w6 ho6 hb6
      have hb36 : Below w3.heap.size w3 w6 := (hbz.alloc hbz.size _).trans hb6
      have ho7 : OwnB w6 w.heap.size v6 KL := by
        rw [HKL.out]
        have h0 := ho6.mono (Nat.le_trans HB1.out.size HB13.out.size)
        simpa using h0
      have HO7 := hid ho7
      have HB7 := hid (HB1.out.trans ((HB13.out.trans (hb36.mono HB13.out.size)).mono HB1.out.size))
      clear ho6 hb6 hb36 ho7 hbz
      go_wp2_with fail
      go_ret
      exact ⟨_, rfl, HO7.out, HB7.out⟩
    · have hKL : KL = f.src ++ f.dst := by rw [HK.out, if_neg hE]
      have HKL := hid hKL
      have q1 : (E == 0) = false := by simp [hE]
      clear hKL c13 c12
      go_wp2_with fail
      go_loopw [3, 6] (fun t i wv => ∃ (k : Nat) (wr : World), i = .int .i64 (k : Int) ∧ k ≤ 6 ∧ wr = wv ∧ Hid (OwnB wr w1.heap.size t (f.src.take k)) ∧ Below w1.heap.size w1 wr) (fun _ i _ => 6 - (intOf i).toNat)
      case atStart => exact ⟨0, _, rfl, by omega, rfl, ownB_nil _ _, HB13.out⟩
      case round =>
        obtain ⟨k, wr, rfl, hk, rfl, HOK, hb⟩ := hrel
        by_cases hlt : k < 6
        · obtain ⟨x, hx, hc, HX⟩ := HSS.out k wr hlt hb
          have b0 : (k : Int) < 6 := by omega
          have b1 : (0 : Int) ≤ (k : Int) := by omega
          have HLE : Hid ((f.src.take k).length + [x].length ≤ 140737488355328) := by unfold Hid; simp only [List.length_take, List.length_cons, List.length_nil]; have := HD6.out; omega
          go_wp2_with (at_builtin; refine wpList_append_bytes rfl _ _ rfl w1.heap.size _ _ rfl (HOK.out.alloc _) _ [x] rfl (sees_one rfl x hx _) ?c1 ?c2 ?_)
          case c1 => exact HLE.out
          case c2 => have := hb.size; simp; omega
          intro v' w2 ho hb2
          rw [HX.out] at ho
          have HO2 := hid ho
          have hb3 : Below w1.heap.size w1 w2 := (hb.alloc hb.size _).trans hb2
          clear ho hb2 hc
          go_wp2_with fail
          go_roundw
          case rel => exact ⟨k + 1, _, by go_num, by omega, rfl, HO2, hb3⟩
          case measure => simp [intOf]; omega
        · have hk6 : k = 6 := by omega
          rw [hk6, HSL.out] at HOK
          have hge : ¬ (k : Int) < 6 := by omega
          clear hk6
          go_wp2_with fail
          go_loopw [3, 7] (fun t i wv => ∃ (k : Nat) (wr : World), i = .int .i64 (k : Int) ∧ k ≤ 6 ∧ wr = wv ∧ Hid (OwnB wr w1.heap.size t (f.src ++ f.dst.take k)) ∧ Below w1.heap.size w1 wr) (fun _ i _ => 6 - (intOf i).toNat)
          case atStart => exact ⟨0, _, rfl, by omega, rfl, by unfold Hid; rw [List.take_zero, List.append_nil]; exact HOK.out, hb⟩
          case round =>
            clear hb HOK
            obtain ⟨k, wr, rfl, hk, rfl, HOK, hb⟩ := hrel
            by_cases hlt : k < 6
            · obtain ⟨x, hx, hc, HX⟩ := HDD.out k wr hlt hb
              have b0 : (k : Int) < 6 := by omega
              have b1 : (0 : Int) ≤ (k : Int) := by omega
              have HLE : Hid ((f.src ++ f.dst.take k).length + [x].length ≤ 140737488355328) := by unfold Hid; simp only [List.length_append, List.length_take, List.length_cons, List.length_nil]; have := HD6.out; omega
              go_wp2_with (at_builtin; refine wpList_append_bytes rfl _ _ rfl w1.heap.size _ _ rfl (HOK.out.alloc _) _ [x] rfl (sees_one rfl x hx _) ?c1 ?c2 ?_)
              case c1 => exact HLE.out
              case c2 => have := hb.size; simp; omega
              intro v' w2 ho hb2
              rw [HX.out] at ho
              have HO2 := hid ho
              have hb3 : Below w1.heap.size w1 w2 := (hb.alloc hb.size _).trans hb2
              clear ho hb2 hc
              go_wp2_with fail
              go_roundw
              case rel => exact ⟨k + 1, _, by go_num, by omega, rfl, HO2, hb3⟩
              case measure => simp [intOf]; omega
            · have hk6 : k = 6 := by omega
              rw [hk6, HDL.out] at HOK
              have hge : ¬ (k : Int) < 6 := by omega
              clear hk6
              go_wp2_with fail
              go_ret
              exact ⟨_, rfl, by rw [HKL.out]; exact HOK.out.mono HB1.out.size, HB1.out.trans (hb.mono HB1.out.size)⟩
  · have HKL : Hid (keyL f = f.src ++ f.dst) := by unfold Hid keyL; simp [h1]
    have q1 : ((f.ty : Int) == 2048) = false := by simp; omega
    go_enter Try.func51, Try.ntmps51
    go_upto_region 1 with fail
    rw [← HW1.out]
    go_wp2_with fail
    go_loopw [3, 6] (fun t i wv => ∃ (k : Nat) (wr : World), i = .int .i64 (k : Int) ∧ k ≤ 6 ∧ wr = wv ∧ Hid (OwnB wr w1.heap.size t (f.src.take k)) ∧ Below w1.heap.size w1 wr) (fun _ i _ => 6 - (intOf i).toNat)
    case atStart => exact ⟨0, _, rfl, by omega, rfl, ownB_nil _ _, Below.refl _ _⟩
    case round =>
      clear c12 c13
      obtain ⟨k, wr, rfl, hk, rfl, HOK, hb⟩ := hrel
      by_cases hlt : k < 6
      · obtain ⟨x, hx, hc, HX⟩ := HSS.out k wr hlt hb
        have b0 : (k : Int) < 6 := by omega
        have b1 : (0 : Int) ≤ (k : Int) := by omega
        have HLE : Hid ((f.src.take k).length + [x].length ≤ 140737488355328) := by unfold Hid; simp only [List.length_take, List.length_cons, List.length_nil]; have := HD6.out; omega
        go_wp2_with (at_builtin; refine wpList_append_bytes rfl _ _ rfl w1.heap.size _ _ rfl (HOK.out.alloc _) _ [x] rfl (sees_one rfl x hx _) ?c1 ?c2 ?_)
        case c1 => exact HLE.out
        case c2 => have := hb.size; simp; omega
        intro v' w2 ho hb2
        rw [HX.out] at ho
        have HO2 := hid ho
        have hb3 : Below w1.heap.size w1 w2 := (hb.alloc hb.size _).trans hb2
        clear ho hb2 hc
        go_wp2_with fail
        go_roundw
        case rel => exact ⟨k + 1, _, by go_num, by omega, rfl, HO2, hb3⟩
        case measure => simp [intOf]; omega
      · have hk6 : k = 6 := by omega
        rw [hk6, HSL.out] at HOK
        have hge : ¬ (k : Int) < 6 := by omega
        clear hk6
        go_wp2_with fail
        go_loopw [3, 7] (fun t i wv => ∃ (k : Nat) (wr : World), i = .int .i64 (k : Int) ∧ k ≤ 6 ∧ wr = wv ∧ Hid (OwnB wr w1.heap.size t (f.src ++ f.dst.take k)) ∧ Below w1.heap.size w1 wr) (fun _ i _ => 6 - (intOf i).toNat)
        case atStart => exact ⟨0, _, rfl, by omega, rfl, by unfold Hid; rw [List.take_zero, List.append_nil]; exact HOK.out, hb⟩
        case round =>
          clear hb HOK
          obtain ⟨k, wr, rfl, hk, rfl, HOK, hb⟩ := hrel
          by_cases hlt : k < 6
          · obtain ⟨x, hx, hc, HX⟩ := HDD.out k wr hlt hb
            have b0 : (k : Int) < 6 := by omega
            have b1 : (0 : Int) ≤ (k : Int) := by omega
            have HLE : Hid ((f.src ++ f.dst.take k).length + [x].length ≤ 140737488355328) := by unfold Hid; simp only [List.length_append, List.length_take, List.length_cons, List.length_nil]; have := HD6.out; omega
            go_wp2_with (at_builtin; refine wpList_append_bytes rfl _ _ rfl w1.heap.size _ _ rfl (HOK.out.alloc _) _ [x] rfl (sees_one rfl x hx _) ?c1 ?c2 ?_)
            case c1 => exact HLE.out
            case c2 => have := hb.size; simp; omega
            intro v' w2 ho hb2
            rw [HX.out] at ho
            have HO2 := hid ho
            have hb3 : Below w1.heap.size w1 w2 := (hb.alloc hb.size _).trans hb2
            clear ho hb2 hc
            go_wp2_with fail
            go_roundw
            case rel => exact ⟨k + 1, _, by go_num, by omega, rfl, HO2, hb3⟩
            case measure => simp [intOf]; omega
          · have hk6 : k = 6 := by omega
            rw [hk6, HDL.out] at HOK
            have hge : ¬ (k : Int) < 6 := by omega
            clear hk6
            go_wp2_with fail
            go_ret
            exact ⟨_, rfl, by rw [HKL.out]; exact HOK.out.mono HB1.out.size, HB1.out.trans (hb.mono HB1.out.size)⟩

theorem pows_lt (L : List Nat) : (Tn.pows L).1 < 65521 ∧ (Tn.pows L).2 < 65521 := by
  cases L with
  | nil => exact ⟨by decide, by decide⟩
  | cons x L => exact ⟨Nat.mod_lt _ (by omega), Nat.mod_lt _ (by omega)⟩

theorem flowR_any (f : Tn.Fr) (vb : Value) (w : World) (hf : FrB f) (hvb : SeesB w vb f.B) (hl : f.B.length ≤ 140737488355328) :
    Calls Try.prog 25 #[.agg (frCells f vb)] w fun e w' => e = .returned (.int .u16 ((Tn.port (keyL f) : Nat) : Int)) ∧ Below w.heap.size w w' := by
  obtain ⟨ab, nb, capb, rfl, HNB, hnb1, hnb2⟩ := hvb.shape
  obtain ⟨fr, hfr⟩ : ∃ fr, fr = frCells f (.slice ab nb capb) := ⟨_, rfl⟩
  obtain ⟨w1, hw1⟩ : ∃ w1, w1 = w.alloc (.cells fr 31) := ⟨_, rfl⟩
  have hb1 : Below w.heap.size w w1 := by rw [hw1]; exact (Below.refl _ _).alloc (Nat.le_refl _) _
  have hr1 : w1.heap[w.heap.size]? = some (.cells (frCells f (.slice ab nb capb)) 31 (0, 0)) := by rw [hw1, ← hfr]; exact heap_alloc_new w _
  have HLD : Hid ((Instr.loadAt 31 (.pointer (some ⟨w.heap.size, 0, none⟩))).run Try.prog w1 = .ok (.agg fr) w1) := by
    unfold Hid
    rw [hfr]
    exact load_rowAt hr1 Try.underlying31 rfl (by
      have : (frCells f (.slice ab nb capb)).size = 14 := by unfold frCells; simp only [List.size_toArray]; exact frc_len hf.ok.dst hf.ok.src _ _
      rw [this]; exact (show (Try.prog.info? 31).map (·.size) = some 14 from by kernel_rfl))
  have HX := hid (keyR_any f _ w1 hf (hvb.below hb1) hl)
  rw [← hfr] at HX ⊢
  have hkb : ∀ y ∈ keyL f, y < 256 := fun y hy => by
    unfold keyL at hy
    split at hy
    · rename_i h
      have hok := parsed_ok hvb.bytes h.2
      have := hok.proto
      simp only [Tn.be4, List.mem_append, List.mem_cons, List.not_mem_nil, or_false] at hy
      omega
    · exact (List.mem_append.1 hy).elim (hf.src y) (hf.dst y)
  have HKB := hid hkb
  have hkn : (keyL f).length ≤ 12 := by
    unfold keyL
    split
    · simp [Tn.be4]
    · rw [List.length_append, hf.ok.src, hf.ok.dst]; omega
  have hpr := Tn.port_ref (keyL f)
  obtain ⟨P, hP⟩ : ∃ P, P = Tn.port (keyL f) := ⟨_, rfl⟩
  rw [← hP] at hpr ⊢
  have HPR := hid hpr
  generalize keyL f = K at *
  have HB1 := hid hb1
  have HW1 := hid hw1
  clear hw1 hb1 hr1 hfr hvb hkb hP hpr
  go_enter Try.func25, Try.ntmps25
  go_upto_region 1 with fail
  rw [← HW1.out]
  go_wp2_with (first
    | (refine wpList_ld 31 ⟨w.heap.size, 0, none⟩ _ rfl rfl HLD.out rfl ?_)
    | fail)
  refine HX.out.mono ?_
  rintro _ w2 ⟨l2, rfl, ho2, hb2⟩
  have hs2 := ho2.sees HKB.out
  obtain ⟨ao, n, cap, rfl, HN, hn1, hn2⟩ := hs2.shape
  have hn12 : n ≤ 12 := by rw [HN.out]; exact hkn
  have HS2 := hid hs2
  have HB2 := hid hb2
  clear ho2 hb2 hs2 hkn HX HLD
  go_wp2_with fail
  go_loopw [4, 5, 6] (fun t p i wv => ∃ (k a b : Nat) (wr : World), i = .int .i64 ((k : Int) - 1) ∧ k ≤ n ∧ t = .int .i64 (a : Int) ∧ p = .int .i64 (b : Int) ∧ a < 65521 ∧ b < 65521 ∧ Hid (Tn.pows (K.drop k) = (a, b)) ∧ wr = wv ∧ wr = w2) (fun _ _ i _ => (intOf i + 1).toNat)
  case atStart => exact ⟨n, 0, 1, _, rfl, Nat.le_refl _, rfl, rfl, by omega, by omega, by unfold Hid; rw [List.drop_eq_nil_of_le (by rw [HN.out]; exact Nat.le_refl _)]; rfl, rfl, rfl⟩
  case round =>
    obtain ⟨k, a, b, wr, rfl, hk, rfl, rfl, ha, hbb, HK, rfl, rfl⟩ := hrel
    cases k with
    | zero =>
      have hpw := HK.out
      rw [List.drop_zero] at hpw
      have hPv : (P : Int) = 49152 + ((a : Int) + (b : Int)) % 65521 % 16384 := by
        have := HPR.out
        rw [hpw] at this
        simp only at this
        omega
      have HPV := hid hPv
      have m1 : ((a : Int) + (b : Int)).tmod 65521 = ((a : Int) + (b : Int)) % 65521 := Int.tmod_eq_emod_of_nonneg (by omega)
      have m2 : (((a : Int) + (b : Int)) % 65521).tmod 16384 = ((a : Int) + (b : Int)) % 65521 % 16384 := Int.tmod_eq_emod_of_nonneg (by omega)
      clear hpw hPv
      go_wp2_with fail
      go_ret
      exact ⟨ret_int (by rw [HPV.out]), HB1.out.trans (HB2.out.mono HB1.out.size)⟩
    | succ j =>
      have ej : ((j + 1 : Nat) : Int) - 1 = (j : Int) := by omega
      rw [ej]
      clear ej
      obtain ⟨g, off, rfl, _, hc⟩ := HS2.out.atB j (by omega)
      have hx := byt_lt HKB.out j
      have HNX : Hid (Tn.pows (K.drop j) = ((a + (byt K j + 1) * b) % 65521, b * 251 % 65521)) := by
        unfold Hid
        have hjl : j < K.length := by rw [← HN.out]; omega
        rw [List.drop_eq_getElem_cons hjl, Tn.pows, HK.out]
        simp [byt, hjl]
      generalize byt K j = x at *
      obtain ⟨y, hy⟩ : ∃ y, y = (x + 1) * b := ⟨_, rfl⟩
      have hyl : y ≤ 256 * 65520 := by rw [hy]; exact Nat.mul_le_mul (by omega) (by omega)
      have ey : ((x : Int) + 1) * (b : Int) = (y : Int) := by rw [hy]; simp
      rw [← hy] at HNX
      have b0 : (j : Int) < (n : Int) := by omega
      have b1 : (0 : Int) ≤ (j : Int) := by omega
      have m1 : ((a : Int) + (y : Int)).tmod 65521 = (((a + y) % 65521 : Nat) : Int) := by
        rw [Int.tmod_eq_emod_of_nonneg (by omega)]; omega
      have m2 : ((b : Int) * 251).tmod 65521 = ((b * 251 % 65521 : Nat) : Int) := by
        rw [Int.tmod_eq_emod_of_nonneg (by omega)]; omega
      have m1' : ((a : Int) + (y : Int)) % 65521 = (((a + y) % 65521 : Nat) : Int) := by omega
      have m2' : ((b : Int) * 251) % 65521 = ((b * 251 % 65521 : Nat) : Int) := by omega
      have l1 : (a + y) % 65521 < 65521 := Nat.mod_lt _ (by omega)
      have l2 : b * 251 % 65521 < 65521 := Nat.mod_lt _ (by omega)
      generalize (a + y) % 65521 = A2 at *
      generalize b * 251 % 65521 = B2 at *
      clear hy
      go_wp2_with fail
      go_roundw
      case rel => exact ⟨j, A2, B2, _, by go_num, by omega, by go_num, by go_num, l1, l2, HNX, rfl, rfl⟩
      case measure => simp [intOf]
end Go.Proofs.Ytcelcnafcfefhab.N

/-
  TunnelFlows: the walk.
-/
namespace Go.Proofs.Ytcelcnafcfefhab.N
open Go.ChangeShapes Go.WideShapes Go.ChangeAt Go.RowKit
set_option maxHeartbeats 8000000
set_option maxRecDepth 100000

theorem tunnelFlows_walk (v : Value) (Os : List FrD) (w : World) (hv2 : SeesR w v 14 (Os.map FrD.cells)) (ho : ∀ o ∈ Os, o.Ok w) :
    Calls Try.prog 5 #[v] w fun e w' => e = .returned (.bool true) ∧ Below w.heap.size w w' := by
  obtain ⟨ao, cap, rfl, hnc, hcap, hcell⟩ := hv2
  obtain ⟨n, hn⟩ : ∃ n, n = Os.length := ⟨_, rfl⟩
  have hlen : (Os.map FrD.cells).length = n := by rw [List.length_map, hn]
  rw [hlen] at hnc ⊢
  have HC : Hid (∀ j (h : j < n), ∃ (o : FrD) (g off : Nat), o.Ok w ∧ ao = some ⟨g, off, none⟩ ∧ g < w.heap.size ∧ w.rangeAt g (off + j * 14) o.cells) := fun j h => by
    obtain ⟨_, g, off, h1, h2, h3⟩ := hcell j (by rw [hlen]; exact h)
    have hj : j < Os.length := by rw [← hn]; exact h
    refine ⟨Os[j], g, off, ho _ (List.getElem_mem _), h1, h2, ?_⟩
    simpa using h3
  have HBE := hid (begun_any w)
  have hi14 : (Try.prog.info? 31).map (·.size) = some 14 := by kernel_rfl
  have HI14 := hid hi14
  unfold maxLen at hcap
  clear hcell ho hn hlen hi14
  go_enter Try.func5, Try.ntmps5
  go_wp2_with fail
  refine HBE.out.mono ?_
  rintro _ w1 ⟨rfl, hb1⟩
  go_wp2_with fail
  go_loopw [4, 5, 6, 7, 8] (fun i _ _ _ _ wv => ∃ (k : Nat) (wr : World), i = .int .i64 (k : Int) ∧ k ≤ n ∧ wr = wv ∧ Below w.heap.size w wr) (fun i _ _ _ _ _ => n - (intOf i).toNat)
  case atStart => exact ⟨0, _, rfl, by omega, rfl, hb1⟩
  case round =>
    clear hb1
    obtain ⟨k, wr, rfl, hk, rfl, hb⟩ := hrel
    by_cases hlt : k < n
    · obtain ⟨o, g, off, hok, rfl, hg, hrange⟩ := HC.out k hlt
      obtain ⟨ab, nb, capb, hvb, HNB, hnb1, hnb2⟩ := hok.vb.shape
      have hsb := hok.vb
      rw [hvb] at hsb
      obtain ⟨fr, hfr⟩ : ∃ fr, fr = frCells o.f (.slice ab nb capb) := ⟨_, rfl⟩
      have hcs : o.cells = fr.toList := by unfold FrD.cells; rw [hvb, hfr]
      have hfs : fr.size = 14 := by rw [hfr]; exact frCells_size hok.f.ok _
      have hi : (Try.prog.info? 31).map (·.size) = some fr.size := by rw [hfs]; exact HI14.out
      rw [hcs] at hrange
      have HLD : Hid (∀ u, Below w.heap.size w u → (Instr.loadAt 31 (.pointer (some ⟨g, off + k * 14, none⟩))).run Try.prog u = .ok (.agg fr) u) := fun u hu =>
        run_loadAt_mid u g (off + k * 14) 31 fr.toList (.struct _) (range_belowR hrange hu) Try.underlying31 rfl (by rw [Array.length_toList]; exact hi)
      have HBC : Hid (∀ u, Below w.heap.size w u → u.cell? ⟨g, off + k * 14 + 13, none⟩ = some (.slice ab nb capb)) := fun u hu => by
        refine range_belowR hrange hu 13 _ ?_
        rw [hfr]
        exact (frc_ty hok.f.ok.dst hok.f.ok.src _ _).2
      have hlb := hok.lb
      unfold reachBytes at hlb
      have HRO := hid (roomy_any _ o.f.B wr (hsb.below hb) (by omega))
      have HF := hid hok.f
      have HSB := hid hsb
      have HLB : Hid (o.f.B.length ≤ 140737488351232) := by unfold Hid; omega
      have HFS : Hid (fr.size = 14) := hfs
      have HFI := hid hi
      have HFO : Hid (fr.all (·.oneCell') = true) := by unfold Hid; rw [hfr]; exact frc_one
      have HFR := hid hfr
      have b0 : (k : Int) < (n : Int) := by omega
      have b1 : (0 : Int) ≤ (k : Int) := by omega
      have c13 := HBC.out wr hb
      have HB := hid hb
      generalize o.f = f at *
      clear hrange hok hfs hi hfr hsb hlb hcs hvb hb
      go_wp2_with fail
      refine HRO.out.mono ?_
      rintro _ w9 ⟨l9, rfl, ho9, hb9⟩
      have hbm : ∀ y ∈ f.B ++ mkN 70, y < 256 := fun y hy => (List.mem_append.1 hy).elim (HSB.out.bytes y) (mkN_bytes y)
      obtain ⟨ap, np, cp, rfl, hsr, hsc, kcut⟩ := room_cut ho9 hbm
      rw [← HNB.out] at hsc kcut
      have HB9 := hid (HB.out.trans (hb9.mono HB.out.size))
      have HL9 := hid (HLD.out w9 HB9.out)
      have d13 := HBC.out w9 HB9.out
      obtain ⟨p3, hp3⟩ : ∃ p3, p3 = w9.heap.size := ⟨_, rfl⟩
      obtain ⟨w10, hw10⟩ : ∃ w10, w10 = (w9.alloc (.cells zeroF 31)).setCells p3 0 fr.toList := ⟨_, rfl⟩
      have hrp10 : (w9.alloc (.cells zeroF 31)).heap[p3]? = some (.cells zeroF 31 (0, 0)) := by rw [hp3]; exact heap_alloc_new w9 _
      have HT10 : Hid ((w9.alloc (.cells zeroF 31)).there p3 0 fr.size) := there_blk hrp10 (by rw [HFS.out]; rfl)
      have hr10 : w10.heap[p3]? = some (.cells fr 31 (0, 0)) := by rw [hw10]; exact row_put hrp10 (by rw [HFS.out]; rfl)
      have hbn10 : Below w9.heap.size w9 w10 := by rw [hw10]; exact below_setCells' (by omega) _ _ _ ((Below.refl _ _).alloc (Nat.le_refl _) _)
      have HW10 := hid hw10
      have HP3 := hid hp3
      unfold zeroF at HW10 HT10
      obtain ⟨w11, hw11⟩ : ∃ w11, w11 = w10.setCell ⟨p3, 13, none⟩ (.slice ap nb np) := ⟨_, rfl⟩
      obtain ⟨gg, hgg⟩ : ∃ gg, gg = frCells f (.slice ap nb np) := ⟨_, rfl⟩
      have hr11 : w11.heap[p3]? = some (.cells gg 31 (0, 0)) := by
        rw [hw11, hgg]
        unfold frCells
        rw [← frc_set HF.out.ok.dst HF.out.ok.src f.ty (.slice ab nb capb)]
        have h0 : w10.heap[p3]? = some (.cells (frc f.dst f.src f.ty (.slice ab nb capb)).toArray 31 (0, 0)) := by rw [hr10, HFR.out]; rfl
        exact heap_setCell_row h0 _
      have hggS : gg.size = 14 := by rw [hgg]; exact frCells_size HF.out.ok _
      have e13 : w10.cell? ⟨p3, 13, none⟩ = some (.slice ab nb capb) := (fr_at HF.out.ok (by rw [← HFR.out]; exact hr10)).2
      have z13 : w10.frozen? ⟨p3, 13, none⟩ = false := frozen_of_row _ _ _ _ _ hr10
      have hb911 : Below w9.heap.size w9 w11 := by rw [hw11]; exact hbn10.setCell (p := ⟨p3, 13, none⟩) (by show w9.heap.size ≤ p3; omega) _
      have HB10 := hid (HB9.out.trans (hbn10.mono HB9.out.size))
      have HB11 := hid (HB9.out.trans (hb911.mono HB9.out.size))
      have i13 := HBC.out w10 HB10.out
      have HL11 := hid (load_rowAt (T := 31) hr11 Try.underlying31 rfl (by rw [hggS]; exact HI14.out))
      have X11 := hid (flow_any f (.slice ap nb np) w11 HF.out (hsc.below hb911) (by have := HLB.out; omega))
      rw [← hgg] at X11
      have HSR11 := hid (hsr.below hb911)
      have HW11 := hid hw11
      have hnp : nb ≤ np := by obtain ⟨_, _, hv, h1, _⟩ := hsc; simp at hv; omega
      clear hgg hw11 hr11 hggS hb911 hp3 hw10 hrp10 hr10 hbn10 hb9 hsc hsr ho9 hbm HRO c13
      go_upto_region 9 with (first
        | (refine wpList_ld 31 ⟨g, off + k * 14, none⟩ _ rfl rfl HL9.out rfl ?_)
        | (rw [← HP3.out]; refine wpList_store_mid rfl 31 (.tmp 6) (.tmp 27) rfl p3 0 fr rfl rfl HT10.out HFI.out HFO.out ?_; rw [← HW10.out])
        | fail)
      simp only [Act.put]
      go_upto_region 10 with fail
      rw [← HW11.out]
      go_wp2_with (first
        | (refine wpList_ld 31 ⟨p3, 0, none⟩ _ rfl rfl HL11.out rfl ?_)
        | fail)
      refine X11.out.mono ?_
      rintro _ w12 ⟨rfl, hb12⟩
      have HB12 := hid (HB11.out.trans (hb12.mono HB11.out.size))
      have HSR12 := hid (HSR11.out.below hb12)
      have HL12 := hid (HLD.out w12 HB12.out)
      have X12 := hid (flowR_any f (.slice ab nb capb) w12 HF.out (HSB.out.below HB12.out) (by have := HLB.out; omega))
      rw [← HFR.out] at X12
      generalize Tn.port (keyL f) = PT at *
      clear hb12 X11 HL11 HL9 d13 e13 z13 i13 kcut
      go_wp2_with (first
        | (refine wpList_ld 31 ⟨g, off + k * 14, none⟩ _ rfl rfl HL12.out rfl ?_)
        | fail)
      refine X12.out.mono ?_
      rintro _ w13 ⟨rfl, hb13⟩
      have HB13 := hid (HB12.out.trans (hb13.mono HB12.out.size))
      have j13 := HBC.out w13 HB13.out
      have X13 := hid (kept_any _ _ f.B w13 (HSR12.out.below hb13) (HSB.out.below HB13.out) HLB.out)
      clear hb13 X12 HL12
      go_wp2_with fail
      refine X13.out.mono ?_
      rintro _ w14 ⟨rfl, hb14⟩
      have hb15 := HB13.out.trans (hb14.mono HB13.out.size)
      clear hb14 X13
      go_wp2_with fail
      go_roundw
      case rel => exact ⟨k + 1, w14, by go_num, by omega, rfl, hb15⟩
      case measure => simp [intOf]; omega
    · obtain rfl : k = n := by omega
      go_wp2_with fail
      go_ret
      exact ⟨rfl, hb⟩
end Go.Proofs.Ytcelcnafcfefhab.N
