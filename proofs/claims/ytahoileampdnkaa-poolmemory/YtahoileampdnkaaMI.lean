/-
  The law's made, has.
-/
import Derived.Test.YtahoileampdnkaaMH
import Derived.Test.YtahoileampdnkaaMD
namespace Go.Proofs.Ytahoileampdnkaa
open Go.ChangeShapes Go.WideShapes Go.ChangeAt Go.RowKit Ru N Tri
set_option maxHeartbeats 1000000
set_option maxRecDepth 100000

theorem made_any (q : Sp) (w : World) (hq : q.Ok w) : Calls Try.prog 10 #[.agg q.cells] w (News w q.x q.y q.s q.lo q.hi q.L) := by
  obtain ⟨x, y, s, lo, hi, kv, L⟩ := q
  obtain ⟨ak, nk, ck0, hkv, HNK, hk1, hk2⟩ := hq.kv.shape
  simp only at hkv
  subst hkv
  obtain ⟨w2, HW2⟩ : ∃ w2, Hid (w2 = w.alloc (.cells #[.int .u32 (x : Int), .int .i64 y, .int .i64 s, .int .u32 (lo : Int), .int .u32 (hi : Int), .slice ak nk ck0] 28)) := ⟨_, rfl⟩
  have hb2 : Below w.heap.size w w2 := by rw [HW2.out]; exact (Below.refl _ _).alloc (Nat.le_refl _) _
  have r2 : w2.heap[w.heap.size]? = some (.cells #[.int .u32 (x : Int), .int .i64 y, .int .i64 s, .int .u32 (lo : Int), .int .u32 (hi : Int), .slice ak nk ck0] 28 (0, 0)) := by rw [HW2.out]; exact heap_alloc_new w _
  have c0 : w2.cell? ⟨w.heap.size, 0, none⟩ = some (.int .u32 (x : Int)) := by rw [cell_of_row _ _ _ _ _ _ r2]; rfl
  have c1 : w2.cell? ⟨w.heap.size, 1, none⟩ = some (.int .i64 y) := by rw [cell_of_row _ _ _ _ _ _ r2]; rfl
  have c2 : w2.cell? ⟨w.heap.size, 2, none⟩ = some (.int .i64 s) := by rw [cell_of_row _ _ _ _ _ _ r2]; rfl
  have c3 : w2.cell? ⟨w.heap.size, 3, none⟩ = some (.int .u32 (lo : Int)) := by rw [cell_of_row _ _ _ _ _ _ r2]; rfl
  have c4 : w2.cell? ⟨w.heap.size, 4, none⟩ = some (.int .u32 (hi : Int)) := by rw [cell_of_row _ _ _ _ _ _ r2]; rfl
  have c5 : w2.cell? ⟨w.heap.size, 5, none⟩ = some (.slice ak nk ck0) := by rw [cell_of_row _ _ _ _ _ _ r2]; rfl
  have HQ := hid (hq.below hb2)
  have HN := hid (new_any x lo hi y s _ L w2 HQ.out.x HQ.out.lo HQ.out.hi HQ.out.kv HQ.out.ls)
  have HB2 := hid hb2
  unfold Sp.cells
  unfold News at *
  obtain ⟨ee, HEE⟩ : ∃ ee, Hid (ee = newE x y s lo hi L) := ⟨_, rfl⟩
  simp only
  rw [← HEE.out] at HN ⊢
  clear hq hb2 r2
  go_enter Try.func10, Try.ntmps10
  go_upto_region 1 with fail
  rw [← HW2.out]
  go_wp2_with fail
  refine HN.out.mono ?_
  rintro e w3 (⟨h1, rfl, h3⟩ | ⟨h1, pb, sub, vk, ks, h2, rfl, h3, h4⟩)
  · have HF := hid (And.intro h1 (HB2.out.trans (h3.mono HB2.out.size)))
    clear c0 c1 c2 c3 c4 c5 h1 h3
    go_wp2_with fail
    refine bodyPost_ret (v := .tuple #[.pointer none, .int .i64 ee]) (by simp [results, Try.results10, go_sem]) rfl ?_
    exact .inl ⟨HF.out.1, rfl, HF.out.2⟩
  · have HMW : Hid (Mk w pb sub (num sub lo) (num sub hi) w3 vk ks) := ⟨Nat.le_trans HB2.out.size h3.new, fun g hg => Nat.le_trans HB2.out.size (h3.vnew g hg), HB2.out.trans (h3.be.mono HB2.out.size), h3.pool⟩
    have HF := hid (And.intro h1 (And.intro h2 h4))
    clear c0 c1 c2 c3 c4 c5 h1 h2 h3 h4
    go_wp2_with fail
    refine bodyPost_ret (v := .tuple #[.pointer (some ⟨pb, 0, none⟩), .int .i64 0]) (by simp [results, Try.results10, go_sem]) rfl ?_
    exact .inr ⟨HF.out.1, pb, sub, vk, ks, HF.out.2.1, rfl, HMW.out, HF.out.2.2⟩

theorem has_any (v : Value) (L : List (Nat × Int)) (a : Nat) (b : Int) (w : World) (hv : Sees w v L) :
    Calls Try.prog 16 #[v, .agg #[.int .u32 (a : Int), .int .i64 b]] w fun e w' => e = .returned (.bool (decide ((a, b) ∈ L))) ∧ Below w.heap.size w w' := by
  obtain ⟨ao, n, cap, rfl, HN, hn1, hn2⟩ := hv.shape
  unfold maxLen at hn2
  obtain ⟨wa, HWA⟩ : ∃ wa, Hid (wa = w.alloc (.cells #[.int .u32 (a : Int), .int .i64 b] 25)) := ⟨_, rfl⟩
  have hb0 : Below w.heap.size w wa := by rw [HWA.out]; exact (Below.refl _ _).alloc (Nat.le_refl _) _
  have r1 : wa.heap[w.heap.size]? = some (.cells #[.int .u32 (a : Int), .int .i64 b] 25) := by rw [HWA.out]; exact heap_alloc_new w _
  obtain ⟨q0, q1⟩ := Beh.two r1
  have HB0 := hid hb0
  have HV := hid (hv.below hb0)
  clear hv hb0 r1
  go_enter Try.func16, Try.ntmps16
  go_upto_region 2 with fail
  rw [← HWA.out]
  go_loopw [5] (fun i wr => ∃ j : Nat, i = .int .i64 (j : Int) ∧ j ≤ n ∧ Hid ((a, b) ∉ L.take j) ∧ Hid (Below wa.heap.size wa wr)) (fun i _ => n - (intOf i).toNat)
  case atStart => exact ⟨0, rfl, Nat.zero_le _, hid (by simp), Below.refl _ _⟩
  case round =>
    obtain ⟨j, rfl, hj, HNI, HB⟩ := hrel
    by_cases hjn : j < n
    · have hbd : Below wa.heap.size wa wr.drew := ⟨HB.out.os, HB.out.tape, HB.out.output, HB.out.size, HB.out.block⟩
      obtain ⟨g, off, p, e1, hg, c0, c1, HP⟩ := (HV.out.below hbd).at j hjn
      subst e1
      have d0 := q0 ⟨wr.drew, hbd⟩
      have d1 := q1 ⟨wr.drew, hbd⟩
      simp only at d0 d1
      have hjl : j < L.length := (List.getElem?_eq_some_iff.1 HP.out).1
      have HTK : Hid (L.take (j + 1) = L.take j ++ [p]) := by unfold Hid; rw [List.take_succ_eq_append_getElem hjl, (List.getElem?_eq_some_iff.1 HP.out).2]
      have HMJ : Hid (p ∈ L) := List.mem_of_getElem? HP.out
      have b1 : (j : Int) < (n : Int) := by omega
      have b2 : (0 : Int) ≤ (j : Int) := by omega
      have b3 : decide ((j : Int) < 0) = false := by simp
      have HBD := hid hbd
      clear hg hbd hjl HP
      obtain ⟨p1, p2⟩ := p
      simp only at c0 c1
      by_cases he : p1 = a ∧ p2 = b
      · obtain ⟨rfl, rfl⟩ := he
        have HF : Hid (decide ((p1, p2) ∈ L) = true) := by unfold Hid; rw [decide_eq_true_eq]; exact HMJ.out
        go_upto_region 4 with fail
        go_still (by kernel_rfl)
        clear c0 c1 d0 d1
        go_wp2_with fail
        go_ret
        exact ⟨ret_bool HF.out.symm, HB0.out.trans (HBD.out.mono HB0.out.size)⟩
      · have HN2 : Hid ((a, b) ∉ L.take (j + 1)) := by
          unfold Hid
          rw [HTK.out, List.mem_append, List.mem_singleton]
          rintro (h | h)
          · exact HNI.out h
          · simp at h; exact he ⟨h.1.symm, h.2.symm⟩
        by_cases h1 : p1 = a
        · subst h1
          have hx1 : ¬ p2 = b := fun h => he ⟨rfl, h⟩
          have hx2 : (p2 == b) = false := by simp [hx1]
          have hx3 : decide (p2 = b) = false := by simp [hx1]
          go_upto_region 4 with fail
          go_still (by kernel_rfl)
          clear c0 c1 d0 d1
          go_wp2_with fail
          go_roundw
          case rel => exact ⟨j + 1, by go_num, by omega, HN2, HBD⟩
          case measure => simp [intOf]; omega
        · have hx1 : ¬ (p1 : Int) = (a : Int) := by omega
          have hx2 : ((p1 : Int) == (a : Int)) = false := by simp; omega
          have hx3 : decide ((p1 : Int) = (a : Int)) = false := by simp; omega
          go_upto_region 4 with fail
          go_still (by kernel_rfl)
          clear c0 c1 d0 d1
          go_wp2_with fail
          go_roundw
          case rel => exact ⟨j + 1, by go_num, by omega, HN2, HBD⟩
          case measure => simp [intOf]; omega
    · have HF : Hid (decide ((a, b) ∈ L) = false) := by
        unfold Hid
        rw [decide_eq_false_iff_not]
        have h := HNI.out
        rw [List.take_of_length_le (by have := HN.out; omega)] at h
        exact h
      go_wp2_with fail
      go_ret
      exact ⟨ret_bool HF.out.symm, HB0.out.trans (HB.out.mono HB0.out.size)⟩
end Go.Proofs.Ytahoileampdnkaa
