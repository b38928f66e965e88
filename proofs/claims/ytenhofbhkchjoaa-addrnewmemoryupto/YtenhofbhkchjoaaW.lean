import Derived.Test.YtenhofbhkchjoaaV
import Derived.Deep.SlicePairs
import Derived.SizedLaws
namespace Go.Proofs.Ytenhofbhkchjoaa
open Go.ChangeShapes Go.WideShapes Go.ChangeAt Go.RowKit
set_option maxHeartbeats 400000

/-- What stands in the spare room. -/
def extra (j : Nat) : List (Nat × Int) := (List.range j).map fun i => (i, 77)

theorem extra_succ (j : Nat) : extra (j + 1) = extra j ++ [(j, 77)] := by
  unfold extra; rw [List.range_succ]; simp

theorem extra_len (j : Nat) : (extra j).length = j := by simp [extra]

theorem Sees.front3 {w : World} {ao : Option Addr} {n cap c m : Nat} {L : List (Nat × Int)} (h : Sees w (.slice ao n cap) L) (hm : m ≤ n) (hc : m ≤ c) (hcap : c ≤ cap) : Sees w (.slice ao m c) (L.take m) := by
  obtain ⟨ao', cap', hv, h1, h2, h3⟩ := h
  simp at hv
  obtain ⟨rfl, rfl, rfl⟩ := hv
  refine ⟨ao, c, by rw [List.length_take, Nat.min_eq_left hm], by rw [List.length_take]; omega, by unfold maxLen at *; omega, fun j hj => ?_⟩
  rw [List.length_take] at hj
  obtain ⟨g, off, a, b, c, d⟩ := h3 j (by omega)
  exact ⟨g, off, a, b, by rw [List.getElem_take]; exact c, by rw [List.getElem_take]; exact d⟩

/-- Two merges of one list answer the same. -/
theorem merged_same {L : List (Nat × Int)} {R R' : List (Nat × Nat)} (h : (merr L ≠ 0 → R = []) ∧ (merr L = 0 → Good L ∧ ∃ J, J.Perm (L.map iv) ∧ M.Rises J ∧ R = mlist J))
    (h' : (merr L ≠ 0 → R' = []) ∧ (merr L = 0 → Good L ∧ ∃ J, J.Perm (L.map iv) ∧ M.Rises J ∧ R' = mlist J)) : R = R' := by
  by_cases e : merr L = 0
  · obtain ⟨g, J, p, r, rfl⟩ := h.2 e
    obtain ⟨_, J', p', r', rfl⟩ := h'.2 e
    exact mlist_same g g p p' r r' (fun x => Iff.rfl)
  · rw [h.1 e, h'.1 e]

set_option maxHeartbeats 1000000 in
theorem merges_walk (v : Value) (L : List (Nat × Int)) (w : World) (hs : Sees w v L) (ha : Adr L) (hbig : L.length * 16 ≤ 140737488351232) :
    Calls Try.prog 7 #[v] w fun e w' => e = .returned (.bool true) ∧ Below w.heap.size w w' := by
  obtain ⟨ao, n, cap, rfl, HN, hnc, hcap⟩ := hs.shape
  have hn16 : n * 16 ≤ 140737488351232 := by rw [HN.out]; exact hbig
  have HB : Hid (L.length * 16 ≤ 140737488351232) := hbig
  have HA : Hid (Adr L) := ha
  unfold maxLen at hcap
  obtain ⟨i0, hi0, hz0, hz1, hz2⟩ := info_parts Try.info30
  have HI : Hid (Try.prog.info? 30 = some i0) := hi0
  clear hi0 hbig ha
  go_enter Try.func7, Try.ntmps7
  go_wp2_with fail
  refine (begun_any _).mono ?_
  rintro e w0 ⟨rfl, rfl⟩
  go_wp2_with fail
  refine (copied_any _ L _ hs (by have := HB.out; omega)).mono ?_
  rintro e w1 ⟨v1, rfl, hown1, hb1⟩
  have hs1 := sees_of_ownsP hown1
  go_wp2_with fail
  refine (copied_any _ L _ (hs.below hb1) (by have := HB.out; omega)).mono ?_
  rintro e w2 ⟨v2, rfl, hown2, hb2⟩
  clear hown1
  go_wp2_with fail
  go_loopw [5, 6] (fun t i wr => ∃ j : Nat, i = .int .i64 j ∧ j ≤ 70 ∧ wr.ownsRow w1.heap.size 30 2 t (L ++ extra j).length (cellsP (L ++ extra j)) ∧ Below w1.heap.size w1 wr) (fun _ i _ => 70 - (intOf i).toNat)
  case atStart => exact ⟨0, rfl, by omega, by simpa [extra] using hown2, hb2⟩
  case round =>
    obtain ⟨j, rfl, hj, hown, hbr⟩ := hrel
    by_cases hj70 : j < 70
    · have HX : Hid (L ++ extra (j + 1) = (L ++ extra j) ++ [(j, 77)]) := by unfold Hid; rw [extra_succ, List.append_assoc]
      have hlen : (L ++ extra j).length = n + j := by rw [List.length_append, extra_len, ← HN.out]
      have hlen' : (L ++ extra j).length ≤ n + j := by omega
      clear hlen
      generalize L ++ extra j = I at *
      go_wp2_with (at_builtin; refine wpList_append_own _ rfl _ _ 25 rfl w1.heap.size 30 i0 (.agg #[.int .u32 0, .int .i64 0]) 2 16 Try.underlying25 HI.out hz0 hz1 hz2 rfl (by decide) _ _ _ rfl (hown.alloc _) ⟨wr.heap.size, 0, none⟩ 1 1 [.int .u32 (j : Int), .int .i64 77] rfl rfl ?c1 ?c2 ?c3 ?c4 ?c5 ?_)
      case c1 => exact two_at rfl _ _ _
      case c2 => intro u hu; simp at hu; rcases hu with rfl | rfl <;> rfl
      case c3 => unfold maxLen; omega
      case c4 => omega
      case c5 => have := hbr.size; simp; omega
      · intro m3 w3 hown3 hgrow _
        have hb3 := run_step (q := 0) hbr.size hbr hown hgrow
        rw [cellsP_snoc I (j, 77)] at hown3
        clear hgrow hown
        go_wp2_with fail
        go_roundw
        case rel => exact ⟨j + 1, by go_num, by omega, by rw [HX.out, List.length_append]; exact hown3, hb3⟩
        case measure => simp [intOf]; omega
    · obtain rfl : j = 70 := by omega
      have hl70 : (L ++ extra 70).length = n + 70 := by rw [List.length_append, extra_len, ← HN.out]
      obtain ⟨gr, capr, rfl, hgr⟩ := owns_shape hown (by omega)
      have hsr := sees_of_ownsP hown
      have hcr : n + 70 ≤ capr ∧ capr ≤ maxLen := by
        obtain ⟨_, _, c3, e1, e2, e3, e4⟩ := hsr.shape
        simp at e1
        have := e2.out
        omega
      have hin : Sees wr (.slice (some ⟨gr, 0, none⟩) n (n + 70)) L := by
        have h1 := hsr.front3 (m := n) (c := n + 70) (by omega) (by omega) hcr.1
        rwa [List.take_append_of_le_length (by have := HN.out; omega), List.take_of_length_le (by have := HN.out; omega)] at h1
      rw [hl70] at hsr ⊢
      have hcr1 := hcr.1
      have hcr2 := hcr.2
      unfold maxLen at hcr2
      clear hown hcr
      go_wp2_with fail
      refine (merge_any byBase_any _ L _ hin HA.out).mono ?_
      rintro e w3 ⟨vl, R, rfl, hownl, hb3, HR⟩
      have hb13 : Below w1.heap.size w1 w3 := hbr.trans (hb3.mono hbr.size)
      go_wp2_with fail
      refine (refMerge_any v1 L _ (hs1.below hb13) HA.out).mono ?_
      rintro e w4 ⟨vm, R', rfl, hownm, hb4, HR'⟩
      have HRR : Hid (R = R') := merged_same HR.out HR'.out
      have hsl := (sees_of_owns hownl).below hb4
      have hsm := sees_of_owns hownm
      have hsr4 := (hsr.below hb3).below hb4
      have hin4 := (hin.below hb3).below hb4
      have hb14 : Below w1.heap.size w1 w4 := hb13.trans (hb4.mono hb13.size)
      have hs14 := hs1.below hb14
      have hbf : Below w0.heap.size w0 w4 := hb1.trans (hb14.mono hb1.size)
      obtain ⟨er, her⟩ : ∃ er, er = merr L := ⟨_, rfl⟩
      rw [← her]
      clear her HR HR' hownl hownm hin hsr hs hs1 hb3 hb4 hbr hb13
      go_wp2_with fail
      go_loop [12] (fun i => ∃ j : Nat, i = .int .i64 j ∧ j ≤ 70) (fun i => 70 - (intOf i).toNat)
      case atStart => exact ⟨0, rfl, by omega⟩
      case round =>
        obtain ⟨j, rfl, hj⟩ := hrel
        by_cases hj70 : j < 70
        · obtain ⟨g', off', p, hao, hg', c0, c1, HP⟩ := hsr4.at (n + j) (by omega)
          simp at hao
          obtain ⟨rfl, rfl⟩ := hao
          obtain rfl : p = (j, 77) := by
            have h1 := HP.out
            rw [List.getElem?_append_right (by have := HN.out; omega), ← HN.out, show n + j - n = j from by omega] at h1
            simp [extra, hj70] at h1
            exact h1.symm
          simp only [Nat.zero_add] at c0 c1
          go_wp2_with fail
          go_round
          case rel => exact ⟨j + 1, by go_num, by omega⟩
          case measure => simp [intOf]; omega
        · go_wp2_with fail
          refine (same_any vl vm _ _ _ hsl hsm).mono ?_
          rintro e w5 ⟨rfl, q, rfl⟩
          rw [HRR.out]
          simp only [decide_true]
          go_wp2_with fail
          refine (same_any _ v1 _ _ _ (hin4.below (below_drewN (Below.refl _ _) q)) (hs14.below (below_drewN (Below.refl _ _) q))).mono ?_
          rintro e w6 ⟨rfl, q', rfl⟩
          simp only [decide_true]
          go_wp2_with fail
          go_ret
          exact ⟨rfl, below_drewN hbf _⟩

theorem Try.cells30 : Try.prog.cellsOf 30 = 2 := by kernel_rfl
theorem Try.cells23 : Try.prog.cellsOf 23 = 1 := by kernel_rfl
theorem Try.cells3 : Try.prog.cellsOf 3 = 1 := by kernel_rfl
theorem Try.bytes30 : Try.prog.bytesOf 30 = 16 := by kernel_rfl
theorem Try.laidOut : laidOutB Try.prog = true := by kernel_rfl

/-- A slice of prefixes that came in. -/
theorem open_ps {H : Type} {enc : TypeId × Value → H} {W : World} {base : Nat} {v : Value} {d : DataW H} {ps : List MemPlace} (hval : Value.okWide Try.prog W .any base 25 v) (h : DataW.Trod enc Try.prog W 0 (fun _ => true) true 25 v d ps) :
    ∃ L, Sees W v L ∧ Adr L ∧ (L ≠ [] → ∃ es sp, d = .slice es sp ∧ es.length = L.length) := by
  obtain ⟨a0, len, cap, rfl⟩ := okWide_slice Try.underlying25 hval
  obtain ⟨fuel, hf⟩ := h
  rcases Go.Deep.open_slice_pairs Try.underlying25 Try.underlying30 Try.cells30 rfl rfl Try.cells23 Try.cells3 hf with ⟨h1, h2⟩ | ⟨a, len', cap', m, k, V0, V1, D0, D1, P0, P1, h1, _, hlc, hcm, hm, hx, hc⟩
  · simp [Value.cells] at h1
    obtain ⟨rfl, rfl, rfl⟩ := h1
    exact ⟨[], ⟨none, 0, rfl, by simp, by unfold maxLen; omega, fun j hj => absurd hj (by simp)⟩, fun p hp => absurd hp (by simp), fun h => absurd rfl h⟩
  · simp [Value.cells] at h1
    obtain ⟨rfl, rfl, rfl⟩ := h1
    simp at hm
    subst hm
    have key : ∀ i, i < len → ∃ (x : Nat) (y : Int), x < 4294967296 ∧ V0 i = .int .u32 (x : Int) ∧ V1 i = .int .i64 y := by
      intro i hi
      obtain ⟨_, _, t0, t1⟩ := hc i (by omega)
      obtain ⟨n0, e0, _, w0⟩ := DataW.trod_int Try.underlying23 t0
      obtain ⟨n1, e1, _, _⟩ := DataW.trod_int Try.underlying3 t1
      simp at e0 e1
      obtain ⟨x, rfl, hx⟩ := u32_wf w0
      exact ⟨x, n1, hx, e0, e1⟩
    refine ⟨(List.range len).map fun i => ((intOf (V0 i)).toNat, intOf (V1 i)), ⟨some a, m, by simp, by simpa using hlc, hcm, fun j hj => ?_⟩, fun p hp => ?_, fun _ => ?_⟩
    · have hj' : j < len := by simpa using hj
      obtain ⟨x, y, _, e0, e1⟩ := key j hj'
      obtain ⟨k0, k1, _, _⟩ := hc j (by omega)
      have hsp : ∃ g off, a = ⟨g, off, none⟩ ∧ g < W.heap.size := by
        obtain ⟨z0, _, _, _⟩ := hc 0 (by omega)
        simp only [Nat.zero_mul] at z0
        have e : a.add 0 = a := by simp [Addr.add]
        rw [e] at z0
        have hlt := World.block_lt_of_cell? W a z0
        obtain ⟨g, off, sp⟩ := a
        cases sp with
        | none => exact ⟨g, off, rfl, hlt⟩
        | some s =>
          exfalso
          simp only [World.cell?] at z0
          split at z0 <;> simp at z0
      obtain ⟨g, off, rfl, hg⟩ := hsp
      rw [add_plain] at k0 k1
      refine ⟨g, off, rfl, hg, ?_, ?_⟩
      · rw [k0, e0]; simp [e0, intOf]
      · rw [Nat.add_assoc, k1, e1]; simp [e1, intOf]
    · obtain ⟨i, hi, rfl⟩ := List.mem_map.1 hp
      obtain ⟨x, y, hx, e0, _⟩ := key i (by simpa using hi)
      simp [e0, intOf]; exact hx
    · simp at hx
      exact ⟨_, _, hx.1, by simp⟩
end Go.Proofs.Ytenhofbhkchjoaa
