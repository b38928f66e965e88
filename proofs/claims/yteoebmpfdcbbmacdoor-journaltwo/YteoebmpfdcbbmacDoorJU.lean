/-
  has, newer, ownRecords.
-/
import Derived.Test.YteoebmpfdcbbmacDoorJT
namespace Go.Proofs.YteoebmpfdcbbmacDoor
open Go.ChangeShapes Go.WideShapes Go.ChangeAt Go.RowKit Jn N
set_option maxHeartbeats 4000000
set_option maxRecDepth 100000

/-- Two contents, as a value. -/
def ct2 (s0 g0 : Nat) (v0 : Value) (f0 s1 g1 : Nat) (v1 : Value) (f1 : Nat) : Value := .agg #[.int .i64 (s0 : Int), .int .u32 (g0 : Int), v0, .int .i64 (f0 : Int), .int .i64 (s1 : Int), .int .u32 (g1 : Int), v1, .int .i64 (f1 : Int)]

theorem has_any (s0 g0 f0 s1 g1 f1 s : Nat) (v0 v1 : Value) (w : World) (h0 : ∃ a n c, v0 = .slice a n c) (h1 : ∃ a n c, v1 = .slice a n c) :
    Calls Tryd.prog 36 #[ct2 s0 g0 v0 f0 s1 g1 v1 f1, .int .i64 (s : Int)] w fun e w' => e = .returned (.bool (s0 == s || s1 == s)) ∧ Below w.heap.size w w' := by
  obtain ⟨a, n, c, rfl⟩ := h0
  obtain ⟨a', n', c', rfl⟩ := h1
  unfold ct2
  by_cases e0 : s0 = s
  · subst e0
    go_enter Tryd.func36, Tryd.ntmps36
    go_wp2_with fail
    go_ret
    exact ⟨ret_bool (by simp), (Below.refl _ _).alloc (Nat.le_refl _) _⟩
  · have q : ((s0 : Int) == (s : Int)) = false := by simp; omega
    have q' : (s0 == s) = false := by simp; omega
    go_enter Tryd.func36, Tryd.ntmps36
    go_wp2_with fail
    go_ret
    exact ⟨ret_bool (by rw [q', Bool.false_or, Bool.eq_iff_iff]; simp; omega), (Below.refl _ _).alloc (Nat.le_refl _) _⟩


theorem newer_any (s0 g0 f0 s1 g1 f1 : Nat) (v0 v1 : Value) (w : World) (h0 : ∃ a n c, v0 = .slice a n c) (h1 : ∃ a n c, v1 = .slice a n c) (hg0 : g0 < 4294967296) (hg1 : g1 < 4294967296) :
    Calls Tryd.prog 39 #[ct2 s0 g0 v0 f0 s1 g1 v1 f1] w fun e w' => e = .returned (.int .i64 ((newerN s0 g0 s1 g1 : Nat) : Int)) ∧ Below w.heap.size w w' := by
  obtain ⟨a, n, c, rfl⟩ := h0
  obtain ⟨a', n', c', rfl⟩ := h1
  unfold ct2
  by_cases e1 : s1 = 3
  · subst e1
    by_cases e0 : s0 = 3
    · subst e0
      obtain ⟨z, HZ⟩ : ∃ z, Hid (z = (g0 + 4294967296 - g1) % 4294967296) := ⟨_, rfl⟩
      have hw : IntKind.u32.wrap ((g0 : Int) - (g1 : Int)) = (z : Int) := by rw [IntKind.wrap_u32', HZ.out]; omega
      by_cases hz : z < 2147483648
      · have HE : Hid (newerN 3 g0 3 g1 = 0) := by unfold Hid newerN; rw [if_neg (by simp), if_pos ⟨rfl, by have := HZ.out; omega⟩]
        have q1 : (z : Int) < 2147483648 := by omega
        go_enter Tryd.func39, Tryd.ntmps39
        go_wp2_with fail
        go_ret
        exact ⟨ret_int (by rw [HE.out]; rfl), (Below.refl _ _).alloc (Nat.le_refl _) _⟩
      · have HE : Hid (newerN 3 g0 3 g1 = 1) := by unfold Hid newerN; rw [if_neg (by simp), if_neg (by rintro ⟨-, h⟩; have := HZ.out; omega)]
        have q1 : ¬ (z : Int) < 2147483648 := by omega
        go_enter Tryd.func39, Tryd.ntmps39
        go_wp2_with fail
        go_ret
        exact ⟨ret_int (by rw [HE.out]; rfl), (Below.refl _ _).alloc (Nat.le_refl _) _⟩
    · have HE : Hid (newerN s0 g0 3 g1 = 1) := by unfold Hid newerN; rw [if_neg (by simp), if_neg (fun h => e0 h.1)]
      have q : ((s0 : Int) == 3) = false := by simp; omega
      go_enter Tryd.func39, Tryd.ntmps39
      go_wp2_with fail
      go_ret
      exact ⟨ret_int (by rw [HE.out]; rfl), (Below.refl _ _).alloc (Nat.le_refl _) _⟩
  · have HE : Hid (newerN s0 g0 s1 g1 = 0) := by unfold Hid newerN; rw [if_pos e1]
    have q : ((s1 : Int) == 3) = false := by simp; omega
    have q' : ¬ (s1 : Int) = 3 := by omega
    go_enter Tryd.func39, Tryd.ntmps39
    go_wp2_with fail
    go_ret
    exact ⟨ret_int (by rw [HE.out]; rfl), (Below.refl _ _).alloc (Nat.le_refl _) _⟩

theorem OwnS.put {w : World} {B g n cap : Nat} {Vs : List Value} (h : OwnS w B (.slice (some ⟨g, 0, none⟩) n cap) Vs) (i : Nat) (x : Value) :
    OwnS (w.setCell ⟨g, i, none⟩ x) B (.slice (some ⟨g, 0, none⟩) n cap) (Vs.set i x) := by
  rcases h.2 with ⟨h1, _⟩ | ⟨g', cap', cur, h1, hb, hg, hnc, hcm, hcs, ht⟩
  · cases h1
  · simp at h1
    obtain ⟨rfl, hn, rfl⟩ := h1
    have h2 := heap_setCell_same w g i cur 22 x hg
    refine ⟨by simp, .inr ⟨g, cap, _, by rw [List.length_set, hn], hb, h2, by rw [List.length_set]; exact hnc, hcm, by simpa using hcs, ?_⟩⟩
    rw [List.length_set]
    simp only [Array.toList_setIfInBounds, List.take_set]
    rw [ht]

theorem make_lists (k : Nat) (hk : k ≤ 1099511627776) (u : World) : (Instr.makeSlice 38 (.int .i64 (k : Int)) (.int .i64 (k : Int))).run Tryd.prog u = .ok (.slice (some ⟨u.heap.size, 0, none⟩) k k) (u.alloc (.cells (List.replicate k (Value.slice none 0 0)).toArray 22)) := by
  obtain ⟨i0, hi0, hz0, hz1, hz2⟩ := info_parts infoS
  have := run_make (P := Tryd.prog) u 38 22 i0 (.slice none 0 0) uBB hi0 hz0 .i64 .i64 (k : Int) (k : Int) (by omega) (by omega) (by rw [hz2]; simp; omega) (by omega)
  rw [hz1] at this
  have e : madeCells #[.slice none 0 0] k = (List.replicate k (Value.slice none 0 0)).toArray := by
    unfold madeCells
    apply Array.ext
    · simp
    · intro i h1 h2
      simp [Nat.mod_one]
  rw [← e]
  simpa [Value.cells] using this

/-- Records in memory of their own, none of it below B. -/
def NewRecs (B : Nat) (u : World) (v : Value) (rs : List (List Nat)) : Prop :=
  ∃ Vs, OwnS u B v Vs ∧ Vs.length = rs.length ∧ ∀ (i : Nat) x r, Vs[i]? = some x → rs[i]? = some r → ∃ g, x = .slice (some ⟨g, 0, none⟩) r.length r.length ∧ B ≤ g ∧ Blk u g 5 r ∧ (∀ y ∈ r, y < 256) ∧ r.length ≤ 1099511627776
theorem NewRecs.nil (B : Nat) (u : World) : NewRecs B u (.slice none 0 0) [] := ⟨[], ownS_nil _ _, rfl, fun i x r hx => by simp at hx⟩
theorem NewRecs.keeps {S : Nat → Prop} {B : Nat} {u u' : World} {v : Value} {rs : List (List Nat)} (h : NewRecs B u v rs) (hk : Keeps S u u') (hS : ∀ k, S k → k < B) : NewRecs B u' v rs := by
  obtain ⟨Vs, h1, h2, h3⟩ := h
  refine ⟨Vs, h1.keeps hk (fun k e hs => by have := (World.ownsRow.lt h1 k e).1; have := hS k hs; omega), h2, fun i x r hx hr => ?_⟩
  obtain ⟨g, rfl, hg, hb, q⟩ := h3 i x r hx hr
  exact ⟨g, rfl, hg, hb.keep hk (fun hs => by have := hS g hs; omega), q⟩
theorem NewRecs.sees {B : Nat} {u : World} {v : Value} {rs : List (List Nat)} (h : NewRecs B u v rs) : SeesBB u v rs := by
  obtain ⟨Vs, h1, h2, h3⟩ := h
  obtain ⟨a, n, cap, rfl, HN, k1, k2⟩ := h1.shape
  refine ⟨a, cap, by rw [HN.out, h2], by rw [← h2, ← HN.out]; exact k1, by unfold maxLen; omega, fun j hj => ?_⟩
  have hx : Vs[j]? = some Vs[j] := List.getElem?_eq_getElem (by omega)
  obtain ⟨g', rfl, -, hg, hc⟩ := h1.at hx
  obtain ⟨g, e, -, hb, hy, hl⟩ := h3 j _ _ hx (List.getElem?_eq_getElem hj)
  refine ⟨g', 0, _, rfl, hg, by rw [Nat.zero_add]; exact hc u rfl, ?_⟩
  rw [e]
  exact hb.sees rfl hl hy

theorem ownRecords_any (v : Value) (rs : List (List Nat)) (w : World) (hv : SeesBB w v rs) (hl : rs.length ≤ 1099511627776) (hr : ∀ r ∈ rs, r.length ≤ 1099511627776) :
    Calls Tryd.prog 40 #[v] w fun e w' => ∃ v', e = .returned v' ∧ NewRecs w.heap.size w' v' rs ∧ Below w.heap.size w w' := by
  have HV := hid hv
  have HR := hid hr
  obtain ⟨ao, n, cap, rfl, HN, hn1, hn2⟩ := hv.shape
  unfold maxLen at hn2
  have hnn : n ≤ 1099511627776 := by have := HN.out; omega
  have hmk := make_lists n hnn w
  obtain ⟨w2, HW2⟩ : ∃ w2, Hid (w2 = w.alloc (.cells (List.replicate n (Value.slice none 0 0)).toArray 22)) := ⟨_, rfl⟩
  rw [← HW2.out] at hmk
  have hb2 : Below w.heap.size w w2 := by rw [HW2.out]; exact (Below.refl _ _).alloc (Nat.le_refl _) _
  obtain ⟨lg, HLG⟩ : ∃ lg, Hid (lg = w.heap.size) := ⟨_, rfl⟩
  have hO2 : OwnS w2 w.heap.size (.slice (some ⟨lg, 0, none⟩) n n) (List.replicate n (Value.slice none 0 0)) := by
    refine ⟨by simp, .inr ⟨lg, n, (List.replicate n (Value.slice none 0 0)).toArray, by simp, by rw [HLG.out]; exact Nat.le_refl _, by rw [HW2.out, HLG.out]; exact heap_alloc_new w _, by simp, by unfold maxLen; omega, by simp, by simp⟩⟩
  rw [← HLG.out] at hmk
  have HO2 := hid hO2
  have HB2 := hid hb2
  clear hv hr hb2 hO2 hl
  go_enter Tryd.func40, Tryd.ntmps40
  go_wp2_with fail
  go_loopw [4, 5, 11] (fun _ _ i wr => ∃ (k : Nat) (Vs : List Value), i = .int .i64 (k : Int) ∧ k ≤ n ∧ Hid (OwnS wr w.heap.size (.slice (some ⟨lg, 0, none⟩) n n) Vs ∧ Vs.length = n) ∧ Hid (Below w.heap.size w wr) ∧ Hid (∀ (i : Nat) x r, i < k → Vs[i]? = some x → rs[i]? = some r → ∃ g, x = .slice (some ⟨g, 0, none⟩) r.length r.length ∧ w.heap.size ≤ g ∧ g ≠ lg ∧ Blk wr g 5 r ∧ (∀ y ∈ r, y < 256) ∧ r.length ≤ 1099511627776)) (fun _ _ i _ => n - (intOf i).toNat)
  case atStart => exact ⟨0, _, rfl, Nat.zero_le _, ⟨HO2.out, by simp⟩, HB2, fun i x r hi => by omega⟩
  case round =>
    obtain ⟨k, Vs, rfl, hk, HO, HB, HD⟩ := hrel
    by_cases hlt : k < n
    · obtain ⟨gr, off, x, r, rfl, hgr, hc, hx, HX⟩ := (HV.out.below HB.out).at k hlt
      have hrl := HR.out r (List.mem_of_getElem? HX.out)
      have HY := hid hx.bytes
      have HCP := hid (copied_any x r wr hx hrl)
      obtain ⟨ax, nx, cx, rfl, -, -, -⟩ := hx.shape
      clear hx
      go_wp2_with fail
      refine HCP.out.mono ?_
      rintro _ w3 ⟨g3, rfl, hg3, hb3, hbe3⟩
      have hO3 := HO.out.1.below hbe3
      obtain ⟨cs3, hlg3⟩ : ∃ cs3, w3.heap[lg]? = some (.cells cs3 22 (0, 0)) := by
        rcases hO3.2 with ⟨h1, _⟩ | ⟨g', cap', cur, h1, hb, hg, -⟩
        · cases h1
        · simp at h1
          obtain ⟨rfl, -, -⟩ := h1
          exact ⟨cur, hg⟩
      have hcl : ∃ y, w3.cell? ⟨lg, k, none⟩ = some y := by
        obtain ⟨g', e, -, -, hcc⟩ := hO3.at (i := k) (List.getElem?_eq_getElem (by have := HO.out.2; omega))
        simp at e
        subst e
        exact ⟨_, hcc w3 rfl⟩
      obtain ⟨y3, hy3⟩ := hcl
      have hf3 : w3.frozen? ⟨lg, k, none⟩ = false := frozen_of_row _ _ _ _ _ hlg3
      have HN3 : Hid (OwnS (w3.setCell ⟨lg, k, none⟩ (.slice (some ⟨g3, 0, none⟩) r.length r.length)) w.heap.size (.slice (some ⟨lg, 0, none⟩) n n) (Vs.set k (.slice (some ⟨g3, 0, none⟩) r.length r.length)) ∧ (Vs.set k (.slice (some ⟨g3, 0, none⟩) r.length r.length)).length = n) := ⟨hO3.put k _, by rw [List.length_set]; exact HO.out.2⟩
      have hkU : Keeps (At1 lg) w3 (w3.setCell ⟨lg, k, none⟩ (.slice (some ⟨g3, 0, none⟩) r.length r.length)) := (Keeps.refl (At1 lg) w3).set ⟨lg, k, none⟩ rfl _
      have hbe : Below w.heap.size w w3 := HB.out.trans (hbe3.mono HB.out.size)
      have HBU : Hid (Below w.heap.size w (w3.setCell ⟨lg, k, none⟩ (.slice (some ⟨g3, 0, none⟩) r.length r.length))) := hkU.below hbe hbe.size (fun j hj e => by unfold At1 at e; have := HLG.out; omega)
      have hlgl : lg < wr.heap.size := by
        rcases HO.out.1.2 with ⟨h1, _⟩ | ⟨g', cap', cur, h1, hb, hg, -⟩
        · cases h1
        · simp at h1
          obtain ⟨rfl, -, -⟩ := h1
          exact (Array.getElem?_eq_some_iff.1 hg).1
      have HDU : Hid (∀ (i : Nat) x q, i < k + 1 → (Vs.set k (.slice (some ⟨g3, 0, none⟩) r.length r.length))[i]? = some x → rs[i]? = some q → ∃ g, x = .slice (some ⟨g, 0, none⟩) q.length q.length ∧ w.heap.size ≤ g ∧ g ≠ lg ∧ Blk (w3.setCell ⟨lg, k, none⟩ (.slice (some ⟨g3, 0, none⟩) r.length r.length)) g 5 q ∧ (∀ y ∈ q, y < 256) ∧ q.length ≤ 1099511627776) := by
        intro i x q hi hx hq
        by_cases hik : i = k
        · subst hik
          rw [HX.out] at hq
          obtain rfl := Option.some.inj hq
          rw [List.getElem?_set_self (by have := HO.out.2; omega)] at hx
          obtain rfl := Option.some.inj hx
          have hs := HB.out.size
          exact ⟨g3, rfl, by omega, by omega, hb3.keep hkU (by unfold At1; omega), HY.out, hrl⟩
        · rw [List.getElem?_set_ne (by omega)] at hx
          obtain ⟨g, e, h1, h2, h3, h4⟩ := HD.out i x q (by omega) hx hq
          exact ⟨g, e, h1, h2, (h3.below hbe3 h3.lt).keep hkU h2, h4⟩
      clear hbe3 hb3 hO3 hlg3 hkU hbe HD HO
      go_wp2_with fail
      go_roundw
      case rel => exact ⟨k + 1, _, by go_num, by omega, HN3, HBU, HDU⟩
      case measure => simp [intOf]; omega
    · have HFIN : Hid (NewRecs w.heap.size wr (.slice (some ⟨lg, 0, none⟩) n n) rs) := ⟨Vs, HO.out.1, by rw [HO.out.2, HN.out], fun i x r hx hr => by
        obtain ⟨g, e, h1, -, h3, h4⟩ := HD.out i x r (by have := (List.getElem?_eq_some_iff.1 hr).1; have := HN.out; omega) hx hr
        exact ⟨g, e, h1, h3, h4⟩⟩
      go_wp2_with fail
      go_ret
      exact ⟨_, rfl, HFIN.out, HB.out⟩
end Go.Proofs.YteoebmpfdcbbmacDoor
