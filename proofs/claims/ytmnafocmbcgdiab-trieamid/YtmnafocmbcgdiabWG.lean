/-
  The reference: its list in memory; valid, find.
-/
import Derived.Test.YtmnafocmbcgdiabWF
import Derived.Test.YtmnafocmbcgdiabVT
namespace Go.Proofs.Ytmnafocmbcgdiab
open Go.ChangeShapes Go.WideShapes Go.ChangeAt Go.RowKit Tri N
set_option maxHeartbeats 1000000
set_option maxRecDepth 100000

def ec (e : K × Int) : List Value := [.int .u32 (e.1.x : Int), .int .i64 (e.1.n : Int), .int .i64 e.2]
def ecs (L : List (K × Int)) : List Value := L.flatMap ec

theorem ecs_len (L : List (K × Int)) : (ecs L).length = L.length * 3 := by
  induction L with
  | nil => rfl
  | cons p L ih => simp only [ecs, List.flatMap_cons, List.length_append, List.length_cons] at ih ⊢; rw [ih]; simp [ec]; omega

theorem ecs_snoc (L : List (K × Int)) (k : K) (v : Int) : ecs L ++ [.int .u32 (k.x : Int), .int .i64 (k.n : Int), .int .i64 v] = ecs (L ++ [(k, v)]) := by
  simp [ecs, ec]

theorem ecs_at (L : List (K × Int)) (j : Nat) {e : K × Int} (h : L[j]? = some e) : (ecs L)[j * 3]? = some (.int .u32 (e.1.x : Int)) ∧ (ecs L)[j * 3 + 1]? = some (.int .i64 (e.1.n : Int)) ∧ (ecs L)[j * 3 + 2]? = some (.int .i64 e.2) := by
  induction L generalizing j with
  | nil => cases h
  | cons p L ih =>
    cases j with
    | zero => simp at h; subst h; simp [ecs, ec]
    | succ j =>
      have := ih j (by simpa using h)
      have e' : ecs (p :: L) = .int .u32 (p.1.x : Int) :: .int .i64 (p.1.n : Int) :: .int .i64 p.2 :: ecs L := rfl
      rw [e', show (j + 1) * 3 = j * 3 + 1 + 1 + 1 from by omega, show j * 3 + 1 + 1 + 1 + 1 = (j * 3 + 1) + 1 + 1 + 1 from rfl, show j * 3 + 1 + 1 + 1 + 2 = (j * 3 + 2) + 1 + 1 + 1 from rfl]
      simp only [List.getElem?_cons_succ]
      exact this

/-- A list of entries of one's own. -/
def OwnE (w : World) (base : Nat) (v : Value) (L : List (K × Int)) : Prop := w.ownsRow base 77 3 v L.length (ecs L)

/-- The reference's trie: its block, its list. -/
def RefAt (w : World) (rb : Nat) (v : Value) (L : List (K × Int)) : Prop := w.heap[rb]? = some (.cells #[v] 92) ∧ OwnE w 0 v L ∧ ∀ e ∈ L, e.1.Ok

theorem OwnE.below {w w' : World} {base : Nat} {v : Value} {L : List (K × Int)} (h : OwnE w base v L) (hb : Below w.heap.size w w') : OwnE w' base v L := owns_below h hb
theorem RefAt.below {w w' : World} {rb : Nat} {v : Value} {L : List (K × Int)} (h : RefAt w rb v L) (hb : Below w.heap.size w w') : RefAt w' rb v L := ⟨below_keeps hb h.1 (Array.getElem?_eq_some_iff.1 h.1).1, h.2.1.below hb, h.2.2⟩

theorem OwnE.shape {w : World} {base : Nat} {v : Value} {L : List (K × Int)} (h : OwnE w base v L) : ∃ ao n cap, v = .slice ao n cap ∧ Hid (n = L.length) ∧ n ≤ cap ∧ cap ≤ maxLen := by
  rcases h.2 with ⟨rfl, hn⟩ | ⟨g, cap, cur, rfl, _, _, hnc, hcm, _, _⟩
  · exact ⟨none, 0, 0, rfl, hn.symm, Nat.le_refl _, by unfold maxLen; omega⟩
  · exact ⟨_, _, _, rfl, rfl, hnc, hcm⟩

theorem OwnE.at {w : World} {base : Nat} {ao : Option Addr} {n cap : Nat} {L : List (K × Int)} (h : OwnE w base (.slice ao n cap) L) (j : Nat) (hj : j < n) : ∃ g e, ao = some ⟨g, 0, none⟩ ∧ g < w.heap.size ∧ L[j]? = some e ∧ w.cell? ⟨g, j * 3, none⟩ = some (.int .u32 (e.1.x : Int)) ∧ w.cell? ⟨g, j * 3 + 1, none⟩ = some (.int .i64 (e.1.n : Int)) ∧ w.cell? ⟨g, j * 3 + 2, none⟩ = some (.int .i64 e.2) := by
  rcases h.2 with ⟨hv, hn⟩ | ⟨g, cap', cur, hv, hb, hg, hnc, hcm, hcs, htake⟩
  · simp at hv; omega
  · simp at hv
    obtain ⟨rfl, rfl, rfl⟩ := hv
    have he : L[j]? = some (L[j]'hj) := List.getElem?_eq_getElem hj
    obtain ⟨e0, e1, e2⟩ := ecs_at L j he
    refine ⟨g, L[j]'hj, rfl, (Array.getElem?_eq_some_iff.1 hg).1, he, ?_, ?_, ?_⟩
    · rw [h.cellAt (j * 3) (by omega)]; exact e0
    · rw [h.cellAt (j * 3 + 1) (by omega)]; exact e1
    · rw [h.cellAt (j * 3 + 2) (by omega)]; exact e2

theorem posL_le {L : List (K × Int)} {p : K} {i j n : Nat} (h : posL L p j = some i) (hn : j ≤ n) : posL L p n = some i := by
  induction n with
  | zero => obtain rfl : j = 0 := by omega
            exact h
  | succ n ih =>
    rcases Nat.lt_or_ge j (n + 1) with h1 | h1
    · unfold posL; rw [ih (by omega)]
    · obtain rfl : j = n + 1 := by omega
      exact h

def posI : Option Nat → Int
  | none => -1
  | some i => (i : Int)

theorem find_ref {rb : Nat} {v : Value} {L : List (K × Int)} (p : K) (w : World) (hR : RefAt w rb v L) :
    Calls Try.prog 58 #[.pointer (some ⟨rb, 0, none⟩), pv p] w fun e w' => e = .returned (.int .i64 (posI (posL L p L.length))) ∧ Below w.heap.size w w' := by
  obtain ⟨ao, n, cap, rfl, HN, hn1, hn2⟩ := hR.2.1.shape
  obtain ⟨wa, hwa⟩ : ∃ wa, wa = w.alloc (.cells #[.int .u32 (p.x : Int), .int .i64 (p.n : Int)] 31) := ⟨_, rfl⟩
  have hb0 : Below w.heap.size w wa := by rw [hwa]; exact (Below.refl _ _).alloc (Nat.le_refl _) _
  have r1 : wa.heap[w.heap.size]? = some (.cells #[.int .u32 (p.x : Int), .int .i64 (p.n : Int)] 31) := by rw [hwa]; exact heap_alloc_new w _
  have HR := hid (hR.below hb0)
  have HWA := hid hwa
  have HB0 := hid hb0
  have R1 := hid r1
  have HS : Hid (wa.heap.size = w.heap.size + 1) := by unfold Hid; rw [hwa]; simp
  rw [← HN.out]
  unfold maxLen at hn2
  unfold pv
  clear hR hwa r1 hb0
  go_enter Try.func58, Try.ntmps58
  go_upto_region 1 with fail
  rw [← HWA.out]
  go_upto_region 2 with fail
  go_loopw [5] (fun i wr => ∃ (j : Nat), i = .int .i64 (j : Int) ∧ j ≤ n ∧ Hid (posL L p j = none) ∧ Below wa.heap.size wa wr) (fun i _ => n - (intOf i).toNat)
  case atStart => exact ⟨0, rfl, by omega, rfl, Below.refl _ _⟩
  case round =>
    obtain ⟨j, rfl, hj, HP, hb⟩ := hrel
    have hrr := HR.out.below hb
    have t0 : wr.cell? ⟨rb, 0, none⟩ = some (.slice ao n cap) := by rw [cell_of_row _ _ _ _ _ _ hrr.1]; rfl
    by_cases hjn : j < n
    · obtain ⟨g, e, hao, hg, he, c0, c1, _⟩ := hrr.2.1.at j hjn
      subst hao
      obtain ⟨k, v⟩ := e
      simp only at c0 c1
      have x0 : wr.cell? ⟨w.heap.size, 0, none⟩ = some (.int .u32 (p.x : Int)) := by rw [cell_of_row _ _ _ _ _ _ (below_keeps hb R1.out (by have := HS.out; omega))]; rfl
      have x1 : wr.cell? ⟨w.heap.size, 1, none⟩ = some (.int .i64 (p.n : Int)) := by rw [cell_of_row _ _ _ _ _ _ (below_keeps hb R1.out (by have := HS.out; omega))]; rfl
      have b1 : (j : Int) < (n : Int) := by omega
      have b2 : (0 : Int) ≤ (j : Int) := by omega
      have HB1 : Hid (Below w.heap.size w wr.drew) := by
        have h1 := HB0.out.trans (hb.mono HB0.out.size)
        exact ⟨h1.os, h1.tape, h1.output, h1.size, h1.block⟩
      have HB2 : Hid (Below wa.heap.size wa wr.drew) := ⟨hb.os, hb.tape, hb.output, hb.size, hb.block⟩
      by_cases hk : k = p
      · have hq : ∀ u : World, (Op.equalIn 10000 31 (.agg #[.int .u32 (k.x : Int), .int .i64 (k.n : Int)]) (.agg #[.int .u32 (p.x : Int), .int .i64 (p.n : Int)])).run Try.prog u = .ok true u := fun u => by rw [eqK]; simp [hk]
        have HRS : Hid (posL L p n = some j) := by
          refine posL_le (j := j + 1) ?_ (by omega)
          unfold posL; rw [HP.out, he, hk]; simp
        clear hk he hb hrr hg
        go_upto_region 4 with fail
        refine wp_region_still_tail 9 (by kernel_rfl) (by kernel_rfl) ?_
        simp only [List.take_succ_cons, List.take_zero, List.drop_succ_cons, List.drop_zero]
        iterate 9 still_step
        refine wpStill_nil ?_
        go_wp2_with fail
        go_ret
        exact ⟨ret_int (by rw [HRS.out]; rfl), HB1.out⟩
      · have hq : ∀ u : World, (Op.equalIn 10000 31 (.agg #[.int .u32 (k.x : Int), .int .i64 (k.n : Int)]) (.agg #[.int .u32 (p.x : Int), .int .i64 (p.n : Int)])).run Try.prog u = .ok false u := fun u => by rw [eqK]; simp [hk]
        have HRS : Hid (posL L p (j + 1) = none) := by
          unfold Hid posL; rw [HP.out, he]; simp [hk]
        clear hk he hb hrr hg
        go_upto_region 4 with fail
        refine wp_region_still_tail 9 (by kernel_rfl) (by kernel_rfl) ?_
        simp only [List.take_succ_cons, List.take_zero, List.drop_succ_cons, List.drop_zero]
        iterate 9 still_step
        refine wpStill_nil ?_
        go_wp2_with fail
        go_roundw
        case rel => exact ⟨j + 1, by go_num, by omega, HRS, HB2.out⟩
        case measure => simp [intOf]; omega
    · have b1 : ¬ (j : Int) < (n : Int) := by omega
      have HRS : Hid (posL L p n = none) := by rw [show n = j by omega]; exact HP.out
      have HB1 : Hid (Below w.heap.size w wr) := HB0.out.trans (hb.mono HB0.out.size)
      clear hb hrr
      go_wp2_with fail
      go_ret
      exact ⟨ret_int (by rw [HRS.out]; rfl), HB1.out⟩
end Go.Proofs.Ytmnafocmbcgdiab
