/-
  The reference: List; the law's pods.
-/
import Derived.Test.YtjilahbkolcekabEN
namespace Go.Proofs.Ytjilahbkolcekab
open Go.ChangeShapes Go.WideShapes Go.ChangeAt Go.RowKit Go.Maps Tri
set_option maxHeartbeats 4000000
set_option maxRecDepth 100000

/-- p stands at j in A. -/
def insA (A : List Pod) (j : Nat) (p : Pod) : List Pod := A.take j ++ p :: A.drop j
theorem insA_len {A : List Pod} {j : Nat} {p : Pod} (h : j ≤ A.length) : (insA A j p).length = A.length + 1 := by unfold insA; simp; omega
theorem insA_at {A : List Pod} {j : Nat} {p : Pod} (h : j ≤ A.length) : (insA A j p)[j]? = some p := by
  unfold insA
  rw [List.getElem?_append_right (by rw [List.length_take]; omega), List.length_take, Nat.min_eq_left h, Nat.sub_self]; rfl
theorem insA_ahead {A : List Pod} {k : Nat} {p : Pod} (h : k < A.length) : (insA A (k + 1) p)[k]? = A[k]? := by
  unfold insA
  rw [List.getElem?_append_left (by rw [List.length_take]; omega), List.getElem?_take, if_pos (by omega)]
theorem insA_swap {A : List Pod} {k : Nat} {p q : Pod} (hq : A[k]? = some q) : ((insA A (k + 1) p).set (k + 1) q).set k p = insA A k p := by
  have hk := (List.getElem?_eq_some_iff.1 hq).1
  have e1 : A.take (k + 1) = A.take k ++ [q] := take_snoc hq
  have e2 : A.drop k = q :: A.drop (k + 1) := by
    rw [List.drop_eq_getElem_cons hk]
    have := (List.getElem?_eq_some_iff.1 hq).2
    rw [this]
  have hl : (A.take k).length = k := by rw [List.length_take]; omega
  unfold insA
  rw [e1, e2, List.append_assoc, List.set_append_right _ _ (by omega), List.set_append_right _ _ (by omega), hl, Nat.sub_self, show k + 1 - k = 1 by omega]
  rfl
theorem insA_end (A : List Pod) (p : Pod) : insA A A.length p = A ++ [p] := by unfold insA; simp
theorem insA_perm {A : List Pod} {j : Nat} {p : Pod} : (insA A j p).Perm (A ++ [p]) := by
  unfold insA
  have h1 : (A.take j ++ p :: A.drop j).Perm (p :: (A.take j ++ A.drop j)) := List.perm_middle
  rw [List.take_append_drop] at h1
  exact h1.trans (List.perm_append_singleton p A).symm
theorem insA_srt {A : List Pod} {j : Nat} {p : Pod} (hj : j ≤ A.length) (hA : A.Pairwise fun x y => x.ad < y.ad) (hlo : ∀ k q, j = k + 1 → A[k]? = some q → q.ad < p.ad) (hhi : ∀ q ∈ A.drop j, p.ad < q.ad) : (insA A j p).Pairwise fun x y => x.ad < y.ad := by
  unfold insA
  have hA' := hA
  rw [← List.take_append_drop j A, List.pairwise_append] at hA'
  obtain ⟨h1, h2, h3⟩ := hA'
  have hta : ∀ q ∈ A.take j, q.ad < p.ad := fun q hq => by
    cases j with
    | zero => simp at hq
    | succ k =>
      have hk : k < A.length := by omega
      have hl := hlo k A[k] rfl (List.getElem?_eq_getElem hk)
      obtain ⟨m, hm, e⟩ := List.mem_iff_getElem.1 hq
      have hm2 : m < k + 1 := by rw [List.length_take] at hm; omega
      rw [List.getElem_take] at e
      rcases Nat.lt_or_ge m k with h | h
      · have := (List.pairwise_iff_getElem.1 hA) m k (by omega) hk h
        rw [← e]; omega
      · have : m = k := by omega
        subst this
        rw [← e]; exact hl
  rw [List.pairwise_append]
  refine ⟨h1, List.pairwise_cons.2 ⟨hhi, h2⟩, fun a ha b hb => ?_⟩
  rcases List.mem_cons.1 hb with rfl | hb
  · exact hta a ha
  · exact h3 a ha b hb

theorem pd_set : ∀ (L : List Pod) (k : Nat) (p : Pod), k < L.length → pd (L.set k p) = ((pd L).set (k * 2) (.string p.nm)).set (k * 2 + 1) (.int .u32 (p.ad : Int))
  | q :: L, 0, p, _ => by simp [pd_cons]
  | q :: L, k + 1, p, h => by
    rw [List.set_cons_succ, pd_cons, pd_cons, pd_set L k p (by simpa using h), show (k + 1) * 2 = k * 2 + 1 + 1 by omega]
    simp

/-- A pod is written in its place. -/
theorem OwnD.put {w : World} {B g n cap k : Nat} {L : List Pod} (h : OwnD w B (.slice (some ⟨g, 0, none⟩) n cap) L) (hk : k < L.length) (p : Pod) :
    OwnD ((w.setCell ⟨g, k * 2, none⟩ (.string p.nm)).setCell ⟨g, k * 2 + 1, none⟩ (.int .u32 (p.ad : Int))) B (.slice (some ⟨g, 0, none⟩) n cap) (L.set k p) := by
  rcases h.2 with ⟨h0, _⟩ | ⟨g', cap', cur, h0, hbb, hg, h1, h2, h3, h4⟩
  · cases h0
  · simp only [Value.slice.injEq, Option.some.injEq, Addr.mk.injEq, and_true] at h0
    obtain ⟨rfl, rfl, rfl⟩ := h0
    have hr := set_cells (i := k * 2 + 1) (v := .int .u32 (p.ad : Int)) (set_cells (i := k * 2) (v := .string p.nm) hg)
    unfold OwnD
    rw [List.length_set]
    refine ⟨by rw [pd_set L k p hk]; simpa using h.1, .inr ⟨g, cap, _, rfl, hbb, hr, h1, h2, by simpa using h3, ?_⟩⟩
    rw [pd_set L k p hk, ← h4, Array.toList_setIfInBounds, Array.toList_setIfInBounds, List.take_set, List.take_set]

theorem pods_any (w : World) (B1 B2 : Nat) (v1 v2 : Value) (L : List Pod) (h1 : OwnD w B1 v1 L) (h2 : OwnD w B2 v2 L) (hl : L.length ≤ 1024) :
    Calls Try.prog 35 #[v1, v2] w fun e w' => e = .returned (.bool true) ∧ Below w.heap.size w w' := by
  obtain ⟨a1, n1, c1, rfl, HN1, hnc1, -, -⟩ := h1.shape
  obtain ⟨a2, n2, c2, rfl, HN2, hnc2, -, -⟩ := h2.shape
  have e12 : n2 = n1 := by rw [HN1.out, HN2.out]
  subst e12
  have hle : n2 ≤ 1024 := by rw [HN1.out]; exact hl
  have HO1 := hid h1
  have HO2 := hid h2
  clear h1 h2 hl
  go_enter Try.func35, Try.ntmps35
  go_upto_region 4 with fail
  go_loopw [5] (fun i wr => ∃ j : Nat, i = .int .i64 (j : Int) ∧ j ≤ n2 ∧ Hid (Below w.heap.size w wr)) (fun i _ => n2 - (intOf i).toNat)
  case atStart => exact ⟨0, rfl, Nat.zero_le _, Below.refl _ _⟩
  case round =>
    obtain ⟨j, rfl, hj, HB⟩ := hrel
    by_cases hlt : j < n2
    · have hlt' : (j : Int) < (n2 : Int) := int_lt hlt
      have hj0 : decide ((j : Int) < 0) = false := by simp
      obtain ⟨p, HX⟩ : ∃ p, Hid (L[j]? = some p) := ⟨_, hid (List.getElem?_eq_getElem (by have := HN1.out; omega))⟩
      obtain ⟨g1, rfl, hg1, hcl1⟩ := HO1.out.at HX.out
      obtain ⟨g2, rfl, hg2, hcl2⟩ := HO2.out.at HX.out
      have k1 : ∀ t : Beh wr, t.wd.cell? ⟨g1, j * 2, none⟩ = some (.string p.nm) := fun t => (hcl1 t.wd ((HB.out.trans (t.ok.mono HB.out.size)).block g1 hg1)).1
      have k2 : ∀ t : Beh wr, t.wd.cell? ⟨g1, j * 2 + 1, none⟩ = some (.int .u32 (p.ad : Int)) := fun t => (hcl1 t.wd ((HB.out.trans (t.ok.mono HB.out.size)).block g1 hg1)).2.1
      have k3 : ∀ t : Beh wr, t.wd.cell? ⟨g2, j * 2, none⟩ = some (.string p.nm) := fun t => (hcl2 t.wd ((HB.out.trans (t.ok.mono HB.out.size)).block g2 hg2)).1
      have k4 : ∀ t : Beh wr, t.wd.cell? ⟨g2, j * 2 + 1, none⟩ = some (.int .u32 (p.ad : Int)) := fun t => (hcl2 t.wd ((HB.out.trans (t.ok.mono HB.out.size)).block g2 hg2)).2.1
      clear hcl1 hcl2 hg1 hg2
      go_upto_region 6 with fail
      refine wp_region_beh (by kernel_rfl) (by kernel_rfl) ?_
      repeat (go_big_quiet_step (fail))
      refine wpQuiet_nil ?_
      rintro _ ⟨t, rfl⟩
      have HB2 : Hid (Below w.heap.size w t.wd) := HB.out.trans (t.ok.mono HB.out.size)
      clear k1 k2 k3 k4
      go_wp2_with fail
      go_roundw
      case rel => exact ⟨j + 1, by go_num, hlt, HB2⟩
      case measure => simp [intOf]; omega
    · have hlt' : ¬ (j : Int) < (n2 : Int) := int_nlt hlt
      go_wp2_with fail
      go_ret
      exact ⟨rfl, HB.out⟩
end Go.Proofs.Ytjilahbkolcekab
