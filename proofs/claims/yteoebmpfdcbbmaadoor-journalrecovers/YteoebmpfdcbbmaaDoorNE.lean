/-
  The tale's at.
-/
import Derived.Test.YteoebmpfdcbbmaaDoorNB
namespace Jn
/-- Where the walk over the points stands. -/
theorem atP_drop : ∀ (P : Pts) (i k : Nat) (p q : Nat × List (List Nat)), P[i]? = some p → P[i + 1]? = some q → atP (P.drop i) k = if q.1 ≤ k then atP (P.drop (i + 1)) k else p.2
  | P, i, k, p, q, hp, hq => by
    have e1 : P.drop i = p :: P.drop (i + 1) := by rw [← List.getElem_cons_drop (List.getElem?_eq_some_iff.1 hp).1, (List.getElem?_eq_some_iff.1 hp).2]
    have e2 : P.drop (i + 1) = q :: P.drop (i + 2) := by rw [← List.getElem_cons_drop (List.getElem?_eq_some_iff.1 hq).1, (List.getElem?_eq_some_iff.1 hq).2]
    rw [e1, e2, atP]
theorem atP_end (P : Pts) (i k : Nat) (p : Nat × List (List Nat)) (hp : P[i]? = some p) (hl : P.length = i + 1) : atP (P.drop i) k = p.2 := by
  have e1 : P.drop i = p :: P.drop (i + 1) := by rw [← List.getElem_cons_drop (List.getElem?_eq_some_iff.1 hp).1, (List.getElem?_eq_some_iff.1 hp).2]
  rw [e1, List.drop_eq_nil_of_le (by omega), atP]
end Jn
namespace Go.Proofs.YteoebmpfdcbbmaaDoor
open Go.ChangeShapes Go.WideShapes Go.ChangeAt Go.RowKit Jn N
set_option maxHeartbeats 4000000
set_option maxRecDepth 100000

theorem ptc_at : ∀ (X : List Pt3) (i : Nat) (x : Pt3), X[i]? = some x → (X.flatMap ptc)[i * 3]? = some (.int .i64 (x.g : Int)) ∧ (X.flatMap ptc)[i * 3 + 1]? = some (.int .i64 (x.n : Int)) ∧ (X.flatMap ptc)[i * 3 + 2]? = some (.int .i64 (x.a : Int))
  | [], i, x, h => by simp at h
  | y :: X, 0, x, h => by simp at h; subst h; simp [ptc]
  | y :: X, i + 1, x, h => by
    obtain ⟨h1, h2, h3⟩ := ptc_at X i x (by simpa using h)
    have e : (i + 1) * 3 = i * 3 + 3 := by omega
    rw [e]
    simp only [List.flatMap_cons, ptc, List.cons_append, List.nil_append, List.getElem?_cons_succ]
    exact ⟨h1, h2, h3⟩
section
variable {w u : World} {S : Nat → Prop} {p : Nat} {l : Lg} {q : Nat} {C : Nat → Prop} {vG vP vR : Value} {Gs : List Value} {X : List Pt3} {Gc : List (List (List Nat))} {R : List (List Nat)} {P : Pts} {sz wr : Nat}
theorem TaX.pt {a : Option Addr} {m c : Nat} (h : TaX w u S p l q C vG (.slice a m c) vR Gs X Gc R P sz wr) {i : Nat} (hi : i < m) : ∃ g x pp, a = some ⟨g, 0, none⟩ ∧ g < u.heap.size ∧ u.cell? ⟨g, i * 3, none⟩ = some (.int .i64 (x.g : Int)) ∧ u.cell? ⟨g, i * 3 + 1, none⟩ = some (.int .i64 (x.n : Int)) ∧ u.cell? ⟨g, i * 3 + 2, none⟩ = some (.int .i64 (x.a : Int)) ∧ X[i]? = some x ∧ P[i]? = some pp ∧ x.a = pp.1 ∧ ∃ L, (Gc ++ [R])[x.g]? = some L ∧ x.n ≤ L.length ∧ pp.2 = L.take x.n := by
  obtain ⟨a', c', e, -, -⟩ := row_shape h.fp
  simp at e
  obtain ⟨rfl, rfl, rfl⟩ := e
  have hx : X[i]? = some X[i] := List.getElem?_eq_getElem hi
  have hp : P[i]? = some (P[i]'(by rw [← h.pk.1]; exact hi)) := List.getElem?_eq_getElem _
  obtain ⟨q1, q2, q3⟩ := ptc_at X i _ hx
  obtain ⟨g, rfl, -, hg, -, r1⟩ := row_cell h.fp q1
  obtain ⟨g2, e2, -, -, -, r2⟩ := row_cell h.fp q2
  obtain ⟨g3, e3, -, -, -, r3⟩ := row_cell h.fp q3
  simp at e2 e3
  subst e2 e3
  obtain ⟨s1, s2⟩ := h.pk.2 i _ _ hx hp
  exact ⟨g, _, _, rfl, hg, r1, r2, r3, hx, hp, s1, s2⟩
/-- A generation, read. -/
theorem TaX.gen {a : Option Addr} {n c : Nat} (h : TaX w u S p l q C (.slice a n c) vP vR Gs X Gc R P sz wr) (hs : Gs[Gc.length]? = some vR) {i : Nat} {L : List (List Nat)} (hL : (Gc ++ [R])[i]? = some L) : ∃ g v, a = some ⟨g, 0, none⟩ ∧ g < u.heap.size ∧ i < n ∧ u.cell? ⟨g, i, none⟩ = some v ∧ SeesBB u v L := by
  obtain ⟨a', c', e, -, -⟩ := row_shape h.fg
  simp at e
  obtain ⟨rfl, rfl, rfl⟩ := e
  have hgl := (List.getElem?_eq_some_iff.1 hs).1
  by_cases hi : i < Gc.length
  · rw [List.getElem?_append_left hi] at hL
    have hv : Gs[i]? = some Gs[i] := List.getElem?_eq_getElem (by omega)
    obtain ⟨g, rfl, -, hg, -, hc⟩ := row_cell h.fg hv
    exact ⟨g, _, rfl, hg, by omega, hc, (h.cl i _ L hv hL).sees⟩
  · rw [List.getElem?_append_right (by omega)] at hL
    rcases hj : i - Gc.length with _ | j
    · rw [hj] at hL
      simp at hL
      subst hL
      obtain rfl : i = Gc.length := by omega
      obtain ⟨g, rfl, -, hg, -, hc⟩ := row_cell h.fg hs
      exact ⟨g, _, rfl, hg, by omega, hc, h.fr.sees⟩
    · rw [hj] at hL; simp at hL
end
theorem at_any {w u : World} {S : Nat → Prop} {p : Nat} {l : Lg} {q : Nat} {C : Nat → Prop} {vG vP vR : Value} {Gs : List Value} {X : List Pt3} {Gc : List (List (List Nat))} {R : List (List Nat)} {P : Pts} {sz wr : Nat} (h : TaX w u S p l q C vG vP vR Gs X Gc R P sz wr) (hs : Gs[Gc.length]? = some vR) (hP : P ≠ []) (bX : X.length ≤ 4000000000000) (z : Int) (hz : -9223372036854775808 ≤ z ∧ z < 9223372036854775808) (hpo : ∀ (i : Nat) pp, P[i + 1]? = some pp → 0 < pp.1) :
    Calls Tryd.prog 24 #[.pointer (some ⟨q, 0, none⟩), .int .i64 z] u fun e u' => ∃ v, e = .returned v ∧ SeesBB u' v (atP P z.toNat) ∧ Below u.heap.size u u' := by
  obtain ⟨ag, n, cg, rfl⟩ : ∃ a n c, vG = .slice a n c := by obtain ⟨a, c, e, -, -⟩ := row_shape h.fg; exact ⟨a, _, c, e⟩
  obtain ⟨ap, m, cp, rfl, hm, hcp1, hcp2⟩ : ∃ a m c, vP = .slice a m c ∧ m = X.length ∧ m ≤ c ∧ c ≤ 9223372036854775807 := by obtain ⟨a, c, e, h1, h2⟩ := row_shape h.fp; exact ⟨a, _, c, e, rfl, h1, h2⟩
  have hmP : m = P.length := by rw [hm, h.pk.1]
  have hm0 : 0 < m := by rw [hmP]; exact List.length_pos_iff.2 hP
  obtain ⟨c0, c1, c2, c3, c4, cf⟩ := ta_cells h.row
  have hql := h.lt.1
  have HT := hid h
  have HS := hid hs
  have HMP := hid hmP
  have HPO := hid hpo
  rw [← hm] at bX
  clear h hs hP hmP hm hpo
  go_enter Tryd.func24, Tryd.ntmps24
  go_wp2_with fail
  go_loop [5] (fun i => ∃ k : Nat, i = .int .i64 (k : Int) ∧ k < m ∧ Hid (atP P z.toNat = atP (P.drop k) z.toNat)) (fun i => m - (intOf i).toNat)
  case atStart => exact ⟨0, rfl, hm0, by unfold Hid; simp⟩
  case round =>
    obtain ⟨k, rfl, hk, HK⟩ := hrel
    by_cases hlt : k + 1 < m
    · obtain ⟨gx, x, pp, ea, hgx, d0, d1, d2, hx, hp, hxa, -, -, -, -⟩ := HT.out.pt hlt
      subst ea
      have hq : 0 < pp.1 := HPO.out k pp hp
      by_cases hle : (x.a : Int) ≤ z
      · as_aux_lemma =>
          have HK2 : Hid (atP P z.toNat = atP (P.drop (k + 1)) z.toNat) := by
            unfold Hid
            rw [HK.out, atP_drop P k _ _ pp (List.getElem?_eq_getElem (by have := HMP.out; omega)) hp, if_pos (by omega)]
          obtain ⟨xa, HXA⟩ : ∃ xa, xa = x.a := ⟨_, rfl⟩
          rw [← HXA] at d2 hle
          clear hx hp hxa HK HXA
          go_wp2_with fail
          go_round
          case rel => exact ⟨k + 1, by go_num, hlt, HK2⟩
          case measure => simp [intOf]; omega
      · as_aux_lemma =>
          obtain ⟨g, x0, p0, eg,  hg0, e0, e1, e2, hx0, hp0, hxa0, L0, hL0, hn0, hpp0⟩ := HT.out.pt hk
          simp at eg
          subst eg
          obtain ⟨gg, v, rfl, hgg, hin, hgc, hsv⟩ := HT.out.gen HS.out hL0
          obtain ⟨av, nv, cv, rfl, HNV, -, -⟩ := hsv.shape
          obtain ⟨ao', HSV, hcut⟩ := hsv.high x0.n (x0.n : Int) rfl (by have := HNV.out; omega)
          have HAT : Hid (atP P z.toNat = L0.take x0.n) := by
            unfold Hid
            rw [HK.out]
            rw [atP_drop P k _ _ pp hp0 hp, if_neg (by omega)]
            exact hpp0
          obtain ⟨xg, HXG⟩ : ∃ xg, xg = x0.g := ⟨_, rfl⟩
          obtain ⟨xn, HXN⟩ : ∃ xn, xn = x0.n := ⟨_, rfl⟩
          rw [← HXG] at e0 hin hgc
          rw [← HXN] at e1 HSV hcut HAT hn0
          obtain ⟨xa, HXA⟩ : ∃ xa, xa = x.a := ⟨_, rfl⟩
          rw [← HXA] at d2 hle
          clear hx hp hxa HXA hsv hx0 hp0 hxa0 hL0 hpp0 HXG HXN HK HT HS HPO
          go_upto_region 4 with fail
          refine wp_region_still_tail 23 (by kernel_rfl) (by kernel_rfl) ?_
          simp only [List.take_succ_cons, List.take_zero, List.drop_succ_cons, List.drop_zero]
          iterate 23 still_step
          refine wpStill_nil ?_
          go_wp2_with fail
          go_ret
          exact ⟨_, rfl, by rw [HAT.out]; exact HSV.out.below (below_drew (Below.refl _ _)), below_drew (Below.refl _ _)⟩
    · as_aux_lemma =>
        obtain ⟨g, x0, p0, rfl, hg0, e0, e1, e2, hx0, hp0, hxa0, L0, hL0, hn0, hpp0⟩ := HT.out.pt hk
        obtain ⟨gg, v, rfl, hgg, hin, hgc, hsv⟩ := HT.out.gen HS.out hL0
        obtain ⟨av, nv, cv, rfl, HNV, -, -⟩ := hsv.shape
        obtain ⟨ao', HSV, hcut⟩ := hsv.high x0.n (x0.n : Int) rfl (by have := HNV.out; omega)
        have HAT : Hid (atP P z.toNat = L0.take x0.n) := by
          unfold Hid
          rw [HK.out]
          rw [atP_end P k _ p0 hp0 (by have := HMP.out; omega)]
          exact hpp0
        obtain ⟨xg, HXG⟩ : ∃ xg, xg = x0.g := ⟨_, rfl⟩
        obtain ⟨xn, HXN⟩ : ∃ xn, xn = x0.n := ⟨_, rfl⟩
        rw [← HXG] at e0 hin hgc
        rw [← HXN] at e1 HSV hcut HAT hn0
        clear hsv hx0 hp0 hxa0 hL0 hpp0 HXG HXN HK HT HS HPO
        go_upto_region 4 with fail
        refine wp_region_still_tail 23 (by kernel_rfl) (by kernel_rfl) ?_
        simp only [List.take_succ_cons, List.take_zero, List.drop_succ_cons, List.drop_zero]
        iterate 23 still_step
        refine wpStill_nil ?_
        go_wp2_with fail
        go_ret
        exact ⟨_, rfl, by rw [HAT.out]; exact HSV.out.below (below_drew (Below.refl _ _)), below_drew (Below.refl _ _)⟩
end Go.Proofs.YteoebmpfdcbbmaaDoor
