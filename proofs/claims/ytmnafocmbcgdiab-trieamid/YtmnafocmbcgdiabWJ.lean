/-
  The reference: Put of what is there.
-/
import Derived.Test.YtmnafocmbcgdiabWI
namespace Go.Proofs.Ytmnafocmbcgdiab
open Go.ChangeShapes Go.WideShapes Go.ChangeAt Go.RowKit Tri N
set_option maxHeartbeats 1000000
set_option maxRecDepth 100000

theorem ecs_set {L : List (K × Int)} {i : Nat} {p : K} {v0 : Int} (h : L[i]? = some (p, v0)) (a : Int) : ecs (L.set i (p, a)) = (ecs L).set (i * 3 + 2) (.int .i64 a) := by
  induction L generalizing i with
  | nil => cases h
  | cons e L ih =>
    cases i with
    | zero => simp at h; subst h; rfl
    | succ i =>
      have := ih (i := i) (by simpa using h)
      have e1 : ecs (e :: L) = .int .u32 (e.1.x : Int) :: .int .i64 (e.1.n : Int) :: .int .i64 e.2 :: ecs L := rfl
      rw [List.set_cons_succ, e1, show (i + 1) * 3 + 2 = (i * 3 + 2) + 1 + 1 + 1 by omega]
      simp only [List.set_cons_succ]
      rw [← this]
      rfl

theorem OwnE.set {w : World} {base g n cap : Nat} {L : List (K × Int)} (h : OwnE w base (.slice (some ⟨g, 0, none⟩) n cap) L) {i : Nat} {p : K} {v0 : Int} (hi : L[i]? = some (p, v0)) (a : Int) :
    OwnE (w.setCell ⟨g, i * 3 + 2, none⟩ (.int .i64 a)) base (.slice (some ⟨g, 0, none⟩) n cap) (L.set i (p, a)) := by
  rcases h.2 with ⟨hv, hn⟩ | ⟨g', cap', cur, hv, hb, hg, hnc, hcm, hcs, htake⟩
  · simp at hv
  · simp at hv
    obtain ⟨rfl, rfl, rfl⟩ := hv
    unfold OwnE
    rw [List.length_set]
    refine ⟨by rw [ecs_len, List.length_set], .inr ⟨g, cap, cur.setIfInBounds (i * 3 + 2) (.int .i64 a), rfl, hb, set_row hg, hnc, hcm, by rw [Array.size_setIfInBounds]; exact hcs, ?_⟩⟩
    rw [ecs_set hi a, ← htake, Array.toList_setIfInBounds, List.take_set]

theorem putR_bad {rb x : Nat} {y a : Int} (w : World) (hx : x < 4294967296) (h : Bad x y) :
    Calls Try.prog 44 #[.pointer (some ⟨rb, 0, none⟩), qv x y, .int .i64 a] w fun e w' => e = .returned (.int .i64 11) ∧ Below w.heap.size w w' := by
  obtain ⟨wa, hwa, hb0, hs0, r1, x0, x1⟩ := one_box w (.int .u32 (x : Int)) (.int .i64 y)
  have HV := hid (validR_any (y := y) wa hx)
  rw [valB_bad h] at HV
  have HWA := hid hwa
  have HB0 := hid hb0
  unfold qv at HV ⊢
  clear hwa r1 hb0 hs0
  go_enter Try.func44, Try.ntmps44
  go_upto_region 1 with fail
  rw [← HWA.out]
  go_wp2_with fail
  refine HV.out.mono ?_
  rintro _ w3 ⟨rfl, hb3⟩
  have HB3 : Hid (Below w.heap.size w w3) := HB0.out.trans (hb3.mono HB0.out.size)
  clear hb3 x0 x1
  go_wp2_with fail
  go_ret
  exact ⟨rfl, HB3.out⟩

theorem putR_set {rb : Nat} {v : Value} {L : List (K × Int)} (p : K) (a : Int) (w : World) (hR : RefAt w rb v L) (hp : p.Ok) {i : Nat} {v0 : Int} (h1 : posL L p L.length = some i) (h2 : i < L.length) (h3 : L[i]? = some (p, v0)) :
    Calls Try.prog 44 #[.pointer (some ⟨rb, 0, none⟩), pv p, .int .i64 a] w fun e w' => e = .returned (.int .i64 0) ∧ RefAt w' rb v (L.set i (p, a)) ∧ Chg (fun b => v.ownBlock = some b) w w' := by
  obtain ⟨ao, n, cap, rfl, HN, hn1, hn2⟩ := hR.2.1.shape
  have hin : i < n := by have := HN.out; omega
  obtain ⟨g, _, hao, _, _, _, _, _⟩ := hR.2.1.at i hin
  subst hao
  obtain ⟨wa, hwa, hb0, hs0, r1, x0, x1⟩ := one_box w (.int .u32 (p.x : Int)) (.int .i64 (p.n : Int))
  have HV := hid (validR_any (y := (p.n : Int)) wa hp.2.2)
  rw [valB_ok hp] at HV
  have HR := hid hR
  have HWA := hid hwa
  have HB0 := hid hb0
  have HS0 := hid hs0
  have R1 := hid r1
  have H3 := hid h3
  have H1 := hid h1
  unfold maxLen at hn2
  unfold qv at HV
  unfold pv
  have b1 : (i : Int) < (n : Int) := by omega
  have b2 : (0 : Int) ≤ (i : Int) := by omega
  clear hR hwa r1 hb0 hs0 h1 h2 h3
  go_enter Try.func44, Try.ntmps44
  go_upto_region 1 with fail
  rw [← HWA.out]
  go_wp2_with fail
  refine HV.out.mono ?_
  rintro _ w3 ⟨rfl, hb3⟩
  have b03 : Below w.heap.size w w3 := HB0.out.trans (hb3.mono HB0.out.size)
  have r3 := below_keeps hb3 R1.out (by have := HS0.out; omega)
  have x0 : w3.cell? ⟨w.heap.size, 0, none⟩ = some (.int .u32 (p.x : Int)) := by rw [cell_of_row _ _ _ _ _ _ r3]; rfl
  have x1 : w3.cell? ⟨w.heap.size, 1, none⟩ = some (.int .i64 (p.n : Int)) := by rw [cell_of_row _ _ _ _ _ _ r3]; rfl
  have HF := hid (find_ref p w3 (HR.out.below b03))
  rw [H1.out] at HF
  simp only [posI] at HF
  have HB3 := hid b03
  unfold pv at HF
  clear hb3 b03 r3
  go_wp2_with fail
  refine HF.out.mono ?_
  rintro _ w4 ⟨rfl, hb4⟩
  have b04 := HB3.out.trans (hb4.mono HB3.out.size)
  have hr4 := HR.out.below b04
  obtain ⟨g', e, hao, hg, he, _, _, c2⟩ := hr4.2.1.at i hin
  rw [H3.out] at he
  obtain rfl := Option.some.inj he
  simp at hao
  subst hao
  have t0 : w4.cell? ⟨rb, 0, none⟩ = some (.slice (some ⟨g, 0, none⟩) n cap) := by rw [cell_of_row _ _ _ _ _ _ hr4.1]; rfl
  simp only at c2
  have hrow : ∃ cur, w4.heap[g]? = some (.cells cur 77 (0, 0)) := by
    rcases hr4.2.1.2 with ⟨hv, _⟩ | ⟨g', cap', cur, hv, _, hgg, _⟩
    · simp at hv
    · simp at hv; obtain ⟨rfl, _⟩ := hv; exact ⟨cur, hgg⟩
  obtain ⟨cur, hrow⟩ := hrow
  have f2 : w4.frozen? ⟨g, i * 3 + 2, none⟩ = false := frozen_of_row _ _ _ _ _ hrow
  have hgr : g ≠ rb := fun e => by
    have h := hr4.1
    rw [← e, hrow] at h
    injection h with h
    injection h with _ h
    exact absurd h (by decide)
  have HFIN : Hid (RefAt (w4.setCell ⟨g, i * 3 + 2, none⟩ (.int .i64 a)) rb (.slice (some ⟨g, 0, none⟩) n cap) (L.set i (p, a)) ∧ Chg (fun b => Value.ownBlock (.slice (some ⟨g, 0, none⟩) n cap) = some b) w (w4.setCell ⟨g, i * 3 + 2, none⟩ (.int .i64 a))) := by
    refine ⟨⟨((But.set g _ w4 _).block rb (Array.getElem?_eq_some_iff.1 hr4.1).1 (Ne.symm hgr)).trans hr4.1, hr4.2.1.set H3.out a, fun e he => ?_⟩, (Chg.of_below b04).trans (Chg.of_but (But.set g _ w4 _) rfl)⟩
    rcases List.mem_or_eq_of_mem_set he with h | h
    · exact hr4.2.2 e h
    · rw [h]; exact hp
  clear hb4 b04 hr4 hg he hrow hgr
  go_wp2_with fail
  go_ret
  exact ⟨rfl, HFIN.out⟩
end Go.Proofs.Ytmnafocmbcgdiab
