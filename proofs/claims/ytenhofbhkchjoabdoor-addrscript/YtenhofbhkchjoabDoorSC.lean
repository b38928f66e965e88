import Derived.Test.YtenhofbhkchjoabDoorSB
namespace Go.Proofs.YtenhofbhkchjoabDoor.Mg
open Go.ChangeShapes Go.WideShapes Go.ChangeAt Go.RowKit
set_option maxHeartbeats 400000
set_option maxRecDepth 100000

theorem jr_len : ∀ (t : List (Nat × Nat)) (lo hi : Nat), (M.jr lo hi t).length ≤ t.length + 1 := by
  intro t
  induction t with
  | nil => intro lo hi; simp [M.jr]
  | cons p t ih =>
    intro lo hi
    simp only [M.jr]
    split
    · have := ih lo (max hi p.2); simp; omega
    · have := ih p.1 p.2; simp; omega

theorem jn_len (J : List (Nat × Nat)) : (M.jn J).length ≤ J.length := by
  cases J with
  | nil => simp [M.jn]
  | cons p t => have := jr_len t p.1 p.2; simp [M.jn]; omega

theorem flat_len (l : List (Nat × Nat)) : (l.flatMap fun r => M.cv r.1 r.2).length ≤ 62 * l.length := by
  induction l with
  | nil => simp
  | cons r t ih =>
    have := M.cv_len r.1 r.2
    simp only [List.flatMap_cons, List.length_append, List.length_cons]
    omega

/-- Two merges of one list answer the same. -/
theorem merged_same {L : List (Nat × Int)} {R R' : List (Nat × Nat)} (h : (merr L ≠ 0 → R = []) ∧ (merr L = 0 → Good L ∧ ∃ J, J.Perm (L.map iv) ∧ M.Rises J ∧ R = mlist J))
    (h' : (merr L ≠ 0 → R' = []) ∧ (merr L = 0 → Good L ∧ ∃ J, J.Perm (L.map iv) ∧ M.Rises J ∧ R' = mlist J)) : R = R' := by
  by_cases e : merr L = 0
  · obtain ⟨g, J, p, r, rfl⟩ := h.2 e
    obtain ⟨_, J', p', r', rfl⟩ := h'.2 e
    exact mlist_same g g p p' r r' (fun x => Iff.rfl)
  · rw [h.1 e, h'.1 e]

/-- A merge is not long. -/
theorem merged_len {L : List (Nat × Int)} {R : List (Nat × Nat)} (h : (merr L ≠ 0 → R = []) ∧ (merr L = 0 → Good L ∧ ∃ J, J.Perm (L.map iv) ∧ M.Rises J ∧ R = mlist J)) : R.length ≤ 253952 := by
  by_cases e : merr L = 0
  · obtain ⟨g, J, p, r, rfl⟩ := h.2 e
    have hl : L.length ≤ 4096 := by
      unfold merr at e
      by_cases h4 : 4096 < L.length
      · rw [if_pos h4] at e; cases e
      · omega
    have h1 := flat_len (M.jn J)
    have h2 := jn_len J
    have h3 := p.length_eq
    simp at h3
    unfold mlist; omega
  · rw [h.1 e]; simp

set_option maxHeartbeats 2000000 in
theorem mergesS_any {w : World} {B p : Nat} {vl vs vw : Value} {L : List (Nat × Int)} {KA KC : List (Value × List (Nat × Int))} (h : St w B p vl vs vw L KA KC) (ha : Adr L)
    (hL : L.length * 16 ≤ 140737488355328) (hA : (KA.length + 1) * 24 ≤ 140737488355328) (hC : (KC.length + 1) * 24 ≤ 140737488355328) :
    Calls Tryd.prog 36 #[.pointer (some ⟨p, 0, none⟩)] w fun e w' => e = .returned (.bool true) ∧ ∃ vs' vw' v u D, St w' B p vl vs' vw' L (KA ++ [(v, D)]) (KC ++ [(u, D)]) ∧ Chg (fun k => k = p ∨ vs.ownBlock = some k ∨ vw.ownBlock = some k) w w' := by
  obtain ⟨c0, c1, c2, cf⟩ := row3_at h.row
  have hp := h.lt
  have HA := hid ha
  have HL := hid hL
  have HKA := hid hA
  have HKC := hid hC
  have HS := hid h
  clear c1 c2 cf ha hL hA hC h
  go_enter Tryd.func36, Tryd.ntmps36
  go_wp2_with fail
  refine (copied_any vl L _ (sees_of_ownsP HS.out.ol) HL.out).mono ?_
  rintro e w1 ⟨v1, rfl, hown1, hb1⟩
  have hS1 := HS.out.below hb1
  have c1 := (row3_at hS1.row).1
  have hp1 := hS1.lt
  have hs1 := sees_of_ownsP hown1
  clear hown1
  go_wp2_with fail
  refine (merge_any byBase_any vl L _ (sees_of_ownsP hS1.ol) HA.out).mono ?_
  rintro e w2 ⟨v2, R, rfl, hown2, hb2, HR⟩
  go_wp2_with fail
  refine (refMerge_any v1 L _ (hs1.below hb2) HA.out).mono ?_
  rintro e w3 ⟨v3, R', rfl, hown3, hb3, HR'⟩
  have HRR : Hid (R = R') := merged_same HR.out HR'.out
  have HLEN : Hid (R.length ≤ 253952) := merged_len HR.out
  have hS2 := hS1.below hb2
  have hS3 := hS2.below hb3
  have hoff : Off w3 p vl vs vw v2 := Off.chg (hS1.off hown2) hb3.size
  have hsl := (sees_of_owns hown2).below hb3
  have hsm := sees_of_owns hown3
  have hs13 := (hs1.below hb2).below hb3
  have hb03 : Below w.heap.size w w3 := hb1.trans (((hb2.trans (hb3.mono hb2.size))).mono hb1.size)
  obtain ⟨er, her⟩ : ∃ er, er = merr L := ⟨_, rfl⟩
  rw [← her]
  have HO := hid hoff
  have HS3 := hid hS3
  have hsv := sees_of_ownsP hS3.ol
  have c3 := (row3_at hS3.row).1
  have hp3 := hS3.lt
  clear her HR HR' hown2 hown3 hs1 hb2 hb3 hb1 hS1 hS2 hS3 hoff c0 c1 hp1
  go_wp2_with fail
  refine (same_any v2 v3 _ _ _ hsl hsm).mono ?_
  rintro e w4 ⟨rfl, q, rfl⟩
  rw [HRR.out]
  simp only [decide_true]
  go_wp2_with fail
  refine (same_any vl v1 _ _ _ (hsv.below (below_drewN (Below.refl _ _) q)) (hs13.below (below_drewN (Below.refl _ _) q))).mono ?_
  rintro e w5 ⟨rfl, q', rfl⟩
  simp only [decide_true]
  have hb5 : Below w3.heap.size w3 (w3.drewN (q + q')) := below_drewN (Below.refl _ _) (q + q')
  obtain ⟨w6, hw6⟩ : ∃ w6, w6 = w3.drewN (q + q') := ⟨_, rfl⟩
  rw [← hw6] at hb5
  have HW6 := hid hw6
  clear hw6
  go_wp2_with fail
  rw [← HW6.out]
  refine (answers_any (HS3.out.below hb5) (hsl.below hb5) (HO.out.chg hb5.size) (by have := HLEN.out; rw [List.length_map]; omega) HKA.out HKC.out (Nat.le_trans HS3.out.lo (Nat.le_of_lt (HS3.out.below hb5).lt))).mono ?_
  rintro e w7 ⟨rfl, vs', vw', u, hS7, hc7⟩
  go_wp2_with fail
  go_ret
  refine ⟨rfl, vs', vw', v2, u, _, hS7, ?_⟩
  exact (Chg.of_below (hb03.trans (hb5.mono hb03.size))).trans hc7
end Go.Proofs.YtenhofbhkchjoabDoor.Mg
