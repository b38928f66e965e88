import Derived.Test.YtenhofbhkchjoaaS
import Derived.Test.YtenhofbhkchjoaaG
namespace Go.Proofs.Ytenhofbhkchjoaa
open Go.ChangeShapes Go.WideShapes Go.ChangeAt Go.RowKit
set_option maxHeartbeats 400000

def firstErr : List (Nat × Int) → Int
  | [] => 0
  | p :: t => if err p = 0 then firstErr t else err p

/-- Merge's error. -/
def merr (L : List (Nat × Int)) : Int := if 4096 < L.length then 2 else firstErr L

theorem firstErr_at : ∀ (L : List (Nat × Int)) (j : Nat) (p : Nat × Int), L[j]? = some p → (∀ q, q ∈ L.take j → err q = 0) → err p ≠ 0 → firstErr L = err p := by
  intro L
  induction L with
  | nil => intro j p h; simp at h
  | cons q t ih =>
    intro j p h hg he
    cases j with
    | zero => simp at h; subst h; simp [firstErr, he]
    | succ j =>
      have hq : err q = 0 := hg q (by simp)
      simp only [firstErr]; rw [if_pos hq]
      exact ih j p (by simpa using h) (fun r hr => hg r (by simp [hr])) he

theorem firstErr_none : ∀ (L : List (Nat × Int)), (∀ q, q ∈ L → err q = 0) → firstErr L = 0 := by
  intro L
  induction L with
  | nil => intro _; rfl
  | cons q t ih => intro h; simp only [firstErr]; rw [if_pos (h q (by simp))]; exact ih (fun r hr => h r (by simp [hr]))

/-- The list of a merge, over intervals that rise. -/
def mlist (J : List (Nat × Nat)) : List (Nat × Nat) := (M.jn J).flatMap fun r => M.cv r.1 r.2

/-- All numbers are addresses. -/
def Adr (L : List (Nat × Int)) : Prop := ∀ p, p ∈ L → p.1 < 4294967296

theorem good_iv {L : List (Nat × Int)} (h : Good L) : ∀ r, r ∈ L.map iv → r.1 ≤ r.2 ∧ r.2 < 4294967296 := by
  intro r hr
  obtain ⟨p, hp, rfl⟩ := List.mem_map.1 hr
  obtain ⟨j, hj, e⟩ := List.mem_iff_getElem.1 hp
  obtain ⟨x, k, _, _, _, _, e2, h1, h2⟩ := good_k h (j := j) (p := p) (by rw [List.getElem?_eq_getElem hj, e])
  rw [e2]; simp only; omega

theorem mlist_step {J : List (Nat × Nat)} {j m h : Nat} {p : Nat × Nat} (hp : J[j]? = some p) (hm : (h, m) = ((M.fr p.2 ((J.drop j).drop 1)).1, (M.fr p.2 ((J.drop j).drop 1)).2 + 1)) : mlist (J.drop j) = M.cv p.1 h ++ mlist (J.drop (j + m)) := by
  have h1 : j < J.length := (List.getElem?_eq_some_iff.1 hp).1
  have e1 := (List.getElem?_eq_some_iff.1 hp).2
  have e : J.drop j = p :: (J.drop j).drop 1 := by rw [List.drop_drop, List.drop_eq_getElem_cons h1, e1]
  simp only [Prod.mk.injEq] at hm
  unfold mlist
  rw [e, M.jn_fr, ← hm.1, ← hm.2, ← e, List.drop_drop]
  simp

theorem setCell_two {w : World} {b : Nat} {x y z : Value} {T : TypeId} (h : w.heap[b]? = some (.cells #[x, y] T (0, 0))) : (w.setCell ⟨b, 1, none⟩ z).heap[b]? = some (.cells #[x, z] T (0, 0)) := by
  simp [World.setCell, Array.getElem?_modify, h]

theorem owns_mono {w : World} {B B' : Nat} {e : TypeId} {size : Nat} {v : Value} {n : Nat} {xs : List Value} (h : w.ownsRow B e size v n xs) (hB : B' ≤ B) : w.ownsRow B' e size v n xs := by
  refine ⟨h.1, ?_⟩
  rcases h.2 with hn | ⟨g, cap, cur, rfl, hb, rest⟩
  · exact .inl hn
  · exact .inr ⟨g, cap, cur, rfl, Nat.le_trans hB hb, rest⟩

theorem ret_vi {v : Value} {k : IntKind} {a b : Int} (h : a = b) : Ending.returned (.tuple #[v, .int k a]) = .returned (.tuple #[v, .int k b]) := by rw [h]

theorem row_two {w : World} {b : Nat} {x y : Value} {T : TypeId} (h : w.heap[b]? = some (.cells #[x, y] T (0, 0))) : w.cell? ⟨b, 0, none⟩ = some x ∧ w.cell? ⟨b, 1, none⟩ = some y ∧ w.frozen? ⟨b, 1, none⟩ = false ∧ b < w.heap.size := by
  refine ⟨by rw [cell_of_row w b 0 _ _ _ h]; rfl, by rw [cell_of_row w b 1 _ _ _ h]; rfl, by simp [World.frozen?, h], (Array.getElem?_eq_some_iff.1 h).1⟩

theorem dropR_at {J : List (Nat × Nat)} {j t : Nat} {q : Nat × Nat} (hj : j ≤ t) (h : J[t]? = some q) : (J.drop j).drop (t - j) = (q.1, q.2) :: (J.drop j).drop (t - j + 1) := by
  have ht : t < J.length := (List.getElem?_eq_some_iff.1 h).1
  have e := (List.getElem?_eq_some_iff.1 h).2
  rw [List.drop_drop, List.drop_drop, show j + (t - j) = t from by omega, show j + (t - j + 1) = t + 1 from by omega, List.drop_eq_getElem_cons ht, e]

theorem refMerge_long (v : Value) (L : List (Nat × Int)) (w : World) (hs : Sees w v L) (hl : 4096 < L.length) :
    Calls Try.prog 21 #[v] w fun e w' => e = .returned (.tuple #[.slice none 0 0, .int .i64 2]) ∧ w' = w := by
  obtain ⟨ao, n, cap, rfl, HN, hnc, hcap⟩ := hs.shape
  have hn : 4096 < n := by rw [HN.out]; exact hl
  unfold maxLen at hcap
  go_enter Try.func21, Try.ntmps21
  go_wp2
  go_ret2
  exact ⟨rfl, rfl⟩

/-- What a merge answers. -/
def Merged (L : List (Nat × Int)) (B : Nat) (w w' : World) (e : Ending) : Prop :=
  ∃ v R, e = .returned (.tuple #[v, .int .i64 (merr L)]) ∧ w'.ownsRow B 30 2 v R.length (cells R) ∧ Below w.heap.size w w' ∧
    Hid ((merr L ≠ 0 → R = []) ∧ (merr L = 0 → Good L ∧ ∃ J, J.Perm (L.map iv) ∧ M.Rises J ∧ R = mlist J))

set_option maxHeartbeats 2000000 in
theorem refMerge_short (v : Value) (L : List (Nat × Int)) (w : World) (hs : Sees w v L) (ha : Adr L) (hl : ¬ 4096 < L.length) :
    Calls Try.prog 21 #[v] w fun e w' => Merged L w.heap.size w w' e := by
  obtain ⟨ao, n, cap, rfl, HN, hnc, hcap⟩ := hs.shape
  have hn : n ≤ 4096 := by rw [HN.out]; omega
  have HA : Hid (Adr L) := ha
  have HML : Hid (merr L = firstErr L) := by unfold Hid merr; rw [if_neg hl]
  unfold maxLen at hcap
  obtain ⟨i0, hi0, hz0, hz1, hz2⟩ := info_parts Try.info57
  have HI : Hid (Try.prog.info? 57 = some i0) := hi0
  clear hi0 ha hl
  go_enter Try.func21, Try.ntmps21
  go_wp2_with fail
  go_loopw [4, 5] (fun t i wr => ∃ j : Nat, i = .int .i64 j ∧ j ≤ n ∧ Hid (Good (L.take j)) ∧ wr.ownsRow w.heap.size 57 2 t ((L.take j).map iv).length (cellsR ((L.take j).map iv)) ∧ Below w.heap.size w wr) (fun _ i _ => n - (intOf i).toNat)
  case atStart => exact ⟨0, rfl, by omega, by simp [Hid, Good], World.ownsRow_nil _ _ _ _, Below.refl _ _⟩
  case round =>
    obtain ⟨j, rfl, hj, HG, hown, hbr⟩ := hrel
    by_cases hjn : j < n
    · obtain ⟨g, off, p, rfl, hg, c0, c1, HP⟩ := (hs.below hbr).at j hjn
      obtain ⟨x, ln⟩ := p
      have hx : x < 4294967296 := HA.out _ (List.mem_of_getElem? HP.out)
      simp only at c0 c1
      by_cases he : err (x, ln) = 0
      · obtain ⟨k, hk, h2, h3⟩ := err_ok he
        simp only at h2 h3
        subst h2
        have HG2 : Hid (Good (L.take (j + 1)) ∧ (L.take (j + 1)).map iv = (L.take j).map iv ++ [(x, x + pw k - 1)]) := by
          have e1 := HP.out
          have e2 : L.take (j + 1) = L.take j ++ [(x, 32 - (k : Int))] := by rw [List.take_add_one, e1]; rfl
          refine ⟨?_, ?_⟩
          · rw [e2]; intro q hq
            rcases List.mem_append.1 hq with hq | hq
            · exact HG.out q hq
            · simp at hq; subst hq; exact ⟨hx, he⟩
          · rw [e2, List.map_append, List.map_singleton, iv_k x k hk]
        have ht := top_of x k hx hk h3
        have hp := pw_pos k
        have H3 : Hid (x % 2 ^ k = 0) := h3
        have hlen : ((L.take j).map iv).length ≤ 4096 := by simp; omega
        clear he h3
        go_wp2_with fail
        refine (span_ok x k _ hx hk H3.out).mono ?_
        rintro e w1 ⟨rfl, hb1⟩
        have hown1 := owns_below hown hb1
        have hs1 := hb1.size
        obtain ⟨z, hz⟩ : ∃ z, z = x + pw k - 1 := ⟨_, rfl⟩
        rw [← hz]
        rw [← hz] at HG2
        have hz32 : z < 4294967296 := by omega
        clear hz ht hp c0 c1
        generalize hI : (L.take j).map iv = I at *
        go_wp2_with (at_builtin; refine wpList_append_own _ rfl _ _ 53 rfl w.heap.size 57 i0 (.agg #[.int .i64 0, .int .i64 0]) 2 16 Try.underlying53 HI.out hz0 hz1 hz2 rfl (by decide) _ _ _ rfl (hown1.alloc _) ⟨w1.heap.size, 0, none⟩ 1 1 [.int .i64 (x : Int), .int .i64 (z : Int)] rfl rfl ?c1 ?c2 ?c3 ?c4 ?c5 ?_)
        case c1 => exact two_at rfl _ _ _
        case c2 => intro u hu; simp at hu; rcases hu with rfl | rfl <;> rfl
        case c3 => unfold maxLen; omega
        case c4 => omega
        case c5 => have := hbr.size; simp; omega
        · intro m3 w3 hown3 hgrow _
          have hb3 : Below w.heap.size w w3 := run_step (q := 0) (by have := hbr.size; omega) (hbr.trans (hb1.mono hbr.size)) hown1 hgrow
          rw [cellsR_snoc I (x, z)] at hown3
          clear hgrow hown hown1
          go_wp2_with fail
          go_roundw
          case rel => exact ⟨j + 1, by go_num, by omega, HG2.out.1, by rw [HG2.out.2, List.length_append]; exact hown3, hb3⟩
          case measure => simp [intOf]; omega
      · have HE : Hid (firstErr L = err (x, ln)) := firstErr_at L j _ HP.out (fun q hq => (HG.out q hq).2) he
        have hq : (err (x, ln) != 0) = true := by rw [bne_iff_ne]; exact he
        have HR : Hid (merr L = err (x, ln)) := by unfold Hid; rw [HML.out, HE.out]
        clear he
        go_wp2_with fail
        refine (span_bad x ln _ hx hq).mono ?_
        rintro e w1 ⟨rfl, hb1⟩
        go_wp2_with fail
        go_ret2
        exact ⟨_, [], ret_vi HR.out.symm, World.ownsRow_nil _ _ _ _, hbr.trans (hb1.mono hbr.size), fun _ => rfl, fun h => absurd (HR.out.symm.trans h) (by simpa using hq)⟩
    · have e1 : L.take j = L := List.take_of_length_le (by have := HN.out; omega)
      rw [e1] at HG hown
      have HM0 : Hid (merr L = 0) := by unfold Hid; rw [HML.out]; exact firstErr_none L (fun q hq => (HG.out q hq).2)
      have hsR := seesR_of_owns hown
      go_wp2_with fail
      refine (sorted_any 4096 (L.map iv) _ _ (by rw [List.length_map, ← HN.out]; exact hn) (by rw [List.length_map, ← HN.out]; exact hn) hsR).mono ?_
      rintro e w2 ⟨v2, J, rfl, hsJ, hpJ, hrJ, hb2⟩
      have HJ : Hid (∀ r, r ∈ J → r.1 ≤ r.2 ∧ r.2 < 4294967296) := fun r hr => good_iv HG.out r ((hpJ.mem_iff).1 hr)
      have hbw : Below w.heap.size w w2 := hbr.trans (hb2.mono hbr.size)
      have HF : Hid (Good L ∧ ∃ J', J'.Perm (L.map iv) ∧ M.Rises J' ∧ mlist J = mlist J') := ⟨HG.out, J, hpJ, hrJ, rfl⟩
      obtain ⟨aoJ, nJ, capJ, rfl, HNJ, hncJ, hcapJ⟩ := hsJ.shape
      have hnJ : nJ ≤ 4096 := by have h1 := HNJ.out; have h2 := hpJ.length_eq; rw [List.length_map] at h2; have := HN.out; omega
      unfold maxLen at hcapJ
      clear hown hsR hpJ hrJ HG e1 hbr hb2 hs
      go_wp2_with fail
      go_loopw [9, 10] (fun t i wr => ∃ (j : Nat) (acc : List (Nat × Nat)), i = .int .i64 j ∧ j ≤ nJ ∧ Hid (acc ++ mlist (J.drop j) = mlist J) ∧ acc.length ≤ 62 * j ∧ wr.ownsRow w2.heap.size 30 2 t acc.length (cells acc) ∧ Below w2.heap.size w2 wr) (fun _ i _ => nJ - (intOf i).toNat)
      case atStart => exact ⟨0, [], rfl, by omega, rfl, by simp, World.ownsRow_nil _ _ _ _, Below.refl _ _⟩
      case round =>
        obtain ⟨j, acc, rfl, hj, HM, hacc, hown2, hbs⟩ := hrel
        by_cases hjn : j < nJ
        · obtain ⟨g, off, p, rfl, hg, c0, c1, HP⟩ := (hsJ.below hbs).at j hjn
          have hpb := HJ.out p (List.mem_of_getElem? HP.out)
          go_wp2_with fail
          go_loopw [10] (fun i wx => ∃ t h : Nat, i = .int .i64 t ∧ j + 1 ≤ t ∧ t ≤ nJ ∧ h < 4294967296 ∧ Hid (M.fr p.2 ((J.drop j).drop 1) = ((M.fr h ((J.drop j).drop (t - j))).1, (M.fr h ((J.drop j).drop (t - j))).2 + (t - j - 1))) ∧ Hid (wx.heap[wr.heap.size]? = some (.cells #[.int .i64 (p.1 : Int), .int .i64 (h : Int)] 57 (0, 0))) ∧ Below wr.heap.size wr wx) (fun i _ => nJ - (intOf i).toNat)
          case atStart => exact ⟨j + 1, p.2, by go_num, by omega, by omega, hpb.2, by simp [Hid], heap_alloc_new wr _, (Below.refl _ _).alloc (Nat.le_refl _) _⟩
          case round =>
            obtain ⟨t, h, rfl, htj, htn, hh32, HR, HB, hbx⟩ := hrel
            obtain ⟨e0, e1, ef, hsz⟩ := row_two HB.out
            by_cases htl : t < nJ
            · obtain ⟨g', off', q, hao, hg', d0, d1, HQ⟩ := ((hsJ.below hbs).below hbx).at t htl
              simp at hao
              obtain ⟨rfl, rfl⟩ := hao
              have hqb := HJ.out q (List.mem_of_getElem? HQ.out)
              have hne : g ≠ wr.heap.size := by omega
              have hdt : decide ((t : Int) < (nJ : Int)) = true := by simp; omega
              by_cases hle : q.1 ≤ h + 1
              · have hq1 : decide ((q.1 : Int) ≤ (h : Int) + 1) = true := by simp; omega
                have HS := fr_step (by omega) (dropR_at (by omega) HQ.out) HR.out hle
                by_cases hgt : h < q.2
                · go_wp2
                  go_quiet (fail)
                  go_wp2
                  go_quiet (fail)
                  go_wp2
                  go_roundw
                  case rel => exact ⟨t + 1, q.2, by go_num, by omega, by omega, hqb.2, by rw [Nat.max_eq_right (by omega)] at HS; rw [show t + 1 - j = t - j + 1 from by omega]; exact HS, setCell_two (by exact HB.out), (below_drewN hbx _).setCell (Nat.le_refl _) _⟩
                  case measure => simp [intOf]; omega
                · go_wp2
                  go_quiet (fail)
                  go_wp2
                  go_quiet (fail)
                  go_wp2
                  go_roundw
                  case rel => exact ⟨t + 1, h, by go_num, by omega, by omega, hh32, by rw [Nat.max_eq_left (by omega)] at HS; rw [show t + 1 - j = t - j + 1 from by omega]; exact HS, HB, below_drewN hbx _⟩
                  case measure => simp [intOf]; omega
              · have hq1 : decide ((q.1 : Int) ≤ (h : Int) + 1) = false := by simp; omega
                have HFR := fr_stop (by omega) (dropR_at (by omega) HQ.out) HR.out hle
                have HX : Hid (acc ++ M.cv p.1 h ++ mlist (J.drop t) = mlist J) := by
                  have h1 := HM.out
                  rw [mlist_step HP.out HFR, show j + (t - j) = t from by omega, ← List.append_assoc] at h1
                  exact h1
                have hlen : (acc ++ M.cv p.1 h).length ≤ 62 * t := by have := M.cv_len p.1 h; rw [List.length_append]; omega
                go_wp2
                go_quiet (fail)
                go_wp2_with fail
                refine (covered_any 32 (Nat.le_refl _) w2.heap.size 0 p.1 h _ _ _ acc _ rfl (by omega) (by decide +kernel) (by omega) hh32 (by have := M.cv_len p.1 h; unfold M.cv at this; omega) (by exact Nat.le_trans hbs.size hbx.size) (by exact owns_below hown2 (below_drewN hbx _))).mono ?_
                rintro e w5 ⟨v5, rfl, hown5, hb5⟩
                go_wp2_with fail
                go_roundw
                case rel => exact ⟨t, acc ++ M.cv p.1 h, rfl, htn, HX, hlen, hown5, (hbs.trans ((below_drewN hbx nq).mono hbs.size)).trans hb5⟩
                case measure => simp [intOf]; omega
            · have hdt : decide ((t : Int) < (nJ : Int)) = false := by simp; omega
              have HFR := fr_end (by omega) (show (J.drop j).drop (t - j) = [] from by rw [List.drop_drop]; exact List.drop_eq_nil_of_le (by have := HNJ.out; omega)) HR.out
              have HX : Hid (acc ++ M.cv p.1 h ++ mlist (J.drop t) = mlist J) := by
                have h1 := HM.out
                rw [mlist_step HP.out HFR, show j + (t - j) = t from by omega, ← List.append_assoc] at h1
                exact h1
              have hlen : (acc ++ M.cv p.1 h).length ≤ 62 * t := by have := M.cv_len p.1 h; rw [List.length_append]; omega
              go_wp2
              go_quiet (fail)
              go_wp2_with fail
              refine (covered_any 32 (Nat.le_refl _) w2.heap.size 0 p.1 h _ _ _ acc _ rfl (by omega) (by decide +kernel) (by omega) hh32 (by have := M.cv_len p.1 h; unfold M.cv at this; omega) (by exact Nat.le_trans hbs.size hbx.size) (by exact owns_below hown2 (below_drewN hbx _))).mono ?_
              rintro e w5 ⟨v5, rfl, hown5, hb5⟩
              go_wp2_with fail
              go_roundw
              case rel => exact ⟨t, acc ++ M.cv p.1 h, rfl, htn, HX, hlen, hown5, (hbs.trans ((below_drewN hbx nq).mono hbs.size)).trans hb5⟩
              case measure => simp [intOf]; omega
        · have HE : Hid (acc = mlist J) := by
            have h1 := HM.out
            rw [List.drop_eq_nil_of_le (by have := HNJ.out; omega)] at h1
            unfold Hid; rw [← h1]; simp [mlist, M.jn]
          go_wp2_with fail
          go_ret2
          refine ⟨_, acc, ret_vi HM0.out.symm, ?_, hbw.trans (hbs.mono hbw.size), fun h => absurd HM0.out h, fun _ => ?_⟩
          · exact owns_mono hown2 hbw.size
          · obtain ⟨a1, J', a2, a3, a4⟩ := HF.out
            exact ⟨a1, J', a2, a3, by rw [HE.out]; exact a4⟩
theorem refMerge_any (v : Value) (L : List (Nat × Int)) (w : World) (hs : Sees w v L) (ha : Adr L) :
    Calls Try.prog 21 #[v] w fun e w' => Merged L w.heap.size w w' e := by
  by_cases hl : 4096 < L.length
  · refine (refMerge_long v L w hs hl).mono ?_
    rintro e w' ⟨rfl, rfl⟩
    have hm : merr L = 2 := by unfold merr; rw [if_pos hl]
    exact ⟨_, [], ret_vi hm.symm, World.ownsRow_nil _ _ _ _, Below.refl _ _, fun _ => rfl, fun h => by rw [hm] at h; cases h⟩
  · exact refMerge_short v L w hs ha hl

/-- Two merges of lists that hold the same addresses answer the same list. -/
theorem mlist_same {L L' : List (Nat × Int)} {J J' : List (Nat × Nat)} (hg : Good L) (hg' : Good L') (hp : J.Perm (L.map iv)) (hp' : J'.Perm (L'.map iv)) (hr : M.Rises J) (hr' : M.Rises J') (h : ∀ x, M.Has (L.map iv) x ↔ M.Has (L'.map iv) x) : mlist J = mlist J' := by
  unfold mlist
  rw [M.jn_unique (fun p hq => (good_iv hg p (hp.mem_iff.1 hq)).1) hr (fun p hq => (good_iv hg' p (hp'.mem_iff.1 hq)).1) hr']
  intro x
  rw [M.has_mem (fun p => hp.mem_iff), M.has_mem (fun p => hp'.mem_iff)]
  exact h x
end Go.Proofs.Ytenhofbhkchjoaa
