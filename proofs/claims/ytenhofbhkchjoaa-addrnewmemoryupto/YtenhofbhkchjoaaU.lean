import Derived.Test.YtenhofbhkchjoaaT
namespace Go.Proofs.Ytenhofbhkchjoaa
open Go.ChangeShapes Go.WideShapes Go.ChangeAt Go.RowKit
set_option maxHeartbeats 400000

def pq (p : Nat × Int) : List Value := [.int .u32 (p.1 : Int), .int .i64 p.2]
def cellsP (L : List (Nat × Int)) : List Value := L.flatMap pq

theorem cellsP_snoc (L : List (Nat × Int)) (p : Nat × Int) : cellsP L ++ [.int .u32 (p.1 : Int), .int .i64 p.2] = cellsP (L ++ [p]) := by
  simp [cellsP, pq]

theorem cellsP_pv (L : List (Nat × Nat)) : cellsP (L.map pv) = cells L := by
  simp [cellsP, cells, List.flatMap_map, pq, pv]; rfl

theorem cellsP_at (L : List (Nat × Int)) (j : Nat) (h : j < L.length) : (cellsP L)[j * 2]? = some (.int .u32 (L[j].1 : Int)) ∧ (cellsP L)[j * 2 + 1]? = some (.int .i64 L[j].2) := by
  induction L generalizing j with
  | nil => cases h
  | cons p L ih =>
    cases j with
    | zero => simp [cellsP, pq]
    | succ j =>
      have h' : j < L.length := by simpa using h
      have := ih j h'
      have e : cellsP (p :: L) = .int .u32 (p.1 : Int) :: .int .i64 p.2 :: cellsP L := rfl
      rw [e, show (j + 1) * 2 = j * 2 + 1 + 1 from by omega, show j * 2 + 1 + 1 + 1 = (j * 2 + 1) + 1 + 1 from rfl]
      simp only [List.getElem?_cons_succ, List.getElem_cons_succ]
      exact this

theorem sees_of_ownsP {w : World} {base : Nat} {v : Value} {L : List (Nat × Int)} (h : w.ownsRow base 30 2 v L.length (cellsP L)) : Sees w v L := by
  rcases h.2 with ⟨rfl, hn⟩ | ⟨g, cap, cur, rfl, hb, hg, hnc, hcm, hcs, htake⟩
  · have : L = [] := List.eq_nil_of_length_eq_zero hn
    subst this
    exact ⟨none, 0, rfl, by simp, by unfold maxLen; omega, fun j h => absurd h (by simp)⟩
  · refine ⟨some ⟨g, 0, none⟩, cap, by simp, by simpa using hnc, hcm, fun j hj => ⟨g, 0, rfl, (Array.getElem?_eq_some_iff.1 hg).1, ?_, ?_⟩⟩
    · rw [Nat.zero_add, h.cellAt (j * 2) (by omega), (cellsP_at L j hj).1]
    · rw [Nat.zero_add, h.cellAt (j * 2 + 1) (by omega), (cellsP_at L j hj).2]

theorem copied_any (v : Value) (L : List (Nat × Int)) (w : World) (hs : Sees w v L) (hbig : L.length * 16 ≤ 140737488355328) :
    Calls Try.prog 14 #[v] w fun e w' => ∃ v', e = .returned v' ∧ w'.ownsRow w.heap.size 30 2 v' L.length (cellsP L) ∧ Below w.heap.size w w' := by
  obtain ⟨ao, n, cap, rfl, HN, hnc, hcap⟩ := hs.shape
  have hn16 : n * 16 ≤ 140737488355328 := by rw [HN.out]; exact hbig
  unfold maxLen at hcap
  obtain ⟨i0, hi0, hz0, hz1, hz2⟩ := info_parts Try.info30
  have HI : Hid (Try.prog.info? 30 = some i0) := hi0
  clear hi0 hbig
  go_enter Try.func14, Try.ntmps14
  go_wp2
  go_loopw [3, 4] (fun t i wr => ∃ j : Nat, i = .int .i64 j ∧ j ≤ n ∧ wr.ownsRow w.heap.size 30 2 t (L.take j).length (cellsP (L.take j)) ∧ Below w.heap.size w wr) (fun _ i _ => n - (intOf i).toNat)
  case atStart => exact ⟨0, rfl, by omega, World.ownsRow_nil _ _ _ _, Below.refl _ _⟩
  case round =>
    obtain ⟨j, rfl, hj, hown, hbr⟩ := hrel
    by_cases hjn : j < n
    · obtain ⟨g, off, p, rfl, hg, c0, c1, HP⟩ := (hs.below hbr).at j hjn
      have HT : Hid (L.take (j + 1) = L.take j ++ [p]) := by have e1 := HP.out; unfold Hid; rw [List.take_add_one, e1]; rfl
      have hlen : (L.take j).length ≤ j := by rw [List.length_take]; omega
      generalize L.take j = I at *
      go_wp2_with (at_builtin; refine wpList_append_own _ rfl _ _ 25 rfl w.heap.size 30 i0 (.agg #[.int .u32 0, .int .i64 0]) 2 16 Try.underlying25 HI.out hz0 hz1 hz2 rfl (by decide) _ _ _ rfl (hown.alloc _) ⟨wr.heap.size, 0, none⟩ 1 1 [.int .u32 (p.1 : Int), .int .i64 p.2] rfl rfl ?c1 ?c2 ?c3 ?c4 ?c5 ?_)
      case c1 => exact two_at rfl _ _ _
      case c2 => intro u hu; simp at hu; rcases hu with rfl | rfl <;> rfl
      case c3 => unfold maxLen; omega
      case c4 => omega
      case c5 => have := hbr.size; simp; omega
      · intro m3 w3 hown3 hgrow _
        have hb3 := run_step (q := 0) hbr.size hbr hown hgrow
        rw [cellsP_snoc] at hown3
        clear hgrow hown
        go_wp2
        go_roundw
        case rel => exact ⟨j + 1, by go_num, by omega, by rw [HT.out, List.length_append]; exact hown3, hb3⟩
        case measure => simp [intOf]; omega
    · have e1 : L.take j = L := List.take_of_length_le (by have := HN.out; omega)
      rw [e1] at hown
      go_wp2
      go_ret
      exact ⟨_, rfl, hown, hbr⟩

def ByBaseSaid : Prop := ∀ (v : Value) (L : List (Nat × Int)) (w : World), Sees w v L → L.length ≤ 4096 →
    Calls Try.prog 27 #[v] w fun e w' => ∃ v' D, e = .returned v' ∧ Sees w' v' D ∧ D.Perm L ∧ M.Rises (D.map iv) ∧ Below w.heap.size w w'

theorem merge_long (v : Value) (L : List (Nat × Int)) (w : World) (hs : Sees w v L) (hl : 4096 < L.length) :
    Calls Try.prog 16 #[v] w fun e w' => e = .returned (.tuple #[.slice none 0 0, .int .i64 2]) ∧ w' = w := by
  obtain ⟨ao, n, cap, rfl, HN, hnc, hcap⟩ := hs.shape
  have hn : 4096 < n := by rw [HN.out]; exact hl
  unfold maxLen at hcap
  go_enter Try.func16, Try.ntmps16
  go_wp2
  go_ret2
  exact ⟨rfl, rfl⟩

/-- The number of a slice's elements. -/
def lenOf : Value → Nat
  | .slice _ n _ => n
  | _ => 0

theorem Sees.back {w : World} {g off n cap m : Nat} {L : List (Nat × Int)} (h : Sees w (.slice (some ⟨g, off, none⟩) n cap) L) (hm : m ≤ n) : Sees w (.slice (some ⟨g, off + m * 2, none⟩) (n - m) (cap - m)) (L.drop m) := by
  obtain ⟨ao', cap', hv, h1, h2, h3⟩ := h
  simp at hv
  obtain ⟨rfl, rfl, rfl⟩ := hv
  refine ⟨_, _, by rw [List.length_drop], by rw [List.length_drop]; omega, by unfold maxLen at *; omega, fun j hj => ?_⟩
  rw [List.length_drop] at hj
  obtain ⟨g', off', a, b, c, d⟩ := h3 (m + j) (by omega)
  simp at a
  obtain ⟨rfl, rfl⟩ := a
  refine ⟨g, off + m * 2, rfl, b, ?_, ?_⟩
  · rw [List.getElem_drop, ← c, Nat.add_mul, ← Nat.add_assoc]
  · rw [List.getElem_drop, ← d, Nat.add_mul, ← Nat.add_assoc]

theorem Sees.back' {w : World} {g off n cap m : Nat} {L : List (Nat × Int)} (h : Sees w (.slice (some ⟨g, off, none⟩) n cap) L) (hm : m ≤ n) : Sees w (.slice (if cap = m then some ⟨g, off, none⟩ else some ⟨g, off + m * 2, none⟩) (n - m) (cap - m)) (L.drop m) := by
  split
  · rename_i hc
    obtain ⟨ao', cap', hv, h1, h2, h3⟩ := h
    simp at hv
    obtain ⟨rfl, rfl, rfl⟩ := hv
    exact ⟨_, _, by rw [List.length_drop], by rw [List.length_drop]; omega, by unfold maxLen at *; omega, fun j hj => absurd hj (by rw [List.length_drop]; omega)⟩
  · exact h.back hm

theorem fr_ge : ∀ (t : List (Nat × Nat)) (h : Nat), h ≤ (M.fr h t).1 := by
  intro t
  induction t with
  | nil => intro h; exact Nat.le_refl _
  | cons p t ih =>
    intro h
    simp only [M.fr]
    split
    · have := ih (max h p.2); simp only; omega
    · exact Nat.le_refl _

theorem cells_one (L : List (Nat × Nat)) : ∀ u ∈ cells L, u.oneCell' = true := by
  intro u hu
  obtain ⟨p, _, hp⟩ := List.mem_flatMap.1 hu
  simp [pc] at hp
  rcases hp with rfl | rfl <;> rfl

theorem cells_append (A B : List (Nat × Nat)) : cells A ++ cells B = cells (A ++ B) := by simp [cells]

theorem cv_ne {x h : Nat} (hx : x ≤ h) (h32 : h < 4294967296) : 0 < (M.cv x h).length := by
  obtain ⟨k, hk⟩ := M.wid_some hx
  rw [M.cv_step (by omega) hk]; simp

/-- A row that is not empty begins at an address. -/
theorem owns_shape {w : World} {B : Nat} {v : Value} {n : Nat} {xs : List Value} (h : w.ownsRow B 30 2 v n xs) (hn : 0 < n) : ∃ g cap, v = .slice (some ⟨g, 0, none⟩) n cap ∧ B ≤ g := by
  rcases h.2 with ⟨_, h0⟩ | ⟨g, cap, cur, rfl, hb, _⟩
  · omega
  · exact ⟨g, cap, rfl, hb⟩

set_option maxHeartbeats 1000000 in
theorem merge_short (hB : Hid ByBaseSaid) (v : Value) (L : List (Nat × Int)) (w : World) (hs : Sees w v L) (ha : Adr L) (hl : ¬ 4096 < L.length) :
    Calls Try.prog 16 #[v] w fun e w' => Merged L w.heap.size w w' e := by
  obtain ⟨ao, n, cap, rfl, HN, hnc, hcap⟩ := hs.shape
  have hn : n ≤ 4096 := by rw [HN.out]; omega
  have HA : Hid (Adr L) := ha
  have HML : Hid (merr L = firstErr L) := by unfold Hid merr; rw [if_neg hl]
  have hl' : L.length ≤ 4096 := by omega
  have HL : Hid (L.length ≤ 4096) := hl'
  unfold maxLen at hcap
  clear ha hl hl'
  go_enter Try.func16, Try.ntmps16
  go_wp2_with fail
  go_loopw [16] (fun i wr => ∃ j : Nat, i = .int .i64 j ∧ j ≤ n ∧ Hid (Good (L.take j)) ∧ Below w.heap.size w wr) (fun i _ => n - (intOf i).toNat)
  case atStart => exact ⟨0, rfl, by omega, by simp [Hid, Good], Below.refl _ _⟩
  case round =>
    obtain ⟨j, rfl, hj, HG, hbr⟩ := hrel
    by_cases hjn : j < n
    · obtain ⟨g, off, p, rfl, hg, c0, c1, HP⟩ := (hs.below hbr).at j hjn
      obtain ⟨x, ln⟩ := p
      have hx : x < 4294967296 := HA.out _ (List.mem_of_getElem? HP.out)
      simp only at c0 c1
      by_cases he : err (x, ln) = 0
      · have HG2 : Hid (Good (L.take (j + 1))) := by
          have e1 := HP.out
          have e2 : L.take (j + 1) = L.take j ++ [(x, ln)] := by rw [List.take_add_one, e1]; rfl
          unfold Hid; rw [e2]; intro q hq
          rcases List.mem_append.1 hq with hq | hq
          · exact HG.out q hq
          · simp at hq; subst hq; exact ⟨hx, he⟩
        have HE : Hid (err (x, ln) = 0) := he
        clear he
        go_wp2_with fail
        refine (check_any x ln _ hx).mono ?_
        rintro e w1 ⟨rfl, hb1⟩
        rw [HE.out]
        go_wp2_with fail
        go_roundw
        case rel => exact ⟨j + 1, by go_num, by omega, HG2, (hbr.alloc hbr.size _).trans (hb1.mono (by have := hbr.size; simp; omega))⟩
        case measure => simp [intOf]; omega
      · have HE : Hid (firstErr L = err (x, ln)) := firstErr_at L j _ HP.out (fun q hq => (HG.out q hq).2) he
        have hq : (err (x, ln) != 0) = true := by rw [bne_iff_ne]; exact he
        have HR : Hid (merr L = err (x, ln)) := by unfold Hid; rw [HML.out, HE.out]
        clear he
        go_wp2_with fail
        refine (check_any x ln _ hx).mono ?_
        rintro e w1 ⟨rfl, hb1⟩
        go_wp2_with fail
        go_ret2
        exact ⟨_, [], ret_vi HR.out.symm, World.ownsRow_nil _ _ _ _, (hbr.alloc hbr.size _).trans (hb1.mono (by have := hbr.size; simp; omega)), fun _ => rfl, fun h => absurd (HR.out.symm.trans h) (by simpa using hq)⟩
    · have e1 : L.take j = L := List.take_of_length_le (by have := HN.out; omega)
      rw [e1] at HG
      have HM0 : Hid (merr L = 0) := by unfold Hid; rw [HML.out]; exact firstErr_none L (fun q hq => (HG.out q hq).2)
      go_wp2_with fail
      refine (hB.out _ L _ (hs.below hbr) HL.out).mono ?_
      rintro e w1 ⟨v1, D, rfl, hsD, hpD, hrD, hb1⟩
      have hbw : Below w.heap.size w w1 := hbr.trans (hb1.mono hbr.size)
      have HGD : Hid (Good D) := fun q hq => HG.out q (hpD.mem_iff.1 hq)
      have HDL : Hid (D.length ≤ 4096) := by unfold Hid; rw [hpD.length_eq]; exact HL.out
      have HF : Hid (Good L ∧ ∃ J, J.Perm (L.map iv) ∧ M.Rises J ∧ mlist (D.map iv) = mlist J) := ⟨HG.out, D.map iv, hpD.map iv, hrD, rfl⟩
      clear hpD hrD HG e1 hbr hb1 hs
      obtain ⟨i0, hi0, hz0, hz1, hz2⟩ := info_parts Try.info30
      have HI : Hid (Try.prog.info? 30 = some i0) := hi0
      clear hi0
      go_wp2_with fail
      go_loopw [7, 8] (fun t r wr => ∃ (i : Nat) (acc : List (Nat × Nat)), i ≤ D.length ∧ Hid (Sees w1 r (D.drop i)) ∧ Hid (acc ++ mlist ((D.drop i).map iv) = mlist (D.map iv)) ∧ acc.length ≤ 62 * i ∧ wr.ownsRow w1.heap.size 30 2 t acc.length (cells acc) ∧ Below w1.heap.size w1 wr) (fun _ r _ => lenOf r)
      case atStart => exact ⟨0, [], by omega, hsD, rfl, by simp, World.ownsRow_nil _ _ _ _, Below.refl _ _⟩
      case round =>
        obtain ⟨i, acc, hi, HS, HM, hacc, hown, hbs⟩ := hrel
        have hi4 : i ≤ 4096 := by have := HDL.out; omega
        obtain ⟨ar, nr, capr, rfl, HNR, hncr, hcapr⟩ := HS.out.shape
        unfold maxLen at hcapr
        by_cases hnr : 0 < nr
        · go_wp2_with fail
          refine (firstRun_any _ (D.drop i) _ (HS.out.below hbs) (fun q hq => HGD.out q (List.mem_of_mem_drop hq)) (by intro e; have := HNR.out; rw [e] at this; simp at this; omega)).mono ?_
          rintro e w2 ⟨h, m, rfl, hh32, HFR, hb2⟩
          obtain ⟨g, off, p, rfl, hg, c0, c1, HP⟩ := (HS.out.below hbs).at 0 hnr
          obtain ⟨x, k, rfl, hx, hk, hm, hiv, htop, hpos⟩ := good_k (D := D.drop i) (fun q hq => HGD.out q (List.mem_of_mem_drop hq)) HP.out
          have hhead : (D.drop i).headD (0, 0) = (x, 32 - (k : Int)) := by
            have e1 := HP.out
            cases hd : D.drop i with
            | nil => rw [hd] at e1; simp at e1
            | cons q t => rw [hd] at e1; simpa using e1
          have hfr := HFR.out
          rw [hhead, hiv] at hfr
          simp only at hfr
          have hxh : x ≤ h := by
            have h1 := fr_ge (((D.drop i).map iv).drop 1) (x + pw k - 1)
            have h2 := (Prod.mk.injEq _ _ _ _ ▸ hfr).1
            omega
          have hm1 : 1 ≤ m ∧ m ≤ nr := by
            have h1 := M.fr_le (((D.drop i).map iv).drop 1) (x + pw k - 1)
            have h2 := (Prod.mk.injEq _ _ _ _ ▸ hfr).2
            rw [List.length_drop, List.length_map, ← HNR.out] at h1
            omega
          have HJ : Hid ((acc ++ M.cv x h) ++ mlist ((D.drop (i + m)).map iv) = mlist (D.map iv)) := by
            have e1 : (D.map iv)[i]? = some (x, x + pw k - 1) := by
              have e2 := HP.out
              rw [List.getElem?_drop, Nat.add_zero] at e2
              rw [List.getElem?_map, e2, Option.map_some, hiv]
            have h1 := HM.out
            rw [List.map_drop] at hfr h1
            rw [mlist_step e1 hfr, ← List.append_assoc] at h1
            unfold Hid; rw [List.map_drop]; exact h1
          have HSN : Hid (Sees w1 (.slice (if capr = m then some ⟨g, off, none⟩ else some ⟨g, off + m * 2, none⟩) (nr - m) (capr - m)) (D.drop (i + m))) := by
            have h1 := HS.out.back' hm1.2
            rw [List.drop_drop] at h1; exact h1
          have hiD : i + m ≤ D.length := by have h1 := HNR.out; rw [List.length_drop] at h1; omega
          have hcv := M.cv_len x h
          have hcv0 := cv_ne hxh hh32
          have c0' := (hb2.cell (p := ⟨g, off, none⟩) hg).trans (by simpa using c0)
          clear hfr hhead hiv c0 c1 hm
          go_wp2_with fail
          refine (cover_any x h _ hx hh32).mono ?_
          rintro e w3 ⟨vc, rfl, hownc, hb3⟩
          obtain ⟨gc, capc, rfl, hgc⟩ := owns_shape hownc hcv0
          have hb23 : Below w.heap.size w w3 ∧ Below w1.heap.size w1 w3 := by
            have h1 : Below w1.heap.size w1 w3 := hbs.trans ((hb2.mono hbs.size).trans (hb3.mono (Nat.le_trans hbs.size hb2.size)))
            exact ⟨hbw.trans (h1.mono hbw.size), h1⟩
          have hown3 := owns_below (owns_below hown hb2) hb3
          go_wp2_with (at_builtin; refine wpList_append_own _ rfl _ _ 25 rfl w1.heap.size 30 i0 (.agg #[.int .u32 0, .int .i64 0]) 2 16 Try.underlying25 HI.out hz0 hz1 hz2 rfl (by decide) _ _ _ rfl hown3 ⟨gc, 0, none⟩ (M.cv x h).length capc (cells (M.cv x h)) rfl (cells_len _) ?c1 (cells_one _) ?c3 ?c4 ?c5 ?_)
          case c1 => exact hownc.cells (g := gc) rfl
          case c3 => unfold maxLen; omega
          case c4 => omega
          case c5 => exact hb23.2.size
          · intro v4 w4 hown4 hgrow _
            have hb4 : Below w1.heap.size w1 w4 := hb23.2.grown hgrow hb23.2.size (fun k hk => (hown3.lt k hk).1)
            rw [cells_append, ← List.length_append] at hown4
            clear hgrow hown3 hown hownc
            have hm0 : (0 : Int) ≤ (m : Int) := by omega
            have hm2 : (m : Int) ≤ (nr : Int) := by omega
            go_wp2_with fail
            go_roundw
            case rel => exact ⟨i + m, acc ++ M.cv x h, hiD, HSN, HJ, by rw [List.length_append]; omega, hown4, hb4⟩
            case measure => simp [lenOf]; omega
        · have HE : Hid (acc = mlist (D.map iv)) := by
            have h1 := HM.out
            rw [List.drop_eq_nil_of_le (by have h2 := HNR.out; rw [List.length_drop] at h2; omega)] at h1
            unfold Hid; rw [← h1]; simp [mlist, M.jn]
          go_wp2_with fail
          go_ret2
          refine ⟨_, acc, ret_vi HM0.out.symm, owns_mono hown hbw.size, hbw.trans (hbs.mono hbw.size), fun h => absurd HM0.out h, fun _ => ?_⟩
          obtain ⟨a1, J', a2, a3, a4⟩ := HF.out
          exact ⟨a1, J', a2, a3, by rw [HE.out]; exact a4⟩
theorem merge_any (hB : ByBaseSaid) (v : Value) (L : List (Nat × Int)) (w : World) (hs : Sees w v L) (ha : Adr L) :
    Calls Try.prog 16 #[v] w fun e w' => Merged L w.heap.size w w' e := by
  by_cases hl : 4096 < L.length
  · refine (merge_long v L w hs hl).mono ?_
    rintro e w' ⟨rfl, rfl⟩
    have hm : merr L = 2 := by unfold merr; rw [if_pos hl]
    exact ⟨_, [], ret_vi hm.symm, World.ownsRow_nil _ _ _ _, Below.refl _ _, fun _ => rfl, fun h => by rw [hm] at h; cases h⟩
  · exact merge_short hB v L w hs ha hl
end Go.Proofs.Ytenhofbhkchjoaa
